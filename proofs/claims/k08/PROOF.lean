import PyProof.Rows.All
import Wide.All
import OpenK.AllK
import Wide.FinOn
import PySem.Challenge.RW_ringshares_k08_rings_compared
import PyProof.EqAt
import PyProof.EqKinds
import PyProof.TupleCall
import PyProof.ReprReads
import HandS.Base
import HandS.Call
import HandS.List
import HandS.Comp
import HandS.Ends
import HandS.Exc
import HandS.Words
import HandS.TupAny
import HandS.Style
import HandS.NoneIn
import HandS.Iter
import HandS.Text
import HandS.CallSlots
import HandS.Defaults
import HandS.WordsExc
import HandS.Dict
import HandS.SortInts
import HandS.Property
import HandS.MakeKw
import HandS.IsInst
import HandS.Zip
import HandS.OwnEq
import HandS.SortRule
import OpenK.KMeth
import KE.GoesMore
import KE.GoesEnum
import HandS.SortOrd
import HandS.MakeKwOnly
import HandS.ClsMeth
import HandS.DictComp
import HandS.CallLocal
import HandS.TryOnly
import HandS.More
import HandS.FStr
import KE.KCallOwn
import PyProof.Conv_bool
import KE.KRevSl
import HandS.Wide
import HandS.Deep
import HandS.Conv
import HandS.SortKw
import HandS.Rev
import HandS.SetFor
import HandS.Strs
import KE.KDictZip
import HandS.TupSets
import PyProof.Rows.CountFlat
import KE.KSortTupAny
import HandS.TupLe
import PyProof.P3In
import PyProof.FactsAll.list_2
import PyProof.FactsAll.list_1
import PyProof.FactsAll.tuple_2
import PyProof.FactsAll.tuple_1
import PyProof.FactsAll.dict_1
import PyProof.FactsAll.dict_2
import PyProof.FactsAll.int_1
import PyProof.FactsAll.int_3
import PyProof.FactsAll.bool_1
import PyProof.FactsAll.bool_2
import PyProof.FactsAll.str_1
import PyProof.FactsAll.str_2
import PyProof.FactsAll.NoneType_1
import HandS.Head0
import HandS.Head1
import HandS.Head2
import HandS.HeadEnd
import HandS.HeadHook1
import HandS.HeadHook2
import HandS.HeadHook3
import HandS.HeadHook4
import HandS.EndBits
import KE.KStateDown
import HandS.HeadNt
set_option Elab.async false
set_option linter.all false
namespace DL
end DL
namespace R
end R
set_option maxRecDepth 100000
set_option maxHeartbeats 4000000
namespace DLH
open PySem PySem.W PySem.Calls PyProof.Rows He He5
def obsR (fa : List Fa) (fn : List DefA) (ex : Frag → Bool) (K : Frag) : AlD := (((fa.all fun f => f.ok K) && fn.all fun d => d.ok K) && ex K, fn.map fun d => He5.fnA K (d.at_ K))
def valR (fn : List DefA) : AlD := (true, fn.map DefA.val)
def SaysR (fa : List Fa) (fn : List DefA) (ex : Frag → Bool) (K : Frag) : Prop := obsR fa fn ex K = valR fn
section
variable {fa : List Fa} {fn : List DefA} {ex : Frag → Bool} {K : Frag}
theorem SaysR.fact (c : SaysR fa fn ex K) (i : Nat) {f : Fa} (h : fa[i]? = some f := by rfl) : f.ok K = true := by
  have c0 := (ba (show (((fa.all fun f => f.ok K) && fn.all fun d => d.ok K) && ex K) = true from congrArg (fun z : AlD => z.1) c)).1
  exact List.all_eq_true.mp (ba c0).1 f (List.mem_of_getElem? h)
theorem SaysR.more (c : SaysR fa fn ex K) : ex K = true := (ba (show (((fa.all fun f => f.ok K) && fn.all fun d => d.ok K) && ex K) = true from congrArg (fun z : AlD => z.1) c)).2
theorem SaysR.def_ (c : SaysR fa fn ex K) (i : Nat) {d : DefA} (h : fn[i]? = some d := by rfl) : ∃ fd, L2.FunD K d.name d.qual d.params d.body d.scope (d.dvs K) (d.kws K) (d.at_ K) fd := by
  have c0 := (ba (show (((fa.all fun f => f.ok K) && fn.all fun d => d.ok K) && ex K) = true from congrArg (fun z : AlD => z.1) c)).1
  have e : fn.map (fun d => He5.fnA K (d.at_ K)) = fn.map DefA.val := congrArg (fun z : AlD => z.2) c
  have e2 : (fn.map fun d => He5.fnA K (d.at_ K))[i]? = (fn.map DefA.val)[i]? := by rw [e]
  rw [List.getElem?_map, List.getElem?_map, h] at e2
  exact DefA.funD (Option.some.inj e2) (List.all_eq_true.mp (ba c0).2 d (List.mem_of_getElem? h))
end
def atG (x : PySem.Str) (K : Frag) : Addr := ga K x
def atM (x m : PySem.Str) (K : Frag) : Addr := ma K (ga K x) m
/-- a classmethod's def -/
def atC (x m : PySem.Str) (K : Frag) : Addr := wf K (ga K x) "classmethod" m
def cmB (K : Frag) (x m : PySem.Str) : Bool := readsIn K (ga K x) (.type "type") && (eqO (specialIn K (.ref (ga K x)) "__getattribute__") (some (some (.builtin "type.__getattribute__"))) && (wrapB K (ga K x) "classmethod" "classmethod.__get__" m && fnIn K (atC x m K)))
theorem cmB_ok {K : Frag} {x m : PySem.Str} (h : cmB K x m = true) : ClX.CRead K (ga K x) (.type "type") ∧ ClX.CMet K (ga K x) (.type "type") m (ma K (ga K x) m) (atC x m K) := by
  obtain ⟨h1, h⟩ := ba h
  obtain ⟨h2, h⟩ := ba h
  obtain ⟨h3, h4⟩ := ba h
  exact ⟨⟨h1, eqO_ok h2⟩, cmet_of h3 h4⟩
def isB (K : Frag) (x : PySem.Str) : Bool := eqO (findIn K (.ref (ga K x)) "__class__") (some (some (.builtin "object.__class__"))) && (eqO (specialIn K (.builtin "object.__class__") "__get__") (some (some (.builtin "getset_descriptor.__get__"))) && (decide (takesIn K (.builtin "object.__class__") = some true) && (decide (mroIn K (ga K x) (.type "object") = some true) &&
  ["NoneType", "bool", "int", "str", "list", "tuple", "dict"].all fun t => decide (kitOne K (.type t) (.ref (ga K x)) = some false))))
def neB (K : Frag) (x : PySem.Str) : Bool := eqO (findIn K (.ref (ga K x)) "__ne__") (some (some (.builtin "object.__ne__"))) && decide (subIn K (.ref (ga K x)) (.type "object") = some true)
end DLH
set_option maxRecDepth 100000
set_option maxHeartbeats 4000000
namespace DLH
open PySem PySem.W PySem.Calls PyProof.Rows He He5
/-- the class is no kind of these, they are none of its kind -/
def eqtB (K : Frag) (x : PySem.Str) : Bool := (["NoneType", "bool", "int", "str", "list", "tuple", "dict"] : List String).all fun t => decide (subIn K (.type t) (.ref (ga K x)) = some false) && decide (subIn K (.ref (ga K x)) (.type t) = some false)
end DLH
namespace DLH
open PySem PySem.W PySem.Calls PyProof.Rows He He5
/-- four rounds, then the codes of the functions found: a last whole round costs much memory -/
def asC (g : Addr → Option Obj) : List Addr :=
  let l := asA g 4
  l ++ l.flatMap fun a => match g a with
    | some o => (match o.data with
      | .func fd => refV fd.code
      | _ => [])
    | none => []
def obsRC (fa : List Fa) (fn : List DefA) (ex : Frag → Bool) (g : Addr → Option Obj) : AlD := obsR fa fn ex (frT g (asC g))
def hookC (fa : List Fa) (fn : List DefA) (ex : Frag → Bool) : PySem.W.Hook where
  α := AlD
  obs := fun s => obsRC fa fn ex s.heap.get?
  val := fun _ => valR fn
  says := fun _ h => ∃ K : Frag, K.In h ∧ SaysR fa fn ex K
  of := fun _ _ e => ⟨_, frT_in, e⟩
  keeps := fun _ _ _ ⟨K, hK, c⟩ k => ⟨K, Frag.In.keeps hK k, c⟩
theorem obsRC_eq {fa : List Fa} {fn : List DefA} {ex : Frag → Bool} {g : Addr → Option Obj} {s : Shared} (h : ∀ a, g a = s.heap.get? a) : obsRC fa fn ex g = (hookC fa fn ex).obs s := by
  have e : g = s.heap.get? := funext h
  rw [e] <;> rfl
end DLH
namespace L08
open PySem PySem.Spec PyProof.Rows L2
def top (i : Nat) : Stmt := PySem.Challenge.pw_ringshares_k08_rings_compared.main.body.getD i (.Pass ⟨0, 0, 0, 0⟩)
def clsB (s : Stmt) (i : Nat) : Stmt := match s with
  | .ClassDef _ _ _ b _ _ _ _ _ _ _ => b.getD i (.Pass ⟨0, 0, 0, 0⟩)
  | _ => .Pass ⟨0, 0, 0, 0⟩
abbrev s_filled : Stmt := top 41
abbrev s_dip : Stmt := top 42
abbrev s_free : Stmt := top 48
abbrev s_sheet : Stmt := top 55
abbrev s_is_ascending : Stmt := top 10
abbrev s_is_whole : Stmt := top 6
abbrev s_is_name : Stmt := top 9
abbrev s_is_word_of : Stmt := top 8
abbrev s_is_written_number : Stmt := top 11
abbrev s_Ring___eq__ : Stmt := clsB (top 39) 15
abbrev s_host_row : Stmt := top 37
abbrev s_Ring__first_row : Stmt := clsB (top 39) 21
abbrev s_of : Stmt := top 43
abbrev s_vast : Stmt := top 44
abbrev s_is_from_to : Stmt := top 7
abbrev s_is_free_name : Stmt := top 31
abbrev s_written_number : Stmt := top 12
abbrev s_other_crew : Stmt := top 57
abbrev s_Ring___str__ : Stmt := clsB (top 39) 14
abbrev s_place : Stmt := top 49
abbrev s_title : Stmt := top 45
abbrev s_rule : Stmt := top 51
abbrev s_are_free_marks : Stmt := top 30
abbrev s_written_host : Stmt := top 38
abbrev s_value : Stmt := top 56
abbrev s_width : Stmt := top 53
abbrev s_titles : Stmt := top 46
abbrev s_is_next_host : Stmt := top 32
abbrev s_pair_right : Stmt := top 59
abbrev s_yards : Stmt := top 47
abbrev s_check_hosts : Stmt := top 33
abbrev s_band : Stmt := top 50
abbrev s_Ring___init__ : Stmt := clsB (top 39) 0
abbrev s_build : Stmt := top 52
abbrev s_Ring_read : Stmt := clsB (top 39) 1
abbrev s_other : Stmt := top 58
abbrev s_made : Stmt := top 54
abbrev s_right : Stmt := top 60
abbrev s_law : Stmt := top 61
end L08
set_option maxRecDepth 100000
set_option maxHeartbeats 0
namespace L08
open PySem PySem.Spec PyProof.Rows L2 DL R
def dd_filled : He5.DefA := ⟨DLH.atG "_law_filled", "_law_filled", "_law_filled", defArgs s_filled, defBody s_filled, defScope s_filled, [], []⟩
def dd_dip : He5.DefA := ⟨DLH.atG "_law_dip", "_law_dip", "_law_dip", defArgs s_dip, defBody s_dip, defScope s_dip, [], []⟩
def dd_free : He5.DefA := ⟨DLH.atG "_law_free", "_law_free", "_law_free", defArgs s_free, defBody s_free, defScope s_free, [], []⟩
def dd_sheet : He5.DefA := ⟨DLH.atG "_law_sheet", "_law_sheet", "_law_sheet", defArgs s_sheet, defBody s_sheet, defScope s_sheet, [], []⟩
def dd_is_ascending : He5.DefA := ⟨DLH.atG "is_ascending", "is_ascending", "is_ascending", defArgs s_is_ascending, defBody s_is_ascending, defScope s_is_ascending, [], []⟩
def dd_is_whole : He5.DefA := ⟨DLH.atG "is_whole", "is_whole", "is_whole", defArgs s_is_whole, defBody s_is_whole, defScope s_is_whole, [], []⟩
def dd_is_name : He5.DefA := ⟨DLH.atG "is_name", "is_name", "is_name", defArgs s_is_name, defBody s_is_name, defScope s_is_name, [], []⟩
def dd_is_word_of : He5.DefA := ⟨DLH.atG "is_word_of", "is_word_of", "is_word_of", defArgs s_is_word_of, defBody s_is_word_of, defScope s_is_word_of, [], []⟩
def dd_is_written_number : He5.DefA := ⟨DLH.atG "is_written_number", "is_written_number", "is_written_number", defArgs s_is_written_number, defBody s_is_written_number, defScope s_is_written_number, [], []⟩
def dd_Ring___eq__ : He5.DefA := ⟨DLH.atM "Ring" "__eq__", "__eq__", "Ring.__eq__", defArgs s_Ring___eq__, defBody s_Ring___eq__, defScope s_Ring___eq__, [], []⟩
def dd_host_row : He5.DefA := ⟨DLH.atG "host_row", "host_row", "host_row", defArgs s_host_row, defBody s_host_row, defScope s_host_row, [], []⟩
def dd_Ring__first_row : He5.DefA := ⟨DLH.atM "Ring" "_first_row", "_first_row", "Ring._first_row", defArgs s_Ring__first_row, defBody s_Ring__first_row, defScope s_Ring__first_row, [], []⟩
def dd_of : He5.DefA := ⟨DLH.atG "_law_of", "_law_of", "_law_of", defArgs s_of, defBody s_of, defScope s_of, [], []⟩
def dd_vast : He5.DefA := ⟨DLH.atG "_law_vast", "_law_vast", "_law_vast", defArgs s_vast, defBody s_vast, defScope s_vast, [], []⟩
def dd_is_from_to : He5.DefA := ⟨DLH.atG "is_from_to", "is_from_to", "is_from_to", defArgs s_is_from_to, defBody s_is_from_to, defScope s_is_from_to, [], []⟩
def dd_is_free_name : He5.DefA := ⟨DLH.atG "is_free_name", "is_free_name", "is_free_name", defArgs s_is_free_name, defBody s_is_free_name, defScope s_is_free_name, [], []⟩
def dd_written_number : He5.DefA := ⟨DLH.atG "written_number", "written_number", "written_number", defArgs s_written_number, defBody s_written_number, defScope s_written_number, [], []⟩
def dd_other_crew : He5.DefA := ⟨DLH.atG "_law_other_crew", "_law_other_crew", "_law_other_crew", defArgs s_other_crew, defBody s_other_crew, defScope s_other_crew, [], []⟩
def dd_Ring___str__ : He5.DefA := ⟨DLH.atM "Ring" "__str__", "__str__", "Ring.__str__", defArgs s_Ring___str__, defBody s_Ring___str__, defScope s_Ring___str__, [], []⟩
def dd_place : He5.DefA := ⟨DLH.atG "_law_place", "_law_place", "_law_place", defArgs s_place, defBody s_place, defScope s_place, [], []⟩
def dd_title : He5.DefA := ⟨DLH.atG "_law_title", "_law_title", "_law_title", defArgs s_title, defBody s_title, defScope s_title, [], []⟩
def dd_rule : He5.DefA := ⟨DLH.atG "_law_rule", "_law_rule", "_law_rule", defArgs s_rule, defBody s_rule, defScope s_rule, [], []⟩
def dd_are_free_marks : He5.DefA := ⟨DLH.atG "are_free_marks", "are_free_marks", "are_free_marks", defArgs s_are_free_marks, defBody s_are_free_marks, defScope s_are_free_marks, [], []⟩
def dd_written_host : He5.DefA := ⟨DLH.atG "written_host", "written_host", "written_host", defArgs s_written_host, defBody s_written_host, defScope s_written_host, [], []⟩
def dd_value : He5.DefA := ⟨DLH.atG "_law_value", "_law_value", "_law_value", defArgs s_value, defBody s_value, defScope s_value, [], []⟩
def dd_width : He5.DefA := ⟨DLH.atG "_law_width", "_law_width", "_law_width", defArgs s_width, defBody s_width, defScope s_width, [], []⟩
def dd_titles : He5.DefA := ⟨DLH.atG "_law_titles", "_law_titles", "_law_titles", defArgs s_titles, defBody s_titles, defScope s_titles, [], []⟩
def dd_is_next_host : He5.DefA := ⟨DLH.atG "is_next_host", "is_next_host", "is_next_host", defArgs s_is_next_host, defBody s_is_next_host, defScope s_is_next_host, [], []⟩
def dd_pair_right : He5.DefA := ⟨DLH.atG "_law_pair_right", "_law_pair_right", "_law_pair_right", defArgs s_pair_right, defBody s_pair_right, defScope s_pair_right, [], []⟩
def dd_yards : He5.DefA := ⟨DLH.atG "_law_yards", "_law_yards", "_law_yards", defArgs s_yards, defBody s_yards, defScope s_yards, [], []⟩
def dd_check_hosts : He5.DefA := ⟨DLH.atG "check_hosts", "check_hosts", "check_hosts", defArgs s_check_hosts, defBody s_check_hosts, defScope s_check_hosts, [], []⟩
def dd_band : He5.DefA := ⟨DLH.atG "_law_band", "_law_band", "_law_band", defArgs s_band, defBody s_band, defScope s_band, [], []⟩
def dd_Ring___init__ : He5.DefA := ⟨DLH.atM "Ring" "__init__", "__init__", "Ring.__init__", defArgs s_Ring___init__, defBody s_Ring___init__, defScope s_Ring___init__, [], []⟩
def dd_build : He5.DefA := ⟨DLH.atG "_law_build", "_law_build", "_law_build", defArgs s_build, defBody s_build, defScope s_build, [], []⟩
def dd_Ring_read : He5.DefA := ⟨DLH.atC "Ring" "read", "read", "Ring.read", defArgs s_Ring_read, defBody s_Ring_read, defScope s_Ring_read, [], []⟩
def dd_other : He5.DefA := ⟨DLH.atG "_law_other", "_law_other", "_law_other", defArgs s_other, defBody s_other, defScope s_other, [], []⟩
def dd_made : He5.DefA := ⟨DLH.atG "_law_made", "_law_made", "_law_made", defArgs s_made, defBody s_made, defScope s_made, [], []⟩
def dd_right : He5.DefA := ⟨DLH.atG "_law_right", "_law_right", "_law_right", defArgs s_right, defBody s_right, defScope s_right, [], []⟩
def dd_law : He5.DefA := ⟨DLH.atG "law", "law", "law", defArgs s_law, defBody s_law, defScope s_law, [], []⟩
def fnA : List He5.DefA := [dd_filled, dd_dip, dd_free, dd_sheet, dd_is_ascending, dd_is_whole, dd_is_name, dd_is_word_of, dd_is_written_number, dd_Ring___eq__, dd_host_row, dd_Ring__first_row, dd_of, dd_vast, dd_is_from_to, dd_is_free_name, dd_written_number, dd_other_crew, dd_Ring___str__, dd_place, dd_title, dd_rule, dd_are_free_marks, dd_written_host, dd_value, dd_width, dd_titles, dd_is_next_host, dd_pair_right, dd_yards, dd_check_hosts, dd_band, dd_Ring___init__, dd_build, dd_Ring_read, dd_other, dd_made, dd_right, dd_law]
def faA0 : List He.Fa := [.glo "_law_filled", .glo "_law_dip", .glo "_law_free", .glo "_law_sheet", .glo "is_ascending", .glo "is_whole", .glo "is_name", .glo "is_word_of", .glo "is_written_number", .meth "Ring" "__eq__", .glo "host_row", .meth "Ring" "_first_row", .glo "_law_of", .glo "_law_vast", .glo "is_from_to", .glo "is_free_name", .glo "written_number", .glo "_law_other_crew", .meth "Ring" "__str__", .glo "_law_place", .glo "_law_title", .glo "_law_rule", .glo "are_free_marks", .glo "written_host", .glo "_law_value", .glo "_law_width", .glo "_law_titles", .glo "is_next_host", .glo "_law_pair_right", .glo "_law_yards"]
def faA1 : List He.Fa := [.glo "check_hosts", .glo "_law_band", .meth "Ring" "__init__", .glo "_law_build", .glo "_law_other", .glo "_law_made", .glo "_law_right", .glo "law", .glo "Ring", .cls "Ring", .mkr "Ring", .glo "SPREADS", .glo "PENDINGS", .glo "BadValue", .noat "Ring" "_points", .noat "Ring" "_factor", .noat "Ring" "_spread", .noat "Ring" "_write", .noat "Ring" "_read_number", .noat "Ring" "_pending", .noat "Ring" "_hosts", .noat "Ring" "__bool__", .free "abs", .free "all", .free "any", .free "bool", .free "divmod", .free "enumerate", .free "int", .free "isinstance"]
def faA2 : List He.Fa := [.free "len", .free "list", .free "max", .free "min", .free "range", .free "repr", .free "sorted", .free "str", .free "tuple", .free "zip", .str "DIGITS" "0123456789", .str "LETTERS" "abcdefghijklmnopqrstuvwxyz", .int "MOST_DIGITS" 19, .int "MOST_FACTOR" 5, .int "MOST_HOSTS" 12, .int "MOST_MARKS" 16, .int "MOST_POINTS" 1000000000000000000, .int "MOST_SIGNS" 8]
def faA : List He.Fa := faA0 ++ faA1 ++ faA2
def exA (K : PySem.W.Frag) : Bool := He.tupB K "SPREADS" [.str "hosts", .str "racks"] && (He.tupB K "PENDINGS" [.str "plain", .str "with"] && (DLH.cmB K "Ring" "read" && (DLH.isB K "Ring" && (DLH.neB K "Ring" && (DLH.eqtB K "Ring")))))
def nmA0 : List PySem.Str := ["_wall", "__name__", "LETTERS", "DIGITS", "MOST_SIGNS", "MOST_DIGITS", "is_whole", "is_from_to", "is_word_of", "is_name", "is_ascending", "is_written_number", "written_number", "BadValue", "InvalidText", "InvalidNumber", "InvalidSpread", "InvalidPending", "InvalidPoint", "InvalidHosts", "BadName", "UnknownName", "MOST_POINTS", "MOST_FACTOR", "MOST_HOSTS", "MOST_MARKS", "SPREADS", "PENDINGS", "are_free_marks", "is_free_name"]
def nmA1 : List PySem.Str := ["is_next_host", "check_hosts", "check_point", "new_racks_first", "keepers_in", "host_row", "written_host", "Ring", "_law_filled", "_law_dip", "_law_of", "_law_vast", "_law_title", "_law_titles", "_law_yards", "_law_free", "_law_place", "_law_band", "_law_rule", "_law_build", "_law_width", "_law_made", "_law_sheet", "_law_value", "_law_other_crew", "_law_other", "_law_pair_right", "_law_right"]
def nmA : List PySem.Str := nmA0 ++ nmA1
abbrev RR : PySem.W.OpenRow := PySem.W.OpenLaw.row PySem.Challenge.rw_ringshares_k08_rings_compared
abbrev hkA : PySem.W.Hook := DLH.hookC faA fnA exA
def obA (s : PySem.W.SharedT) : He.AlD := DLH.obsRC faA fnA exA (HandSHeadRun.getT s)
theorem obA_eq (s : PySem.W.SharedT) : obA s = hkA.obs s.abs := DLH.obsRC_eq (HandSHeadRun.getT_eq s)
theorem runA (w : World) : HandSHeadRun.RunEq RR (PySem.W.view RR.prog [61]) hkA obA 9000 nmA w := by
  intro os
  kernel_rfl
end L08
set_option maxRecDepth 100000
set_option maxHeartbeats 4000000
namespace DL
open PySem PySem.Spec PyProof.Rows L2
inductive D where
  | non | bl (b : Bool) | int (i : Int) | str (x : Str) | ty (n : String)
  | lst (xs : List D) | tup (xs : List D) | lsf (xs : List D)
  | dic (ks : List Key) (vs : List D)
  | ins (C : Addr) (fs : List Str) (vs : List D)
  | cel (a : Addr)
mutual
inductive Dn (K : PySem.W.Frag) (H : Hp) : V → D → Prop
  | non : Dn K H .non .non
  | bl (b : Bool) : Dn K H (.bl b) (.bl b)
  | int (i : Int) : Dn K H (.int i) (.int i)
  | str (x : Str) : Dn K H (.str x) (.str x)
  | ty (n : String) : Dn K H (.ty n) (.ty n)
  | cel (a : Addr) : Dn K H (.ref a) (.cel a)
  | lst {a : Addr} {vs : List V} {ds : List D} : H a = some (.lst vs) → DnL K H vs ds → Dn K H (.ref a) (.lst ds)
  | lsf {a : Addr} {vs : List V} {ds : List D} : SqL K H a vs → DnL K H vs ds → Dn K H (.ref a) (.lsf ds)
  | tup {a : Addr} {vs : List V} {ds : List D} : SqT K H a vs → DnL K H vs ds → Dn K H (.ref a) (.tup ds)
  | dic {a : Addr} {kvs : List (Key × V)} {ds : List D} : H a = some (.dK kvs) → DnL K H (kvs.map (·.2)) ds → Dn K H (.ref a) (.dic (kvs.map (·.1)) ds)
  | ins {a C dx : Addr} {fs : List (Str × V)} {ds : List D} : H a = some (.ins C dx fs) → DnL K H (fs.map (·.2)) ds → Dn K H (.ref a) (.ins C (fs.map (·.1)) ds)
inductive DnL (K : PySem.W.Frag) (H : Hp) : List V → List D → Prop
  | nil : DnL K H [] []
  | cons {v : V} {vs : List V} {d : D} {ds : List D} : Dn K H v d → DnL K H vs ds → DnL K H (v :: vs) (d :: ds)
end
/-- H' knows all that H knows -/
def Ext (H H' : Hp) : Prop := ∀ a o, H a = some o → H' a = some o
theorem Ext.refl (H : Hp) : Ext H H := fun _ _ h => h
theorem Ext.trans {H H1 H2 : Hp} (a : Ext H H1) (b : Ext H1 H2) : Ext H H2 := fun x o h => b x o (a x o h)
theorem Ext.fresh {H H' : Hp} {p : Addr} (e : Ext H H') (h : H' p = none) : H p = none := by
  cases q : H p with
  | none => rfl
  | some o => rw [e p o q] at h; cases h
theorem Ext.add {H : Hp} {p : Addr} {o : HO} (h : H p = none) : Ext H (upd H p o) := fun a u e => by
  rw [upd_ne (ne_of_none e h)]; exact e
theorem Ext.both {H H' : Hp} {p : Addr} {o : HO} (e : Ext H H') : Ext (upd H p o) (upd H' p o) := fun a u h => by
  by_cases q : a = p
  · subst q; rw [upd_same] at h ⊢; exact h
  · rw [upd_ne q] at h ⊢; exact e a u h
theorem Ext.off {H H' : Hp} {p : Addr} {o : HO} (e : Ext H H') (h : H p = none) : Ext H (upd H' p o) := fun a u ha => by
  rw [upd_ne (ne_of_none ha h)]; exact e a u ha
theorem Ext.rd {H H' : Hp} {a : Addr} {u : HO} (e : Ext H H') (h : Rd H a u) : Rd H' a u :=
  h.elim (fun z => .inl (e a _ z)) fun ⟨o, z⟩ => .inr ⟨o, e a _ z⟩
theorem Ext.sqL {K : PySem.W.Frag} {H H' : Hp} {a : Addr} {xs : List V} (e : Ext H H') (h : SqL K H a xs) : SqL K H' a xs := h.elim (fun z => .inl (e.rd z)) .inr
theorem Ext.sqT {K : PySem.W.Frag} {H H' : Hp} {a : Addr} {xs : List V} (e : Ext H H') (h : SqT K H a xs) : SqT K H' a xs := h.elim (fun z => .inl (e.rd z)) .inr
mutual
theorem Dn.mono {K : PySem.W.Frag} {H H' : Hp} (e : Ext H H') : ∀ {v : V} {d : D}, Dn K H v d → Dn K H' v d
  | _, _, .non => .non
  | _, _, .bl b => .bl b
  | _, _, .int b => .int b
  | _, _, .str b => .str b
  | _, _, .ty b => .ty b
  | _, _, .cel b => .cel b
  | _, _, .lst h r => .lst (e _ _ h) (DnL.mono e r)
  | _, _, .lsf h r => .lsf (e.sqL h) (DnL.mono e r)
  | _, _, .tup h r => .tup (e.sqT h) (DnL.mono e r)
  | _, _, .dic h r => .dic (e _ _ h) (DnL.mono e r)
  | _, _, .ins h r => .ins (e _ _ h) (DnL.mono e r)
theorem DnL.mono {K : PySem.W.Frag} {H H' : Hp} (e : Ext H H') : ∀ {v : List V} {d : List D}, DnL K H v d → DnL K H' v d
  | _, _, .nil => .nil
  | _, _, .cons h r => .cons (Dn.mono e h) (DnL.mono e r)
end
section
variable {K : PySem.W.Frag} {H H' : Hp}
theorem DnL.length : ∀ {vs : List V} {ds : List D}, DnL K H vs ds → vs.length = ds.length
  | _, _, .nil => rfl
  | _, _, .cons _ r => congrArg (· + 1) (DnL.length r)
theorem DnL.get : ∀ {vs : List V} {ds : List D} {i : Nat} {d : D}, DnL K H vs ds → ds[i]? = some d → ∃ v, vs[i]? = some v ∧ Dn K H v d
  | _, _, _, _, .nil, h => by simp at h
  | _, _, 0, _, .cons a _, h => by simp at h; subst h; exact ⟨_, rfl, a⟩
  | _, _, i + 1, _, .cons _ r, h => by
    obtain ⟨v, h1, h2⟩ := DnL.get (i := i) r (by simpa using h)
    exact ⟨v, by simpa using h1, h2⟩
theorem DnL.getV : ∀ {vs : List V} {ds : List D} {i : Nat} {v : V}, DnL K H vs ds → vs[i]? = some v → ∃ d, ds[i]? = some d ∧ Dn K H v d
  | _, _, _, _, .nil, h => by simp at h
  | _, _, 0, _, .cons a _, h => by simp at h; subst h; exact ⟨_, rfl, a⟩
  | _, _, i + 1, _, .cons _ r, h => by
    obtain ⟨v, h1, h2⟩ := DnL.getV (i := i) r (by simpa using h)
    exact ⟨v, by simpa using h1, h2⟩
theorem DnL.app : ∀ {vs ws : List V} {ds es : List D}, DnL K H vs ds → DnL K H ws es → DnL K H (vs ++ ws) (ds ++ es)
  | _, _, _, _, .nil, s => s
  | _, _, _, _, .cons a r, s => .cons a (DnL.app r s)
theorem DnL.one {v : V} {d : D} (h : Dn K H v d) : DnL K H [v] [d] := .cons h .nil
theorem DnL.take : ∀ {vs : List V} {ds : List D} (n : Nat), DnL K H vs ds → DnL K H (vs.take n) (ds.take n)
  | _, _, 0, _ => .nil
  | _, _, _ + 1, .nil => .nil
  | _, _, n + 1, .cons a r => .cons a (DnL.take n r)
theorem DnL.drop : ∀ {vs : List V} {ds : List D} (n : Nat), DnL K H vs ds → DnL K H (vs.drop n) (ds.drop n)
  | _, _, 0, r => r
  | _, _, _ + 1, .nil => .nil
  | _, _, n + 1, .cons _ r => DnL.drop n r
theorem DnL.set : ∀ {vs : List V} {ds : List D} {v : V} {d : D} (n : Nat), DnL K H vs ds → Dn K H v d → DnL K H (vs.set n v) (ds.set n d)
  | _, _, _, _, _, .nil, _ => .nil
  | _, _, _, _, 0, .cons _ r, h => .cons h r
  | _, _, _, _, n + 1, .cons a r, h => .cons a (DnL.set n r h)
theorem DnL.rep {vs : List V} {ds : List D} (h : DnL K H vs ds) : ∀ n : Nat, DnL K H (List.replicate n vs).flatten (List.replicate n ds).flatten
  | 0 => .nil
  | n + 1 => DnL.app h (DnL.rep h n)
theorem DnL.rev : ∀ {vs : List V} {ds : List D}, DnL K H vs ds → DnL K H vs.reverse ds.reverse
  | _, _, .nil => .nil
  | _, _, .cons a r => by rw [List.reverse_cons, List.reverse_cons]; exact DnL.app (DnL.rev r) (.one a)
theorem Dn.inv_int {v : V} {i : Int} (h : Dn K H v (.int i)) : v = .int i := by cases h; rfl
theorem Dn.inv_bl {v : V} {i : Bool} (h : Dn K H v (.bl i)) : v = .bl i := by cases h; rfl
theorem Dn.inv_str {v : V} {i : Str} (h : Dn K H v (.str i)) : v = .str i := by cases h; rfl
theorem Dn.inv_non {v : V} (h : Dn K H v .non) : v = .non := by cases h; rfl
theorem Dn.inv_cel {v : V} {a : Addr} (h : Dn K H v (.cel a)) : v = .ref a := by cases h; rfl
end
inductive Cel where
  | ls (xs : List D)
  | dc (kvs : List (Key × D))
  | ob (C : Addr) (fs : List (Str × D))
  | fd (o : Obj) (rs : List (Key × V)) (kvs : List (Key × D))
abbrev Mem := Addr → Option Cel
def mset (M : Mem) (a : Addr) (x : Cel) : Mem := fun b => if b = a then some x else M b
theorem mset_same {M : Mem} {a : Addr} {x : Cel} : mset M a x a = some x := if_pos rfl
theorem mset_ne {M : Mem} {a b : Addr} {x : Cel} (h : b ≠ a) : mset M a x b = M b := if_neg h
theorem mset_mset {M : Mem} {a : Addr} {x y : Cel} : mset (mset M a x) a y = mset M a y := by
  funext b; unfold mset; split <;> rfl
inductive KvL {α : Type} (K : PySem.W.Frag) (H : Hp) : List (α × V) → List (α × D) → Prop
  | nil : KvL K H [] []
  | cons {k : α} {v : V} {d : D} {r : List (α × V)} {s : List (α × D)} : Dn K H v d → KvL K H r s → KvL K H ((k, v) :: r) ((k, d) :: s)
theorem KvL.mono {α : Type} {K : PySem.W.Frag} {H H' : Hp} (e : Ext H H') : ∀ {r : List (α × V)} {s : List (α × D)}, KvL K H r s → KvL K H' r s
  | _, _, .nil => .nil
  | _, _, .cons a b => .cons (a.mono e) (KvL.mono e b)
def CelOk (K : PySem.W.Frag) (H0 H : Hp) (c : Addr) : Cel → Prop
  | .ls xs => ∃ vs, H c = some (.lst vs) ∧ DnL K H0 vs xs
  | .dc ds => ∃ kvs, H c = some (.dK kvs) ∧ KvL K H0 kvs ds
  | .ob C fs => ∃ dx fvs, H c = some (.ins C dx fvs) ∧ KvL K H0 fvs fs
  | .fd o rs ds => H c = some (.frz o (.dK rs)) ∧ KvL K H0 rs ds
theorem CelOk.same {K : PySem.W.Frag} {H0 H H1 H' : Hp} {c : Addr} {x : Cel} (h : CelOk K H0 H c x) (e : Ext H0 H1) (q : H' c = H c) : CelOk K H1 H' c x := by
  cases x with
  | ls xs => obtain ⟨vs, a, b⟩ := h; exact ⟨vs, by rw [q]; exact a, b.mono e⟩
  | dc ds => obtain ⟨vs, a, b⟩ := h; exact ⟨vs, by rw [q]; exact a, b.mono e⟩
  | ob C fs => obtain ⟨dx, vs, a, b⟩ := h; exact ⟨dx, vs, by rw [q]; exact a, b.mono e⟩
  | fd o rs ds => obtain ⟨a, b⟩ := h; exact ⟨by rw [q]; exact a, b.mono e⟩
theorem CelOk.there {K : PySem.W.Frag} {H0 H : Hp} {c : Addr} {x : Cel} (h : CelOk K H0 H c x) : ∃ o, H c = some o := by
  cases x with
  | ls xs => obtain ⟨vs, a, b⟩ := h; exact ⟨_, a⟩
  | dc ds => obtain ⟨vs, a, b⟩ := h; exact ⟨_, a⟩
  | ob C fs => obtain ⟨dx, vs, a, b⟩ := h; exact ⟨_, a⟩
  | fd o rs ds => obtain ⟨a, b⟩ := h; exact ⟨_, a⟩
structure SD (K : PySem.W.Frag) (H0 H : Hp) (M : Mem) : Prop where
  ex : Ext H0 H
  any : ∀ c x, M c = some x → H0 c = none ∧ CelOk K H0 H c x
section
variable {K : PySem.W.Frag} {H0 H : Hp} {M : Mem}
theorem SD.cell (S : SD K H0 H M) (c : Addr) (xs : List D) (h : M c = some (.ls xs)) : H0 c = none ∧ ∃ vs, H c = some (.lst vs) ∧ DnL K H0 vs xs := S.any c _ h
theorem SD.fresh (S : SD K H0 H M) {p : Addr} (h : H p = none) : H0 p = none ∧ M p = none := by
  refine ⟨S.ex.fresh h, ?_⟩
  cases q : M p with
  | none => rfl
  | some x =>
    obtain ⟨o, e⟩ := (S.any p x q).2.there
    rw [h] at e; cases e
/-- a new object -/
theorem SD.new (S : SD K H0 H M) {p : Addr} {o : HO} (h : H p = none) : SD K (upd H0 p o) (upd H p o) M := by
  refine ⟨S.ex.both, fun c x e => ?_⟩
  obtain ⟨n0, ok⟩ := S.any c x e
  obtain ⟨o1, e1⟩ := ok.there
  have ne : c ≠ p := ne_of_none e1 h
  exact ⟨by rw [upd_ne ne]; exact n0, ok.same (Ext.add (S.fresh h).1) (upd_ne ne)⟩
/-- a cell, new or old, as it stands from now on -/
theorem SD.put (S : SD K H0 H M) {p : Addr} {o : HO} {x : Cel} (h0 : H0 p = none) (ok : ∀ H', H' p = some o → CelOk K H0 H' p x) : SD K H0 (upd H p o) (mset M p x) := by
  refine ⟨S.ex.off h0, fun c y e => ?_⟩
  by_cases q : c = p
  · subst q; rw [mset_same] at e; cases e
    exact ⟨h0, ok _ upd_same⟩
  · rw [mset_ne q] at e
    obtain ⟨n1, k⟩ := S.any c y e
    exact ⟨n1, k.same (Ext.refl _) (upd_ne q)⟩
/-- a new cell -/
theorem SD.newCell (S : SD K H0 H M) {p : Addr} {vs : List V} {xs : List D} (h : H p = none) (r : DnL K H0 vs xs) : SD K H0 (upd H p (.lst vs)) (mset M p (.ls xs)) := S.put (S.fresh h).1 fun _ e => ⟨vs, e, r⟩
/-- a cell written -/
theorem SD.write (S : SD K H0 H M) {p : Addr} {vs : List V} {xs : List D} {y : Cel} (h : M p = some y) (r : DnL K H0 vs xs) : SD K H0 (upd H p (.lst vs)) (mset M p (.ls xs)) := S.put (S.any p y h).1 fun _ e => ⟨vs, e, r⟩
/-- an object that nobody tells of changes -/
theorem SD.aside (S : SD K H0 H M) {p : Addr} {o : HO} (h : H p = none) : SD K H0 (upd H p o) M := by
  refine ⟨S.ex.off (S.fresh h).1, fun c x e => ?_⟩
  obtain ⟨n1, k⟩ := S.any c x e
  obtain ⟨o1, e1⟩ := k.there
  exact ⟨n1, k.same (Ext.refl _) (upd_ne (ne_of_none e1 h))⟩
end
def celL (M : Mem) (c : Addr) : Option (List D) := match M c with
  | some (.ls xs) => some xs
  | _ => none
theorem celL_eq {M : Mem} {c : Addr} {xs : List D} (h : celL M c = some xs) : M c = some (.ls xs) := by
  unfold celL at h
  split at h
  · cases h; assumption
  · cases h
theorem celL_of {M : Mem} {c : Addr} {xs : List D} (h : M c = some (.ls xs)) : celL M c = some xs := by unfold celL; rw [h]
/-- the items of a list -/
def lstOf (M : Mem) : D → Option (List D)
  | .lst xs => some xs
  | .cel c => celL M c
  | _ => none
def tupOf : D → Option (List D)
  | .tup xs => some xs
  | _ => none
def lsqOf (M : Mem) : D → Option (List D)
  | .lst xs => some xs
  | .cel c => celL M c
  | .lsf xs => some xs
  | _ => none
def seqOf (M : Mem) : D → Option (List D)
  | .lst xs => some xs
  | .cel c => celL M c
  | .lsf xs => some xs
  | .tup xs => some xs
  | _ => none
section
variable {K : PySem.W.Frag} {H0 H : Hp} {M : Mem}
theorem SD.lst (S : SD K H0 H M) {v : V} {d : D} {xs : List D} (h : Dn K H0 v d) (e : lstOf M d = some xs) : ∃ a vs, v = .ref a ∧ H a = some (.lst vs) ∧ DnL K H0 vs xs := by
  cases h with
  | lst q r => cases e; exact ⟨_, _, rfl, S.ex _ _ q, r⟩
  | cel a =>
    obtain ⟨_, vs, e1, r⟩ := S.cell a xs (celL_eq e)
    exact ⟨a, vs, rfl, e1, r⟩
  | _ => cases e
theorem SD.seq (S : SD K H0 H M) {v : V} {d : D} {xs : List D} (h : Dn K H0 v d) (e : seqOf M d = some xs) : ∃ a vs, v = .ref a ∧ (SqL K H a vs ∨ SqT K H a vs) ∧ DnL K H0 vs xs := by
  cases h with
  | lst q r => cases e; exact ⟨_, _, rfl, .inl (SqL.of (S.ex _ _ q)), r⟩
  | lsf q r => cases e; exact ⟨_, _, rfl, .inl (S.ex.sqL q), r⟩
  | tup q r => cases e; exact ⟨_, _, rfl, .inr (S.ex.sqT q), r⟩
  | cel a =>
    obtain ⟨_, vs, e1, r⟩ := S.cell a xs (celL_eq e)
    exact ⟨a, vs, rfl, .inl (SqL.of e1), r⟩
  | _ => cases e
theorem SD.lsq (S : SD K H0 H M) {v : V} {d : D} {xs : List D} (h : Dn K H0 v d) (e : lsqOf M d = some xs) : ∃ a vs, v = .ref a ∧ SqL K H a vs ∧ DnL K H0 vs xs := by
  cases h with
  | lst q r => cases e; exact ⟨_, _, rfl, SqL.of (S.ex _ _ q), r⟩
  | lsf q r => cases e; exact ⟨_, _, rfl, S.ex.sqL q, r⟩
  | cel a =>
    obtain ⟨_, vs, e1, r⟩ := S.cell a xs (celL_eq e)
    exact ⟨a, vs, rfl, SqL.of e1, r⟩
  | _ => cases e
theorem SD.tup (S : SD K H0 H M) {v : V} {d : D} {xs : List D} (h : Dn K H0 v d) (e : tupOf d = some xs) : ∃ a vs, v = .ref a ∧ SqT K H a vs ∧ DnL K H0 vs xs := by
  cases h with
  | tup q r => cases e; exact ⟨_, _, rfl, S.ex.sqT q, r⟩
  | _ => cases e
end
abbrev EnvD := List (Option D)
abbrev QD := D → Mem → Prop
/-- an exception: its class, its own attributes -/
abbrev XD := Value → List Str → List D → Mem → Prop
abbrev DE := EnvD → Mem → QD → XD → Prop
abbrev DT := EnvD → Mem → (Bool → Mem → Prop) → XD → Prop
abbrev DA := EnvD → Mem → (List D → Mem → Prop) → XD → Prop
structure SlotOk (K : PySem.W.Frag) (H0 : Hp) (σ : L2.St) (env : EnvD) : Prop where
  len : σ.length = env.length
  get : ∀ (i : Nat) (d : D), env[i]? = some (some d) → ∃ v, σ[i]? = some (some v) ∧ Dn K H0 v d
def XdOk (K : PySem.W.Frag) (H0 H : Hp) (d : Option Addr) (ns : List Str) (ds : List D) : Prop :=
  (d = none ∧ ns = [] ∧ ds = []) ∨ ∃ a fs, d = some a ∧ H a = some (.xd fs) ∧ fs.map (·.1) = ns ∧ DnL K H0 (fs.map (·.2)) ds
def KQ (K : PySem.W.Frag) (H0 : Hp) (q : QD) (Q : VK) : Prop := ∀ v d H0' H' M', Ext H0 H0' → SD K H0' H' M' → Dn K H0' v d → q d M' → Q v H'
def KB (K : PySem.W.Frag) (H0 : Hp) (q : Bool → Mem → Prop) (Q : Bool → Hp → Prop) : Prop := ∀ b H0' H' M', Ext H0 H0' → SD K H0' H' M' → q b M' → Q b H'
def KA (K : PySem.W.Frag) (H0 : Hp) (q : List D → Mem → Prop) (Q : List V → Hp → Prop) : Prop := ∀ vs ds H0' H' M', Ext H0 H0' → SD K H0' H' M' → DnL K H0' vs ds → q ds M' → Q vs H'
def KX (K : PySem.W.Frag) (H0 : Hp) (E : XD) (W : XK) : Prop := ∀ cls dd ns ds H0' H' M', Ext H0 H0' → SD K H0' H' M' → XdOk K H0' H' dd ns ds → E cls ns ds M' → W cls dd H'
section
variable {K : PySem.W.Frag} {H0 H1 : Hp}
theorem KQ.mono {q : QD} {Q : VK} (h : KQ K H0 q Q) (e : Ext H0 H1) : KQ K H1 q Q := fun v d _ _ _ e' => h v d _ _ _ (e.trans e')
theorem KB.mono {q : Bool → Mem → Prop} {Q : Bool → Hp → Prop} (h : KB K H0 q Q) (e : Ext H0 H1) : KB K H1 q Q := fun v _ _ _ e' => h v _ _ _ (e.trans e')
theorem KA.mono {q : List D → Mem → Prop} {Q : List V → Hp → Prop} (h : KA K H0 q Q) (e : Ext H0 H1) : KA K H1 q Q := fun v d _ _ _ e' => h v d _ _ _ (e.trans e')
theorem KX.mono {q : XD} {Q : XK} (h : KX K H0 q Q) (e : Ext H0 H1) : KX K H1 q Q := fun c d n s _ _ _ e' => h c d n s _ _ _ (e.trans e')
theorem SlotOk.mono {σ : L2.St} {env : EnvD} (h : SlotOk K H0 σ env) (e : Ext H0 H1) : SlotOk K H1 σ env := ⟨h.len, fun i d q => let ⟨v, a, b⟩ := h.get i d q; ⟨v, a, b.mono e⟩⟩
theorem SlotOk.set {σ : L2.St} {env : EnvD} (h : SlotOk K H0 σ env) {v : V} {d : D} (i : Nat) (r : Dn K H0 v d) : SlotOk K H0 (σ.set i (some v)) (env.set i (some d)) := by
  refine ⟨by rw [List.length_set, List.length_set]; exact h.len, fun j e q => ?_⟩
  by_cases hj : i = j
  · subst hj
    have hi : i < env.length := by
      have := (List.getElem?_eq_some_iff.mp q).1
      rwa [List.length_set] at this
    rw [List.getElem?_set_self hi] at q
    cases q
    exact ⟨v, by rw [List.getElem?_set_self (by rw [h.len]; exact hi)], r⟩
  · rw [List.getElem?_set_ne hj] at q
    obtain ⟨u, a, b⟩ := h.get j e q
    exact ⟨u, by rw [List.getElem?_set_ne hj]; exact a, b⟩
end
def liftE (K : PySem.W.Frag) (W : WX) (de : DE) : TE := fun σ H Q => ∃ env M q E H0, SlotOk K H0 σ env ∧ SD K H0 H M ∧ de env M q E ∧ KQ K H0 q Q ∧ KX K H0 E fun c d => W c d σ
def liftT (K : PySem.W.Frag) (W : WX) (dt : DT) : TT := fun σ H Q => ∃ env M q E H0, SlotOk K H0 σ env ∧ SD K H0 H M ∧ dt env M q E ∧ KB K H0 q Q ∧ KX K H0 E fun c d => W c d σ
def liftA (K : PySem.W.Frag) (W : WX) (da : DA) : TA := fun σ H Q => ∃ env M q E H0, SlotOk K H0 σ env ∧ SD K H0 H M ∧ da env M q E ∧ KA K H0 q Q ∧ KX K H0 E fun c d => W c d σ
def PD (X : Cx) (W : WX) (e : Expr) (de : DE) : Prop := PE X e (liftE X.K W de)
def TD (X : Cx) (W : WX) (e : Expr) (dt : DT) : Prop := PT X e (liftT X.K W dt)
def AD (X : Cx) (W : WX) (es : List Expr) (da : DA) : Prop := PA X es (liftA X.K W da)
theorem peImp {X : Cx} {e : Expr} {t t' : TE} (h : PE X e t) (i : ∀ σ H Q, t' σ H Q → t σ H Q) : PE X e t' := ⟨fun pins s σ H Q I q => h.run pins s σ H Q I (i σ H Q q)⟩
theorem ptImp {X : Cx} {e : Expr} {t t' : TT} (h : PT X e t) (i : ∀ σ H Q, t' σ H Q → t σ H Q) : PT X e t' := ⟨fun pins s σ H Q I q => h.run pins s σ H Q I (i σ H Q q)⟩
theorem paImp {X : Cx} {e : List Expr} {t t' : TA} (h : PA X e t) (i : ∀ σ H Q, t' σ H Q → t σ H Q) : PA X e t' := ⟨fun pos pins s σ H Q I q => h.run pos pins s σ H Q I (i σ H Q q)⟩
theorem psImp {X : Cx} {e : Stmt} {t t' : TS} (h : PS X e t) (i : ∀ D σ H, t' D σ H → t D σ H) : PS X e t' := ⟨fun pins s σ H D I q => h.run pins s σ H D I (i D σ H q)⟩
theorem pssImp {X : Cx} {e : List Stmt} {t t' : TS} (h : PSs X e t) (i : ∀ D σ H, t' D σ H → t D σ H) : PSs X e t' := ⟨fun pins s σ H D I q => h.run pins s σ H D I (i D σ H q)⟩
/-- run an expression's lift, then go on -/
theorem goE {K : PySem.W.Frag} {W : WX} {de : DE} {σ : L2.St} {H H0 : Hp} {env : EnvD} {M : Mem} {q : QD} {E : XD} {Q : VK} (so : SlotOk K H0 σ env) (S : SD K H0 H M) (h : de env M q E) (kx : KX K H0 E fun c d => W c d σ)
    (k : ∀ v d H0' H' M', Ext H0 H0' → SlotOk K H0' σ env → SD K H0' H' M' → Dn K H0' v d → q d M' → (KX K H0' E fun c d => W c d σ) → Q v H') : liftE K W de σ H Q :=
  ⟨env, M, q, E, H0, so, S, h, fun v d H0' H' M' e S' r z => k v d H0' H' M' e (so.mono e) S' r z (kx.mono e), kx⟩
theorem goT {K : PySem.W.Frag} {W : WX} {de : DT} {σ : L2.St} {H H0 : Hp} {env : EnvD} {M : Mem} {q : Bool → Mem → Prop} {E : XD} {Q : Bool → Hp → Prop} (so : SlotOk K H0 σ env) (S : SD K H0 H M) (h : de env M q E) (kx : KX K H0 E fun c d => W c d σ)
    (k : ∀ b H0' H' M', Ext H0 H0' → SlotOk K H0' σ env → SD K H0' H' M' → q b M' → (KX K H0' E fun c d => W c d σ) → Q b H') : liftT K W de σ H Q :=
  ⟨env, M, q, E, H0, so, S, h, fun b H0' H' M' e S' z => k b H0' H' M' e (so.mono e) S' z (kx.mono e), kx⟩
theorem goA {K : PySem.W.Frag} {W : WX} {de : DA} {σ : L2.St} {H H0 : Hp} {env : EnvD} {M : Mem} {q : List D → Mem → Prop} {E : XD} {Q : List V → Hp → Prop} (so : SlotOk K H0 σ env) (S : SD K H0 H M) (h : de env M q E) (kx : KX K H0 E fun c d => W c d σ)
    (k : ∀ v d H0' H' M', Ext H0 H0' → SlotOk K H0' σ env → SD K H0' H' M' → DnL K H0' v d → q d M' → (KX K H0' E fun c d => W c d σ) → Q v H') : liftA K W de σ H Q :=
  ⟨env, M, q, E, H0, so, S, h, fun v d H0' H' M' e S' r z => k v d H0' H' M' e (so.mono e) S' r z (kx.mono e), kx⟩
section
variable {X : Cx} {W : WX}
@[reducible] def dVar (i : Nat) : DE := fun env M q _ => ∃ d, env[i]? = some (some d) ∧ q d M
@[reducible] def dC (d : D) : DE := fun _ M q _ => q d M
theorem pd_of_tC {e : Expr} {v : V} {d : D} (h : PE X e (tC v)) (r : ∀ H, Dn X.K H v d) : PD X W e (dC d) := peImp h fun σ H Q ⟨env, M, q, E, H0, so, S, z, k, kx⟩ => k v d H0 H M (Ext.refl H0) S (r H0) z
theorem pd_var {e : Expr} {i : Nat} (h : PE X e (tVar i)) : PD X W e (dVar i) := peImp h fun σ H Q ⟨env, M, q, E, H0, so, S, z, k, kx⟩ => by
  obtain ⟨d, e, z⟩ := z
  obtain ⟨v, e1, r⟩ := so.get i d e
  exact ⟨v, e1, k v d H0 H M (Ext.refl H0) S r z⟩
theorem pd_int {i : Int} {j pos} : PD X W (.Constant (.int i) j pos) (dC (.int i)) := pd_of_tC pe_int fun _ => .int i
theorem pd_bl {i : Bool} {j pos} : PD X W (.Constant (.bool i) j pos) (dC (.bl i)) := pd_of_tC pe_bl fun _ => .bl i
theorem pd_str {i : Str} {j pos} : PD X W (.Constant (.str i) j pos) (dC (.str i)) := pd_of_tC pe_str fun _ => .str i
theorem pd_non {j pos} : PD X W (.Constant .none j pos) (dC .non) := pd_of_tC pe_non fun _ => .non
/-- the name in slot i -/
theorem vr (i : Nat) {x : Str} {pos : Pos} (hN : X.N[i]? = some x := by rfl) (hv : Vis X.env.scope x := by first | exact Or.inl rfl | exact Or.inr (Or.inl rfl) | exact Or.inr (Or.inr rfl)) (hd : (x == ("__debug__" : Str)) = false := by decide)
    (hcd : (x == ("__classdict__" : Str)) = false := by decide) : PD X W (.Name x pos) (dVar i) := pd_var (pe_var hN hv hd hcd)
abbrev RD1 := D → Mem → QD → Prop
abbrev RD2 := D → D → Mem → QD → Prop
abbrev RDL := List D → Mem → QD → Prop
def OpD (X : Cx) (f : Value → Value → Sem Value) (rd : RD2) : Prop := ∃ r, OpR X f r ∧ ∀ H0 H M x y dx dy q Q, SD X.K H0 H M → Dn X.K H0 x dx → Dn X.K H0 y dy → rd dx dy M q → KQ X.K H0 q Q → r x y H Q
theorem OpD.or {f : Value → Value → Sem Value} {a b : RD2} (h : OpD X f a) (h' : OpD X f b) : OpD X f (fun x y M q => a x y M q ∨ b x y M q) := by
  obtain ⟨r, o, z⟩ := h
  obtain ⟨r', o', z'⟩ := h'
  refine ⟨fun x y H Q => r x y H Q ∨ r' x y H Q, fun pins s σ H x y v u Q I rx ry w => ?_, fun H0 H M x y dx dy q Q S hx hy w k => w.elim (fun w => .inl (z H0 H M x y dx dy q Q S hx hy w k)) fun w => .inr (z' H0 H M x y dx dy q Q S hx hy w k)⟩
  rcases w with w | w
  · exact o pins s σ H x y v u Q I rx ry w
  · exact o' pins s σ H x y v u Q I rx ry w
theorem OpD.imp {f : Value → Value → Sem Value} {a b : RD2} (h : OpD X f a) (i : ∀ x y M q, b x y M q → a x y M q) : OpD X f b := by
  obtain ⟨r, o, z⟩ := h
  exact ⟨r, o, fun H0 H M x y dx dy q Q S hx hy w k => z H0 H M x y dx dy q Q S hx hy (i _ _ _ _ w) k⟩
@[reducible] def dOp (rd : RD2) (da db : DE) : DE := fun env M q E => da env M (fun x M1 => db env M1 (fun y M2 => rd x y M2 q) E) E
theorem lift_op {rd : RD2} {r : R2} {da db : DE} {K : PySem.W.Frag} (z : ∀ H0 H M x y dx dy q Q, SD K H0 H M → Dn K H0 x dx → Dn K H0 y dy → rd dx dy M q → KQ K H0 q Q → r x y H Q) :
    ∀ σ H Q, liftE K W (dOp rd da db) σ H Q → tOp r (liftE K W da) (liftE K W db) σ H Q := fun σ H Q ⟨env, M, q, E, H0, so, S, h, k, kx⟩ =>
  goE so S h kx fun x dx H1 H' M1 e1 so1 S1 rx h1 kx1 => goE so1 S1 h1 kx1 fun y dy H2 H'' M2 e2 so2 S2 ry h2 kx2 => z H2 H'' M2 x y dx dy q Q S2 (rx.mono e2) ry h2 (k.mono (e1.trans e2))
theorem pd_op {op : Operator} {rd : RD2} {a b : Expr} {da db : DE} {pos : Pos} (ho : OpD X (binaryOp op) rd) (ha : PD X W a da) (hb : PD X W b db) : PD X W (.BinOp a op b pos) (dOp rd da db) := by
  obtain ⟨r, o, z⟩ := ho
  exact peImp (pe_op o ha hb) (lift_op z)
theorem pd_cmp {op : CmpOp} {rd : RD2} {a b : Expr} {da db : DE} {pos : Pos} (ho : OpD X (compareOp op) rd) (ha : PD X W a da) (hb : PD X W b db) (hm : behindInMarks op b = false) : PD X W (.Compare a [op] [b] pos) (dOp rd da db) := by
  obtain ⟨r, o, z⟩ := ho
  exact peImp (pe_cmpR o ha hb hm) (lift_op z)
def UnD (X : Cx) (f : Value → Sem Value) (rd : RD1) : Prop := ∃ r, UnR X f r ∧ ∀ H0 H M x dx q Q, SD X.K H0 H M → Dn X.K H0 x dx → rd dx M q → KQ X.K H0 q Q → r x H Q
@[reducible] def dUn (rd : RD1) (da : DE) : DE := fun env M q E => da env M (fun x M1 => rd x M1 q) E
theorem pd_un {op : UnaryOp} {rd : RD1} {a : Expr} {da : DE} {pos : Pos} (ho : UnD X (unaryOp op) rd) (ha : PD X W a da) : PD X W (.UnaryOp op a pos) (dUn rd da) := by
  obtain ⟨r, o, z⟩ := ho
  exact peImp (pe_un o ha) fun σ H Q ⟨env, M, q, E, H0, so, S, h, k, kx⟩ => goE so S h kx fun x dx H1 H' M1 e1 so1 S1 rx h1 kx1 => z H1 H' M1 x dx q Q S1 rx h1 (k.mono e1)
def CallD (X : Cx) (f : Value) (rd : RDL) : Prop := ∃ r, CallR X f r ∧ ∀ H0 H M xs ds q Q, SD X.K H0 H M → DnL X.K H0 xs ds → rd ds M q → KQ X.K H0 q Q → r xs H Q
@[reducible] def dCB (rd : RDL) (da : DA) : DE := fun env M q E => da env M (fun xs M1 => rd xs M1 q) E
theorem CallD.or {f : Value} {a b : RDL} (h : CallD X f a) (h' : CallD X f b) : CallD X f (fun x M q => a x M q ∨ b x M q) := by
  obtain ⟨r, o, z⟩ := h
  obtain ⟨r', o', z'⟩ := h'
  refine ⟨fun x H Q => r x H Q ∨ r' x H Q, fun pins s σ H x us Q I rx w => ?_, fun H0 H M x dx q Q S hx w k => w.elim (fun w => .inl (z H0 H M x dx q Q S hx w k)) fun w => .inr (z' H0 H M x dx q Q S hx w k)⟩
  rcases w with w | w
  · exact o pins s σ H x us Q I rx w
  · exact o' pins s σ H x us Q I rx w
theorem CallD.imp {f : Value} {a b : RDL} (h : CallD X f a) (i : ∀ x M q, b x M q → a x M q) : CallD X f b := by
  obtain ⟨r, o, z⟩ := h
  exact ⟨r, o, fun H0 H M x dx q Q S hx w k => z H0 H M x dx q Q S hx (i _ _ _ w) k⟩
end
end DL
set_option maxRecDepth 100000
set_option maxHeartbeats 4000000
namespace DL
open PySem PySem.Spec PyProof.Rows L2
mutual
def toPy : D → Option PyData
  | .non => some .none
  | .bl b => some (.bool b)
  | .int i => some (.int i)
  | .str x => some (.str x)
  | .lst xs => (toPys xs).map .list
  | .lsf xs => (toPys xs).map .list
  | .tup xs => (toPys xs).map .tuple
  | .ty _ => none
  | .dic _ _ => none
  | .ins _ _ _ => none
  | .cel _ => none
def toPys : List D → Option (List PyData)
  | [] => some []
  | d :: ds => match toPy d, toPys ds with
    | some p, some ps => some (p :: ps)
    | _, _ => none
end
def pyOf (M : Mem) : D → Option PyData
  | .cel c => match celL M c with
    | some xs => (toPys xs).map .list
    | none => none
  | d => toPy d
section
variable {K : PySem.W.Frag} {H0 H : Hp} {M : Mem}
theorem omap {α β : Type} {f : α → β} {o : Option α} {b : β} (h : o.map f = some b) : ∃ a, o = some a ∧ b = f a := by
  cases o with
  | none => cases h
  | some a => exact ⟨a, rfl, (Option.some.inj h).symm⟩
mutual
theorem toPy_dp : ∀ (d : D) {v : V} {p : PyData}, Dn K H v d → toPy d = some p → Dp K H v p
  | .non, _, _, .non, e => by cases e; exact .non
  | .bl b, _, _, .bl _, e => by cases e; exact .bl _
  | .int b, _, _, .int _, e => by cases e; exact .int _
  | .str b, _, _, .str _, e => by cases e; exact .str _
  | .lst xs, _, _, .lst h r, e => by
    obtain ⟨ps, e1, rfl⟩ := omap (show (toPys xs).map PyData.list = _ from e)
    exact .lst (SqL.of h) (toPys_dp xs r e1)
  | .lsf xs, _, _, .lsf h r, e => by
    obtain ⟨ps, e1, rfl⟩ := omap (show (toPys xs).map PyData.list = _ from e)
    exact .lst h (toPys_dp xs r e1)
  | .tup xs, _, _, .tup h r, e => by
    obtain ⟨ps, e1, rfl⟩ := omap (show (toPys xs).map PyData.tuple = _ from e)
    exact .tup h (toPys_dp xs r e1)
  | .ty _, _, _, _, e => by cases e
  | .dic _ _, _, _, _, e => by cases e
  | .ins _ _ _, _, _, _, e => by cases e
  | .cel _, _, _, _, e => by cases e
theorem toPys_dp : ∀ (ds : List D) {vs : List V} {ps : List PyData}, DnL K H vs ds → toPys ds = some ps → DpAll K H vs ps
  | [], _, _, .nil, e => by cases e; exact .nil
  | d :: ds, _, _, .cons h r, e => by
    have e' : (match toPy d, toPys ds with | some p, some ps => some (p :: ps) | _, _ => none) = some _ := e
    cases e1 : toPy d with
    | none => rw [e1] at e'; cases e'
    | some p =>
      cases e2 : toPys ds with
      | none => rw [e1, e2] at e'; cases e'
      | some ps =>
        rw [e1, e2] at e'
        cases e'
        exact .cons (toPy_dp d h e1) (toPys_dp ds r e2)
end
theorem SD.py (S : SD K H0 H M) {v : V} {d : D} {p : PyData} (h : Dn K H0 v d) (e : pyOf M d = some p) : Dp K H v p := by
  cases d with
  | cel c =>
    cases h with
    | cel =>
      have e' : (match celL M c with | some xs => (toPys xs).map PyData.list | none => none) = some p := e
      cases q : celL M c with
      | none => rw [q] at e'; cases e'
      | some xs =>
        rw [q] at e'
        obtain ⟨ps, e1, rfl⟩ := omap e'
        obtain ⟨_, vs, e2, r⟩ := S.cell c xs (celL_eq q)
        exact .lst (SqL.of e2) (toPys_dp xs (r.mono S.ex) e1)
  | _ => exact toPy_dp _ (h.mono S.ex) e
end
section
variable {X : Cx} {W : WX}
/-- from a rule whose answer is a value told at once -/
theorem KQ.here {K : PySem.W.Frag} {H0 H : Hp} {M : Mem} {q : QD} {Q : VK} {v : V} {d : D} (k : KQ K H0 q Q) (S : SD K H0 H M) (r : Dn K H0 v d) (h : q d M) : Q v H := k v d H0 H M (Ext.refl H0) S r h
theorem KQ.newL {K : PySem.W.Frag} {H0 H : Hp} {M : Mem} {q : QD} {Q : VK} {vs : List V} {ds : List D} (k : KQ K H0 q Q) (S : SD K H0 H M) (r : DnL K H0 vs ds) (h : q (.lst ds) M) : ∀ p, H p = none → Q (.ref p) (upd H p (.lst vs)) := fun p hp =>
  k (.ref p) (.lst ds) (upd H0 p (.lst vs)) _ M (Ext.add (S.fresh hp).1) (S.new hp) (.lst upd_same (r.mono (Ext.add (S.fresh hp).1))) h
theorem KQ.newT {K : PySem.W.Frag} {H0 H : Hp} {M : Mem} {q : QD} {Q : VK} {vs : List V} {ds : List D} (k : KQ K H0 q Q) (S : SD K H0 H M) (r : DnL K H0 vs ds) (h : q (.tup ds) M) : ∀ p, H p = none → Q (.ref p) (upd H p (.tup vs)) := fun p hp =>
  k (.ref p) (.tup ds) (upd H0 p (.tup vs)) _ M (Ext.add (S.fresh hp).1) (S.new hp) (.tup (SqT.of upd_same) (r.mono (Ext.add (S.fresh hp).1))) h
theorem KQ.newC {K : PySem.W.Frag} {H0 H : Hp} {M : Mem} {q : QD} {Q : VK} {vs : List V} {ds : List D} (k : KQ K H0 q Q) (S : SD K H0 H M) (r : DnL K H0 vs ds) (h : ∀ a, M a = none → q (.cel a) (mset M a (.ls ds))) : ∀ p, H p = none → Q (.ref p) (upd H p (.lst vs)) := fun p hp =>
  k (.ref p) (.cel p) H0 _ _ (Ext.refl H0) (S.newCell hp r) (.cel p) (h p (S.fresh hp).2)
/-- ints: what is asked, the answer -/
def rdI (C : Int → Int → Prop) (g : Int → Int → D) : RD2 := fun x y M q => match x, y with
  | .int i, .int j => C i j ∧ q (g i j) M
  | _, _ => False
theorem opd_int {f : Value → Value → Sem Value} {C : Int → Int → Prop} {g : Int → Int → V} {gd : Int → Int → D} (h : OpR X f (rI C g)) (hg : ∀ H i j, Dn X.K H (g i j) (gd i j)) : OpD X f (rdI C gd) :=
  ⟨_, h, fun H0 H M x y dx dy q Q S hx hy w k => by
    cases dx <;> cases dy <;> try exact False.elim w
    cases hx; cases hy
    obtain ⟨c, w⟩ := w
    exact ⟨_, _, rfl, rfl, c, k.here S (hg _ _ _) w⟩⟩
theorem opd_int0 {f : Value → Value → Sem Value} {g : Int → Int → V} {gd : Int → Int → D} (h : OpR X f (rI0 g)) (hg : ∀ H i j, Dn X.K H (g i j) (gd i j)) : OpD X f (rdI (fun _ _ => True) gd) :=
  ⟨_, h, fun H0 H M x y dx dy q Q S hx hy w k => by
    cases dx <;> cases dy <;> try exact False.elim w
    cases hx; cases hy
    exact ⟨_, _, rfl, rfl, k.here S (hg _ _ _) w.2⟩⟩
def rdAdd : RD2 := fun x y M q => match x, y with
  | .int i, .int j => q (.int (i + j)) M
  | .str a, .str b => a.length + b.length ≤ sizeLine ∧ q (.str (a ++ b)) M
  | .tup a, .tup b => a.length + b.length ≤ sizeLine ∧ q (.tup (a ++ b)) M
  | x, y => ∃ a b, lstOf M x = some a ∧ lstOf M y = some b ∧ a.length + b.length ≤ sizeLine ∧ q (.lst (a ++ b)) M
def rdAddS : RD2 := fun x y M q => match x, y with
  | .str a, .str b => a.length + b.length ≤ sizeLine ∧ q (.str (a ++ b)) M
  | _, _ => False
def rdAddT : RD2 := fun x y M q => match x, y with
  | .tup a, .tup b => a.length + b.length ≤ sizeLine ∧ q (.tup (a ++ b)) M
  | _, _ => False
def rdAddL : RD2 := fun x y M q => ∃ a b, lstOf M x = some a ∧ lstOf M y = some b ∧ a.length + b.length ≤ sizeLine ∧ q (.lst (a ++ b)) M
theorem opd_addS : OpD X (binaryOp .Add) rdAddS := ⟨_, op_add_str, fun H0 H M x y dx dy q Q S hx hy w k => by
  cases dx <;> cases dy <;> try exact False.elim w
  cases hx; cases hy
  exact ⟨_, _, rfl, rfl, w.1, k.here S (.str _) w.2⟩⟩
theorem opd_addT : OpD X (binaryOp .Add) rdAddT := ⟨_, op_catA, fun H0 H M x y dx dy q Q S hx hy w k => by
  cases dx <;> cases dy <;> try exact False.elim w
  cases hx with
  | tup hx rx =>
  cases hy with
  | tup hy ry =>
  obtain ⟨c, w⟩ := w
  refine ⟨_, _, _, _, rfl, rfl, S.ex.sqT hx, S.ex.sqT hy, by rw [rx.length, ry.length]; exact c, fun e => ?_, fun _ e => ?_, fun _ _ => k.newT S (rx.app ry) w⟩
  · subst e; cases rx; exact k.here S (.tup hy ry) w
  · subst e; cases ry; rw [List.append_nil] at w; exact k.here S (.tup hx rx) w⟩
theorem opd_addL : OpD X (binaryOp .Add) rdAddL := ⟨_, op_cat, fun H0 H M x y dx dy q Q S hx hy w k => by
  obtain ⟨a, b, ea, eb, c, w⟩ := w
  obtain ⟨p, vs, rfl, hp, rp⟩ := S.lst hx ea
  obtain ⟨p', vs', rfl, hp', rp'⟩ := S.lst hy eb
  exact ⟨_, _, _, _, rfl, rfl, hp, hp', by rw [rp.length, rp'.length]; exact c, k.newL S (rp.app rp') w⟩⟩
theorem opd_add : OpD X (binaryOp .Add) rdAdd := by
  refine ((opd_int0 (g := fun i j => .int (i + j)) (gd := fun i j => .int (i + j)) op_add fun _ _ _ => .int _).or (opd_addS.or (opd_addT.or opd_addL))).imp fun x y M q h => ?_
  cases x <;> cases y <;> first
    | exact .inl ⟨trivial, h⟩
    | exact .inr (.inl h)
    | exact .inr (.inr (.inl h))
    | exact .inr (.inr (.inr h))
def rdSub : RD2 := rdI (fun _ _ => True) fun i j => .int (i - j)
theorem opd_sub : OpD X (binaryOp .Sub) rdSub := opd_int0 op_sub fun _ _ _ => .int _
/-- // and % by a positive number; the divisor of // below 2 ^ 30 -/
def rdDiv : RD2 := rdI CDiv fun i j => .int (i / j)
theorem opd_div : OpD X (binaryOp .FloorDiv) rdDiv := opd_int op_fdiv fun _ _ _ => .int _
def rdMod : RD2 := rdI (fun _ j => 0 < j) fun i j => .int (i % j)
theorem opd_mod : OpD X (binaryOp .Mod) rdMod := opd_int op_mod fun _ _ _ => .int _
def rdPow : RD2 := rdI CPow fun i j => .int (i ^ j.toNat)
theorem opd_pow : OpD X (binaryOp .Pow) rdPow := opd_int op_pow fun _ _ _ => .int _
/-- products: both sides' bits together bounded -/
def CMulB (i j : Int) : Prop := IntMulOk i j
theorem op_mulB : OpR X (binaryOp .Mult) (rI CMulB fun i j => .int (i * j)) := fun pins s σ H x y v u Q I rx ry h => by
  obtain ⟨i, j, rfl, rfl, c, q⟩ := h
  obtain ⟨t, rfl⟩ := rx
  obtain ⟨t', rfl⟩ := ry
  exact mul_int ⟨.int (i * j), H, I.tok _, ⟨_, rfl⟩, q⟩ c
def rdMul : RD2 := fun x y M q => match x, y with
  | .int i, .int j => CMulB i j ∧ q (.int (i * j)) M
  | x, .int k => ∃ a, lstOf M x = some a ∧ (-(2 ^ 63) ≤ k ∧ k < 2 ^ 63) ∧ a.length * k.toNat ≤ sizeLine ∧ q (.lst (List.replicate k.toNat a).flatten) M
  | _, _ => False
def rdRep : RD2 := fun x y M q => match y with
  | .int k => ∃ a, lstOf M x = some a ∧ (-(2 ^ 63) ≤ k ∧ k < 2 ^ 63) ∧ a.length * k.toNat ≤ sizeLine ∧ q (.lst (List.replicate k.toNat a).flatten) M
  | _ => False
theorem opd_rep : OpD X (binaryOp .Mult) rdRep := ⟨_, op_rep, fun H0 H M x y dx dy q Q S hx hy w k => by
  cases dy <;> try exact False.elim w
  obtain ⟨a, ea, c, c2, w⟩ := w
  obtain ⟨p, vs, rfl, hp, rp⟩ := S.lst hx ea
  cases hy
  exact ⟨_, _, _, rfl, rfl, hp, c.1, c.2, by rw [rp.length]; exact c2, k.newL S (rp.rep _) w⟩⟩
theorem opd_mul : OpD X (binaryOp .Mult) rdMul := by
  refine ((opd_int (g := fun i j => .int (i * j)) (gd := fun i j => .int (i * j)) op_mulB fun _ _ _ => .int _).or opd_rep).imp fun x y M q h => ?_
  cases x <;> cases y <;> first
    | exact .inl h
    | exact .inr h
    | exact False.elim h
def rdLt : RD2 := rdI (fun _ _ => True) fun i j => .bl (decide (i < j))
def rdLe : RD2 := rdI (fun _ _ => True) fun i j => .bl (decide (i ≤ j))
def rdGt : RD2 := rdI (fun _ _ => True) fun i j => .bl (decide (j < i))
def rdGe : RD2 := rdI (fun _ _ => True) fun i j => .bl (decide (j ≤ i))
theorem opd_lt : OpD X (compareOp .Lt) rdLt := opd_int0 op_lt fun _ _ _ => .bl _
theorem opd_le : OpD X (compareOp .LtE) rdLe := opd_int0 op_le fun _ _ _ => .bl _
theorem opd_gt : OpD X (compareOp .Gt) rdGt := opd_int0 op_gt fun _ _ _ => .bl _
theorem opd_ge : OpD X (compareOp .GtE) rdGe := opd_int0 op_ge fun _ _ _ => .bl _
/-- == != of plain data -/
def rdEqP : RD2 := fun x y M q => ∃ a b, pyOf M x = some a ∧ pyOf M y = some b ∧ SeqAt.shaped a = true ∧ SeqAt.shaped b = true ∧ q (.bl (PyData.eqv a b)) M
def rdNeP : RD2 := fun x y M q => ∃ a b, pyOf M x = some a ∧ pyOf M y = some b ∧ SeqAt.shaped a = true ∧ SeqAt.shaped b = true ∧ q (.bl (!PyData.eqv a b)) M
theorem opd_eqP (hu : X.A.units + 64 < cLine) : OpD X (compareOp .Eq) rdEqP := ⟨_, op_eqD hu, fun H0 H M x y dx dy q Q S hx hy w k => by
  obtain ⟨a, b, ea, eb, sa, sb, w⟩ := w
  exact ⟨a, b, S.py hx ea, S.py hy eb, sa, sb, k.here S (.bl _) w⟩⟩
theorem opd_neP (hu : X.A.units + 64 < cLine) : OpD X (compareOp .NotEq) rdNeP := ⟨_, op_neD hu, fun H0 H M x y dx dy q Q S hx hy w k => by
  obtain ⟨a, b, ea, eb, sa, sb, w⟩ := w
  exact ⟨a, b, S.py hx ea, S.py hy eb, sa, sb, k.here S (.bl _) w⟩⟩
def rdEqS : RD2 := fun x y M q => ∃ i j : Str, x = .str i ∧ y = .str j ∧ q (.bl (decide (i = j))) M
def rdNeS : RD2 := fun x y M q => ∃ i j : Str, x = .str i ∧ y = .str j ∧ q (.bl (!decide (i = j))) M
theorem dec_str {i j : Str} : decide (V.str i = V.str j) = decide (i = j) := by
  by_cases e : i = j
  · subst e; simp
  · rw [decide_eq_false e, decide_eq_false fun z => e (V.str.inj z)]
theorem opd_eqS : OpD X (compareOp .Eq) rdEqS := ⟨_, op_eq, fun H0 H M x y dx dy q Q S hx hy w k => by
  obtain ⟨i, j, rfl, rfl, w⟩ := w
  cases hx; cases hy
  exact ⟨rfl, by rw [dec_str]; exact k.here S (.bl _) w⟩⟩
theorem opd_neS : OpD X (compareOp .NotEq) rdNeS := ⟨_, op_ne, fun H0 H M x y dx dy q Q S hx hy w k => by
  obtain ⟨i, j, rfl, rfl, w⟩ := w
  cases hx; cases hy
  exact ⟨rfl, by rw [dec_str]; exact k.here S (.bl _) w⟩⟩
def rdEq : RD2 := fun x y M q => rdEqP x y M q ∨ rdEqS x y M q
def rdNe : RD2 := fun x y M q => rdNeP x y M q ∨ rdNeS x y M q
theorem opd_eq (hu : X.A.units + 64 < cLine) : OpD X (compareOp .Eq) rdEq := (opd_eqP hu).or opd_eqS
theorem opd_ne (hu : X.A.units + 64 < cLine) : OpD X (compareOp .NotEq) rdNe := (opd_neP hu).or opd_neS
def rdNeg : RD1 := fun x M q => match x with
  | .int i => q (.int (-i)) M
  | _ => False
theorem und_neg : UnD X (unaryOp .USub) rdNeg := ⟨_, un_neg, fun H0 H M x dx q Q S hx w k => by
  cases dx <;> try exact False.elim w
  cases hx
  exact ⟨_, rfl, k.here S (.int _) w⟩⟩
end
end DL
set_option maxRecDepth 100000
set_option maxHeartbeats 4000000
namespace DL
open PySem PySem.Spec PyProof.Rows L2
def flat : D → Option V
  | .non => some .non
  | .bl b => some (.bl b)
  | .int i => some (.int i)
  | .str x => some (.str x)
  | _ => none
def flats : List D → Option (List V)
  | [] => some []
  | d :: ds => match flat d, flats ds with
    | some v, some vs => some (v :: vs)
    | _, _ => none
section
variable {K : PySem.W.Frag} {H0 H : Hp} {M : Mem}
theorem flat_dn {v v' : V} {d : D} (h : Dn K H v d) (e : flat d = some v') : v = v' ∧ flatV v = true := by
  cases h <;> first
    | (cases e; exact ⟨rfl, rfl⟩)
    | cases e
theorem flats_dn : ∀ {ds : List D} {vs ws : List V}, DnL K H vs ds → flats ds = some ws → vs = ws ∧ vs.all flatV = true
  | _, _, _, .nil, e => by cases e; exact ⟨rfl, rfl⟩
  | d :: ds, _, _, .cons h r, e => by
    have e' : (match flat d, flats ds with | some v, some vs => some (v :: vs) | _, _ => none) = some _ := e
    cases e1 : flat d with
    | none => rw [e1] at e'; cases e'
    | some p =>
      cases e2 : flats ds with
      | none => rw [e1, e2] at e'; cases e'
      | some ps =>
        rw [e1, e2] at e'
        cases e'
        obtain ⟨rfl, f1⟩ := flat_dn h e1
        obtain ⟨rfl, f2⟩ := flats_dn r e2
        exact ⟨rfl, by rw [List.all_cons, f1, f2] <;> rfl⟩
end
section
variable {X : Cx} {W : WX}
def rdInQ (neg : Bool) : RD2 := fun x y M q => ∃ xs v vs, seqOf M y = some xs ∧ flat x = some v ∧ flats xs = some vs ∧ q (.bl (if neg then !inV v vs else inV v vs)) M
def rdInC (neg : Bool) : RD2 := fun x y M q => match x, y with
  | .str a, .str z => ∃ c, a = ⟨#[c]⟩ ∧ q (.bl (if neg then !decide (c ∈ z.cps.toList) else decide (c ∈ z.cps.toList))) M
  | _, _ => False
def rdIn (neg : Bool) : RD2 := fun x y M q => match y with
  | .str z => rdInC neg x (.str z) M q
  | y => rdInQ neg x y M q
theorem inQ_ok {K : PySem.W.Frag} {neg : Bool} : ∀ H0 H M x y dx dy q Q, SD K H0 H M → Dn K H0 x dx → Dn K H0 y dy → rdInQ neg dx dy M q → KQ K H0 q Q → rIn K neg x y H Q := fun H0 H M x y dx dy q Q S hx hy w k => by
  obtain ⟨xs, v, vs, e1, e2, e3, w⟩ := w
  obtain ⟨a, ws, rfl, hs, r⟩ := S.seq hy e1
  obtain ⟨rfl, f1⟩ := flat_dn hx e2
  obtain ⟨rfl, f2⟩ := flats_dn r e3
  exact ⟨a, _, rfl, hs, f1, f2, k.here S (.bl _) w⟩
theorem opd_inQ : OpD X (compareOp .In) (rdInQ false) := ⟨_, op_in_seq, inQ_ok⟩
theorem opd_niQ : OpD X (compareOp .NotIn) (rdInQ true) := ⟨_, op_notIn_seq, inQ_ok⟩
theorem opd_inC : OpD X (compareOp .In) (rdInC false) := ⟨_, op_in_sign, fun H0 H M x y dx dy q Q S hx hy w k => by
  cases dx <;> cases dy <;> try exact False.elim w
  obtain ⟨c, rfl, w⟩ := w
  cases hx; cases hy
  exact ⟨c, _, rfl, rfl, k.here S (.bl _) w⟩⟩
theorem opd_niC : OpD X (compareOp .NotIn) (rdInC true) := ⟨_, op_notIn_sign, fun H0 H M x y dx dy q Q S hx hy w k => by
  cases dx <;> cases dy <;> try exact False.elim w
  obtain ⟨c, rfl, w⟩ := w
  cases hx; cases hy
  exact ⟨c, _, rfl, rfl, k.here S (.bl _) w⟩⟩
theorem opd_in : OpD X (compareOp .In) (rdIn false) := (opd_inC.or opd_inQ).imp fun x y M q h => by
  cases y <;> first
    | exact .inl h
    | exact .inr h
theorem opd_ni : OpD X (compareOp .NotIn) (rdIn true) := (opd_niC.or opd_niQ).imp fun x y M q h => by
  cases y <;> first
    | exact .inl h
    | exact .inr h
@[reducible] def dNil : DA := fun _ M q _ => q [] M
@[reducible] def dCons (de : DE) (da : DA) : DA := fun env M q E => de env M (fun x M1 => da env M1 (fun xs M2 => q (x :: xs) M2) E) E
theorem ad_nil : AD X W [] dNil := paImp pa_nil fun σ H Q ⟨env, M, q, E, H0, so, S, h, k, kx⟩ => k [] [] H0 H M (Ext.refl H0) S .nil h
theorem ad_cons {e : Expr} {es : List Expr} {de : DE} {da : DA} (he : PD X W e de) (hr : AD X W es da) (hs : starEach (e :: es) X.env = (false, eval e X.env) :: starEach es X.env := by rfl) : AD X W (e :: es) (dCons de da) :=
  paImp (pa_cons he hr hs) fun σ H Q ⟨env, M, q, E, H0, so, S, h, k, kx⟩ =>
    goE so S h kx fun x dx H1 H' M1 e1 so1 S1 rx h1 kx1 => goA so1 S1 h1 kx1 fun xs ds H2 H'' M2 e2 so2 S2 rs h2 kx2 => k _ _ H2 H'' M2 (e1.trans e2) S2 (.cons (rx.mono e2) rs) h2
/-- a value's truth -/
def truD (M : Mem) : D → Option Bool
  | .non => some false
  | .bl b => some b
  | .int i => some (i != 0)
  | .str y => if y.length ≤ 16777216 then some ((y.length : Int) != 0) else none
  | .lst xs => some (!xs.isEmpty)
  | .lsf xs => some (!xs.isEmpty)
  | .tup xs => some (!xs.isEmpty)
  | .cel c => (celL M c).map fun xs => !xs.isEmpty
  | .dic ks _ => some (!ks.isEmpty)
  | _ => none
theorem isE {K : PySem.W.Frag} {H : Hp} {vs : List V} {ds : List D} (r : DnL K H vs ds) : vs.isEmpty = ds.isEmpty := by cases r <;> rfl
theorem SD.tru {K : PySem.W.Frag} {H0 H : Hp} {M : Mem} (S : SD K H0 H M) {v : V} {d : D} {b : Bool} (h : Dn K H0 v d) (e : truD M d = some b) : TruV K v H b := by
  cases h with
  | non => cases e; rfl
  | bl => cases e; rfl
  | int => cases e; rfl
  | str y =>
    have e' : (if y.length ≤ 16777216 then some ((y.length : Int) != 0) else none) = some b := e
    by_cases c : y.length ≤ 16777216
    · rw [if_pos c] at e'; cases e'; exact ⟨by rw [sizeLine_eq]; exact c, rfl⟩
    · rw [if_neg c] at e'; cases e'
  | ty => cases e
  | cel c =>
    obtain ⟨xs, e1, rfl⟩ := omap (show (celL M c).map (fun xs => !xs.isEmpty) = some b from e)
    obtain ⟨_, vs, e2, r⟩ := S.cell c xs (celL_eq e1)
    exact .inl ⟨vs, SqL.of e2, by rw [isE r]⟩
  | lst h r => cases e; exact .inl ⟨_, SqL.of (S.ex _ _ h), by rw [isE r]⟩
  | lsf h r => cases e; exact .inl ⟨_, S.ex.sqL h, by rw [isE r]⟩
  | tup h r => cases e; exact .inr (.inl ⟨_, S.ex.sqT h, by rw [isE r]⟩)
  | dic h r =>
    cases e
    exact .inr (.inr ⟨_, S.ex _ _ h, by rw [List.isEmpty_map]⟩)
  | ins => cases e
@[reducible] def dTru (de : DE) : DT := fun env M q E => de env M (fun d M1 => ∃ b, truD M1 d = some b ∧ q b M1) E
theorem td_tru {e : Expr} {de : DE} (h : PD X W e de) (he : ∀ whole, isTrue e X.env whole = (do let v ← whole; standAt e.pos; holding [v] (truthy v)) := by intro _; rfl) : TD X W e (dTru de) :=
  ptImp (pt_truth h he) fun σ H Q ⟨env, M, q, E, H0, so, S, h, k, kx⟩ => goE so S h kx fun x dx H1 H' M1 e1 so1 S1 rx ⟨b, eb, w⟩ kx1 => ⟨b, S1.tru rx eb, k b H1 H' M1 e1 S1 w⟩
/-- a comparison as a test -/
@[reducible] def dTst (de : DE) : DT := fun env M q E => de env M (fun d M1 => ∃ b, d = .bl b ∧ q b M1) E
theorem lift_tst {K : PySem.W.Frag} {de : DE} {te : TE} (z : ∀ σ H Q, liftE K W de σ H Q → te σ H Q) : ∀ σ H Q, liftT K W (dTst de) σ H Q → tTest te σ H Q := fun σ H Q ⟨env, M, q, E, H0, so, S, h, k, kx⟩ =>
  z _ _ _ (goE so S h kx fun x dx H1 H' M1 e1 so1 S1 rx ⟨b, eb, w⟩ kx1 => by subst eb; exact ⟨b, rx.inv_bl, k b H1 H' M1 e1 S1 w⟩)
theorem td_cmp {op : CmpOp} {rd : RD2} {a b : Expr} {da db : DE} {pos : Pos} (ho : OpD X (compareOp op) rd) (ha : PD X W a da) (hb : PD X W b db) (hm : behindInMarks op b = false) : TD X W (.Compare a [op] [b] pos) (dTst (dOp rd da db)) := by
  obtain ⟨r, o, z⟩ := ho
  exact ptImp (pt_cmpR o ha hb hm) (lift_tst (lift_op z))
/-- chains -/
@[reducible] def dChn (r r' : RD2) (da db dc : DE) : DE := fun env M q E => da env M (fun x M1 => db env M1 (fun y M2 => r x y M2 (fun z M3 => ∃ b, z = .bl b ∧ if b = true then dc env M3 (fun w M4 => r' y w M4 q) E else q (.bl false) M3)) E) E
theorem lift_chn {K : PySem.W.Frag} {rd rd' : RD2} {r r' : R2} {da db dc : DE} (z : ∀ H0 H M x y dx dy q Q, SD K H0 H M → Dn K H0 x dx → Dn K H0 y dy → rd dx dy M q → KQ K H0 q Q → r x y H Q)
    (z' : ∀ H0 H M x y dx dy q Q, SD K H0 H M → Dn K H0 x dx → Dn K H0 y dy → rd' dx dy M q → KQ K H0 q Q → r' x y H Q) : ∀ σ H Q, liftE K W (dChn rd rd' da db dc) σ H Q → tChain r r' (liftE K W da) (liftE K W db) (liftE K W dc) σ H Q := fun σ H Q ⟨env, M, q, E, H0, so, S, h, k, kx⟩ =>
  goE so S h kx fun x dx H1 H' M1 e1 so1 S1 rx h1 kx1 => goE so1 S1 h1 kx1 fun y dy H2 H'' M2 e2 so2 S2 ry h2 kx2 => z H2 H'' M2 x y dx dy _ _ S2 (rx.mono e2) ry h2 fun v d H3 H3' M3 e3 S3 rz ⟨b, eb, w⟩ => by
    subst eb
    refine ⟨b, rz.inv_bl, ?_⟩
    cases b with
    | true =>
      refine iteT ?_
      exact goE (so2.mono e3) S3 (show dc env M3 _ E from w) (kx2.mono e3) fun u du H4 H4' M4 e4 so4 S4 ru w4 kx4 => z' H4 H4' M4 y u dy du q Q S4 (ry.mono (e3.trans e4)) ru w4 (k.mono (((e1.trans e2).trans e3).trans e4))
    | false =>
      refine iteF ?_
      exact k _ _ H3 H3' M3 ((e1.trans e2).trans e3) S3 (.bl false) w
theorem pd_chn {op op' : CmpOp} {rd rd' : RD2} {a b c : Expr} {da db dc : DE} {pos : Pos} (ho : OpD X (compareOp op) rd) (ho' : OpD X (compareOp op') rd') (ha : PD X W a da) (hb : PD X W b db) (hc : PD X W c dc)
    (hm : lastMarks [op, op'] [b, c] = false := by with_unfolding_all rfl) : PD X W (.Compare a [op, op'] [b, c] pos) (dChn rd rd' da db dc) := by
  obtain ⟨r, o, z⟩ := ho
  obtain ⟨r', o', z'⟩ := ho'
  exact peImp (pe_chain o o' ha hb hc hm) (lift_chn z z')
theorem td_chn {op op' : CmpOp} {rd rd' : RD2} {a b c : Expr} {da db dc : DE} {pos : Pos} (ho : OpD X (compareOp op) rd) (ho' : OpD X (compareOp op') rd') (ha : PD X W a da) (hb : PD X W b db) (hc : PD X W c dc)
    (hm : lastMarks [op, op'] [b, c] = false := by with_unfolding_all rfl) : TD X W (.Compare a [op, op'] [b, c] pos) (dTst (dChn rd rd' da db dc)) := by
  obtain ⟨r, o, z⟩ := ho
  obtain ⟨r', o', z'⟩ := ho'
  exact ptImp (pt_chain o o' ha hb hc hm) (lift_tst (lift_chn z z'))
/-- and, or, not as tests -/
def WD (X : Cx) (W : WX) (e : Expr) (dt : DT) : Prop := PW X e (liftT X.K W dt)
@[reducible] def dAnd (a b : DT) : DT := fun env M q E => a env M (fun c M1 => if c = true then b env M1 q E else q false M1) E
@[reducible] def dOr (a b : DT) : DT := fun env M q E => a env M (fun c M1 => if c = true then q true M1 else b env M1 q E) E
@[reducible] def dNot (a : DT) : DT := fun env M q E => a env M (fun c M1 => q (!c) M1) E
theorem pwImp {e : Expr} {t t' : TT} (h : PW X e t) (i : ∀ σ H Q, t' σ H Q → t σ H Q) : PW X e t' := ⟨fun w pins s σ H Q I q => h.run w pins s σ H Q I (i σ H Q q)⟩
theorem lift_and {K : PySem.W.Frag} {a b : DT} : ∀ σ H Q, liftT K W (dAnd a b) σ H Q → tAnd (liftT K W a) (liftT K W b) σ H Q := fun σ H Q ⟨env, M, q, E, H0, so, S, h, k, kx⟩ =>
  goT so S h kx fun c H1 H' M1 e1 so1 S1 h1 kx1 => by
    cases c with
    | true => exact iteT ⟨env, M1, q, E, H1, so1, S1, h1, k.mono e1, kx1⟩
    | false => exact iteF (k false H1 H' M1 e1 S1 h1)
theorem lift_or {K : PySem.W.Frag} {a b : DT} : ∀ σ H Q, liftT K W (dOr a b) σ H Q → tOr (liftT K W a) (liftT K W b) σ H Q := fun σ H Q ⟨env, M, q, E, H0, so, S, h, k, kx⟩ =>
  goT so S h kx fun c H1 H' M1 e1 so1 S1 h1 kx1 => by
    cases c with
    | true => exact iteT (k true H1 H' M1 e1 S1 h1)
    | false => exact iteF ⟨env, M1, q, E, H1, so1, S1, h1, k.mono e1, kx1⟩
theorem wd_and1 {a : Expr} {da : DT} {pos : Pos} (h : TD X W a da) : WD X W (.BoolOp .And [a] pos) da := pw_and1 h
theorem wd_or1 {a : Expr} {da : DT} {pos : Pos} (h : TD X W a da) : WD X W (.BoolOp .Or [a] pos) da := pw_or1 h
theorem wd_and {a b : Expr} {rest : List Expr} {da db : DT} {pos : Pos} (h : TD X W a da) (h' : WD X W (.BoolOp .And (b :: rest) pos) db) : WD X W (.BoolOp .And (a :: b :: rest) pos) (dAnd da db) := pwImp (pw_and h h') lift_and
theorem wd_or {a b : Expr} {rest : List Expr} {da db : DT} {pos : Pos} (h : TD X W a da) (h' : WD X W (.BoolOp .Or (b :: rest) pos) db) : WD X W (.BoolOp .Or (a :: b :: rest) pos) (dOr da db) := pwImp (pw_or h h') lift_or
theorem td_w {e : Expr} {dt : DT} (h : WD X W e dt) : TD X W e dt := PW.pt h
theorem td_not {a : Expr} {da : DT} {pos : Pos} (h : TD X W a da) : TD X W (.UnaryOp .Not a pos) (dNot da) := ptImp (pt_not h) fun σ H Q ⟨env, M, q, E, H0, so, S, h, k, kx⟩ =>
  goT so S h kx fun c H1 H' M1 e1 so1 S1 h1 kx1 => k _ H1 H' M1 e1 S1 h1
/-- as values, all but the last True or False -/
@[reducible] def dAndV (a b : DE) : DE := fun env M q E => a env M (fun x M1 => ∃ c, x = .bl c ∧ if c = true then b env M1 q E else q (.bl false) M1) E
@[reducible] def dOrV (a b : DE) : DE := fun env M q E => a env M (fun x M1 => ∃ c, x = .bl c ∧ if c = true then q (.bl true) M1 else b env M1 q E) E
@[reducible] def dNotV (a : DE) : DE := fun env M q E => a env M (fun x M1 => ∃ c, x = .bl c ∧ q (.bl (!c)) M1) E
theorem pd_one {op} {a : Expr} {da : DE} {pos : Pos} (h : PD X W a da) : PD X W (.BoolOp op [a] pos) da := pe_one h
theorem pd_and {a b : Expr} {rest : List Expr} {da db : DE} {pos : Pos} (h : PD X W a da) (h' : PD X W (.BoolOp .And (b :: rest) pos) db) : PD X W (.BoolOp .And (a :: b :: rest) pos) (dAndV da db) :=
  peImp (pe_and h h') fun σ H Q ⟨env, M, q, E, H0, so, S, h, k, kx⟩ => goE so S h kx fun x dx H1 H' M1 e1 so1 S1 rx ⟨c, ec, w⟩ kx1 => by
    subst ec
    refine ⟨c, rx.inv_bl, ?_⟩
    cases c with
    | true => exact iteT ⟨env, M1, q, E, H1, so1, S1, w, k.mono e1, kx1⟩
    | false => exact iteF (k _ _ H1 H' M1 e1 S1 (.bl false) w)
theorem pd_or {a b : Expr} {rest : List Expr} {da db : DE} {pos : Pos} (h : PD X W a da) (h' : PD X W (.BoolOp .Or (b :: rest) pos) db) : PD X W (.BoolOp .Or (a :: b :: rest) pos) (dOrV da db) :=
  peImp (pe_or h h') fun σ H Q ⟨env, M, q, E, H0, so, S, h, k, kx⟩ => goE so S h kx fun x dx H1 H' M1 e1 so1 S1 rx ⟨c, ec, w⟩ kx1 => by
    subst ec
    refine ⟨c, rx.inv_bl, ?_⟩
    cases c with
    | true => exact iteT (k _ _ H1 H' M1 e1 S1 (.bl true) w)
    | false => exact iteF ⟨env, M1, q, E, H1, so1, S1, w, k.mono e1, kx1⟩
theorem pd_not {a : Expr} {da : DE} {pos : Pos} (h : PD X W a da) : PD X W (.UnaryOp .Not a pos) (dNotV da) :=
  peImp (pe_not h) fun σ H Q ⟨env, M, q, E, H0, so, S, h, k, kx⟩ => goE so S h kx fun x dx H1 H' M1 e1 so1 S1 rx ⟨c, ec, w⟩ kx1 => by
    subst ec
    exact ⟨c, rx.inv_bl, k _ _ H1 H' M1 e1 S1 (.bl _) w⟩
@[reducible] def dIf (t : DT) (a b : DE) : DE := fun env M q E => t env M (fun c M1 => if c = true then a env M1 q E else b env M1 q E) E
theorem pd_if {c a b : Expr} {dt : DT} {da db : DE} {pos : Pos} (hc : TD X W c dt) (ha : PD X W a da) (hb : PD X W b db) : PD X W (.IfExp c a b pos) (dIf dt da db) :=
  peImp (pe_ifExp hc ha hb) fun σ H Q ⟨env, M, q, E, H0, so, S, h, k, kx⟩ => goT so S h kx fun c H1 H' M1 e1 so1 S1 h1 kx1 => by
    cases c with
    | true => exact iteT ⟨env, M1, q, E, H1, so1, S1, h1, k.mono e1, kx1⟩
    | false => exact iteF ⟨env, M1, q, E, H1, so1, S1, h1, k.mono e1, kx1⟩
@[reducible] def dTup (da : DA) : DE := fun env M q E => da env M (fun ds M1 => ds.length ≤ sizeLine ∧ q (.tup ds) M1) E
@[reducible] def dLst (da : DA) : DE := fun env M q E => da env M (fun ds M1 => ds.length ≤ sizeLine ∧ q (.lst ds) M1) E
/-- a list that will change -/
@[reducible] def dLstC (da : DA) : DE := fun env M q E => da env M (fun ds M1 => ds.length ≤ sizeLine ∧ ∀ a, M1 a = none → q (.cel a) (mset M1 a (.ls ds))) E
theorem pd_tup {es : List Expr} {da : DA} {x1 pos} (h : AD X W es da) : PD X W (.Tuple es x1 pos) (dTup da) := peImp (pe_tup h) fun σ H Q ⟨env, M, q, E, H0, so, S, h, k, kx⟩ =>
  goA so S h kx fun xs ds H1 H' M1 e1 so1 S1 rs ⟨z, w⟩ kx1 => ⟨by rw [rs.length]; exact z, (k.mono e1).newT S1 rs w⟩
theorem pd_lst {es : List Expr} {da : DA} {pos} (h : AD X W es da) : PD X W (.List es pos) (dLst da) := peImp (pe_lst h) fun σ H Q ⟨env, M, q, E, H0, so, S, h, k, kx⟩ =>
  goA so S h kx fun xs ds H1 H' M1 e1 so1 S1 rs ⟨z, w⟩ kx1 => ⟨by rw [rs.length]; exact z, (k.mono e1).newL S1 rs w⟩
theorem pd_lstC {es : List Expr} {da : DA} {pos} (h : AD X W es da) : PD X W (.List es pos) (dLstC da) := peImp (pe_lst h) fun σ H Q ⟨env, M, q, E, H0, so, S, h, k, kx⟩ =>
  goA so S h kx fun xs ds H1 H' M1 e1 so1 S1 rs ⟨z, w⟩ kx1 => ⟨by rw [rs.length]; exact z, (k.mono e1).newC S1 rs w⟩
theorem lift_CB {K : PySem.W.Frag} {rd : RDL} {r : List V → Hp → VK → Prop} {da : DA} (z : ∀ H0 H M xs ds q Q, SD K H0 H M → DnL K H0 xs ds → rd ds M q → KQ K H0 q Q → r xs H Q) : ∀ σ H Q, liftE K W (dCB rd da) σ H Q → tCB r (liftA K W da) σ H Q :=
  fun σ H Q ⟨env, M, q, E, H0, so, S, h, k, kx⟩ => goA so S h kx fun xs ds H1 H' M1 e1 so1 S1 rs w kx1 => z H1 H' M1 xs ds q Q S1 rs w (k.mono e1)
theorem pd_callB {x : Str} {p pos : Pos} {e : Expr} {es : List Expr} {da : DA} {id : String} {rd : RDL} (hc : CallD X (.builtin id) rd) (hg : Gl X x) (hm : X.mg x = none) (hv : bootBuiltins x = some (.builtin id)) (ha : AD X W (e :: es) da) (hn : x ≠ "__name__" := by decide) (hdb : (x == ("__debug__" : Str)) = false := by decide)
    (he : starEach (e :: es) X.env = (false, eval e X.env) :: starEach es X.env := by rfl) (hpl : (backTo pos (starEach es X.env)).any (·.1) = false := by rfl) : PD X W (.Call (.Name x p) (e :: es) [] pos) (dCB rd da) := by
  obtain ⟨r, o, z⟩ := hc
  exact peImp (pe_callB o hg hm hv ha hn hdb he hpl) (lift_CB z)
theorem pd_callTy {x : Str} {p pos : Pos} {e : Expr} {es : List Expr} {da : DA} {T : String} {rd : RDL} (hc : CallD X (.type T) rd) (hg : Gl X x) (hm : X.mg x = none) (hv : bootBuiltins x = some (.type T)) (ha : AD X W (e :: es) da) (hn : x ≠ "__name__" := by decide) (hdb : (x == ("__debug__" : Str)) = false := by decide)
    (he : starEach (e :: es) X.env = (false, eval e X.env) :: starEach es X.env := by rfl) (hpl : (backTo pos (starEach es X.env)).any (·.1) = false := by rfl) : PD X W (.Call (.Name x p) (e :: es) [] pos) (dCB rd da) := by
  obtain ⟨r, o, z⟩ := hc
  exact peImp (pe_callTy o hg hm hv ha hn hdb he hpl) (lift_CB z)
/-- len -/
def rdLen : RDL := fun ds M q => ∃ d, ds = [d] ∧ match d with
  | .str z => z.length ≤ sizeLine ∧ q (.int z.length) M
  | d => ∃ xs, seqOf M d = some xs ∧ q (.int xs.length) M
theorem dnl1 {K : PySem.W.Frag} {H : Hp} {vs : List V} {d : D} (h : DnL K H vs [d]) : ∃ v, vs = [v] ∧ Dn K H v d := by
  cases h with
  | cons a r => cases r; exact ⟨_, rfl, a⟩
theorem dnl2 {K : PySem.W.Frag} {H : Hp} {vs : List V} {d e : D} (h : DnL K H vs [d, e]) : ∃ v w, vs = [v, w] ∧ Dn K H v d ∧ Dn K H w e := by
  cases h with
  | cons a r => obtain ⟨w, rfl, b⟩ := dnl1 r; exact ⟨_, w, rfl, a, b⟩
theorem cd_lenQ : CallD X (.builtin "len") (fun ds M q => ∃ d xs, ds = [d] ∧ seqOf M d = some xs ∧ q (.int xs.length) M) := ⟨_, call_len_seq, fun H0 H M xs ds q Q S r w k => by
  obtain ⟨d, ys, rfl, e, w⟩ := w
  obtain ⟨v, rfl, rv⟩ := dnl1 r
  obtain ⟨a, vs, rfl, hs, rs⟩ := S.seq rv e
  exact ⟨a, vs, rfl, hs, by rw [rs.length]; exact k.here S (.int _) w⟩⟩
theorem cd_lenS : CallD X (.builtin "len") (fun ds M q => ∃ z, ds = [.str z] ∧ z.length ≤ sizeLine ∧ q (.int z.length) M) := ⟨_, call_len_str, fun H0 H M xs ds q Q S r w k => by
  obtain ⟨z, rfl, e, w⟩ := w
  obtain ⟨v, rfl, rv⟩ := dnl1 r
  cases rv
  exact ⟨z, rfl, e, k.here S (.int _) w⟩⟩
theorem cd_len : CallD X (.builtin "len") rdLen := (cd_lenS.or cd_lenQ).imp fun ds M q ⟨d, e, h⟩ => by
  subst e
  cases d <;> first
    | exact .inl ⟨_, rfl, h.1, h.2⟩
    | exact .inr ⟨_, h.choose, rfl, h.choose_spec.1, h.choose_spec.2⟩
/-- list(x), frozen or to be changed; tuple(x) -/
def rdList : RDL := fun ds M q => ∃ d xs, ds = [d] ∧ seqOf M d = some xs ∧ q (.lst xs) M
theorem cd_list : CallD X (.type "list") rdList := ⟨_, call_list_of, fun H0 H M xs ds q Q S r w k => by
  obtain ⟨d, ys, rfl, e, w⟩ := w
  obtain ⟨v, rfl, rv⟩ := dnl1 r
  obtain ⟨a, vs, rfl, hs, rs⟩ := S.seq rv e
  exact ⟨a, vs, rfl, hs, k.newL S rs w⟩⟩
def rdTuple : RDL := fun ds M q => ∃ d xs, ds = [d] ∧ seqOf M d = some xs ∧ q (.tup xs) M
theorem cd_tuple : CallD X (.type "tuple") rdTuple := ⟨_, call_tuple_of, fun H0 H M xs ds q Q S r w k => by
  obtain ⟨d, ys, rfl, e, w⟩ := w
  obtain ⟨v, rfl, rv⟩ := dnl1 r
  cases rv with
  | tup h rs => cases e; exact ⟨_, _, rfl, .inr ⟨S.ex.sqT h, k.here S (.tup h rs) w⟩⟩
  | lst h rs => cases e; exact ⟨_, _, rfl, .inl ⟨SqL.of (S.ex _ _ h), k.newT S rs w⟩⟩
  | lsf h rs => cases e; exact ⟨_, _, rfl, .inl ⟨S.ex.sqL h, k.newT S rs w⟩⟩
  | cel c =>
    obtain ⟨_, vs, e2, rs⟩ := S.cell c ys (celL_eq e)
    exact ⟨_, _, rfl, .inl ⟨SqL.of e2, k.newT S rs w⟩⟩
  | _ => cases e⟩
def rdAbs : RDL := fun ds M q => match ds with
  | [.int i] => q (.int (if i < 0 then -i else i)) M
  | _ => False
theorem cd_abs : CallD X (.builtin "abs") rdAbs := ⟨_, call_abs, fun H0 H M xs ds q Q S r w k => by
  unfold rdAbs at w
  split at w
  · obtain ⟨v, rfl, rv⟩ := dnl1 r
    cases rv
    exact ⟨_, rfl, k.here S (.int _) w⟩
  · exact False.elim w⟩
def rdInt : RDL := fun ds M q => match ds with
  | [.int i] => q (.int i) M
  | [.bl b] => q (.int (if b then 1 else 0)) M
  | _ => False
theorem cd_int : CallD X (.type "int") rdInt := ⟨_, call_int1, fun H0 H M xs ds q Q S r w k => by
  unfold rdInt at w
  split at w
  · obtain ⟨v, rfl, rv⟩ := dnl1 r
    cases rv
    exact .inl ⟨_, rfl, k.here S (.int _) w⟩
  · obtain ⟨v, rfl, rv⟩ := dnl1 r
    cases rv
    exact .inr ⟨_, rfl, k.here S (.int _) w⟩
  · exact False.elim w⟩
def rdStrI : RDL := fun ds M q => match ds with
  | [.int i] => i.natAbs.log2 < 1920 ∧ q (.str (toString i)) M
  | _ => False
theorem cd_strI : CallD X (.type "str") rdStrI := ⟨_, call_str_int, fun H0 H M xs ds q Q S r w k => by
  unfold rdStrI at w
  split at w
  · obtain ⟨v, rfl, rv⟩ := dnl1 r
    cases rv
    exact ⟨_, rfl, w.1, k.here S (.str _) w.2⟩
  · exact False.elim w⟩
def rdMin2 : RDL := fun ds M q => match ds with
  | [.int i, .int j] => q (.int (if j < i then j else i)) M
  | _ => False
theorem cd_min2 (hc : X.calm = true) : CallD X (.builtin "min") rdMin2 := ⟨_, call_min2 hc, fun H0 H M xs ds q Q S r w k => by
  unfold rdMin2 at w
  split at w
  · obtain ⟨v, u, rfl, rv, ru⟩ := dnl2 r
    cases rv; cases ru
    exact ⟨_, _, rfl, k.here S (.int _) w⟩
  · exact False.elim w⟩
def rdMax2 : RDL := fun ds M q => match ds with
  | [.int i, .int j] => q (.int (if j > i then j else i)) M
  | _ => False
theorem cd_max2 (hc : X.calm = true) : CallD X (.builtin "max") rdMax2 := ⟨_, call_max2 hc, fun H0 H M xs ds q Q S r w k => by
  unfold rdMax2 at w
  split at w
  · obtain ⟨v, u, rfl, rv, ru⟩ := dnl2 r
    cases rv; cases ru
    exact ⟨_, _, rfl, k.here S (.int _) w⟩
  · exact False.elim w⟩
def rdDivmod : RDL := fun ds M q => match ds with
  | [.int i, .int j] => CDiv i j ∧ q (.tup [.int (i / j), .int (i % j)]) M
  | _ => False
theorem cd_divmod : CallD X (.builtin "divmod") rdDivmod := ⟨_, call_divmod, fun H0 H M xs ds q Q S r w k => by
  unfold rdDivmod at w
  split at w
  · obtain ⟨v, u, rfl, rv, ru⟩ := dnl2 r
    cases rv; cases ru
    exact ⟨_, _, rfl, w.1, k.newT S (.cons (.int _) (.cons (.int _) .nil)) w.2⟩
  · exact False.elim w⟩
/-- all, any of a list of bools -/
def bls : List D → Option (List Bool)
  | [] => some []
  | .bl b :: ds => (bls ds).map (b :: ·)
  | _ => none
theorem bls_dn {K : PySem.W.Frag} {H : Hp} : ∀ {ds : List D} {vs : List V} {bs : List Bool}, DnL K H vs ds → bls ds = some bs → vs = bs.map V.bl
  | _, _, _, .nil, e => by cases e; rfl
  | _, _, _, .cons (d := .bl b) h r, e => by
    obtain ⟨cs, e1, rfl⟩ := omap (show (bls _).map (b :: ·) = some _ from e)
    rw [h.inv_bl, bls_dn r e1]; rfl
  | _, _, _, .cons (d := .non) _ _, e | _, _, _, .cons (d := .int _) _ _, e | _, _, _, .cons (d := .str _) _ _, e | _, _, _, .cons (d := .ty _) _ _, e | _, _, _, .cons (d := .lst _) _ _, e
  | _, _, _, .cons (d := .lsf _) _ _, e | _, _, _, .cons (d := .tup _) _ _, e | _, _, _, .cons (d := .dic _ _) _ _, e | _, _, _, .cons (d := .ins _ _ _) _ _, e | _, _, _, .cons (d := .cel _) _ _, e => by cases e
def rdAll : RDL := fun ds M q => ∃ d xs bs, ds = [d] ∧ (lstOf M d = some xs) ∧ bls xs = some bs ∧ q (.bl (bs.all id)) M
theorem cd_all (hc : X.calm = true) : CallD X (.builtin "all") rdAll := ⟨_, cr_all hc, fun H0 H M xs ds q Q S r w k => by
  obtain ⟨d, ys, bs, rfl, e, eb, w⟩ := w
  obtain ⟨v, rfl, rv⟩ := dnl1 r
  obtain ⟨a, vs, rfl, hs, rs⟩ := S.lst rv e
  have z := bls_dn rs eb
  subst z
  exact ⟨a, bs, rfl, SqL.of hs, k.here S (.bl _) w⟩⟩
def rdAny : RDL := fun ds M q => ∃ d xs bs, ds = [d] ∧ (lstOf M d = some xs) ∧ bls xs = some bs ∧ q (.bl (bs.any id)) M
theorem cd_any (hc : X.calm = true) : CallD X (.builtin "any") rdAny := ⟨_, cr_any hc, fun H0 H M xs ds q Q S r w k => by
  obtain ⟨d, ys, bs, rfl, e, eb, w⟩ := w
  obtain ⟨v, rfl, rv⟩ := dnl1 r
  obtain ⟨a, vs, rfl, hs, rs⟩ := S.lst rv e
  have z := bls_dn rs eb
  subst z
  exact ⟨a, bs, rfl, SqL.of hs, k.here S (.bl _) w⟩⟩
/-- repr of plain data -/
def rReprD (K : PySem.W.Frag) : List V → Hp → VK → Prop := fun xs H Q => ∃ x d, xs = [x] ∧ Dp K H x d ∧ d.showable = true ∧ d.hasDict = false ∧ d.depth ≤ 100 ∧ d.shown.length ≤ sizeLine ∧ Q (.str d.shown) H
theorem call_reprD (hg : X.A.guards = some []) (hu : X.A.units + 200 < cLine) : CallR X (.builtin "repr") (rReprD X.K) := by
  intro pins s σ H xs us Q I r h
  obtain ⟨x, d, rfl, hd, hs, hh, hdp, hz, q⟩ := h
  obtain ⟨u, rfl, rx⟩ := vals1 r
  obtain ⟨as, rd⟩ := Dp.reads I d x u hd rx
  have fin : ∀ (h' : Heap) (t : Tok) (tk : Nat), (∀ b o, s.heap.get? b = some o → h'.get? b = some o) → EP X pins σ Q (.str d.shown t) { s with heap := h', toks := tk } := fun h' t tk k => ⟨.str d.shown, H, I.kept k, ⟨t, rfl⟩, q⟩
  cases hd with
  | non => cases rx; exact PySem.P.repr_of_none ⟨.str _, H, I.tok _, ⟨_, rfl⟩, q⟩
  | bl b => cases rx; exact PySem.P.repr_of_bool ⟨.str _, H, I.tok _, ⟨_, rfl⟩, q⟩
  | int i =>
    obtain ⟨t, rfl⟩ := rx
    exact PySem.P.repr_of_int (of_decide_eq_true hs) ⟨.str _, H, I.tok _, ⟨_, rfl⟩, q⟩
  | str z =>
    obtain ⟨t, rfl⟩ := rx
    exact PySem.P.repr_of_str (hsz := hz) ⟨.str _, H, I.tok _, ⟨_, rfl⟩, q⟩
  | lst _ _ => cases rx; exact repr_of_reads' rd hs (PyData.noDict_hsm hh) hg (by omega) (fun _ _ e => e) (fun h' t tk k => fin h' t tk k) hz
  | tup _ _ => cases rx; exact repr_of_reads' rd hs (PyData.noDict_hsm hh) hg (by omega) (fun _ _ e => e) (fun h' t tk k => fin h' t tk k) hz
/-- what may be shown -/
def showOk (p : PyData) : Prop := p.showable = true ∧ p.hasDict = false ∧ p.depth ≤ 100 ∧ p.shown.length ≤ sizeLine
def rdRepr : RDL := fun ds M q => ∃ d p, ds = [d] ∧ pyOf M d = some p ∧ showOk p ∧ q (.str p.shown) M
theorem cd_repr (hg : X.A.guards = some []) (hu : X.A.units + 200 < cLine) : CallD X (.builtin "repr") rdRepr := ⟨_, call_reprD hg hu, fun H0 H M xs ds q Q S r w k => by
  obtain ⟨d, p, rfl, e, ⟨z1, z2, z3, z4⟩, w⟩ := w
  obtain ⟨v, rfl, rv⟩ := dnl1 r
  exact ⟨v, p, rfl, S.py rv e, z1, z2, z3, z4, k.here S (.str _) w⟩⟩
end
section
variable {X : Cx} {W : WX}
def IxD (X : Cx) (rd : RD2) : Prop := ∃ r, IxR X r ∧ ∀ H0 H M x y dx dy q Q, SD X.K H0 H M → Dn X.K H0 x dx → Dn X.K H0 y dy → rd dx dy M q → KQ X.K H0 q Q → r x y H Q
theorem IxD.or {a b : RD2} (h : IxD X a) (h' : IxD X b) : IxD X (fun x y M q => a x y M q ∨ b x y M q) := by
  obtain ⟨r, o, z⟩ := h
  obtain ⟨r', o', z'⟩ := h'
  exact ⟨_, o.or o', fun H0 H M x y dx dy q Q S hx hy w k => w.elim (fun w => .inl (z H0 H M x y dx dy q Q S hx hy w k)) fun w => .inr (z' H0 H M x y dx dy q Q S hx hy w k)⟩
theorem IxD.imp {a b : RD2} (h : IxD X a) (i : ∀ x y M q, b x y M q → a x y M q) : IxD X b := by
  obtain ⟨r, o, z⟩ := h
  exact ⟨r, o, fun H0 H M x y dx dy q Q S hx hy w k => z H0 H M x y dx dy q Q S hx hy (i _ _ _ _ w) k⟩
theorem pd_ix {rd : RD2} {a b : Expr} {da db : DE} {pos : Pos} (ho : IxD X rd) (ha : PD X W a da) (hb : PD X W b db) (hs : PlainIx b) : PD X W (.Subscript a b pos) (dOp rd da db) := by
  obtain ⟨r, o, z⟩ := ho
  exact peImp (pe_ix o ha hb hs) (lift_op z)
theorem atI_dn {K : PySem.W.Frag} {H : Hp} {vs : List V} {ds : List D} {i : Int} {d : D} (r : DnL K H vs ds) (h : atI ds i = some d) : ∃ v, atI vs i = some v ∧ Dn K H v d := by
  unfold atI at h ⊢
  rw [r.length]
  cases e : ixN ds.length i with
  | none => rw [e] at h; cases h
  | some j =>
    rw [e] at h
    obtain ⟨v, e1, rv⟩ := r.get (show ds[j]? = some d from h)
    exact ⟨v, e1, rv⟩
def rdIxQ : RD2 := fun x y M q => ∃ xs i d, seqOf M x = some xs ∧ y = .int i ∧ atI xs i = some d ∧ q d M
def rdIxS : RD2 := fun x y M q => ∃ z i c, x = .str z ∧ y = .int i ∧ z.length ≤ sizeLine ∧ atI z.cps.toList i = some c ∧ q (.str ⟨#[c]⟩) M
def rdIx : RD2 := fun x y M q => match x with
  | .str z => rdIxS (.str z) y M q
  | x => rdIxQ x y M q
theorem ixd_q : IxD X rdIxQ := ⟨_, ix_list.or ix_tup, fun H0 H M x y dx dy q Q S hx hy w k => by
  obtain ⟨xs, i, d, e, rfl, ea, w⟩ := w
  cases hy
  obtain ⟨a, vs, rfl, hs, r⟩ := S.seq hx e
  obtain ⟨v, e1, rv⟩ := atI_dn r ea
  exact hs.elim (fun hs => .inl ⟨a, vs, i, v, rfl, rfl, hs, e1, k.here S rv w⟩) fun hs => .inr ⟨a, vs, i, v, rfl, rfl, hs, e1, k.here S rv w⟩⟩
theorem ixd_s : IxD X rdIxS := ⟨_, ix_str, fun H0 H M x y dx dy q Q S hx hy w k => by
  obtain ⟨z, i, c, rfl, rfl, z1, ea, w⟩ := w
  cases hx; cases hy
  exact ⟨z, i, c, rfl, rfl, z1, ea, k.here S (.str _) w⟩⟩
theorem ixd : IxD X rdIx := (ixd_s.or ixd_q).imp fun x y M q h => by
  cases x <;> first
    | exact .inl h
    | exact .inr h
/-- slices -/
abbrev DO := EnvD → Mem → (Option Int → Mem → Prop) → XD → Prop
def liftO (K : PySem.W.Frag) (W : WX) (dO : DO) : TO := fun σ H Q => ∃ env M q E H0, SlotOk K H0 σ env ∧ SD K H0 H M ∧ dO env M q E ∧ (∀ o H0' H' M', Ext H0 H0' → SD K H0' H' M' → q o M' → Q o H') ∧ KX K H0 E fun c d => W c d σ
def OD (X : Cx) (W : WX) (e : Option Expr) (d : DO) : Prop := PO X e (liftO X.K W d)
@[reducible] def dNo : DO := fun _ M q _ => q none M
@[reducible] def dPart (de : DE) : DO := fun env M q E => de env M (fun d M1 => ∃ i, d = .int i ∧ q (some i) M1) E
theorem poImp {e : Option Expr} {t t' : TO} (h : PO X e t) (i : ∀ σ H Q, t' σ H Q → t σ H Q) : PO X e t' := ⟨fun pins s σ H Q I q => h.run pins s σ H Q I (i σ H Q q)⟩
theorem od_no : OD X W none dNo := poImp po_none fun σ H Q ⟨env, M, q, E, H0, so, S, h, k, kx⟩ => k none H0 H M (Ext.refl H0) S h
theorem od_some {e : Expr} {de : DE} (h : PD X W e de) : OD X W (some e) (dPart de) := poImp (po_some h) fun σ H Q ⟨env, M, q, E, H0, so, S, h, k, kx⟩ =>
  goE so S h kx fun x dx H1 H' M1 e1 so1 S1 rx ⟨i, ei, w⟩ kx1 => by subst ei; exact ⟨i, rx.inv_int, k _ H1 H' M1 e1 S1 w⟩
theorem goO {K : PySem.W.Frag} {de : DO} {σ : L2.St} {H H0 : Hp} {env : EnvD} {M : Mem} {q : Option Int → Mem → Prop} {E : XD} {Q : Option Int → Hp → Prop} (so : SlotOk K H0 σ env) (S : SD K H0 H M) (h : de env M q E) (kx : KX K H0 E fun c d => W c d σ)
    (k : ∀ b H0' H' M', Ext H0 H0' → SlotOk K H0' σ env → SD K H0' H' M' → q b M' → (KX K H0' E fun c d => W c d σ) → Q b H') : liftO K W de σ H Q :=
  ⟨env, M, q, E, H0, so, S, h, fun b H0' H' M' e S' z => k b H0' H' M' e (so.mono e) S' z (kx.mono e), kx⟩
abbrev RDS := D → Option Int → Option Int → Mem → QD → Prop
def SlD (X : Cx) (rd : RDS) : Prop := ∃ r, SlR X r ∧ ∀ H0 H M x dx lo hi q Q, SD X.K H0 H M → Dn X.K H0 x dx → rd dx lo hi M q → KQ X.K H0 q Q → r x lo hi H Q
theorem SlD.or {a b : RDS} (h : SlD X a) (h' : SlD X b) : SlD X (fun x l u M q => a x l u M q ∨ b x l u M q) := by
  obtain ⟨r, o, z⟩ := h
  obtain ⟨r', o', z'⟩ := h'
  exact ⟨_, o.or o', fun H0 H M x dx l u q Q S hx w k => w.elim (fun w => .inl (z H0 H M x dx l u q Q S hx w k)) fun w => .inr (z' H0 H M x dx l u q Q S hx w k)⟩
theorem SlD.imp {a b : RDS} (h : SlD X a) (i : ∀ x l u M q, b x l u M q → a x l u M q) : SlD X b := by
  obtain ⟨r, o, z⟩ := h
  exact ⟨r, o, fun H0 H M x dx l u q Q S hx w k => z H0 H M x dx l u q Q S hx (i _ _ _ _ _ w) k⟩
@[reducible] def dSl (rd : RDS) (de : DE) (dl du : DO) : DE := fun env M q E => de env M (fun x M1 => dl env M1 (fun l M2 => du env M2 (fun u M3 => rd x l u M3 q) E) E) E
theorem pd_slice {rd : RDS} {e : Expr} {lo hi : Option Expr} {de : DE} {dl du : DO} {p2 pos : Pos} (hr : SlD X rd) (he : PD X W e de) (hl : OD X W lo dl) (hu : OD X W hi du) : PD X W (.Subscript e (.Slice lo hi none p2) pos) (dSl rd de dl du) := by
  obtain ⟨r, o, z⟩ := hr
  exact peImp (pe_slice o he hl hu) fun σ H Q ⟨env, M, q, E, H0, so, S, h, k, kx⟩ => goE so S h kx fun x dx H1 H' M1 e1 so1 S1 rx h1 kx1 => goO so1 S1 h1 kx1 fun l H2 H2' M2 e2 so2 S2 h2 kx2 => goO so2 S2 h2 kx2 fun u H3 H3' M3 e3 so3 S3 h3 kx3 =>
    z H3 H3' M3 x dx l u q Q S3 (rx.mono (e2.trans e3)) h3 (k.mono ((e1.trans e2).trans e3))
def cutD {α : Type} (xs : List α) (lo hi : Option Int) : List α := (xs.drop (HT.sIx xs.length 0 lo)).take (HT.sIx xs.length xs.length hi - HT.sIx xs.length 0 lo)
theorem cut_dn {K : PySem.W.Frag} {H : Hp} {vs : List V} {ds : List D} {lo hi : Option Int} (r : DnL K H vs ds) : DnL K H (cutV vs lo hi) (cutD ds lo hi) := by
  unfold cutV cutD
  rw [r.length]
  exact (r.drop _).take _
def rdSlL : RDS := fun x lo hi M q => ∃ xs, lsqOf M x = some xs ∧ q (.lst (cutD xs lo hi)) M
def rdSlT : RDS := fun x lo hi M q => ∃ xs, x = .tup xs ∧ q (.tup (cutD xs lo hi)) M
def rdSlS : RDS := fun x lo hi M q => ∃ z, x = .str z ∧ z.length ≤ sizeLine ∧ q (.str (cutS z lo hi)) M
def rdSl : RDS := fun x lo hi M q => match x with
  | .str z => z.length ≤ sizeLine ∧ q (.str (cutS z lo hi)) M
  | .tup xs => q (.tup (cutD xs lo hi)) M
  | x => ∃ xs, lsqOf M x = some xs ∧ q (.lst (cutD xs lo hi)) M
theorem sld_l : SlD X rdSlL := ⟨_, sl_list, fun H0 H M x dx lo hi q Q S hx w k => by
  obtain ⟨xs, e, w⟩ := w
  obtain ⟨a, vs, rfl, hs, r⟩ := S.lsq hx e
  exact ⟨a, vs, rfl, hs, k.newL S (cut_dn r) w⟩⟩
theorem whole_cut {α : Type} {xs : List α} {lo hi : Option Int} (h : HT.sIx xs.length 0 lo = 0 ∧ HT.sIx xs.length xs.length hi = xs.length) : cutD xs lo hi = xs := by
  unfold cutD
  rw [h.1, h.2]
  simp
theorem sld_t : SlD X rdSlT := ⟨_, sl_tupA, fun H0 H M x dx lo hi q Q S hx w k => by
  obtain ⟨xs, rfl, w⟩ := w
  cases hx with
  | tup h r =>
    refine ⟨_, _, rfl, S.ex.sqT h, fun c => ?_, fun _ => k.newT S (cut_dn r) w⟩
    rw [r.length] at c
    rw [whole_cut c] at w
    exact k.here S (.tup h r) w⟩
theorem sld_s : SlD X rdSlS := ⟨_, sl_str, fun H0 H M x dx lo hi q Q S hx w k => by
  obtain ⟨z, rfl, z1, w⟩ := w
  cases hx
  exact ⟨_, rfl, z1, k.here S (.str _) w⟩⟩
theorem sld : SlD X rdSl := (sld_l.or (sld_t.or sld_s)).imp fun x l u M q h => by
  cases x <;> first
    | exact .inr (.inr ⟨_, rfl, h.1, h.2⟩)
    | exact .inr (.inl ⟨_, rfl, h⟩)
    | exact .inl h
end
end DL
set_option maxRecDepth 100000
set_option maxHeartbeats 4000000
namespace DL
open PySem PySem.Spec PyProof.Rows L2
structure ItOk (K : PySem.W.Frag) (H0 : Hp) (J : It) (items : List D) (ok : Mem → Prop) : Prop where
  go : ∀ H0' H M i d, Ext H0 H0' → SD K H0' H M → ok M → items[i]? = some d → J.go i H ∧ ∀ x H', J.yld i H x H' → ∃ H2, Ext H0' H2 ∧ SD K H2 H' M ∧ Dn K H2 x d
  stop : ∀ H0' H M i, Ext H0 H0' → SD K H0' H M → ok M → items.length ≤ i → J.stop i H
abbrev DI := EnvD → Mem → (List D → (Mem → Prop) → Mem → Prop) → XD → Prop
def liftI (K : PySem.W.Frag) (W : WX) (di : DI) : TI := fun σ H R => ∃ env M q E H0, SlotOk K H0 σ env ∧ SD K H0 H M ∧ di env M q E ∧
  (∀ J items ok H0' H' M', Ext H0 H0' → SD K H0' H' M' → ItOk K H0' J items ok → q items ok M' → R J H') ∧ KX K H0 E fun c d => W c d σ
def ID (X : Cx) (W : WX) (tg it : Expr) (di : DI) : Prop := PI X tg it (liftI X.K W di)
theorem piImp {X : Cx} {tg e : Expr} {t t' : TI} (h : PI X tg e t) (i : ∀ σ H Q, t' σ H Q → t σ H Q) : PI X tg e t' := ⟨fun pins s σ H Q I q => h.run pins s σ H Q I (i σ H Q q)⟩
theorem goI {K : PySem.W.Frag} {W : WX} {di : DI} {σ : L2.St} {H H0 : Hp} {env : EnvD} {M : Mem} {q : List D → (Mem → Prop) → Mem → Prop} {E : XD} {R : It → Hp → Prop} (so : SlotOk K H0 σ env) (S : SD K H0 H M) (h : di env M q E) (kx : KX K H0 E fun c d => W c d σ)
    (k : ∀ J items ok H0' H' M', Ext H0 H0' → SlotOk K H0' σ env → SD K H0' H' M' → ItOk K H0' J items ok → q items ok M' → (KX K H0' E fun c d => W c d σ) → R J H') : liftI K W di σ H R :=
  ⟨env, M, q, E, H0, so, S, h, fun J items ok H0' H' M' e S' z w => k J items ok H0' H' M' e (so.mono e) S' z w (kx.mono e), kx⟩
/-- a list or a tuple -/
def iSeq (K : PySem.W.Frag) (tl : TE) : TI := fun σ H R => tl σ H fun x H1 => ∃ a, x = .ref a ∧ (((∃ xs, SqL K H1 a xs) ∧ R (Itl K a) H1) ∨ ((∃ xs, SqT K H1 a xs) ∧ R (Itt K a) H1))
section
variable {X : Cx} {W : WX} {tg : Expr}
theorem pi_seq {l : Expr} {tl : TE} (hl : PE X l tl) : PI X tg l (iSeq X.K tl) := by
  constructor
  intro pins s σ H R I h
  refine wpAny_mono (hl.run pins s σ H _ I h) (fun v s1 hh => ?_) fun _ _ z => z
  obtain ⟨x, H1, J1, rx, a, ex, cs⟩ := hh
  subst ex
  obtain rfl : v = Value.ref a := rx
  have fp : ∀ o : Obj, ∀ b ∈ [s1.heap.objs.size], FpOk X pins H1 b := fun o b hb => by
    obtain rfl : b = s1.heap.objs.size := by simpa using hb
    exact J1.fpOk (Nat.le_refl _) (J1.hok.fresh (Nat.le_refl _))
  rcases cs with ⟨⟨xs, hq⟩, q⟩ | ⟨⟨xs, hq⟩, q⟩
  · obtain ⟨its, _, pl, _⟩ := J1.list hq
    refine wpAny_pyIter_list pl.isList ⟨_, [_], _, _, H1, rfl, J1.kept (t' := s1.toks) (fun b o e => Heap.get?_push_of_some _ e), turn_list a _, ⟨_, Heap.get?_push_size _ rfl, rfl, rfl⟩, ?_, q⟩
    exact fp default
  · obtain ⟨its, _, pl, _⟩ := J1.tuple hq
    refine wpAny_pyIter_tuple (show s1.heap.IsTuple a its.toArray from pl) ⟨_, [_], _, _, H1, rfl, J1.kept (t' := s1.toks) (fun b o e => Heap.get?_push_of_some _ e), turn_tuple a _, ⟨_, Heap.get?_push_size _ rfl, rfl, rfl⟩, ?_, q⟩
    exact fp default
@[reducible] def dIter (de : DE) : DI := fun env M q E => de env M (fun d M1 => ∃ xs, seqOf M1 d = some xs ∧ q xs (fun M' => seqOf M' d = some xs) M1) E
theorem itl_ok {K : PySem.W.Frag} {H0 : Hp} {a : Addr} {d : D} {xs : List D} (hd : Dn K H0 (.ref a) d) (hl : ∀ H0' H M, Ext H0 H0' → SD K H0' H M → seqOf M d = some xs → ∃ vs, SqL K H a vs ∧ DnL K H0' vs xs) : ItOk K H0 (Itl K a) xs (fun M => seqOf M d = some xs) where
  go := fun H0' H M i y e S ok hi => by
    obtain ⟨vs, hs, r⟩ := hl H0' H M e S ok
    obtain ⟨v, hv, rv⟩ := r.get hi
    exact ⟨⟨vs, v, hs, hv⟩, fun x H' ⟨e1, e2⟩ => by
      subst e1
      have := e2 vs hs
      rw [hv] at this
      cases this
      exact ⟨H0', Ext.refl _, S, rv⟩⟩
  stop := fun H0' H M i e S ok hi => by
    obtain ⟨vs, hs, r⟩ := hl H0' H M e S ok
    exact ⟨vs, hs, by rw [r.length]; exact hi⟩
theorem itt_ok {K : PySem.W.Frag} {H0 : Hp} {a : Addr} {xs : List D} {vs : List V} (h : SqT K H0 a vs) (r : DnL K H0 vs xs) (ok : Mem → Prop) : ItOk K H0 (Itt K a) xs ok where
  go := fun H0' H M i y e S _ hi => by
    obtain ⟨v, hv, rv⟩ := r.get hi
    have hs : SqT K H a vs := (e.trans S.ex).sqT h
    exact ⟨⟨vs, v, hs, hv⟩, fun x H' ⟨e1, e2⟩ => by
      subst e1
      have := e2 vs hs
      rw [hv] at this
      cases this
      exact ⟨H0', Ext.refl _, S, rv.mono e⟩⟩
  stop := fun H0' H M i e S _ hi => ⟨vs, (e.trans S.ex).sqT h, by rw [r.length]; exact hi⟩
theorem id_seq {e : Expr} {de : DE} (h : PD X W e de) : ID X W tg e (dIter de) := piImp (pi_seq h) fun σ H R ⟨env, M, q, E, H0, so, S, h, k, kx⟩ =>
  goE so S h kx fun x dx H1 H' M1 e1 so1 S1 rx ⟨xs, ex, w⟩ kx1 => by
    have fin : ∀ J ok, ItOk X.K H1 J xs ok → q xs ok M1 → R J H' := fun J ok z w => k J xs ok H1 H' M1 e1 S1 z w
    cases rx with
    | lst hh r =>
      cases ex
      exact ⟨_, rfl, .inl ⟨⟨_, SqL.of (S1.ex _ _ hh)⟩, fin _ _ (itl_ok (.lst hh r) fun H0' H M e S _ => ⟨_, SqL.of (S.ex _ _ (e _ _ hh)), r.mono e⟩) w⟩⟩
    | lsf hh r =>
      cases ex
      exact ⟨_, rfl, .inl ⟨⟨_, S1.ex.sqL hh⟩, fin _ _ (itl_ok (.lsf hh r) fun H0' H M e S _ => ⟨_, (e.trans S.ex).sqL hh, r.mono e⟩) w⟩⟩
    | tup hh r =>
      cases ex
      exact ⟨_, rfl, .inr ⟨⟨_, S1.ex.sqT hh⟩, fin _ _ (itt_ok hh r _) w⟩⟩
    | cel c =>
      obtain ⟨_, vs, e2, r⟩ := S1.cell c xs (celL_eq ex)
      exact ⟨_, rfl, .inl ⟨⟨vs, SqL.of e2⟩, fin _ _ (itl_ok (.cel c) fun H0' H M e S ok => by
        obtain ⟨_, ws, e3, r3⟩ := S.cell c xs (celL_eq ok)
        exact ⟨ws, SqL.of e3, r3⟩) w⟩⟩
    | _ => cases ex
/-- range(n), range(a, b) -/
def rngD (lo : Int) (n : Nat) : List D := (List.range n).map fun i => D.int (lo + (i : Nat))
theorem itr_ok {K : PySem.W.Frag} {H0 : Hp} {lo : Int} {n : Nat} (ok : Mem → Prop) : ItOk K H0 (Itr lo n) (rngD lo n) ok where
  go := fun H0' H M i y e S _ hi => by
    unfold rngD at hi
    rw [List.getElem?_map] at hi
    obtain ⟨j, hj, rfl⟩ := omap hi
    have hj2 := List.getElem?_eq_some_iff.mp hj
    obtain ⟨h1, h2⟩ := hj2
    rw [List.length_range] at h1
    rw [List.getElem_range] at h2
    subst h2
    exact ⟨h1, fun x H' ⟨e1, e2⟩ => by subst e1 e2; exact ⟨H0', Ext.refl _, S, .int _⟩⟩
  stop := fun H0' H M i e S _ hi => by
    unfold rngD at hi
    rw [List.length_map, List.length_range] at hi
    exact hi
@[reducible] def dRng1 (da : DA) : DI := fun env M q E => da env M (fun ds M1 => ∃ j : Int, ds = [.int j] ∧ (-(2 ^ 62) ≤ j ∧ j < 2 ^ 62) ∧ q (rngD 0 j.toNat) (fun _ => True) M1) E
theorem id_rng1 {a : Expr} {da : DA} {p pos : Pos} (hg : Gl X "range") (hm : X.mg "range" = none) (ha : AD X W [a] da) (hs : starEach [a] X.env = [(false, eval a X.env)] := by rfl) : ID X W tg (.Call (.Name "range" p) [a] [] pos) (dRng1 da) :=
  piImp (pi_range1 hg hm ha hs) fun σ H R ⟨env, M, q, E, H0, so, S, h, k, kx⟩ => goA so S h kx fun xs ds H1 H' M1 e1 so1 S1 rs ⟨j, ej, b, w⟩ kx1 => by
    subst ej
    obtain ⟨v, rfl, rv⟩ := dnl1 rs
    cases rv
    exact ⟨j, rfl, b.1, b.2, k _ _ _ H1 H' M1 e1 S1 (itr_ok _) w⟩
/-- a text, sign by sign -/
def strD (x : Str) : List D := x.cps.toList.map fun c => D.str ⟨#[c]⟩
theorem its_ok {K : PySem.W.Frag} {H0 : Hp} {x : Str} (ok : Mem → Prop) : ItOk K H0 (Its x) (strD x) ok where
  go := fun H0' H M i y e S _ hi => by
    unfold strD at hi
    rw [List.getElem?_map] at hi
    obtain ⟨c, hc, rfl⟩ := omap hi
    have hc' : x.cps[i]? = some c := by simpa using hc
    have hlt : i < x.cps.size := (Array.getElem?_eq_some_iff.mp hc').1
    exact ⟨hlt, fun v H' ⟨e1, c', e2, e3⟩ => by
      subst e1
      rw [hc'] at e2
      cases e2
      subst e3
      exact ⟨H0', Ext.refl _, S, .str _⟩⟩
  stop := fun H0' H M i e S _ hi => by
    unfold strD at hi
    rw [List.length_map] at hi
    show x.cps.size ≤ i
    simpa using hi
@[reducible] def dIterS (de : DE) : DI := fun env M q E => de env M (fun d M1 => ∃ x, d = .str x ∧ q (strD x) (fun _ => True) M1) E
theorem id_str {e : Expr} {de : DE} (h : PD X W e de) : ID X W tg e (dIterS de) := piImp (pi_str h) fun σ H R ⟨env, M, q, E, H0, so, S, h, k, kx⟩ =>
  goE so S h kx fun x dx H1 H' M1 e1 so1 S1 rx ⟨z, ez, w⟩ kx1 => by subst ez; exact ⟨z, rx.inv_str, k _ _ _ H1 H' M1 e1 S1 (its_ok _) w⟩
end
/-- the memory without a cell -/
def mdel (M : Mem) (c : Addr) : Mem := fun b => if b = c then none else M b
theorem mdel_mset {M : Mem} {c : Addr} {xs : Cel} (h : M c = none) : mdel (mset M c xs) c = M := by
  funext b
  unfold mdel
  by_cases e : b = c
  · subst e; rw [if_pos rfl, h]
  · rw [if_neg e, mset_ne e]
/-- exceptions at the slots as they are then -/
def KXE (K : PySem.W.Frag) (H0 : Hp) (ex : EnvD → XD) (W : WX) : Prop := ∀ H1 σ' env', Ext H0 H1 → SlotOk K H1 σ' env' → KX K H1 (ex env') fun c d => W c d σ'
theorem KXE.mono {K : PySem.W.Frag} {H0 H1 : Hp} {ex : EnvD → XD} {W : WX} (h : KXE K H0 ex W) (e : Ext H0 H1) : KXE K H1 ex W := fun H2 σ env e2 => h H2 σ env (e.trans e2)
theorem KXE.at {K : PySem.W.Frag} {H0 : Hp} {ex : EnvD → XD} {W : WX} (h : KXE K H0 ex W) {σ : L2.St} {env : EnvD} (so : SlotOk K H0 σ env) : KX K H0 (ex env) fun c d => W c d σ := h H0 σ env (Ext.refl H0) so
abbrev GD := D → EnvD → Mem → (EnvD → Mem → Prop) → (EnvD → XD) → Prop
abbrev GDs := List D → EnvD → Mem → (EnvD → Mem → Prop) → (EnvD → XD) → Prop
def KN (K : PySem.W.Frag) (H0 : Hp) (q : EnvD → Mem → Prop) (Q : L2.St → Hp → Prop) : Prop := ∀ σ' env' H0' H' M', Ext H0 H0' → SlotOk K H0' σ' env' → SD K H0' H' M' → q env' M' → Q σ' H'
theorem KN.mono {K : PySem.W.Frag} {H0 H1 : Hp} {q : EnvD → Mem → Prop} {Q : L2.St → Hp → Prop} (h : KN K H0 q Q) (e : Ext H0 H1) : KN K H1 q Q := fun σ env _ _ _ e2 => h σ env _ _ _ (e.trans e2)
def liftG (K : PySem.W.Frag) (W : WX) (gd : GD) : TG := fun v σ H Q => ∃ d env M q ex H0, Dn K H0 v d ∧ SlotOk K H0 σ env ∧ SD K H0 H M ∧ gd d env M q ex ∧ KN K H0 q Q ∧ KXE K H0 ex W
def liftGs (K : PySem.W.Frag) (W : WX) (gd : GDs) : TGs := fun vs σ H Q => ∃ ds env M q ex H0, DnL K H0 vs ds ∧ SlotOk K H0 σ env ∧ SD K H0 H M ∧ gd ds env M q ex ∧ KN K H0 q Q ∧ KXE K H0 ex W
def TgD (X : Cx) (W : WX) (e : Expr) (gd : GD) : Prop := PG X e (liftG X.K W gd)
def TgsD (X : Cx) (W : WX) (es : List Expr) (gd : GDs) : Prop := PGs X es (liftGs X.K W gd)
theorem pgImp {X : Cx} {e : Expr} {t t' : TG} (h : PG X e t) (i : ∀ v σ H Q, t' v σ H Q → t v σ H Q) : PG X e t' := ⟨fun pins s σ H v u Q I r q => h.run pins s σ H v u Q I r (i v σ H Q q)⟩
theorem pgsImp {X : Cx} {e : List Expr} {t t' : TGs} (h : PGs X e t) (i : ∀ v σ H Q, t' v σ H Q → t v σ H Q) : PGs X e t' := ⟨fun pins s σ H v u Q I r q => h.run pins s σ H v u Q I r (i v σ H Q q)⟩
section
variable {X : Cx} {W : WX}
@[reducible] def gdName (i : Nat) : GD := fun d env M q _ => q (env.set i (some d)) M
theorem gd_name {i : Nat} {x : Str} {pos : Pos} (hN : X.N.Nodup) (hi : X.N[i]? = some x := by rfl) (hx : Loc X.env.scope x := by first | exact Or.inl rfl | exact Or.inr rfl) (hf : X.fn x = true ∨ X.env.scope.names.lookup x = some .local := by first | exact .inl rfl | exact .inr rfl) :
    TgD X W (.Name x pos) (gdName i) := pgImp (pg_name hN hi hx hf) fun v σ H Q ⟨d, env, M, q, ex, H0, r, so, S, h, k, kx⟩ => k _ _ H0 H M (Ext.refl H0) (so.set i r) S h
@[reducible] def gdNil : GDs := fun ds env M q _ => ds = [] ∧ q env M
@[reducible] def gdCons (g : GD) (u : GDs) : GDs := fun ds env M q ex => ∃ d r, ds = d :: r ∧ g d env M (fun env' M' => u r env' M' q ex) ex
theorem gds_nil : TgsD X W [] gdNil := pgsImp pgs_nil fun v σ H Q ⟨ds, env, M, q, ex, H0, r, so, S, ⟨e, h⟩, k, kx⟩ => by
  subst e
  cases r
  exact ⟨rfl, k _ _ H0 H M (Ext.refl H0) so S h⟩
theorem gds_cons {e : Expr} {es : List Expr} {g : GD} {u : GDs} (h1 : TgD X W e g) (h2 : TgsD X W es u) (hs : (assignEach (e :: es) X.env).map (·.2) = assign e X.env :: (assignEach es X.env).map (·.2) := by rfl) : TgsD X W (e :: es) (gdCons g u) :=
  pgsImp (pgs_cons h1 h2 hs) fun v σ H Q ⟨ds, env, M, q, ex, H0, r, so, S, ⟨d, dr, e, h⟩, k, kx⟩ => by
    subst e
    cases r with
    | cons r rr => exact ⟨_, _, rfl, d, env, M, _, ex, H0, r, so, S, h, fun σ' env' H1 H' M' e1 so1 S1 w => ⟨dr, env', M', q, ex, H1, rr.mono e1, so1, S1, w, k.mono e1, kx.mono e1⟩, kx⟩
@[reducible] def gdTup (n : Nat) (u : GDs) : GD := fun d env M q ex => ∃ xs, d = .tup xs ∧ xs.length = n ∧ u xs env M q ex
@[reducible] def gdLst (n : Nat) (u : GDs) : GD := fun d env M q ex => ∃ xs, lsqOf M d = some xs ∧ xs.length = n ∧ u xs env M q ex
theorem gd_tup {es : List Expr} {k : Nat} {u : GDs} {n : Nat} {pos : Pos} (hc : X.calm = true) (h : TgsD X W es u) (hn : (assignEach es X.env).length = n := by rfl) (hst : (assignEach es X.env).findIdx? (·.1) = none := by rfl) : TgD X W (.Tuple es k pos) (gdTup n u) :=
  pgImp (pg_tup hc h hn hst) fun v σ H Q ⟨d, env, M, q, ex, H0, r, so, S, ⟨xs, e, hl, h⟩, k, kx⟩ => by
    subst e
    cases r with
    | tup hh rr => exact ⟨_, _, rfl, S.ex.sqT hh, by rw [rr.length]; exact hl, xs, env, M, q, ex, H0, rr, so, S, h, k, kx⟩
theorem gd_lst {es : List Expr} {k : Nat} {u : GDs} {n : Nat} {pos : Pos} (hc : X.calm = true) (h : TgsD X W es u) (hn : (assignEach es X.env).length = n := by rfl) (hst : (assignEach es X.env).findIdx? (·.1) = none := by rfl) : TgD X W (.Tuple es k pos) (gdLst n u) :=
  pgImp (pg_unl hc h hn hst) fun v σ H Q ⟨d, env, M, q, ex, H0, r, so, S, ⟨xs, e, hl, h⟩, k, kx⟩ => by
    obtain ⟨a, vs, rfl, hs, rr⟩ := S.lsq r e
    exact ⟨a, vs, rfl, hs, by rw [rr.length]; exact hl, xs, env, M, q, ex, H0, rr, so, S, h, k, kx⟩
/-- cell[i] = v -/
@[reducible] def gdSub (do_ di : DE) : GD := fun d env M q ex => do_ env M (fun o M1 => di env M1 (fun i M2 => ∃ c xs k j, o = .cel c ∧ i = .int k ∧ M2 c = some (.ls xs) ∧ ixN xs.length k = some j ∧ q env (mset M2 c (.ls (xs.set j d)))) (ex env)) (ex env)
theorem gd_sub {o i : Expr} {do_ di : DE} {pos : Pos} (ho : PD X W o do_) (hi : PD X W i di)
    (ha : ∀ v, assign (.Subscript o i pos) X.env v = (do let ov ← holding [v] (eval o X.env); let iv ← holding [v, ov] (eval i X.env); standAt pos; holding [v, ov, iv] (setItem ov iv v); release [v, ov, iv] []) := by intro _; rfl) : TgD X W (.Subscript o i pos) (gdSub do_ di) :=
  pgImp (pg_sub ho hi set_list ha) fun v σ H Q ⟨d, env, M, q, ex, H0, r, so, S, h, k, kx⟩ =>
    goE so S h (kx.at so) fun x dx H1 H' M1 e1 so1 S1 rx h1 kx1 => goE so1 S1 h1 kx1 fun y dy H2 H'' M2 e2 so2 S2 ry ⟨c, xs, kk, j, ec, ei, em, ej, w⟩ kx2 => by
      subst ec ei
      cases rx
      cases ry
      obtain ⟨n0, vs, hv, rs⟩ := S2.cell c xs em
      refine ⟨c, vs, kk, j, rfl, rfl, hv, by rw [rs.length]; exact ej, ?_⟩
      exact k _ _ H2 _ _ (e1.trans e2) so2 (S2.write em (rs.set j (r.mono (e1.trans e2)))) w
end
structure EndD where
  nx : EnvD → Mem → Prop
  rt : QD
  bk : EnvD → Mem → Prop := fun _ _ => False
  ct : EnvD → Mem → Prop := fun _ _ => False
  ex : EnvD → XD := fun _ _ _ _ _ => False
abbrev DS := EndD → EnvD → Mem → Prop
structure KE (K : PySem.W.Frag) (H0 : Hp) (W : WX) (d : EndD) (D : Ends) : Prop where
  nx : KN K H0 d.nx D.nx
  rt : KQ K H0 d.rt D.rt
  bk : KN K H0 d.bk D.bk
  ct : KN K H0 d.ct D.ct
  ex : KXE K H0 d.ex W
theorem KE.mono {K : PySem.W.Frag} {H0 H1 : Hp} {W : WX} {d : EndD} {D : Ends} (h : KE K H0 W d D) (e : Ext H0 H1) : KE K H1 W d D := ⟨h.nx.mono e, h.rt.mono e, h.bk.mono e, h.ct.mono e, h.ex.mono e⟩
def liftS (K : PySem.W.Frag) (W : WX) (ds : DS) : TS := fun D σ H => ∃ env M d H0, SlotOk K H0 σ env ∧ SD K H0 H M ∧ ds d env M ∧ KE K H0 W d D
def SDt (X : Cx) (W : WX) (st : Stmt) (ds : DS) : Prop := PS X st (liftS X.K W ds)
def BD (X : Cx) (W : WX) (sts : List Stmt) (ds : DS) : Prop := PSs X sts (liftS X.K W ds)
section
variable {X : Cx} {W : WX}
@[reducible] def dNext : DS := fun d env M => d.nx env M
@[reducible] def dSeq (a b : DS) : DS := fun d env M => a { d with nx := fun env' M' => b d env' M' } env M
theorem bd_nil : BD X W [] dNext := pssImp pss_nil fun D σ H ⟨env, M, d, H0, so, S, h, k⟩ => k.nx _ _ H0 H M (Ext.refl H0) so S h
theorem bd_cons {st : Stmt} {r : List Stmt} {a b : DS} (h1 : SDt X W st a) (h2 : BD X W r b) : BD X W (st :: r) (dSeq a b) := pssImp (pss_cons h1 h2) fun D σ H ⟨env, M, d, H0, so, S, h, k⟩ =>
  ⟨env, M, _, H0, so, S, h, ⟨fun σ' env' H1 H' M' e so' S' w => ⟨env', M', d, H1, so', S', w, k.mono e⟩, k.rt, k.bk, k.ct, k.ex⟩⟩
theorem bd_one {st : Stmt} {a : DS} (h1 : SDt X W st a) : BD X W [st] a := pss_one h1
@[reducible] def dExp (de : DE) : DS := fun d env M => de env M (fun _ M' => d.nx env M') (d.ex env)
theorem sd_expr {e : Expr} {de : DE} {pos : Pos} (h : PD X W e de) (hs : swapsWith e none pos.line X.env = pure false := by rfl) : SDt X W (.Expr e pos) (dExp de) := psImp (ps_expr h hs) fun D σ H ⟨env, M, d, H0, so, S, h, k⟩ =>
  goE so S h (k.ex.at so) fun x dx H1 H' M1 e1 so1 S1 rx w kx1 => k.nx _ _ H1 H' M1 e1 so1 S1 w
@[reducible] def dRet (de : DE) : DS := fun d env M => de env M d.rt (d.ex env)
theorem sd_ret {e : Expr} {de : DE} {pos : Pos} (h : PD X W e de) : SDt X W (.Return (some e) pos) (dRet de) := psImp (ps_ret h) fun D σ H ⟨env, M, d, H0, so, S, h, k⟩ =>
  goE so S h (k.ex.at so) fun x dx H1 H' M1 e1 so1 S1 rx w kx1 => k.rt _ _ H1 H' M1 e1 S1 rx w
/-- a list that changed till now is handed back: it changes no more -/
@[reducible] def dRetF (de : DE) : DS := fun d env M => de env M (fun x M1 => ∃ c xs, x = .cel c ∧ M1 c = some (.ls xs) ∧ d.rt (.lst xs) (mdel M1 c)) (d.ex env)
theorem SD.freeze {K : PySem.W.Frag} {H0 H : Hp} {M : Mem} {c : Addr} {xs : List D} (S : SD K H0 H M) (h : M c = some (.ls xs)) : ∃ vs, H c = some (.lst vs) ∧ H0 c = none ∧ SD K (upd H0 c (.lst vs)) H (mdel M c) ∧ Dn K (upd H0 c (.lst vs)) (.ref c) (.lst xs) := by
  obtain ⟨n0, vs, e1, r⟩ := S.cell c xs h
  refine ⟨vs, e1, n0, ⟨fun a o q => ?_, fun b ys q => ?_⟩, .lst upd_same (r.mono (Ext.add n0))⟩
  · by_cases z : a = c
    · subst z; rw [upd_same] at q; cases q; exact e1
    · rw [upd_ne z] at q; exact S.ex a o q
  · unfold mdel at q
    by_cases z : b = c
    · rw [if_pos z] at q; cases q
    · rw [if_neg z] at q
      obtain ⟨n1, ok⟩ := S.any b ys q
      exact ⟨by rw [upd_ne z]; exact n1, ok.same (Ext.add n0) rfl⟩
theorem sd_retF {e : Expr} {de : DE} {pos : Pos} (h : PD X W e de) : SDt X W (.Return (some e) pos) (dRetF de) := psImp (ps_ret h) fun D σ H ⟨env, M, d, H0, so, S, h, k⟩ =>
  goE so S h (k.ex.at so) fun x dx H1 H' M1 e1 so1 S1 rx ⟨c, xs, ec, em, w⟩ kx1 => by
    subst ec
    cases rx
    obtain ⟨vs, _, n0, S2, r2⟩ := S1.freeze em
    exact k.rt _ _ _ H' _ (e1.trans (Ext.add n0)) S2 r2 w
@[reducible] def dIfS (t : DT) (a b : DS) : DS := fun d env M => t env M (fun c M1 => if c = true then a d env M1 else b d env M1) (d.ex env)
theorem sd_if {c : Expr} {a b : List Stmt} {dt : DT} {da db : DS} {pos : Pos} (hc : TD X W c dt) (ha : BD X W a da) (hb : BD X W b db) : SDt X W (.If c a b pos) (dIfS dt da db) := psImp (ps_if hc ha hb) fun D σ H ⟨env, M, d, H0, so, S, h, k⟩ =>
  goT so S h (k.ex.at so) fun c H1 H' M1 e1 so1 S1 w kx1 => by
    cases c with
    | true => exact iteT ⟨env, M1, d, H1, so1, S1, w, k.mono e1⟩
    | false => exact iteF ⟨env, M1, d, H1, so1, S1, w, k.mono e1⟩
@[reducible] def dAsg (de : DE) (g : GD) : DS := fun d env M => de env M (fun x M1 => g x env M1 d.nx d.ex) (d.ex env)
theorem sd_asg {tg e : Expr} {de : DE} {g : GD} {pos : Pos} (he : PD X W e de) (hg : TgD X W tg g) (hs : swapsWithSole [tg] e pos.line X.env = pure false := by rfl) (hw : swappedStores [tg] e X.env = pure none := by rfl)
    (h1 : (assignEach [tg] X.env).map (·.2) = [assign tg X.env] := by rfl) : SDt X W (.Assign [tg] e pos) (dAsg de g) := psImp (ps_asg he hg hs hw h1) fun D σ H ⟨env, M, d, H0, so, S, h, k⟩ =>
  goE so S h (k.ex.at so) fun x dx H1 H' M1 e1 so1 S1 rx w kx1 => ⟨dx, env, M1, d.nx, d.ex, H1, rx, so1, S1, w, k.nx.mono e1, k.ex.mono e1⟩
@[reducible] def dSet (i : Nat) (de : DE) : DS := fun d env M => de env M (fun x M1 => d.nx (env.set i (some x)) M1) (d.ex env)
theorem sd_set (i : Nat) {x : Str} {e : Expr} {de : DE} {pos pos' : Pos} (hN : X.N.Nodup) (he : PD X W e de) (hi : X.N[i]? = some x := by rfl) (hx : Loc X.env.scope x := by first | exact Or.inl rfl | exact Or.inr rfl) (hs : swapsWith e (some (.Name x pos')) pos.line X.env = pure false := by rfl)
    (hf : X.fn x = true ∨ X.env.scope.names.lookup x = some .local := by first | exact .inl rfl | exact .inr rfl) : SDt X W (.Assign [.Name x pos'] e pos) (dSet i de) := psImp (ps_set hN hi hx he hs hf) fun D σ H ⟨env, M, d, H0, so, S, h, k⟩ =>
  goE so S h (k.ex.at so) fun x dx H1 H' M1 e1 so1 S1 rx w kx1 => k.nx _ _ H1 H' M1 e1 (so1.set i rx) S1 w
def forW (ok : Mem → Prop) (g : GD) (body : DS) (d : EndD) : List D → EnvD → Mem → Prop
  | [], env, M => ok M ∧ d.nx env M
  | x :: r, env, M => ok M ∧ g x env M (fun env' M' => body { d with nx := forW ok g body d r, ct := forW ok g body d r, bk := d.nx } env' M') d.ex
@[reducible] def dFor (di : DI) (g : GD) (body : DS) : DS := fun d env M => di env M (fun items ok M1 => forW ok g body d items env M1) (d.ex env)
theorem sd_for {tg it : Expr} {body : List Stmt} {di : DI} {g : GD} {db : DS} {pos : Pos} (hp : PassesOwn (model X.prog X.w) X.A X.env X.xe) (hc : X.calm = true) (hi : ID X W tg it di) (hg : TgD X W tg g) (hb : BD X W body db)
    (hs : ∀ x, foldedSetIterable it X.env x = pure x := by intro _; rfl) : SDt X W (.For tg it body [] pos) (dFor di g db) := psImp (ps_for hp hc hi hg hb hs) fun D σ H ⟨env, M, d, H0, so, S, h, k⟩ =>
  goI so S h (k.ex.at so) fun J items ok H1 H' M1 e1 so1 S1 io w kx1 => by
    refine ⟨fun i m σ2 H2 => m = items.length - i ∧ i ≤ items.length ∧ ∃ env2 M2 H3, Ext H1 H3 ∧ SlotOk X.K H3 σ2 env2 ∧ SD X.K H3 H2 M2 ∧ forW ok g db d (items.drop i) env2 M2, ⟨_, rfl, Nat.zero_le _, env, M1, H1, Ext.refl _, so1, S1, w⟩, ?_⟩
    rintro i m σ2 H2 ⟨rfl, hi2, env2, M2, H3, e3, so3, S3, w3⟩
    by_cases hlt : i < items.length
    · have hx : items[i]? = some items[i] := List.getElem?_eq_getElem hlt
      rw [List.drop_eq_getElem_cons hlt] at w3
      obtain ⟨o3, w3⟩ := w3
      obtain ⟨g1, g2⟩ := io.go H3 H2 M2 i _ e3 S3 o3 hx
      refine .inr ⟨g1, fun σ4 H4 => ∃ env4 M4 H5, Ext H1 H5 ∧ SlotOk X.K H5 σ4 env4 ∧ SD X.K H5 H4 M4 ∧ forW ok g db d (items.drop (i + 1)) env4 M4, fun σ4 H4 z => ⟨items.length - (i + 1), by omega, rfl, hlt, z⟩, fun x H4 y => ?_⟩
      obtain ⟨H5, e5, S5, r5⟩ := g2 x H4 y
      refine ⟨_, env2, M2, _, d.ex, H5, r5, so3.mono e5, S5, w3, fun σ6 env6 H6 H6' M6 e6 so6 S6 w6 => ?_, k.ex.mono ((e1.trans e3).trans e5)⟩
      have e16 : Ext H1 H6 := (e3.trans e5).trans e6
      refine ⟨env6, M6, _, H6, so6, S6, w6, ⟨fun σ7 env7 H7 H7' M7 e7 so7 S7 w7 => ⟨env7, M7, H7, e16.trans e7, so7, S7, w7⟩, k.rt.mono (e1.trans e16), k.nx.mono (e1.trans e16), fun σ7 env7 H7 H7' M7 e7 so7 S7 w7 => ⟨env7, M7, H7, e16.trans e7, so7, S7, w7⟩, k.ex.mono (e1.trans e16)⟩⟩
    · have hge : items.length ≤ i := Nat.le_of_not_lt hlt
      rw [List.drop_eq_nil_of_le hge] at w3
      exact .inl ⟨io.stop H3 H2 M2 i e3 S3 w3.1 hge, k.nx _ _ H3 H2 M2 (e1.trans e3) so3 S3 w3.2⟩
end
/-- the slots of the block's own names forgotten -/
def wipeD (env : EnvD) : List Nat → EnvD
  | [] => env
  | i :: r => (wipeD env r).set i none
def noX : XD := fun _ _ _ _ => False
/-- the turns of a comprehension; c the cell that grows -/
def lcW (ok : Mem → Prop) (g : GD) (t : DT) (de : DE) (env : EnvD) (q : QD) (c : Addr) : List D → Mem → Prop
  | [], M => ok M ∧ ∃ xs, M c = some (.ls xs) ∧ q (.lst xs) (mdel M c)
  | x :: r, M => ok M ∧ g x env M (fun env' M' => t env' M' (fun b M2 => if b = true then de env' M2 (fun y M3 => ∃ xs, M3 c = some (.ls xs) ∧ xs.length < sizeLine ∧ lcW ok g t de env q c r (mset M3 c (.ls (xs ++ [y])))) noX else lcW ok g t de env q c r M2) noX) (fun _ => noX)
@[reducible] def dLc (di : DI) (g : GD) (t : DT) (de : DE) (vs : List Nat) : DE := fun env M q E => di env M (fun items ok M1 => ∀ c, M1 c = none → lcW ok g t de (wipeD env vs) q c items (mset M1 c (.ls []))) E
end DL
set_option maxRecDepth 100000
set_option maxHeartbeats 4000000
namespace DL
open PySem PySem.Spec PyProof.Rows L2
theorem wipe_set {σ : L2.St} {i : Nat} {x : Option V} : ∀ {vs : List Nat}, i ∈ vs → wipe (σ.set i x) vs = wipe σ vs
  | [], h => by cases h
  | v :: vs, h => by
    show (wipe (σ.set i x) vs).set v none = (wipe σ vs).set v none
    by_cases hv : i ∈ vs
    · rw [wipe_set hv]
    · have e : i = v := (List.mem_cons.mp h).resolve_right hv
      subst e
      have z : ∀ ws : List Nat, i ∉ ws → wipe (σ.set i x) ws = (wipe σ ws).set i x := fun ws => by
        induction ws with
        | nil => intro _; rfl
        | cons w ws ih =>
          intro hw
          have h1 : i ≠ w := fun q => hw (by rw [q]; exact List.mem_cons_self)
          have h2 : i ∉ ws := fun q => hw (List.mem_cons_of_mem _ q)
          show (wipe (σ.set i x) ws).set w none = ((wipe σ ws).set w none).set i x
          rw [ih h2, List.set_comm _ _ h1]
      rw [z vs hv, List.set_set]
theorem wipe_idem {σ : L2.St} {i : Nat} : ∀ {vs : List Nat}, i ∈ vs → (wipe σ vs).set i none = wipe σ vs
  | [], h => by cases h
  | v :: vs, h => by
    show ((wipe σ vs).set v none).set i none = (wipe σ vs).set v none
    by_cases e : i = v
    · subst e; rw [List.set_set]
    · rw [List.set_comm _ _ (fun q => e q.symm), wipe_idem ((List.mem_cons.mp h).resolve_left e)]
theorem slot_wipe {K : PySem.W.Frag} {H : Hp} {σ : L2.St} {env : EnvD} (so : SlotOk K H σ env) : ∀ vs : List Nat, SlotOk K H (wipe σ vs) (wipeD env vs)
  | [] => so
  | v :: vs => by
    have ih := slot_wipe so vs
    refine ⟨?_, fun i d h => ?_⟩
    · show ((wipe σ vs).set v none).length = ((wipeD env vs).set v none).length
      rw [List.length_set, List.length_set]; exact ih.len
    · have h' : ((wipeD env vs).set v none)[i]? = some (some d) := h
      by_cases e : v = i
      · subst e
        by_cases l : v < (wipeD env vs).length
        · rw [List.getElem?_set_self l] at h'; cases h'
        · rw [List.getElem?_eq_none (by simpa using l)] at h'; cases h'
      · rw [List.getElem?_set_ne e] at h'
        obtain ⟨u, h1, h2⟩ := ih.get i d h'
        refine ⟨u, ?_, h2⟩
        show ((wipe σ vs).set v none)[i]? = _
        rw [List.getElem?_set_ne e]; exact h1
/-- nothing is let out -/
abbrev WF : WX := fun _ _ _ _ => False
theorem kx0 {K : PySem.W.Frag} {H : Hp} {W : XK} : KX K H noX W := fun _ _ _ _ _ _ _ _ _ _ z => z.elim
theorem kxe0 {K : PySem.W.Frag} {H : Hp} {W : WX} : KXE K H (fun _ => noX) W := fun _ _ _ _ _ => kx0
/-- a target whose names are the block's own -/
def liftGw (K : PySem.W.Frag) (gd : GD) (vs : List Nat) : TG := fun v σ H Q => ∃ d env M q H0, Dn K H0 v d ∧ SlotOk K H0 σ env ∧ SD K H0 H M ∧ gd d env M q (fun _ => noX) ∧
  (∀ σ' env' H0' H' M', Ext H0 H0' → SlotOk K H0' σ' env' → SD K H0' H' M' → q env' M' → wipe σ' vs = wipe σ vs → Q σ' H')
def liftGws (K : PySem.W.Frag) (gd : GDs) (vs : List Nat) : TGs := fun xs σ H Q => ∃ ds env M q H0, DnL K H0 xs ds ∧ SlotOk K H0 σ env ∧ SD K H0 H M ∧ gd ds env M q (fun _ => noX) ∧
  (∀ σ' env' H0' H' M', Ext H0 H0' → SlotOk K H0' σ' env' → SD K H0' H' M' → q env' M' → wipe σ' vs = wipe σ vs → Q σ' H')
def TgW (X : Cx) (e : Expr) (gd : GD) (vs : List Nat) : Prop := PG X e (liftGw X.K gd vs)
def TgsW (X : Cx) (e : List Expr) (gd : GDs) (vs : List Nat) : Prop := PGs X e (liftGws X.K gd vs)
section
variable {X : Cx} {vs : List Nat}
theorem gw_name {i : Nat} {x : Str} {pos : Pos} (hN : X.N.Nodup) (hv : i ∈ vs := by decide) (hi : X.N[i]? = some x := by rfl) (hx : Loc X.env.scope x := by first | exact Or.inl rfl | exact Or.inr rfl) (hf : X.fn x = true ∨ X.env.scope.names.lookup x = some .local := by first | exact .inl rfl | exact .inr rfl) :
    TgW X (.Name x pos) (gdName i) vs := pgImp (pg_name hN hi hx hf) fun v σ H Q ⟨d, env, M, q, H0, r, so, S, h, k⟩ => k _ _ H0 H M (Ext.refl H0) (so.set i r) S h (wipe_set hv)
theorem gws_nil : TgsW X [] gdNil vs := pgsImp pgs_nil fun v σ H Q ⟨ds, env, M, q, H0, r, so, S, ⟨e, h⟩, k⟩ => by
  subst e
  cases r
  exact ⟨rfl, k _ _ H0 H M (Ext.refl H0) so S h rfl⟩
theorem gws_cons {e : Expr} {es : List Expr} {g : GD} {u : GDs} (h1 : TgW X e g vs) (h2 : TgsW X es u vs) (hs : (assignEach (e :: es) X.env).map (·.2) = assign e X.env :: (assignEach es X.env).map (·.2) := by rfl) : TgsW X (e :: es) (gdCons g u) vs :=
  pgsImp (pgs_cons h1 h2 hs) fun v σ H Q ⟨ds, env, M, q, H0, r, so, S, ⟨d, dr, e, h⟩, k⟩ => by
    subst e
    cases r with
    | cons r rr => exact ⟨_, _, rfl, d, env, M, _, H0, r, so, S, h, fun σ' env' H1 H' M' e1 so1 S1 w wz => ⟨dr, env', M', q, H1, rr.mono e1, so1, S1, w, fun σ2 env2 H2 H2' M2 e2 so2 S2 w2 wz2 => k σ2 env2 H2 H2' M2 (e1.trans e2) so2 S2 w2 (wz2.trans wz)⟩⟩
theorem gw_tup {es : List Expr} {k : Nat} {u : GDs} {n : Nat} {pos : Pos} (hc : X.calm = true) (h : TgsW X es u vs) (hn : (assignEach es X.env).length = n := by rfl) (hst : (assignEach es X.env).findIdx? (·.1) = none := by rfl) : TgW X (.Tuple es k pos) (gdTup n u) vs :=
  pgImp (pg_tup hc h hn hst) fun v σ H Q ⟨d, env, M, q, H0, r, so, S, ⟨xs, e, hl, h⟩, k⟩ => by
    subst e
    cases r with
    | tup hh rr => exact ⟨_, _, rfl, S.ex.sqT hh, by rw [rr.length]; exact hl, xs, env, M, q, H0, rr, so, S, h, k⟩
end
section
variable {X : Cx} {W : WX}
def TsD (X : Cx) (es : List Expr) (dt : DT) : Prop := PTs X es (liftT X.K WF dt)
@[reducible] def dYes : DT := fun _ M q _ => q true M
theorem ptsImp {es : List Expr} {t t' : TT} (h : PTs X es t) (i : ∀ σ H Q, t' σ H Q → t σ H Q) : PTs X es t' := ⟨fun pins s σ H Q I q => h.run pins s σ H Q I (i σ H Q q)⟩
theorem tsd_nil : TsD X [] dYes := ptsImp pts_nil fun σ H Q ⟨env, M, q, E, H0, so, S, h, k, kx⟩ => k true H0 H M (Ext.refl H0) S h
theorem tsd_one {c : Expr} {t : DT} (h : TD X WF c t) : TsD X [c] t := pts_one h
theorem lift_lc {K : PySem.W.Frag} {di : DI} {g : GD} {t : DT} {de : DE} {vs : List Nat} : ∀ σ H Q, liftE K W (dLc di g t de vs) σ H Q → tLc (liftI K W di) (liftGw K g vs) (liftT K WF t) (liftE K WF de) vs σ H Q := fun σ H Q ⟨env, M, q, E, H0, so, S, h, k, kx⟩ =>
  goI so S h kx fun J items ok H1 H' M1 e1 so1 S1 io w kx1 => by
    intro Dl hD
    have S1' := S1.newCell (vs := []) (xs := []) hD .nil
    have sw := slot_wipe so1 vs
    refine ⟨fun i m H2 => m = items.length - i ∧ i ≤ items.length ∧ ∃ M2 H3, Ext H1 H3 ∧ SD K H3 H2 M2 ∧ lcW ok g t de (wipeD env vs) q Dl (items.drop i) M2,
      ⟨_, rfl, Nat.zero_le _, _, H1, Ext.refl _, S1', w Dl (S1.fresh hD).2⟩, ?_⟩
    rintro i m H2 ⟨rfl, hi2, M2, H3, e3, S3, w3⟩
    by_cases hlt : i < items.length
    · have hx : items[i]? = some items[i] := List.getElem?_eq_getElem hlt
      rw [List.drop_eq_getElem_cons hlt] at w3
      obtain ⟨o3, w3⟩ := w3
      obtain ⟨g1, g2⟩ := io.go H3 H2 M2 i _ e3 S3 o3 hx
      refine .inr ⟨g1, fun H4 => ∃ M4 H5, Ext H1 H5 ∧ SD K H5 H4 M4 ∧ lcW ok g t de (wipeD env vs) q Dl (items.drop (i + 1)) M4, fun H4 z => ⟨items.length - (i + 1), by omega, rfl, hlt, z⟩, fun x H4 y => ?_⟩
      obtain ⟨H5, e5, S5, r5⟩ := g2 x H4 y
      refine ⟨_, _, M2, _, H5, r5, sw.mono (e3.trans e5), S5, w3, fun σ6 env6 H6 H6' M6 e6 so6 S6 w6 wz => ⟨?_, goT so6 S6 w6 kx0 fun b H7 H7' M7 e7 so7 S7 w7 _ => ?_⟩⟩
      · have z : ∀ (ws : List Nat), (∀ v ∈ ws, v ∈ vs) → wipe (wipe σ vs) ws = wipe σ vs := fun ws => by
          induction ws with
          | nil => intro _; rfl
          | cons v ws ih =>
            intro hv
            show (wipe (wipe σ vs) ws).set v none = wipe σ vs
            rw [ih fun u hu => hv u (List.mem_cons_of_mem _ hu)]
            exact wipe_idem (hv v List.mem_cons_self)
        rw [wz]
        exact z vs fun _ h => h
      · have e17 : Ext H1 H7 := ((e3.trans e5).trans e6).trans e7
        cases b with
        | true =>
          refine iteT ?_
          refine goE so7 S7 (show de env6 M7 _ noX from w7) kx0 fun v d H8 H8' M8 e8 so8 S8 r8 ⟨xs, ex, hl, w8⟩ _ => ?_
          obtain ⟨n0, us, e9, r9⟩ := S8.cell Dl xs ex
          exact ⟨us, e9, by rw [r9.length]; exact hl, _, H8, e17.trans e8, S8.write ex (r9.app (.one r8)), w8⟩
        | false => exact iteF ⟨M7, H7, e17, S7, w7⟩
    · have hge : items.length ≤ i := Nat.le_of_not_lt hlt
      rw [List.drop_eq_nil_of_le hge] at w3
      obtain ⟨o3, xs, ex, w3⟩ := w3
      refine .inl ⟨io.stop H3 H2 M2 i e3 S3 o3 hge, ?_⟩
      obtain ⟨us, _, n0, S4, r4⟩ := S3.freeze ex
      exact k _ _ _ H2 _ ((e1.trans e3).trans (Ext.add n0)) S4 r4 w3
theorem pd_lc {elt tg iter : Expr} {ifs : List Expr} {scope : Scope} {own : List (Str × Nat)} {pos : Pos} {di : DI} {g : GD} {t : DT} {de : DE} (hc : X.calm = true) (hN : X.N.Nodup) (hi : ID X W tg iter di) (ok : BlkOk X.N X.env.scope scope own)
    (hg : ∀ (s : Shared) (H : Hp) (C : Addr) (cl : List (Str × Addr)) (fp : List Addr), TgW (X.blk s H scope (compEnvC scope cl C X.env) fp) tg g (own.map (·.2))) (ht : ∀ (s : Shared) (H : Hp) (C : Addr) (cl : List (Str × Addr)) (fp : List Addr), TsD (X.blk s H scope (compEnvC scope cl C X.env) fp) ifs t)
    (he : ∀ (s : Shared) (H : Hp) (C : Addr) (cl : List (Str × Addr)) (fp : List Addr), PD (X.blk s H scope (compEnvC scope cl C X.env) fp) WF elt de) (hs : ∀ x, foldedSetIterable iter X.env x = pure x := by intro _; rfl) :
    PD X W (.ListComp elt [⟨tg, iter, ifs, 0⟩] scope pos) (dLc di g t de (own.map (·.2))) := peImp (pe_lc (g := liftGw X.K g (own.map Prod.snd)) (tt := liftT X.K WF t) (te := liftE X.K WF de) hc hN hi ok hg ht he hs) lift_lc
/-- name = [..] on one line, the name a plain local -/
theorem sd_setLc (i : Nat) {y : Str} {py : Pos} {elt tg iter : Expr} {ifs : List Expr} {scope : Scope} {own : List (Str × Nat)} {pos spos : Pos} {di : DI} {g : GD} {t : DT} {de : DE} (hc : X.calm = true) (hN : X.N.Nodup)
    (hsw : swapsWith (.ListComp elt [⟨tg, iter, ifs, 0⟩] scope pos) (some (.Name y py)) spos.line X.env = pure true) (hi : ID X W tg iter di) (ok : BlkOk X.N X.env.scope scope own)
    (hg : ∀ (s : Shared) (H : Hp) (C : Addr) (cl : List (Str × Addr)) (fp : List Addr), TgW (X.blk s H scope (compEnvC scope cl C X.env) fp) tg g (own.map (·.2))) (ht : ∀ (s : Shared) (H : Hp) (C : Addr) (cl : List (Str × Addr)) (fp : List Addr), TsD (X.blk s H scope (compEnvC scope cl C X.env) fp) ifs t)
    (he : ∀ (s : Shared) (H : Hp) (C : Addr) (cl : List (Str × Addr)) (fp : List Addr), PD (X.blk s H scope (compEnvC scope cl C X.env) fp) WF elt de) (hy : X.N[i]? = some y := by rfl) (hyl : X.env.scope.names.lookup y = some .local := by rfl)
    (hs : ∀ x, foldedSetIterable iter X.env x = pure x := by intro _; rfl) : SDt X W (.Assign [.Name y py] (.ListComp elt [⟨tg, iter, ifs, 0⟩] scope pos) spos) (dSet i (dLc di g t de (own.map (·.2)))) :=
  psImp (ps_setLc (g := liftGw X.K g (own.map Prod.snd)) (tt := liftT X.K WF t) (te := liftE X.K WF de) hc hN hy hyl hsw hi ok hg ht he hs) fun D σ H ⟨env, M, d, H0, so, S, h, k⟩ =>
    lift_lc σ H _ (goE so S h (k.ex.at so) fun x dx H1 H' M1 e1 so1 S1 rx w kx1 => k.nx _ _ H1 H' M1 e1 (so1.set i rx) S1 w)
end
abbrev SpD := List D → Mem → QD → XD → Prop
def spOf (K : PySem.W.Frag) (n : Nat) (sd : SpD) : Sp := fun vs H Q E => ∃ ds M q ex H0, ds.length = n ∧ DnL K H0 vs ds ∧ SD K H0 H M ∧ sd ds M q ex ∧ KQ K H0 q Q ∧ KX K H0 ex E
@[reducible] def startD (N : List Str) (ds : List D) : EnvD := ds.map some ++ List.replicate (N.length - ds.length) none
theorem slot_start {K : PySem.W.Frag} {H0 : Hp} {N : List Str} {vs : List V} {ds : List D} (r : DnL K H0 vs ds) : SlotOk K H0 (L2.start N vs) (startD N ds) := by
  refine ⟨?_, fun i d h => ?_⟩
  · unfold L2.start startD
    rw [List.length_append, List.length_append, List.length_map, List.length_map, List.length_replicate, List.length_replicate, r.length]
  · unfold startD at h
    by_cases hi : i < ds.length
    · rw [List.getElem?_append_left (by simpa using hi), List.getElem?_map] at h
      obtain ⟨e, h1, h2⟩ := omap h
      cases h2
      obtain ⟨v, hv, rv⟩ := r.get h1
      refine ⟨v, ?_, rv⟩
      unfold L2.start
      rw [List.getElem?_append_left (by rw [List.length_map, r.length]; exact hi), List.getElem?_map, hv]
      rfl
    · rw [List.getElem?_append_right (by simpa using hi), List.getElem?_replicate] at h
      split at h <;> cases h
/-- a def of the text, guards known to be none while it runs -/
structure FnG (P : Program) (w : World) (K : PySem.W.Frag) (mg : Str → Option Value) (base : Heap) (k : Nat) (f : Addr) (fd : FuncData) (ps : List Str) (sp : Sp) : Prop where
  len : ∀ vs H Q E, sp vs H Q E → vs.length = ps.length
  run : ∀ (A : Around) (fr : List Env) (s : Shared) (H : Hp) (args : Args) (us : List Value) (vs : List V) (Q : VK) (E : XK), Room k A → A.guards = some [] → Env0 P w K mg base A fr s H → BindsTo s fd args (ps.zip us) → Vals vs us → sp vs H Q E →
    codeAny (model P w) A (.call (.ref f) args) (CR (L2.CX P w) fr P w H s Q E) s
section
variable {P : Program} {w : World} {K : PySem.W.Frag} {mg : Str → Option Value} {base : Heap} {x qual : Str} {params : Arguments} {body : List Stmt} {scope : Scope} {dvs : List V} {kws : List (Str × V)} {f : Addr} {fd : FuncData}
theorem FnG.of {k : Nat} {ps : List Str} {sp : Sp} (F : FnOk P w K mg base (L2.CX P w) k f fd ps sp) : FnG P w K mg base k f fd ps sp := ⟨F.len, fun A fr s H args us vs Q E hr _ => F.run A fr s H args us vs Q E hr⟩
theorem FnG.mono {j k : Nat} {ps : List Str} {sp : Sp} (F : FnG P w K mg base j f fd ps sp) (h : j ≤ k) : FnG P w K mg base k f fd ps sp := ⟨F.len, fun A fr s H args us vs Q E hr => F.run A fr s H args us vs Q E (hr.mono h)⟩
/-- what a body is to show -/
def Keeps (N : List Str) (n : Nat) (sd : SpD) (db : DS) : Prop := ∀ ds M q ex, ds.length = n → sd ds M q ex → db { nx := fun _ M' => q .non M', rt := q, ex := fun _ => ex } (startD N ds) M
theorem keeps_run {N : List Str} {n : Nat} {sd : SpD} {db : DS} (hk : Keeps N n sd db) {vs : List V} {H : Hp} {Q : VK} {E : XK} (h : spOf K n sd vs H Q E) : liftS K (fun c d _ H => E c d H) db { nx := fun _ H' => Q .non H', rt := Q } (L2.start N vs) H := by
  obtain ⟨ds, M, q, ex, H0, hl, r, S, h, kq, kx⟩ := h
  exact ⟨startD N ds, M, _, H0, slot_start r, S, hk ds M q ex hl h, ⟨fun _ _ H1 H' M' e so' S' w => kq _ _ H1 H' M' e S' .non w, kq, fun _ _ _ _ _ _ _ _ z => z.elim, fun _ _ _ _ _ _ _ _ z => z.elim, fun H1 _ _ e _ => kx.mono e⟩⟩
theorem sp_len {n : Nat} {sd : SpD} {ps : List Str} (hn : ps.length = n) : ∀ vs H Q E, spOf K n sd vs H Q E → vs.length = ps.length := fun vs H Q E ⟨ds, M, q, ex, H0, hl, r, _⟩ => by rw [r.length, hl, hn]
/-- THE RULE for a def whose body asks no guards -/
theorem okD {N ps : List Str} {k n : Nat} {sd : SpD} {db : DS} (F : FunD K x qual params body scope dvs kws f fd) (Sc : FnScope N ps scope) (hn : ps.length = n)
    (hb : ∀ (cdv : Value) (A : Around) (fr : List Env) (s : Shared) (H : Hp) (E : XK), Room k (A.deeper (envOfC qual scope s.heap.objs.size f cdv)) → BD (cxOf (L2.CX P w) P w K mg base N qual scope f cdv A fr s H E) (fun c d _ H => E c d H) body db)
    (hk : Keeps N n sd db) : FnOk P w K mg base (L2.CX P w) (k + 1) f fd ps (spOf K n sd) :=
  F.ok Sc (sp_len hn) fun cdv A fr s H vs Q E hr h => ⟨_, hb cdv A fr s H E hr, keeps_run hk h⟩
/-- .. where guards are known to be none -/
theorem okG {N ps : List Str} {k n : Nat} {sd : SpD} {db : DS} (F : FunD K x qual params body scope dvs kws f fd) (Sc : FnScope N ps scope) (hn : ps.length = n)
    (hb : ∀ (cdv : Value) (A : Around) (fr : List Env) (s : Shared) (H : Hp) (E : XK), Room k (A.deeper (envOfC qual scope s.heap.objs.size f cdv)) → A.guards = some [] → BD (cxOf (L2.CX P w) P w K mg base N qual scope f cdv A fr s H E) (fun c d _ H => E c d H) body db)
    (hk : Keeps N n sd db) : FnG P w K mg base (k + 1) f fd ps (spOf K n sd) := by
  obtain ⟨oc, od, dV, kV, doc, pm, an, cdv, ct, osl, rfl, lk, hcd, _, _⟩ := F.ex
  refine ⟨sp_len hn, fun A fr s H args us vs Q E hr hg e0 hbd rv hsp => ?_⟩
  have hl := sp_len hn _ _ _ _ hsp
  have kIn : K.In s.heap := e0.mod.kin.keeps fun b o e => (e0.bs b o e).1
  have noL : s.heap.NoLimit := e0.mod.nolimit.keeps fun b o e => (e0.bs b o e).1
  refine codeAny_call_function hr.depth (kIn _ _ lk) rfl Sc.co Sc.gen rfl (PySem.W.codeRec_of kIn hcd) (hbd _ _ _ _ (wpAny_newFunctionEnv_cells Sc.kind (fun ⟨y, v⟩ hy => ?_) fun env he s1 ic => ?_))
  · rcases Sc.par y (List.of_mem_zip hy).1 with z | z
    · exact .inl z
    · exact .inr ⟨z, PySem.W.cellsFrom_some _ _ _ (.inl z)⟩
  · subst he
    have J := inv_start (CX := L2.CX P w) (E := E) (cd := cdv) (f := f) (qual := qual) Sc hr.hd e0 hl rv ic
    refine ⟨noL.keeps ic.toInCall.keep, codeAny_func (wpAny_mono ((hb cdv A fr s H E (hr.deeper _) hg).run [] s1 (L2.start N vs) H _ J (keeps_run hk hsp)) (fun fl s2 out => ?_) fun e s2 out => out)⟩
    cases fl with
    | ret u => obtain ⟨v, _, H', J', ru, q⟩ := out; exact ⟨v, H', J'.os, J'.bare, J'.base, J'.hok, ru, q⟩
    | next => obtain ⟨_, H', J', q⟩ := out; exact ⟨.non, H', J'.os, J'.bare, J'.base, J'.hok, rfl, q⟩
    | brk => obtain ⟨_, _, _, q⟩ := out; exact q.elim
    | cont => obtain ⟨_, _, _, q⟩ := out; exact q.elim
end
section
variable {X : Cx} {W : WX} {k n : Nat} {f : Addr} {fd : FuncData} {ps : List Str} {sd : SpD} {x : Str} {p pos : Pos} {e : Expr} {es : List Expr} {da : DA}
@[reducible] def dCall (n : Nat) (sd : SpD) (da : DA) : DE := fun env M q E => da env M (fun ds M1 => ds.length = n ∧ sd ds M1 q E) E
theorem lift_call : ∀ σ H Q, liftE X.K W (dCall n sd da) σ H Q → tCallSD (spOf X.K n sd) [] (WE W) (liftA X.K W da) σ H Q := fun σ H Q ⟨env, M, q, E, H0, so, S, h, kq, kx⟩ =>
  goA so S h kx fun vs ds H1 H' M1 e1 so1 S1 rs ⟨hl, w⟩ kx1 => by
    rw [List.append_nil]
    exact ⟨ds, M1, q, E, H1, hl, rs, S1, w, kq.mono e1, kx1⟩
theorem pd_call (F : FnOk X.prog X.w X.K X.mg X.base (L2.CX X.prog X.w) k f fd ps (spOf X.K n sd)) (hr : Room k X.A) (hg : Gl X x) (hm : X.mg x = some (.ref f)) (hk : PySem.W.keepIn X.K (.ref f) = true) (hb : Binds X.K fd ps []) (tk : Takes X W)
    (ha : AD X W (e :: es) da) (hdb : (x == ("__debug__" : Str)) = false := by decide) (he : starEach (e :: es) X.env = (false, eval e X.env) :: starEach es X.env := by rfl) (hpl : (backTo pos (starEach es X.env)).any (·.1) = false := by rfl) :
    PD X W (.Call (.Name x p) (e :: es) [] pos) (dCall n sd da) := peImp (pe_callSD F hr hg hm hk hb .nil (fun σ => passAt tk σ) ha hdb he hpl) lift_call
theorem run_fnG {sp : Sp} {pins : List (Addr × Obj)} {σ : L2.St} {H : Hp} {s : Shared} {Q : VK} {us : List Value} {vs : List V} (F : FnG X.prog X.w X.K X.mg X.base k f fd ps sp) (hr : Room k X.A) (hgd : X.A.guards = some []) (hb : Binds X.K fd ps []) (tk : Takes X W)
    (I : Inv X pins σ H s) (r : Vals vs us) (h : sp vs H Q (WE W σ)) : wpAny (model X.prog X.w) X.A (call (.ref f) us) (EP X pins σ Q) X.xe s := by
  have hl : us.length = ps.length := by rw [← r.length]; exact F.len _ _ _ _ h
  have b2 := hb s us I.kIn (by rw [List.append_nil]; exact hl)
  rw [List.append_nil] at b2
  refine wpAny_call (codeAny_mono (F.run X.A X.stack s H ⟨us, []⟩ us vs Q (WE W σ) hr hgd I.env0 b2 r h) fun res s' out => ?_)
  cases res with
  | error e => exact passAt tk σ pins H s e s' I out
  | ok fl =>
    cases fl with
    | ret u => exact I.after out
    | next => exact out.elim
    | brk => exact out.elim
    | cont => exact out.elim
theorem pd_callG (F : FnG X.prog X.w X.K X.mg X.base k f fd ps (spOf X.K n sd)) (hr : Room k X.A) (hgd : X.A.guards = some []) (hg : Gl X x) (hm : X.mg x = some (.ref f)) (hk : PySem.W.keepIn X.K (.ref f) = true) (hb : Binds X.K fd ps []) (tk : Takes X W)
    (ha : AD X W (e :: es) da) (hdb : (x == ("__debug__" : Str)) = false := by decide) (he : starEach (e :: es) X.env = (false, eval e X.env) :: starEach es X.env := by rfl) (hpl : (backTo pos (starEach es X.env)).any (·.1) = false := by rfl) :
    PD X W (.Call (.Name x p) (e :: es) [] pos) (dCall n sd da) := by
  constructor
  intro pins s σ H Q I ⟨env, M, q, E, H0, so, S, h, kq, kx⟩
  refine wpAny_Call_Name_kw (ld_glob I hg hm ?_ hdb)
  refine PySem.W.callWith_K (h₀ := X.base) I.ok.mod.kin hk (wpAny_mono (PA.run ha pos pins s σ H _ I (goA (Q := fun vs H' => spOf X.K n sd vs H' Q (WE W σ)) so S h kx fun vs ds H1 H' M1 e1 so1 S1 rs ⟨hl, w⟩ kx1 => ⟨ds, M1, q, E, H1, hl, rs, S1, w, kq.mono e1, kx1⟩)) (fun us s1 out => ?_) fun _ _ z => z) he hpl
  obtain ⟨vs, H1, I1, r, q1⟩ := out
  exact ⟨I1.kIn, run_fnG F hr hgd hb tk I1 r q1⟩
end
end DL
set_option maxRecDepth 100000
set_option maxHeartbeats 4000000
namespace DL
open PySem PySem.Spec PyProof.Rows L2
section
variable {X : Cx} {W : WX}
/-- cell.append(e) -/
@[reducible] def dApp (do_ : DE) (da : DA) : DE := fun env M q E => do_ env M (fun o M1 => ∃ c zs, o = .cel c ∧ M1 c = some (.ls zs) ∧ da env M1 (fun ds M2 => ∃ ys y, ds = [y] ∧ M2 c = some (.ls ys) ∧ ys.length < sizeLine ∧ q .non (mset M2 c (.ls (ys ++ [y])))) E) E
theorem pd_app {o e : Expr} {do_ : DE} {da : DA} {apos cpos : Pos} (ho : PD X W o do_) (ha : AD X W [e] da) (hbase : attributeBase o "append" X.env (eval o X.env) = eval o X.env := by rfl)
    (hfew : ((backTo cpos (starEach (e :: []) X.env)).all (fun x => !x.1) && (backToKw cpos (keywordEach [] X.env)).all (fun x => x.1.isSome) && decide ((e :: []).length + ([] : List Keyword).length + (if ([] : List Keyword).isEmpty then 0 else 1) < 30)) = true := by rfl)
    (hline : (apos.endLine == cpos.line) = true := by rfl) (hs : starEach [e] X.env = (false, eval e X.env) :: starEach [] X.env := by rfl) (hpl : (backTo cpos (starEach [] X.env)).any (·.1) = false := by rfl) : PD X W (.Call (.Attribute o "append" apos) [e] [] cpos) (dApp do_ da) :=
  peImp (pe_bm PySem.F.plainAttrs_list PySem.F.slot_list_append PySem.F.type_list_append mt_append ho ha hbase hfew hline hs hpl) fun σ H Q ⟨env, M, q, E, H0, so, S, h, k, kx⟩ =>
    goE so S h kx fun x dx H1 H' M1 e1 so1 S1 rx ⟨c, zs, ec, em, h1⟩ kx1 => by
      subst ec
      cases rx
      obtain ⟨_, us, hu, _⟩ := S1.cell c zs em
      refine ⟨.inl ⟨rfl, us, SqL.of hu⟩, goA so1 S1 h1 kx1 fun xs ds H2 H'' M2 e2 so2 S2 rs ⟨ys, y, ed, em2, hl, w⟩ kx2 => ?_⟩
      subst ed
      obtain ⟨v, rfl, rv⟩ := dnl1 rs
      obtain ⟨_, vs, hv, r⟩ := S2.cell c ys em2
      exact ⟨c, vs, v, rfl, rfl, hv, by rw [r.length]; exact hl, k _ _ H2 _ _ (e1.trans e2) (S2.write em2 (r.app (.one rv))) .non w⟩
/-- methods of texts, one argument | none -/
@[reducible] def dM1 (rd : Str → D → Mem → QD → Prop) (do_ de : DE) : DE := fun env M q E => do_ env M (fun o M1 => ∃ a, o = .str a ∧ de env M1 (fun x M2 => rd a x M2 q) E) E
def rdSplit : Str → D → Mem → QD → Prop := fun a x M q => ∃ b, x = .str b ∧ (b.length == 0) = false ∧ a.length + 2 ≤ sizeLine ∧ q (.lst ((Txt.split a b).map D.str)) M
def strsD : List D → Option (List Str)
  | [] => some []
  | .str x :: ds => (strsD ds).map (x :: ·)
  | _ => none
theorem strs_dn {K : PySem.W.Frag} {H : Hp} : ∀ {ds : List D} {vs : List V} {bs : List Str}, DnL K H vs ds → strsD ds = some bs → vs = bs.map V.str
  | _, _, _, .nil, e => by cases e; rfl
  | _, _, _, .cons (d := .str b) h r, e => by
    obtain ⟨cs, e1, rfl⟩ := omap (show (strsD _).map (b :: ·) = some _ from e)
    rw [h.inv_str, strs_dn r e1]; rfl
  | _, _, _, .cons (d := .non) _ _, e | _, _, _, .cons (d := .int _) _ _, e | _, _, _, .cons (d := .bl _) _ _, e | _, _, _, .cons (d := .ty _) _ _, e | _, _, _, .cons (d := .lst _) _ _, e
  | _, _, _, .cons (d := .lsf _) _ _, e | _, _, _, .cons (d := .tup _) _ _, e | _, _, _, .cons (d := .dic _ _) _ _, e | _, _, _, .cons (d := .ins _ _ _) _ _, e | _, _, _, .cons (d := .cel _) _ _, e => by cases e
def intsD : List D → Option (List Int)
  | [] => some []
  | .int x :: ds => (intsD ds).map (x :: ·)
  | _ => none
theorem ints_dn {K : PySem.W.Frag} {H : Hp} : ∀ {ds : List D} {vs : List V} {bs : List Int}, DnL K H vs ds → intsD ds = some bs → vs = bs.map V.int
  | _, _, _, .nil, e => by cases e; rfl
  | _, _, _, .cons (d := .int b) h r, e => by
    obtain ⟨cs, e1, rfl⟩ := omap (show (intsD _).map (b :: ·) = some _ from e)
    rw [h.inv_int, ints_dn r e1]; rfl
  | _, _, _, .cons (d := .non) _ _, e | _, _, _, .cons (d := .str _) _ _, e | _, _, _, .cons (d := .bl _) _ _, e | _, _, _, .cons (d := .ty _) _ _, e | _, _, _, .cons (d := .lst _) _ _, e
  | _, _, _, .cons (d := .lsf _) _ _, e | _, _, _, .cons (d := .tup _) _ _, e | _, _, _, .cons (d := .dic _ _) _ _, e | _, _, _, .cons (d := .ins _ _ _) _ _, e | _, _, _, .cons (d := .cel _) _ _, e => by cases e
theorem dn_strs {K : PySem.W.Frag} {H : Hp} : ∀ xs : List Str, DnL K H (xs.map V.str) (xs.map D.str)
  | [] => .nil
  | x :: xs => .cons (.str x) (dn_strs xs)
theorem dn_ints {K : PySem.W.Frag} {H : Hp} : ∀ xs : List Int, DnL K H (xs.map V.int) (xs.map D.int)
  | [] => .nil
  | x :: xs => .cons (.int x) (dn_ints xs)
theorem ints_map : ∀ xs : List Int, intsD (xs.map D.int) = some xs
  | [] => rfl
  | x :: xs => by show (intsD (xs.map D.int)).map (x :: ·) = _; rw [ints_map xs]; rfl
theorem strs_map : ∀ xs : List Str, strsD (xs.map D.str) = some xs
  | [] => rfl
  | x :: xs => by show (strsD (xs.map D.str)).map (x :: ·) = _; rw [strs_map xs]; rfl
def rdJoin : Str → D → Mem → QD → Prop := fun a x M q => ∃ xs ys, seqOf M x = some xs ∧ strsD xs = some ys ∧ (ys.map (·.length)).sum + ys.length * a.length ≤ 16777216 ∧ q (.str (Txt.join a ys)) M
theorem pd_join {o e : Expr} {do_ de : DE} {apos pos : Pos} (ho : PD X W o do_) (he : PD X W e de) (hs : starEach [e] X.env = [(false, eval e X.env)] := by rfl) (hbase : attributeBase o "join" X.env (eval o X.env) = eval o X.env := by rfl) (hline : (apos.endLine == pos.line) = true := by rfl) :
    PD X W (.Call (.Attribute o "join" apos) [e] [] pos) (dM1 rdJoin do_ de) := peImp (pe_join ho he hs hbase hline) fun σ H Q ⟨env, M, q, E, H0, so, S, h, k, kx⟩ =>
  goE so S h kx fun x dx H1 H' M1 e1 so1 S1 rx ⟨a, ea, h1⟩ kx1 => by
    subst ea
    cases rx
    refine ⟨⟨a, rfl⟩, goE so1 S1 h1 kx1 fun y dy H2 H'' M2 e2 so2 S2 ry ⟨xs, ys, es, ey, hz, w⟩ kx2 => ?_⟩
    obtain ⟨p, vs, rfl, hp, r⟩ := S2.seq ry es
    have z := strs_dn r ey
    subst z
    exact ⟨a, p, ys, rfl, rfl, hp, hz, k _ _ H2 _ _ (e1.trans e2) S2 (.str _) w⟩
theorem pd_split {o e : Expr} {do_ de : DE} {apos pos : Pos} (ho : PD X W o do_) (he : PD X W e de) (hs : starEach [e] X.env = [(false, eval e X.env)] := by rfl) (hbase : attributeBase o "split" X.env (eval o X.env) = eval o X.env := by rfl) (hline : (apos.endLine == pos.line) = true := by rfl) :
    PD X W (.Call (.Attribute o "split" apos) [e] [] pos) (dM1 rdSplit do_ de) := peImp (pe_split ho he hs hbase hline) fun σ H Q ⟨env, M, q, E, H0, so, S, h, k, kx⟩ =>
  goE so S h kx fun x dx H1 H' M1 e1 so1 S1 rx ⟨a, ea, h1⟩ kx1 => by
    subst ea
    cases rx
    refine ⟨⟨a, rfl⟩, goE so1 S1 h1 kx1 fun y dy H2 H'' M2 e2 so2 S2 ry ⟨b, eb, h0, hz, w⟩ kx2 => ?_⟩
    subst eb
    cases ry
    exact ⟨a, b, rfl, rfl, h0, hz, fun p hp => (k.mono (e1.trans e2)).newL S2 (dn_strs _) w p hp⟩
def rdSortI : RDL := fun ds M q => ∃ d xs ns, ds = [d] ∧ lsqOf M d = some xs ∧ intsD xs = some ns ∧ ∀ ns' : List Int, ns'.Perm ns → ns'.Pairwise (· ≤ ·) → q (.lst (ns'.map D.int)) M
theorem cd_sortI : CallD X (.builtin "sorted") rdSortI := ⟨_, cr_sortedI, fun H0 H M xs ds q Q S r w k => by
  obtain ⟨d, ys, ns, rfl, e, en, w⟩ := w
  obtain ⟨v, rfl, rv⟩ := dnl1 r
  obtain ⟨a, vs, rfl, hs, rs⟩ := S.lsq rv e
  have z := ints_dn rs en
  subst z
  exact ⟨a, ns, rfl, hs, fun ns' p h1 h2 hp => k.newL S (dn_ints _) (w ns' h1 h2) p hp⟩⟩
def keyD : D → Option Key
  | .int i => some (.inl i)
  | .str x => some (.inr x)
  | _ => none
theorem keyD_dn {K : PySem.W.Frag} {H : Hp} {v : V} {d : D} {k : Key} (h : Dn K H v d) (e : keyD d = some k) : v = kV k := by
  cases h <;> first
    | (cases e; rfl)
    | cases e
def getK (kvs : List (Key × D)) (k : Key) : Option D := (kvs.find? fun kv => decide (kv.1 = k)).map (·.2)
def setK (kvs : List (Key × D)) (k : Key) (v : D) : List (Key × D) := if (kvs.any fun kv => decide (kv.1 = k)) = true then kvs.map (fun kv => if kv.1 = k then (kv.1, v) else kv) else kvs ++ [(k, v)]
theorem KvL.length {K : PySem.W.Frag} {H : Hp} : ∀ {r : List (Key × V)} {s : List (Key × D)}, KvL K H r s → r.length = s.length
  | _, _, .nil => rfl
  | _, _, .cons _ b => congrArg (· + 1) (KvL.length b)
theorem KvL.get {K : PySem.W.Frag} {H : Hp} {k : Key} : ∀ {r : List (Key × V)} {s : List (Key × D)}, KvL K H r s → (getK s k = none ∧ valV r k = none) ∨ ∃ v d, getK s k = some d ∧ valV r k = some v ∧ Dn K H v d
  | _, _, .nil => .inl ⟨rfl, rfl⟩
  | _, _, .cons (k := k') (v := v) (d := d) a b => by
    by_cases e : k' = k
    · exact .inr ⟨v, d, by simp [getK, List.find?_cons, e], valV_pos e, a⟩
    · have ih := KvL.get (k := k) b
      have e1 : ∀ s, getK ((k', d) :: s) k = getK s k := fun s => by simp [getK, List.find?_cons, e]
      rw [valV_neg (p := (k', v)) e, e1]
      exact ih
theorem KvL.any {K : PySem.W.Frag} {H : Hp} {k : Key} : ∀ {r : List (Key × V)} {s : List (Key × D)}, KvL K H r s → (r.any fun kv => decide (kv.1 = k)) = s.any fun kv => decide (kv.1 = k)
  | _, _, .nil => rfl
  | _, _, .cons a b => by rw [List.any_cons, List.any_cons, KvL.any b]
theorem KvL.repl {K : PySem.W.Frag} {H : Hp} {k : Key} {v : V} {d : D} (h : Dn K H v d) : ∀ {r : List (Key × V)} {s : List (Key × D)}, KvL K H r s → KvL K H (r.map fun kv => if kv.1 = k then (kv.1, v) else kv) (s.map fun kv => if kv.1 = k then (kv.1, d) else kv)
  | _, _, .nil => .nil
  | _, _, .cons (k := k') a b => by
    rw [List.map_cons, List.map_cons]
    by_cases e : k' = k
    · rw [if_pos e, if_pos e]; exact .cons h (KvL.repl h b)
    · rw [if_neg e, if_neg e]; exact .cons a (KvL.repl h b)
theorem KvL.snoc {K : PySem.W.Frag} {H : Hp} {k : Key} {v : V} {d : D} (h : Dn K H v d) : ∀ {r : List (Key × V)} {s : List (Key × D)}, KvL K H r s → KvL K H (r ++ [(k, v)]) (s ++ [(k, d)])
  | _, _, .nil => .cons h .nil
  | _, _, .cons a b => .cons a (KvL.snoc h b)
theorem KvL.put {K : PySem.W.Frag} {H : Hp} {k : Key} {v : V} {d : D} {r : List (Key × V)} {s : List (Key × D)} (b : KvL K H r s) (h : Dn K H v d) : KvL K H (putK r k v) (setK s k d) := by
  unfold putK setK
  rw [KvL.any b]
  split
  · exact KvL.repl h b
  · exact KvL.snoc h b
theorem SD.dict {K : PySem.W.Frag} {H0 H : Hp} {M : Mem} (S : SD K H0 H M) {c : Addr} {s : List (Key × D)} (h : M c = some (.dc s)) : H0 c = none ∧ ∃ r, H c = some (.dK r) ∧ KvL K H0 r s := S.any c _ h
@[reducible] def dDicC : DE := fun _ M q _ => ∀ a, M a = none → q (.cel a) (mset M a (.dc []))
theorem pd_dicC {pos} : PD X W (.Dict [] [] pos) dDicC := peImp pe_dnewK fun σ H Q ⟨env, M, q, E, H0, so, S, h, k, kx⟩ => fun p hp =>
  k _ _ H0 _ _ (Ext.refl _) (S.put (x := .dc []) (S.fresh hp).1 fun _ e => ⟨[], e, .nil⟩) (.cel p) (h p (S.fresh hp).2)
end
/-- a def that may be called: level k, n arguments -/
def Fok (P : Program) (w : World) (K : PySem.W.Frag) (mg : Str → Option Value) (base : Heap) (x : Str) (k n : Nat) (sd : SpD) : Prop :=
  ∃ (f : Addr) (fd : FuncData) (ps : List Str), mg x = some (.ref f) ∧ PySem.W.keepIn K (.ref f) = true ∧ Binds K fd ps [] ∧ FnOk P w K mg base (L2.CX P w) k f fd ps (spOf K n sd)
def Fgd (P : Program) (w : World) (K : PySem.W.Frag) (mg : Str → Option Value) (base : Heap) (x : Str) (k n : Nat) (sd : SpD) : Prop :=
  ∃ (f : Addr) (fd : FuncData) (ps : List Str), mg x = some (.ref f) ∧ PySem.W.keepIn K (.ref f) = true ∧ Binds K fd ps [] ∧ FnG P w K mg base k f fd ps (spOf K n sd)
section
variable {X : Cx} {W : WX} {k n : Nat} {sd : SpD} {x : Str} {p pos : Pos} {e : Expr} {es : List Expr} {da : DA}
theorem pd_fn (F : Fok X.prog X.w X.K X.mg X.base x k n sd) (hr : Room k X.A) (tk : Takes X W) (ha : AD X W (e :: es) da) (hg : Gl X x := by rfl) (hdb : (x == ("__debug__" : Str)) = false := by decide)
    (he : starEach (e :: es) X.env = (false, eval e X.env) :: starEach es X.env := by rfl) (hpl : (backTo pos (starEach es X.env)).any (·.1) = false := by rfl) : PD X W (.Call (.Name x p) (e :: es) [] pos) (dCall n sd da) := by
  obtain ⟨f, fd, ps, hm, hk, hb, F⟩ := F
  exact pd_call F hr hg hm hk hb tk ha hdb he hpl
theorem pd_fg (F : Fgd X.prog X.w X.K X.mg X.base x k n sd) (hr : Room k X.A) (hgd : X.A.guards = some []) (tk : Takes X W) (ha : AD X W (e :: es) da) (hg : Gl X x := by rfl) (hdb : (x == ("__debug__" : Str)) = false := by decide)
    (he : starEach (e :: es) X.env = (false, eval e X.env) :: starEach es X.env := by rfl) (hpl : (backTo pos (starEach es X.env)).any (·.1) = false := by rfl) : PD X W (.Call (.Name x p) (e :: es) [] pos) (dCall n sd da) := by
  obtain ⟨f, fd, ps, hm, hk, hb, F⟩ := F
  exact pd_callG F hr hgd hg hm hk hb tk ha hdb he hpl
end
theorem Fok.g {P : Program} {w : World} {K : PySem.W.Frag} {mg : Str → Option Value} {base : Heap} {x : Str} {k n : Nat} {sd : SpD} (h : Fok P w K mg base x k n sd) : Fgd P w K mg base x k n sd := by
  obtain ⟨f, fd, ps, a, b, c, d⟩ := h
  exact ⟨f, fd, ps, a, b, c, .of d⟩
/-- what a body may let out, it lets out -/
theorem tkF {P : Program} {w : World} {K : PySem.W.Frag} {mg : Str → Option Value} {base : Heap} {N : List Str} {qual : Str} {scope : Scope} {f : Addr} {cd : Value} {A : Around} {fr : List Env} {s : Shared} {H : Hp} {E : XK} :
    Takes (cxOf (L2.CX P w) P w K mg base N qual scope f cd A fr s H E) (fun c d _ H => E c d H) := takes_of rfl rfl rfl rfl
theorem poF {P : Program} {w : World} {K : PySem.W.Frag} {mg : Str → Option Value} {base : Heap} {N : List Str} {qual : Str} {scope : Scope} {f : Addr} {cd : Value} {A : Around} {fr : List Env} {s : Shared} {H : Hp} {E : XK} :
    PassesOwn (model (cxOf (L2.CX P w) P w K mg base N qual scope f cd A fr s H E).prog (cxOf (L2.CX P w) P w K mg base N qual scope f cd A fr s H E).w) (cxOf (L2.CX P w) P w K mg base N qual scope f cd A fr s H E).A
      (cxOf (L2.CX P w) P w K mg base N qual scope f cd A fr s H E).env (cxOf (L2.CX P w) P w K mg base N qual scope f cd A fr s H E).xe := passes_of rfl
end DL
set_option maxRecDepth 100000
set_option maxHeartbeats 4000000
namespace DL
open PySem PySem.Spec PyProof.Rows L2
@[reducible] def dNever : DS := fun _ _ _ => False
section
variable {X : Cx} {W : WX}
theorem sd_never {st : Stmt} : SDt X W st dNever := ⟨fun pins s σ H D I ⟨env, M, d, H0, so, S, h, k⟩ => h.elim⟩
end
theorem KvL.lk {K : PySem.W.Frag} {H : Hp} {k : Str} : ∀ {r : List (Str × V)} {s : List (Str × D)}, KvL K H r s → (s.lookup k = none ∧ r.lookup k = none) ∨ ∃ v d, s.lookup k = some d ∧ r.lookup k = some v ∧ Dn K H v d
  | _, _, .nil => .inl ⟨rfl, rfl⟩
  | _, _, .cons (k := k') (v := v) (d := d) a b => by
    rw [List.lookup_cons, List.lookup_cons]
    cases e : k == k' with
    | true => exact .inr ⟨v, d, rfl, rfl, a⟩
    | false => exact KvL.lk b
theorem KvL.of {K : PySem.W.Frag} {H : Hp} : ∀ {r : List (Str × V)} {ds : List D}, DnL K H (r.map (·.2)) ds → KvL K H r ((r.map (·.1)).zip ds)
  | [], _, h => by cases h; exact .nil
  | (k, v) :: r, _, h => by
    cases h with
    | cons a b => exact .cons a (KvL.of b)
theorem KvL.split {K : PySem.W.Frag} {H : Hp} : ∀ {r : List (Str × V)} {s : List (Str × D)}, KvL K H r s → r.map (·.1) = s.map (·.1) ∧ DnL K H (r.map (·.2)) (s.map (·.2))
  | _, _, .nil => ⟨rfl, .nil⟩
  | _, _, .cons (k := k) a b => by
    obtain ⟨h1, h2⟩ := KvL.split b
    exact ⟨by rw [List.map_cons, List.map_cons, h1], .cons a h2⟩
/-- its fields -/
def fsOf (M : Mem) (C : Addr) : D → Option (List (Str × D))
  | .ins C' ns vs => if C' = C then some (ns.zip vs) else none
  | .cel c => match M c with
    | some (.ob C' fs) => if C' = C then some fs else none
    | _ => none
  | _ => none
theorem SD.obj {K : PySem.W.Frag} {H0 H : Hp} {M : Mem} (S : SD K H0 H M) {v : V} {d : D} {C : Addr} {fs : List (Str × D)} (h : Dn K H0 v d) (e : fsOf M C d = some fs) : ∃ a dx fvs, v = .ref a ∧ H a = some (.ins C dx fvs) ∧ KvL K H0 fvs fs := by
  cases h with
  | @ins a C' dx fvs ds q r =>
    have e' : (if C' = C then some ((fvs.map (·.1)).zip ds) else none) = some fs := e
    by_cases c : C' = C
    · subst c; rw [if_pos rfl] at e'; cases e'
      exact ⟨a, dx, fvs, rfl, S.ex _ _ q, .of r⟩
    · rw [if_neg c] at e'; cases e'
  | cel a =>
    have e' : (match M a with | some (.ob C' fs) => if C' = C then some fs else none | _ => none) = some fs := e
    split at e'
    · rename_i C' fs' hm
      by_cases c : C' = C
      · subst c; rw [if_pos rfl] at e'; cases e'
        obtain ⟨_, dx, fvs, q, r⟩ := S.any a _ hm
        exact ⟨a, dx, fvs, rfl, q, r⟩
      · rw [if_neg c] at e'; cases e'
    · cases e'
  | _ => cases e
def putD (f : Str) (v : D) : List (Str × D) → List (Str × D)
  | [] => [(f, v)]
  | (g, x) :: r => if g = f then (g, v) :: r else (g, x) :: putD f v r
theorem KvL.putF {K : PySem.W.Frag} {H : Hp} {f : Str} {v : V} {d : D} (h : Dn K H v d) : ∀ {r : List (Str × V)} {s : List (Str × D)}, KvL K H r s → KvL K H (L2.putF f v r) (putD f d s)
  | _, _, .nil => .cons h .nil
  | _, _, .cons (k := g) a b => by
    unfold L2.putF putD
    by_cases e : g = f
    · rw [if_pos e, if_pos e]; exact .cons h b
    · rw [if_neg e, if_neg e]; exact .cons a (KvL.putF h b)
theorem KvL.len {α : Type} {K : PySem.W.Frag} {H : Hp} : ∀ {r : List (α × V)} {s : List (α × D)}, KvL K H r s → r.length = s.length
  | _, _, .nil => rfl
  | _, _, .cons _ b => congrArg (· + 1) (KvL.len b)
theorem SD.freezeO {K : PySem.W.Frag} {H0 H : Hp} {M : Mem} {c C : Addr} {fs : List (Str × D)} (S : SD K H0 H M) (h : M c = some (.ob C fs)) : ∃ o, H0 c = none ∧ SD K (upd H0 c o) H (mdel M c) ∧ Dn K (upd H0 c o) (.ref c) (.ins C (fs.map (·.1)) (fs.map (·.2))) := by
  obtain ⟨n0, dx, fvs, e1, r⟩ := S.any c _ h
  obtain ⟨en, er⟩ := r.split
  refine ⟨.ins C dx fvs, n0, ⟨fun a o q => ?_, fun b ys q => ?_⟩, ?_⟩
  · by_cases z : a = c
    · subst z; rw [upd_same] at q; cases q; exact e1
    · rw [upd_ne z] at q; exact S.ex a o q
  · unfold mdel at q
    by_cases z : b = c
    · rw [if_pos z] at q; cases q
    · rw [if_neg z] at q
      obtain ⟨n1, ok⟩ := S.any b ys q
      exact ⟨by rw [upd_ne z]; exact n1, ok.same (Ext.add n0) rfl⟩
  · rw [← en]
    exact .ins upd_same (er.mono (Ext.add n0))
section
variable {X : Cx} {W : WX}
@[reducible] def dFld (C : Addr) (f : Str) (de : DE) : DE := fun env M q E => de env M (fun o M1 => ∃ fs v, fsOf M1 C o = some fs ∧ fs.lookup f = some v ∧ q v M1) E
theorem pd_fld {e : Expr} {f : Str} {pos : Pos} {de : DE} {C : Addr} (he : PD X W e de) (c : Cls X.K C) (n : NoAttr X.K C f) (hb : attributeBase e f X.env (eval e X.env) = eval e X.env := by rfl) : PD X W (.Attribute e f pos) (dFld C f de) :=
  peImp (pe_fld he hb) fun σ H Q ⟨env, M, q, E, H0, so, S, h, k, kx⟩ => goE so S h kx fun x dx H1 H' M1 e1 so1 S1 rx ⟨fs, v, ef, el, w⟩ kx1 => by
    obtain ⟨a, d, fvs, rfl, q1, r⟩ := S1.obj rx ef
    rcases r.lk (k := f) with ⟨z, _⟩ | ⟨v', d', z, z2, rv⟩
    · rw [el] at z; cases z
    · rw [el] at z; cases z
      exact ⟨a, C, d, fvs, v', rfl, q1, c, n, z2, k _ _ H1 _ _ e1 S1 rv w⟩
@[reducible] def dFSet (C : Addr) (f : Str) (do_ dv : DE) : DS := fun d env M => dv env M (fun v M1 => do_ env M1 (fun o M2 => ∃ c fs, o = .cel c ∧ M2 c = some (.ob C fs) ∧ fs.length < 1000 ∧ d.nx env (mset M2 c (.ob C (putD f v fs)))) (d.ex env)) (d.ex env)
theorem sd_fset {o value : Expr} {f : Str} {pos pos' : Pos} {do_ dv : DE} {C : Addr} (ho : PD X W o do_) (c : Cls X.K C) (n : NoAttr X.K C f) (hv : PD X W value dv) (hs : swapsWith value (some (.Attribute o f pos')) pos.line X.env = pure false := by rfl) : SDt X W (.Assign [.Attribute o f pos'] value pos) (dFSet C f do_ dv) :=
  psImp (ps_fld ho hv hs) fun D σ H ⟨env, M, d, H0, so, S, h, k⟩ => goE so S h (k.ex.at so) fun x dx H1 H' M1 e1 so1 S1 rx h1 kx1 => goE so1 S1 h1 kx1 fun y dy H2 H'' M2 e2 so2 S2 ry ⟨p, fs, ec, em, hl, w⟩ kx2 => by
    subst ec
    cases ry
    obtain ⟨n0, d', fvs, q, r⟩ := S2.any p _ em
    exact ⟨p, C, d', fvs, rfl, q, c, n, by rw [r.len]; exact hl, k.nx _ _ H2 _ _ (e1.trans e2) so2 (S2.put (x := .ob C (putD f dx fs)) n0 fun _ e => ⟨d', _, e, r.putF (rx.mono e2)⟩) w⟩
/-- a method that may be called -/
def Mok (P : Program) (w : World) (K : PySem.W.Frag) (mg : Str → Option Value) (base : Heap) (C : Addr) (m : Str) (k n : Nat) (sd : SpD) : Prop :=
  Cls K C ∧ ∃ (f : Addr) (fd : FuncData) (ps : List Str), Meth K C m f ∧ PySem.W.fnIn K f = true ∧ Binds K fd ps [] ∧ FnOk P w K mg base (L2.CX P w) k f fd ps (spOf K n sd)
theorem KvL.no {K : PySem.W.Frag} {H : Hp} {k : Str} {r : List (Str × V)} {s : List (Str × D)} (b : KvL K H r s) (h : s.lookup k = none) : r.lookup k = none := by
  rcases b.lk (k := k) with ⟨_, z⟩ | ⟨v, d, z, _, _⟩
  · exact z
  · rw [h] at z; cases z
/-- C(e, ..), an object that changes no more behind its __init__ -/
def Kok (P : Program) (w : World) (K : PySem.W.Frag) (mg : Str → Option Value) (base : Heap) (x : Str) (C : Addr) (k n : Nat) (sd : SpD) : Prop :=
  ∃ (f : Addr) (fd : FuncData) (ps : List Str), mg x = some (.ref C) ∧ Mk K C f ∧ Binds K fd ps [] ∧ FnOk P w K mg base (L2.CX P w) k f fd ps (spOf K n sd)
@[reducible] def dMake (C : Addr) (n : Nat) (sd : SpD) (da : DA) : DE := fun env M q E => da env M (fun ds M1 => ds.length + 1 = n ∧ ∀ c, M1 c = none → sd (.cel c :: ds) (mset M1 c (.ob C [])) (fun v M2 => v = .non ∧ ∃ fs, M2 c = some (.ob C fs) ∧ q (.ins C (fs.map (·.1)) (fs.map (·.2))) (mdel M2 c)) E) E
theorem made_D {K : PySem.W.Frag} {H0 H : Hp} {M : Mem} {x dx C : Addr} (S : SD K H0 H M) (hx : H x = none) (hd : H dx = none) (ne : dx ≠ x) : SD K H0 (upd (upd H dx (.own x)) x (.ins C dx [])) (mset M x (.ob C [])) := by
  have S1 : SD K H0 (upd H dx (.own x)) M := S.aside hd
  exact S1.put (S.fresh hx).1 fun _ e => ⟨dx, [], e, .nil⟩
theorem run_makeD {k n : Nat} {C f : Addr} {fd : FuncData} {ps : List Str} {sd : SpD} {pins : List (Addr × Obj)} {σ : L2.St} {H : Hp} {s : Shared} {Q : VK} {us : List Value} {vs : List V} (Mm : Mk X.K C f) (F : FnOk X.prog X.w X.K X.mg X.base (L2.CX X.prog X.w) k f fd ps (spOf X.K n sd))
    (hr : Room (k + 1) X.A) (hb : Binds X.K fd ps []) (tk : Takes X W) (I : Inv X pins σ H s) (r : Vals vs us)
    (h : ∀ x dx, H x = none → H dx = none → dx ≠ x → spOf X.K n sd (.ref x :: vs) (upd (upd H dx (.own x)) x (.ins C dx [])) (fun v H2 => v = .non ∧ Q (.ref x) H2) (WE W σ)) :
    wpAny (model X.prog X.w) X.A (call (.ref C) us) (EP X pins σ Q) X.xe s := by
  have hq := h (s.heap.objs.size + 1) s.heap.objs.size (I.hok.fresh (Nat.le_succ _)) (I.hok.fresh (Nat.le_refl _)) (Nat.ne_of_lt (Nat.lt_succ_self _))
  have I2 := Inv.made (C := C) I
  have r2 : Vals (V.ref (s.heap.objs.size + 1) :: vs) (Value.ref (s.heap.objs.size + 1) :: us) := .cons rfl r
  have hl : (Value.ref (s.heap.objs.size + 1) :: us ++ []).length = ps.length := by
    rw [List.append_nil]
    have e := r2.length
    rw [F.len _ _ _ _ hq] at e
    exact e.symm
  have hbb := hb _ (Value.ref (s.heap.objs.size + 1) :: us) I2.kIn hl
  rw [List.append_nil] at hbb
  refine wpAny_call (make_map (f := f) I.kIn Mm.makes Mm.init (beq_iff_eq.mp Mm.fn) (codeAny_mono (F.run _ X.stack _ _ ⟨Value.ref (s.heap.objs.size + 1) :: us, []⟩ (Value.ref (s.heap.objs.size + 1) :: us) _ _ (WE W σ) (hr.make C us [])
    (I2.env0.make C us []) hbb r2 hq) fun r s' hq' => ?_))
  cases r with
  | error e => exact passAt tk σ pins _ _ e s' I2 hq'
  | ok fl =>
    cases fl with
    | ret u =>
      obtain ⟨v, H', I3, rv, ev, q3⟩ := I2.after hq'
      subst ev
      exact ⟨rv, ⟨V.ref (s.heap.objs.size + 1), H', I3, rfl, q3⟩⟩
    | next => exact False.elim hq'
    | brk => exact False.elim hq'
    | cont => exact False.elim hq'
theorem pd_make {k n : Nat} {C : Addr} {x : Str} {sd : SpD} {e : Expr} {es : List Expr} {da : DA} {p pos : Pos} (F : Kok X.prog X.w X.K X.mg X.base x C k n sd) (hr : Room (k + 1) X.A) (tk : Takes X W) (ha : AD X W (e :: es) da) (hg : Gl X x := by rfl)
    (hdb : (x == ("__debug__" : Str)) = false := by decide) (he : starEach (e :: es) X.env = (false, eval e X.env) :: starEach es X.env := by rfl) (hpl : (backTo pos (starEach es X.env)).any (·.1) = false := by rfl) : PD X W (.Call (.Name x p) (e :: es) [] pos) (dMake C n sd da) := by
  obtain ⟨f, fd, ps, hm, Mm, hb, F⟩ := F
  constructor
  intro pins s σ H Q I ⟨env, M, q, E, H0, so, S, h, kq, kx⟩
  refine wpAny_Call_Name_kw (ld_glob I hg hm ?_ hdb)
  refine PySem.W.callWith_K (h₀ := X.base) I.ok.mod.kin Mm.kp (wpAny_mono (PA.run ha pos pins s σ H (fun vs H1 => ∀ x dx, H1 x = none → H1 dx = none → dx ≠ x → spOf X.K n sd (.ref x :: vs) (upd (upd H1 dx (.own x)) x (.ins C dx [])) (fun v H2 => v = .non ∧ Q (.ref x) H2) (WE W σ)) I
    (goA so S h kx fun vs ds H1 H' M1 e1 so1 S1 rs ⟨hl, w⟩ kx1 x dx hx hd ne => ?_)) (fun us s1 ⟨vs, H1, I1, r, q1⟩ => ⟨I1.kIn, run_makeD Mm F hr hb tk I1 r q1⟩) fun _ _ z => z) he hpl
  refine ⟨.cel x :: ds, _, _, E, H1, hl, .cons (.cel x) rs, made_D S1 hx hd ne, w x (S1.fresh hx).2, fun v d H2 H2' M2 e2 S2 rv ⟨ev, fs, em, z⟩ => ?_, kx1⟩
  subst ev
  refine ⟨rv.inv_non, ?_⟩
  obtain ⟨o, n0, S3, r3⟩ := S2.freezeO em
  exact kq _ _ _ H2' _ ((e1.trans e2).trans (Ext.add n0)) S3 r3 z
def KD (X : Cx) (W : WX) (kws : List Keyword) (da : DA) : Prop := PK X kws (liftA X.K W da)
theorem pkImp {kws : List Keyword} {t t' : TA} (h : PK X kws t) (i : ∀ σ H Q, t' σ H Q → t σ H Q) : PK X kws t' := ⟨fun pos pins s σ H Q I q => h.run pos pins s σ H Q I (i σ H Q q)⟩
theorem kd_nil : KD X W [] dNil := pkImp pk_nil fun σ H Q ⟨env, M, q, E, H0, so, S, h, k, kx⟩ => k [] [] H0 H M (Ext.refl H0) S .nil h
theorem kd_cons {nm : Option Str} {e : Expr} {kpos : Pos} {kws : List Keyword} {de : DE} {da : DA} (he : PD X W e de) (hr : KD X W kws da) : KD X W (⟨nm, e, kpos⟩ :: kws) (dCons de da) :=
  pkImp (pk_cons he hr) fun σ H Q ⟨env, M, q, E, H0, so, S, h, k, kx⟩ =>
    goE so S h kx fun x dx H1 H' M1 e1 so1 S1 rx h1 kx1 => goA so1 S1 h1 kx1 fun xs ds H2 H'' M2 e2 so2 S2 rs h2 kx2 => k _ _ H2 H'' M2 (e1.trans e2) S2 (.cons (rx.mono e2) rs) h2
@[reducible] def dPar2 (i j : Nat) (da : DA) : DS := fun d env M => da env M (fun ds M1 => ∃ a b, ds = [a, b] ∧ d.nx ((env.set i (some a)).set j (some b)) M1) (d.ex env)
theorem sd_par2 (i j : Nat) {x y : Str} {a b : Expr} {da : DA} {px py pt pos : Pos} {kt k2 pt2} (hc : X.calm = true) (hN : X.N.Nodup) (ha : AD X W [a, b] da) (hi : X.N[i]? = some x := by rfl) (hj : X.N[j]? = some y := by rfl) (hij : i ≠ j := by decide)
    (hx : X.env.scope.names.lookup x = some .local := by rfl) (hy : X.env.scope.names.lookup y = some .local := by rfl)
    (hw : swappedStores [.Tuple [.Name x px, .Name y py] kt pt] (.Tuple [a, b] k2 pt2) X.env = pure (some [x, y]) := by rfl)
    (hs : swapsWithSole [.Tuple [.Name x px, .Name y py] kt pt] (.Tuple [a, b] k2 pt2) pos.line X.env = pure false := by rfl) :
    SDt X W (.Assign [.Tuple [.Name x px, .Name y py] kt pt] (.Tuple [a, b] k2 pt2) pos) (dPar2 i j da) :=
  psImp (ps_par hc hN hi hj hij hx hy ha hw hs) fun D σ H ⟨env, M, d, H0, so, S, h, k⟩ => goA so S h (k.ex.at so) fun vs ds H1 H' M1 e1 so1 S1 rs ⟨a, b, ed, w⟩ kx1 => by
    subst ed
    obtain ⟨v, u, rfl, rv, ru⟩ := dnl2 rs
    exact ⟨v, u, rfl, k.nx _ _ H1 H' M1 e1 ((so1.set i rv).set j ru) S1 w⟩
@[reducible] def dPar3 (i j l : Nat) (da : DA) : DS := fun d env M => da env M (fun ds M1 => ∃ a b c, ds = [a, b, c] ∧ d.nx (((env.set i (some a)).set j (some b)).set l (some c)) M1) (d.ex env)
theorem sd_par3 (i j l : Nat) {x y z : Str} {a b c : Expr} {da : DA} {px py pz pt pos : Pos} {kt k2 pt2} (hc : X.calm = true) (hN : X.N.Nodup) (ha : AD X W [a, b, c] da) (hi : X.N[i]? = some x := by rfl) (hj : X.N[j]? = some y := by rfl) (hl : X.N[l]? = some z := by rfl) (hij : i ≠ j := by decide) (hil : i ≠ l := by decide) (hjl : j ≠ l := by decide)
    (hx : X.env.scope.names.lookup x = some .local := by rfl) (hy : X.env.scope.names.lookup y = some .local := by rfl) (hz : X.env.scope.names.lookup z = some .local := by rfl)
    (hw : swappedStores [.Tuple [.Name x px, .Name y py, .Name z pz] kt pt] (.Tuple [a, b, c] k2 pt2) X.env = pure (some [x, y, z]) := by rfl)
    (hs : swapsWithSole [.Tuple [.Name x px, .Name y py, .Name z pz] kt pt] (.Tuple [a, b, c] k2 pt2) pos.line X.env = pure false := by rfl) :
    SDt X W (.Assign [.Tuple [.Name x px, .Name y py, .Name z pz] kt pt] (.Tuple [a, b, c] k2 pt2) pos) (dPar3 i j l da) :=
  psImp (ps_par3 hc hN hi hj hl hij hil hjl hx hy hz ha hw hs) fun D σ H ⟨env, M, d, H0, so, S, h, k⟩ => goA so S h (k.ex.at so) fun vs ds H1 H' M1 e1 so1 S1 rs ⟨a, b, c, ed, w⟩ kx1 => by
    subst ed
    cases rs with
    | cons rv rr =>
      obtain ⟨v, u, rfl, rw', ru⟩ := dnl2 rr
      exact ⟨_, v, u, rfl, k.nx _ _ H1 H' M1 e1 (((so1.set i rv).set j rw').set l ru) S1 w⟩
end
end DL
set_option maxRecDepth 100000
set_option maxHeartbeats 4000000
namespace DL
open PySem PySem.Spec PyProof.Rows L2 PySem.W RZ
theorem meets_enumT (l : Addr) (items : Array Value) (n : Nat) (dct : Option Addr) (sl : Array (Option Value)) :
    Meets (Builtin.«enumerate.__new__» ⟨[.type "enumerate", .ref l], []⟩) (fun _ R s => s.heap.get? l = some ⟨.type "tuple", dct, .seq items n, sl⟩ ∧
      R (.ok (.ret (.ref (s.heap.push { cls := .type "tuple_iterator", data := .fields #[.ref l, .int 0 0] }).objs.size)))
        { s with heap := (s.heap.push { cls := .type "tuple_iterator", data := .fields #[.ref l, .int 0 0] }).push { cls := .type "enumerate", data := .fields #[.none, .bool false, .ref s.heap.objs.size, rawInt 0, .none, .none] } }) :=
  .of_wp fun prog w A R s h => by
    obtain ⟨hp, g, d, tk, os⟩ := s
    obtain ⟨h1, h⟩ := h
    have hsub := sub_enumerate
    have q1 : ∀ {A' : Around} {E : Value → Shared → Prop} {Q : Value → Shared → Prop}, Q (.ref hp.objs.size) ⟨hp.push { cls := .type "tuple_iterator", data := .fields #[.ref l, .int 0 0] }, g, d, tk, os⟩ → wpAny (model prog w) A' (pyIter (.ref l)) Q E ⟨hp, g, d, tk, os⟩ :=
      fun q => wpAny_pyIter_tuple (s := ⟨hp, g, d, tk, os⟩) (show hp.IsTuple l items from ⟨_, h1, rfl, n, rfl⟩) q
    wp_walk using q1
    refine wpAny_stack_any fun st => wpAny_pure ?_
    split
    · rename_i c _ _ _ _ _
      cases (c == Value.type "enumerate")
      · wp_walk using q1
        exact ⟨_, rfl, h⟩
      · wp_walk using q1
        exact ⟨_, rfl, h⟩
    · wp_walk using q1
      exact ⟨_, rfl, h⟩
section
variable {prog : Program} {w : World} {A : Around} {E : Value → Shared → Prop} {s : Shared}
theorem call_enumT {l : Addr} {items : Array Value} {Q : Value → Shared → Prop} (hL : s.heap.IsTuple l items)
    (h : ∀ h', IsEnum h' (s.heap.objs.size + 1) s.heap.objs.size 0 .none → h'.IsTupleIter s.heap.objs.size l 0 → h'.objs.size = s.heap.objs.size + 2 →
      (∀ b o, s.heap.get? b = some o → h'.get? b = some o) → Q (.ref (s.heap.objs.size + 1)) { s with heap := h' }) :
    wpAny (model prog w) A (call (.type "enumerate") [.ref l]) Q E s := by
  obtain ⟨⟨c, dct, dt, sl⟩, hl, hc, n, hd⟩ := hL
  replace hc : c = .type "tuple" := hc
  replace hd : dt = .seq items n := hd
  subst hc hd
  refine callType_new F.called_enumerate (by decide) (F.typeCall_enumerate_1 _) (F.newCall_enumerate_1 _) (fun obj => F.args_object_init_2 obj _) F.entry_enumerate_new
    (meets_enumT l items n dct sl) ⟨hl, ?_⟩
  have hz : (s.heap.push { cls := .type "tuple_iterator", data := .fields #[.ref l, .int 0 0] }).objs.size = s.heap.objs.size + 1 := Heap.size_push ..
  show _ ∧ _
  rw [hz]
  have he : IsEnum ((s.heap.push { cls := .type "tuple_iterator", data := .fields #[.ref l, .int 0 0] }).push
      { cls := .type "enumerate", data := .fields #[.none, .bool false, .ref s.heap.objs.size, rawInt 0, .none, .none] }) (s.heap.objs.size + 1) s.heap.objs.size 0 .none := by
    have := Heap.get?_push_size (s.heap.push { cls := .type "tuple_iterator", data := .fields #[.ref l, .int 0 0] })
      (o := { cls := .type "enumerate", data := .fields #[.none, .bool false, .ref s.heap.objs.size, rawInt 0, .none, .none] }) rfl
    rw [hz] at this; exact this
  refine ⟨⟨_, he, rfl⟩, h _ he ⟨_, Heap.get?_push_of_some _ (Heap.get?_push_size _ rfl), rfl, rfl⟩ (by rw [Heap.size_push, hz]) fun b o x => Heap.get?_push_of_some _ (Heap.get?_push_of_some _ x)⟩
theorem enumT_end {e it l : Addr} {i : Nat} {items : Array Value} {old : Value} {Q : Option Value → Shared → Prop} (hh : A.handled = none) (he : IsEnum s.heap e it i old) (hit : s.heap.IsTupleIter it l i) (hl : s.heap.IsTuple l items) (hx : items[i]? = none)
    (hQ : ∀ h', Heap.ExtBut it s.heap h' → Q none { s with heap := h' }) : wpAny (model prog w) A (pyNext (.ref e)) Q E s := by
  have hT : s.TypeIs (.ref e) "enumerate" := ⟨_, he, rfl⟩
  unfold pyNext
  refine wpAny_bind (wpAny_attempt (wpAny_callSpecial?_slot (name := Str.ofString "__next__") hT F.slot_enumerate_next
    (wpAny_call_entry F.slot_enumerate_next hT F.entry_enumerate_next ?_ (F.args_enumerate_next_1 _))))
  show wpAny _ _ (field (.ref e) 2 >>= _) _ _ _
  refine wpAny_bind (wpAny_field he rfl (x := .ref it) rfl ?_)
  refine wpAny_bind (wpAny_nextOf_tuple_end (show A.in1.handled = none from hh) hit hl hx fun h' x he' hx' => ?_)
  obtain ⟨o, ho, hc⟩ := hx'
  refine wpAny_bind (wpAny_isInstance (T := "StopIteration") (b := true) ⟨o, ho, hc⟩ isSubtype_stop ?_)
  exact wpAny_pure (hQ _ he')
end
def IteT (K : PySem.W.Frag) (a : Addr) : It :=
  ⟨fun i H => ∃ (xs : List V) (x : V), SqT K H a xs ∧ xs[i]? = some x, fun i H v H' => ∃ T x, v = .ref T ∧ H T = none ∧ H' = upd H T (.tup [.int (i : Nat), x]) ∧ ∀ xs, SqT K H a xs → xs[i]? = some x, fun i H => ∃ xs : List V, SqT K H a xs ∧ xs.length ≤ i⟩
theorem turn_enumT {P : Program} {w : World} {K : PySem.W.Frag} {elts : List Expr} {kk : Nat} {tpos : Pos} (a e it : Addr) :
    Turn P w K (.Tuple elts kk tpos) (IteT K a) [e, it] e (fun i h => (∃ old, IsEnum h e it ((i : Nat) : Int) old) ∧ h.IsTupleIter it a i ∧ e ≠ it ∧ a ≠ it ∧ a ≠ e) where
  mem := by simp
  obj := fun i h st b hb => by
    obtain ⟨⟨old, he⟩, ⟨o, ho, hc, hd⟩, _⟩ := st
    have e' : b = e ∨ b = it := by simpa using hb
    rcases e' with z | z
    · rw [z]; exact ⟨_, he, fun v q => nomatch q⟩
    · rw [z]; exact ⟨o, ho, fun v q => by rw [hd] at q; cases q⟩
  keep := fun i h h' st k => let ⟨⟨old, he⟩, hi, hne⟩ := st; ⟨⟨old, k e (by simp) _ he⟩, hi.at fun o q => k it (by simp) o q, hne⟩
  item := by
    intro X hP hw hK hc i pins s σ H E I hf st hg
    subst hP hw hK
    obtain ⟨⟨old, he⟩, hit, hne, hai, hae⟩ := st
    obtain ⟨xs, x, hq, hx⟩ := hg
    obtain ⟨its, rv, p, hz⟩ := I.tuple hq
    obtain ⟨u, hu, ru⟩ := rv.get hx
    have hel : e < s.heap.objs.size := Heap.lt_size he
    have hil : it < s.heap.objs.size := by obtain ⟨_, q, _⟩ := hit; exact Heap.lt_size q
    have D := Draws.tuple (prog := X.prog) (w := X.w) (A := X.A.in1) (show X.A.in1.handled = none from I.ok.hd hc) it a hai its.toArray
    have hlt : i < its.toArray.size := by
      have := List.getElem?_eq_some_iff.mp hu
      obtain ⟨q, _⟩ := this
      simpa using q
    refine wpAny_pyNext_enum_itemD D he ⟨hit, show s.heap.IsTuple a its.toArray from p⟩ hlt hne (by simp [hne, Ne.symm hae]) fun y h' tk hy ho st' hT hsz hk => ?_
    have ey : y = u := by
      have : some y = some u := by rw [← hy]; simpa using hu
      exact Option.some.inj this
    subst ey
    refine ⟨_, rfl, wpAny_letOwnedTupleGo_enum (s := { s with heap := h', toks := tk + 1 }) ho fun h'' he' sb => ?_⟩
    have hT2 : h''.get? s.heap.objs.size = some { cls := .type "tuple", data := .seq #[.int i tk, y] } := (sb.2 _ (Nat.ne_of_gt hel)).trans hT
    have new : ObjOk X.prog X.w (upd H s.heap.objs.size (.tup [.int (i : Nat), x])) h'' s.heap.objs.size (.tup [.int (i : Nat), x]) :=
      ⟨by show 2 ≤ sizeLine; decide, [.int i tk, y], .cons ⟨_, rfl⟩ (.cons ru .nil), ⟨_, hT2, rfl, _, rfl⟩⟩
    have I1 : Inv X pins σ (upd H s.heap.objs.size (.tup [.int (i : Nat), x])) { s with heap := h'', toks := tk + 1 } :=
      I.turnedNew (ch := [e, it]) (fun b ob hb q => (sb.2 b (fun z => hb (by simp [z]))).trans (hk b ob (fun z => hb (by simp [z])) (fun z => hb (by simp [z])) q)) hf (Nat.le_refl _) new
    refine ⟨.ref s.heap.objs.size, _, I1, rfl, ⟨_, x, rfl, I.hok.fresh (Nat.le_refl _), rfl, fun ys hy => by rw [I.tuple_inj hy hq]; exact hx⟩, ⟨⟨y, ?_⟩, st'.1.at fun o q => (sb.2 it (Ne.symm hne)).trans q, hne, hai, hae⟩, fun b hb => ?_⟩
    · have e1 : ((i + 1 : Nat) : Int) = (i : Int) + 1 := by omega
      rw [e1]; exact he'
    · have hb' : b < s.heap.objs.size := by
        have e' : b = e ∨ b = it := by simpa using hb
        rcases e' with z | z
        · rw [z]; exact hel
        · rw [z]; exact hil
      rw [upd_ne (Nat.ne_of_lt hb')]
      exact (hf b hb).1
  done := by
    intro X hP hw hK hc i pins s σ H E I hf st hg
    subst hP hw hK
    obtain ⟨⟨old, he⟩, hit, hne, hai, hae⟩ := st
    obtain ⟨xs, hq, hx⟩ := hg
    obtain ⟨its, rv, p, hz⟩ := I.tuple hq
    obtain ⟨f0, f1, f2, f3, f4, f5⟩ := hf it (by simp)
    have hl := rv.length
    exact enumT_end (I.ok.hd hc) he hit (show s.heap.IsTuple a its.toArray from p) (by simp; omega) fun h' eb => ⟨rfl, I.turned (t' := s.toks) (fun b o hb q => eb b o hb q) f0 f1 f3 f4 f5⟩
  self := fun A i s Q E st h => let ⟨⟨_, he⟩, _⟩ := st; wpAny_pyIter_enum he h
/-- enumerate of a list or a tuple -/
def iEnumA (K : PySem.W.Frag) (ta : TA) : TI := fun σ H R => ta σ H fun vs H1 => ∃ a xs, vs = [.ref a] ∧ ((SqL K H1 a xs ∧ R (Ite K a) H1) ∨ (SqT K H1 a xs ∧ R (IteT K a) H1))
theorem pi_enumA {X : Cx} {e : Expr} {ta : TA} {p pos tpos : Pos} {elts : List Expr} {kk : Nat} (hg : Gl X "enumerate") (hm : X.mg "enumerate" = none) (ha : PA X [e] ta) (hs : starEach [e] X.env = [(false, eval e X.env)] := by rfl) :
    PI X (.Tuple elts kk tpos) (.Call (.Name "enumerate" p) [e] [] pos) (iEnumA X.K ta) := by
  refine ⟨fun pins s σ H R I h => ?_⟩
  refine Call_ (ld_blt I hg hm boot_enumerate (PyProof.Rows.callWith_type1 (thn (ha.run pos pins s σ H _ I h) fun us s1 ⟨vs, H1, I1, r1, q1⟩ => ?_) hs rfl))
  obtain ⟨a, xs, ex, q1⟩ := q1
  subst ex
  cases r1 with
  | cons r rr =>
    cases rr
    cases r
    have fr2 : ∀ b ∈ [s1.heap.objs.size + 1, s1.heap.objs.size], FpOk X pins H1 b := fun b hb => by
      have e' : b = s1.heap.objs.size + 1 ∨ b = s1.heap.objs.size := by simpa using hb
      have hle : s1.heap.objs.size ≤ b := by
        rcases e' with z | z
        · rw [z]; exact Nat.le_add_right _ _
        · rw [z]; exact Nat.le_refl _
      exact I1.fpOk hle (I1.hok.fresh hle)
    rcases q1 with ⟨hq, q⟩ | ⟨hq, q⟩
    · obtain ⟨its, rv, p', hz⟩ := I1.list hq
      refine call_enumerate_list p'.isList fun h' he hit hsz hk => wpAny_pyIter_enum he ?_
      have I2 : Inv X pins σ H1 { s1 with heap := h' } := I1.kept (t' := s1.toks) hk
      exact ⟨s1.heap.objs.size + 1, [s1.heap.objs.size + 1, s1.heap.objs.size], _, _, H1, rfl, I2, turn_enum a (s1.heap.objs.size + 1) s1.heap.objs.size, ⟨⟨.none, he⟩, hit, Nat.succ_ne_self _⟩, fr2, q⟩
    · obtain ⟨its, rv, p', hz⟩ := I1.tuple hq
      have hlt : a < s1.heap.objs.size := by obtain ⟨o, ho, _⟩ := id p'; exact Heap.lt_size ho
      refine call_enumT (show s1.heap.IsTuple a its.toArray from p') fun h' he hit hsz hk => wpAny_pyIter_enum he ?_
      have I2 : Inv X pins σ H1 { s1 with heap := h' } := I1.kept (t' := s1.toks) hk
      exact ⟨s1.heap.objs.size + 1, [s1.heap.objs.size + 1, s1.heap.objs.size], _, _, H1, rfl, I2, turn_enumT a (s1.heap.objs.size + 1) s1.heap.objs.size, ⟨⟨.none, he⟩, hit, Nat.succ_ne_self _, Nat.ne_of_lt hlt, Nat.ne_of_lt (Nat.lt_succ_of_lt hlt)⟩, fr2, q⟩
/-- pairs made anew at each turn -/
theorem mk_pair {K : PySem.W.Frag} {H0 H : Hp} {M : Mem} {T : Addr} {x y : V} {dx dy : D} (S : SD K H0 H M) (hT : H T = none) (rx : Dn K H0 x dx) (ry : Dn K H0 y dy) : ∃ H2, Ext H0 H2 ∧ SD K H2 (upd H T (.tup [x, y])) M ∧ Dn K H2 (.ref T) (.tup [dx, dy]) :=
  ⟨_, Ext.add (S.fresh hT).1, S.new hT, .tup (SqT.of upd_same) (.cons (rx.mono (Ext.add (S.fresh hT).1)) (.cons (ry.mono (Ext.add (S.fresh hT).1)) .nil))⟩
def enumD (xs : List D) : List D := (rngD 0 xs.length).zipWith (fun i x => .tup [i, x]) xs
theorem enumD_get {xs : List D} {i : Nat} {d : D} (h : (enumD xs)[i]? = some d) : ∃ x, xs[i]? = some x ∧ d = .tup [.int (i : Nat), x] := by
  unfold enumD rngD at h
  rw [List.getElem?_zipWith] at h
  cases hx : xs[i]? with
  | none => rw [hx] at h; simp at h
  | some x =>
    rw [hx] at h
    have hi := (List.getElem?_eq_some_iff.mp hx).1
    simp [List.getElem?_range hi] at h
    exact ⟨x, rfl, h.symm⟩
theorem enumD_len {xs : List D} : (enumD xs).length = xs.length := by
  unfold enumD rngD
  simp
theorem ite_ok {K : PySem.W.Frag} {H0 : Hp} {a : Addr} {d : D} {xs : List D} (hl : ∀ H0' H M, Ext H0 H0' → SD K H0' H M → seqOf M d = some xs → ∃ vs, SqL K H a vs ∧ DnL K H0' vs xs) : ItOk K H0 (Ite K a) (enumD xs) (fun M => seqOf M d = some xs) where
  go := fun H0' H M i y e S ok hi => by
    obtain ⟨x, hx, rfl⟩ := enumD_get hi
    obtain ⟨vs, hs, r⟩ := hl H0' H M e S ok
    obtain ⟨v, hv, rv⟩ := r.get hx
    exact ⟨⟨vs, v, hs, hv⟩, fun z H' ⟨T, u, e1, hT, e2, e3⟩ => by
      subst e1 e2
      have := e3 vs hs
      rw [hv] at this
      cases this
      exact mk_pair S hT (.int _) rv⟩
  stop := fun H0' H M i e S ok hi => by
    obtain ⟨vs, hs, r⟩ := hl H0' H M e S ok
    exact ⟨vs, hs, by rw [r.length]; rw [enumD_len] at hi; exact hi⟩
theorem iteT_ok {K : PySem.W.Frag} {H0 : Hp} {a : Addr} {xs : List D} {vs : List V} (h : SqT K H0 a vs) (r : DnL K H0 vs xs) (ok : Mem → Prop) : ItOk K H0 (IteT K a) (enumD xs) ok where
  go := fun H0' H M i y e S _ hi => by
    obtain ⟨x, hx, rfl⟩ := enumD_get hi
    obtain ⟨v, hv, rv⟩ := r.get hx
    have hs : SqT K H a vs := (e.trans S.ex).sqT h
    exact ⟨⟨vs, v, hs, hv⟩, fun z H' ⟨T, u, e1, hT, e2, e3⟩ => by
      subst e1 e2
      have := e3 vs hs
      rw [hv] at this
      cases this
      exact mk_pair S hT (.int _) (rv.mono e)⟩
  stop := fun H0' H M i e S _ hi => ⟨vs, (e.trans S.ex).sqT h, by rw [r.length]; rw [enumD_len] at hi; exact hi⟩
section
variable {X : Cx} {W : WX}
@[reducible] def dEnum (da : DA) : DI := fun env M q E => da env M (fun ds M1 => ∃ d xs, ds = [d] ∧ seqOf M1 d = some xs ∧ q (enumD xs) (fun M' => seqOf M' d = some xs) M1) E
theorem id_enum {e : Expr} {da : DA} {p pos tpos : Pos} {elts : List Expr} {kk : Nat} (hg : Gl X "enumerate") (hm : X.mg "enumerate" = none) (ha : AD X W [e] da) (hs : starEach [e] X.env = [(false, eval e X.env)] := by rfl) : ID X W (.Tuple elts kk tpos) (.Call (.Name "enumerate" p) [e] [] pos) (dEnum da) :=
  piImp (pi_enumA hg hm ha hs) fun σ H R ⟨env, M, q, E, H0, so, S, h, k, kx⟩ => goA so S h kx fun vs ds H1 H' M1 e1 so1 S1 rs ⟨d, xs, ed, ex, w⟩ kx1 => by
    subst ed
    obtain ⟨v, rfl, rx⟩ := dnl1 rs
    have fin : ∀ J ok, ItOk X.K H1 J (enumD xs) ok → q (enumD xs) ok M1 → R J H' := fun J ok z w => k J _ ok H1 H' M1 e1 S1 z w
    cases rx with
    | lst hh r =>
      cases ex
      exact ⟨_, _, rfl, .inl ⟨SqL.of (S1.ex _ _ hh), fin _ _ (ite_ok (d := .lst xs) fun H0' H M e S _ => ⟨_, SqL.of (S.ex _ _ (e _ _ hh)), r.mono e⟩) w⟩⟩
    | lsf hh r =>
      cases ex
      exact ⟨_, _, rfl, .inl ⟨S1.ex.sqL hh, fin _ _ (ite_ok (d := .lsf xs) fun H0' H M e S _ => ⟨_, (e.trans S.ex).sqL hh, r.mono e⟩) w⟩⟩
    | tup hh r =>
      cases ex
      exact ⟨_, _, rfl, .inr ⟨S1.ex.sqT hh, fin _ _ (iteT_ok hh r _) w⟩⟩
    | cel c =>
      obtain ⟨_, vs, e2, r⟩ := S1.cell c xs (celL_eq ex)
      exact ⟨_, vs, rfl, .inl ⟨SqL.of e2, fin _ _ (ite_ok (d := .cel c) fun H0' H M e S ok => by
        obtain ⟨_, ws, e3, r3⟩ := S.cell c xs (celL_eq ok)
        exact ⟨ws, SqL.of e3, r3⟩) w⟩⟩
    | _ => cases ex
/-- zip of two tuples -/
def zipD (xs ys : List D) : List D := xs.zipWith (fun x y => .tup [x, y]) ys
theorem itzT_ok {K : PySem.W.Frag} {H0 : Hp} {a b : Addr} {xs ys : List D} {vs us : List V} (h : SqT K H0 a vs) (r : DnL K H0 vs xs) (h' : SqT K H0 b us) (r' : DnL K H0 us ys) (ok : Mem → Prop) : ItOk K H0 (ItzT K a b) (zipD xs ys) ok where
  go := fun H0' H M i y e S _ hi => by
    unfold zipD at hi
    rw [List.getElem?_zipWith] at hi
    cases hx : xs[i]? with
    | none => rw [hx] at hi; simp at hi
    | some x =>
      cases hy : ys[i]? with
      | none => rw [hx, hy] at hi; simp at hi
      | some z =>
        rw [hx, hy] at hi
        simp at hi
        subst hi
        obtain ⟨v, hv, rv⟩ := r.get hx
        obtain ⟨u, hu, ru⟩ := r'.get hy
        have hs : SqT K H a vs := (e.trans S.ex).sqT h
        have hs' : SqT K H b us := (e.trans S.ex).sqT h'
        exact ⟨⟨vs, us, v, u, hs, hs', hv, hu⟩, fun z H' ⟨T, p, q, e1, hT, e2, e3, e4⟩ => by
          subst e1 e2
          have a1 := e3 vs hs
          rw [hv] at a1
          cases a1
          have a2 := e4 us hs'
          rw [hu] at a2
          cases a2
          exact mk_pair S hT (rv.mono e) (ru.mono e)⟩
  stop := fun H0' H M i e S _ hi => ⟨vs, us, (e.trans S.ex).sqT h, (e.trans S.ex).sqT h', by
    unfold zipD at hi
    rw [List.length_zipWith] at hi
    rw [r.length, r'.length]
    omega⟩
theorem itzL_ok {K : PySem.W.Frag} {H0 : Hp} {a b : Addr} {d d' : D} {xs ys : List D} (hl : ∀ H0' H M, Ext H0 H0' → SD K H0' H M → lsqOf M d = some xs → ∃ vs, SqL K H a vs ∧ DnL K H0' vs xs) (hl' : ∀ H0' H M, Ext H0 H0' → SD K H0' H M → lsqOf M d' = some ys → ∃ vs, SqL K H b vs ∧ DnL K H0' vs ys) :
    ItOk K H0 (Itz K a b) (zipD xs ys) (fun M => lsqOf M d = some xs ∧ lsqOf M d' = some ys) where
  go := fun H0' H M i y e S ok hi => by
    unfold zipD at hi
    rw [List.getElem?_zipWith] at hi
    obtain ⟨vs, hs, r⟩ := hl H0' H M e S ok.1
    obtain ⟨us, hs', r'⟩ := hl' H0' H M e S ok.2
    cases hx : xs[i]? with
    | none => rw [hx] at hi; simp at hi
    | some x =>
      cases hy : ys[i]? with
      | none => rw [hx, hy] at hi; simp at hi
      | some z =>
        rw [hx, hy] at hi
        simp at hi
        subst hi
        obtain ⟨v, hv, rv⟩ := r.get hx
        obtain ⟨u, hu, ru⟩ := r'.get hy
        exact ⟨⟨vs, us, v, u, hs, hs', hv, hu⟩, fun z H' ⟨T, p, q, e1, hT, e2, e3, e4⟩ => by
          subst e1 e2
          have a1 := e3 vs hs
          rw [hv] at a1
          cases a1
          have a2 := e4 us hs'
          rw [hu] at a2
          cases a2
          exact mk_pair S hT rv ru⟩
  stop := fun H0' H M i e S ok hi => by
    obtain ⟨vs, hs, r⟩ := hl H0' H M e S ok.1
    obtain ⟨us, hs', r'⟩ := hl' H0' H M e S ok.2
    refine ⟨vs, us, hs, hs', ?_⟩
    unfold zipD at hi
    rw [List.length_zipWith] at hi
    rw [r.length, r'.length]
    omega
theorem lsq_at {K : PySem.W.Frag} {H0 : Hp} {v : V} {d : D} {a : Addr} {xs : List D} (h : Dn K H0 v d) (ev : v = .ref a) : ∀ H0' H M, Ext H0 H0' → SD K H0' H M → lsqOf M d = some xs → ∃ vs, SqL K H a vs ∧ DnL K H0' vs xs := fun H0' H M e S q => by
  obtain ⟨b, vs, e1, hs, r⟩ := S.lsq (h.mono e) q
  rw [ev] at e1
  cases e1
  exact ⟨vs, hs, r⟩
@[reducible] def dZip (da : DA) : DI := fun env M q E => da env M (fun ds M1 => ∃ d d' xs ys, ds = [d, d'] ∧ ((d = .tup xs ∧ d' = .tup ys ∧ q (zipD xs ys) (fun _ => True) M1) ∨ (lsqOf M1 d = some xs ∧ lsqOf M1 d' = some ys ∧ q (zipD xs ys) (fun M' => lsqOf M' d = some xs ∧ lsqOf M' d' = some ys) M1))) E
theorem id_zip {e e2 : Expr} {da : DA} {p pos tpos : Pos} {elts : List Expr} {kk : Nat} (hg : Gl X "zip") (hm : X.mg "zip" = none) (ha : AD X W [e, e2] da)
    (hs : starEach [e, e2] X.env = (false, eval e X.env) :: starEach [e2] X.env := by rfl) (hpl : (backTo pos (starEach [e2] X.env)).any (·.1) = false := by rfl) : ID X W (.Tuple elts kk tpos) (.Call (.Name "zip" p) [e, e2] [] pos) (dZip da) :=
  piImp (pi_zipA hg hm ha hs hpl) fun σ H R ⟨env, M, q, E, H0, so, S, h, k, kx⟩ => goA so S h kx fun vs ds H1 H' M1 e1 so1 S1 rs ⟨d, d', xs, ys, ed, w⟩ kx1 => by
    subst ed
    obtain ⟨v, u, rfl, rv, ru⟩ := dnl2 rs
    rcases w with ⟨rfl, rfl, w⟩ | ⟨w1, w2, w⟩
    · cases rv with
      | tup hh r => cases ru with
        | tup hh' r' => exact ⟨_, _, _, _, rfl, .inr ⟨S1.ex.sqT hh, S1.ex.sqT hh', k _ _ _ H1 H' M1 e1 S1 (itzT_ok hh r hh' r' _) w⟩⟩
    · obtain ⟨a, us, ea, hq, r⟩ := S1.lsq rv w1
      obtain ⟨b, us', eb, hq', r'⟩ := S1.lsq ru w2
      subst ea eb
      exact ⟨a, b, us, us', rfl, .inl ⟨hq, hq', k _ _ _ H1 H' M1 e1 S1 (itzL_ok (d := d) (d' := d') (lsq_at rv rfl) (lsq_at ru rfl)) w⟩⟩
end
end DL
set_option maxRecDepth 100000
set_option maxHeartbeats 4000000
namespace DL
open PySem PySem.Spec PyProof.Rows L2
def tyT : D → Option String
  | .non => some "NoneType"
  | .bl _ => some "bool"
  | .int _ => some "int"
  | .str _ => some "str"
  | .lst _ => some "list"
  | .lsf _ => some "list"
  | .tup _ => some "tuple"
  | .dic _ _ => some "dict"
  | _ => none
def tyD (M : Mem) : D → Option String
  | .cel c => match M c with
    | some (.ls _) => some "list"
    | some (.dc _) => some "dict"
    | _ => none
  | d => tyT d
theorem SD.tyX {K : PySem.W.Frag} {H0 H : Hp} {M : Mem} (S : SD K H0 H M) {v : V} {d : D} {t : String} (h : Dn K H0 v d) (e : tyD M d = some t) : TyX K H v (.type t) := by
  have rd : ∀ {a : Addr} {xs : List V}, Rd H a (.lst xs) → TyX K H (.ref a) (.type "list") := fun z => z.elim (fun z => .base (.lst z)) fun ⟨o, z⟩ => .base (.frz z)
  have rt : ∀ {a : Addr} {xs : List V}, Rd H a (.tup xs) → TyX K H (.ref a) (.type "tuple") := fun z => z.elim (fun z => .base (.tup z)) fun ⟨o, z⟩ => .fTuple z
  cases h with
  | non => cases e; exact .base .non
  | bl b => cases e; exact .base (.bl b)
  | int b => cases e; exact .base (.int b)
  | str b => cases e; exact .base (.str b)
  | ty n => cases e
  | cel c =>
    have e' : (match M c with | some (.ls _) => some "list" | some (.dc _) => some "dict" | _ => none) = some t := e
    split at e'
    · rename_i xs hm; cases e'
      obtain ⟨_, vs, q, _⟩ := S.any c _ hm
      exact .base (.lst q)
    · rename_i xs hm; cases e'
      obtain ⟨_, vs, q, _⟩ := S.any c _ hm
      exact .base (.dK q)
    · cases e'
  | lst q r => cases e; exact .base (.lst (S.ex _ _ q))
  | lsf q r =>
    cases e
    rcases S.ex.sqL q with z | ⟨o, _, _, z, c, _⟩
    · exact rd z
    · exact .kList z c
  | tup q r =>
    cases e
    rcases S.ex.sqT q with z | ⟨o, _, _, z, c, _⟩
    · exact rt z
    · exact .kTuple z c
  | dic q r => cases e; exact .base (.dK (S.ex _ _ q))
  | ins q r => cases e
def isT (a b : String) : Option Bool := match b with
  | "int" => (match a with | "int" => some true | "bool" => some true | "NoneType" => some false | "str" => some false | "list" => some false | "tuple" => some false | "dict" => some false | _ => none)
  | "bool" => (match a with | "int" => some false | "bool" => some true | "NoneType" => some false | "str" => some false | "list" => some false | "tuple" => some false | "dict" => some false | _ => none)
  | "str" => (match a with | "int" => some false | "bool" => some false | "NoneType" => some false | "str" => some true | "list" => some false | "tuple" => some false | "dict" => some false | _ => none)
  | "tuple" => (match a with | "int" => some false | "bool" => some false | "NoneType" => some false | "str" => some false | "list" => some false | "tuple" => some true | "dict" => some false | _ => none)
  | _ => none
theorem isT_ok {a b : String} {r : Bool} (h : isT a b = some r) : kitB a b = some r := by
  unfold isT at h
  split at h <;> (try cases h) <;> (split at h <;> (try cases h) <;> decide +kernel)
@[reducible] def rdIsi (n : String) : RD1 := fun d M q => ∃ t b, tyD M d = some t ∧ isT t n = some b ∧ q (.bl b) M
section
variable {X : Cx} {W : WX}
@[reducible] def dIsi (n : String) (de : DE) : DE := fun env M q E => de env M (fun d M1 => rdIsi n d M1 q) E
theorem pd_isi {e : Expr} {y : Str} {n : String} {p p' pos : Pos} {de : DE} (he : PD X W e de) (hm : X.mg "isinstance" = none) (hmy : X.mg y = none) (hv : bootBuiltins y = some (.type n)) (hg : Gl X "isinstance" := by rfl) (hgy : Gl X y := by rfl) (hny : y ≠ "__name__" := by decide) (hdy : (y == ("__debug__" : Str)) = false := by decide)
    (hs : starEach [e, .Name y p'] X.env = (false, eval e X.env) :: starEach [.Name y p'] X.env := by rfl) (hpl : (backTo pos (starEach [.Name y p'] X.env)).any (·.1) = false := by rfl) (hv2 : bootBuiltins "isinstance" = some (.builtin "isinstance") := by decide +kernel) : PD X W (.Call (.Name "isinstance" p) [e, .Name y p'] [] pos) (dIsi n de) := by
  have h2 : AD X W [e, .Name y p'] (dCons de (dCons (dC (.ty n)) dNil)) := ad_cons he (ad_cons (pd_of_tC (pe_bltn hgy hmy hv (show RelV (.ty n) (.type n) from rfl) hny hdy) fun _ => .ty n) ad_nil (by rfl)) hs
  refine peImp (pe_callB (x := "isinstance") call_isi hg hm hv2 h2 (by decide) (by decide) hs hpl) fun σ H Q ⟨env, M, q, E, H0, so, S, h, k, kx⟩ => ?_
  refine ⟨env, M, fun ds M1 => (match ds with | [d, .ty m] => m = n ∧ rdIsi n d M1 q | _ => False), E, H0, so, S, ?_, ?_, kx⟩
  · show de env M (fun d M1 => n = n ∧ rdIsi n d M1 q) E
    rw [show (fun d M1 => n = n ∧ rdIsi n d M1 q) = (fun d M1 => rdIsi n d M1 q) from by funext d M1; exact propext ⟨fun h => h.2, fun h => ⟨rfl, h⟩⟩]
    exact h
  · intro vs ds H1 H' M1 e1 S1 rs w
    have w' : ∃ d, ds = [d, .ty n] ∧ rdIsi n d M1 q := by
      revert w
      split
      · rintro ⟨rfl, w⟩; exact ⟨_, rfl, w⟩
      · exact fun z => z.elim
    clear w
    obtain ⟨d, ed, t, b, et, eb, w⟩ := w'
    subst ed
    obtain ⟨v, u, rfl, rv, ru⟩ := dnl2 rs
    cases ru
    exact ⟨v, .ty n, .type t, .type n, b, rfl, .ty n, S1.tyX rv et, kit_ty (isT_ok eb), k _ _ H1 H' M1 e1 S1 (.bl b) w⟩
end
def IsPairS (h : Heap) (v : Value) (x : Int) (z : PySem.Str) : Prop := ∃ (a : Addr) (o : Obj) (t u : Tok) (n : Nat), v = .ref a ∧ h.get? a = some o ∧ o.cls = .type "tuple" ∧ o.data = .seq #[.int x t, .str z u] n
theorem IsPairS.keeps {h h' : Heap} {v : Value} {x : Int} {z : PySem.Str} (p : IsPairS h v x z) (k : ∀ b o, h.get? b = some o → o.cls = .type "tuple" → h'.get? b = some o) : IsPairS h' v x z := by
  obtain ⟨a, o, t, u, n, e, ho, hc, hd⟩ := p
  exact ⟨a, o, t, u, n, e, k a o ho hc, hc, hd⟩
section
open SrtO Srt
variable {prog : Program} {w : World} {A : Around} {E : Value → Shared → Prop} {s : Shared}
abbrev ltI (k : Value → Int) (v u : Value) : Bool := decide (k v < k u)
theorem swo_int (k : Value → Int) : Swo (ltI k) := ⟨fun x y h => by
  have := of_decide_eq_true h
  exact decide_eq_false (by omega), fun x y z h1 h2 => by
  have a := of_decide_eq_false h1
  have b := of_decide_eq_false h2
  exact decide_eq_false (by omega)⟩
end
section
variable {X : Cx} {W : WX}
def inW (ok : Mem → Prop) (g : GD) (t : DT) (de : DE) (env : EnvD) (c : Addr) (nx : Mem → Prop) : List D → Mem → Prop
  | [], M => ok M ∧ nx M
  | x :: r, M => ok M ∧ g x env M (fun env' M' => t env' M' (fun b M2 => if b = true then de env' M2 (fun y M3 => ∃ xs, M3 c = some (.ls xs) ∧ xs.length < sizeLine ∧ inW ok g t de env c nx r (mset M3 c (.ls (xs ++ [y])))) noX else inW ok g t de env c nx r M2) noX) (fun _ => noX)
def lc2W (ok : Mem → Prop) (g : GD) (t : DT) (di1 : DI) (g1 : GD) (t1 : DT) (de : DE) (vs1 : List Nat) (env : EnvD) (q : QD) (c : Addr) : List D → Mem → Prop
  | [], M => ok M ∧ ∃ xs, M c = some (.ls xs) ∧ q (.lst xs) (mdel M c)
  | x :: r, M => ok M ∧ g x env M (fun env' M' => t env' M' (fun b M2 => if b = true then di1 env' M2 (fun items1 ok1 M3 => inW ok1 g1 t1 de (wipeD env' vs1) c (fun M4 => lc2W ok g t di1 g1 t1 de vs1 env q c r M4) items1 M3) noX else lc2W ok g t di1 g1 t1 de vs1 env q c r M2) noX) (fun _ => noX)
@[reducible] def dLc2 (di : DI) (g : GD) (t : DT) (di1 : DI) (g1 : GD) (t1 : DT) (de : DE) (vs vs1 : List Nat) : DE := fun env M q E => di env M (fun items ok M1 => ∀ c, M1 c = none → lc2W ok g t di1 g1 t1 de vs1 (wipeD env vs) q c items (mset M1 c (.ls []))) E
theorem wipe2 {σ : L2.St} (vs : List Nat) : wipe (wipe σ vs) vs = wipe σ vs := by
  have z : ∀ (ws : List Nat), (∀ v ∈ ws, v ∈ vs) → wipe (wipe σ vs) ws = wipe σ vs := fun ws => by
    induction ws with
    | nil => intro _; rfl
    | cons v ws ih =>
      intro hv
      show (wipe (wipe σ vs) ws).set v none = wipe σ vs
      rw [ih fun u hu => hv u (List.mem_cons_of_mem _ hu)]
      exact wipe_idem (hv v List.mem_cons_self)
  exact z vs fun _ h => h
theorem lift_lc2 {K : PySem.W.Frag} {di di1 : DI} {g g1 : GD} {t t1 : DT} {de : DE} {vs vs1 : List Nat} : ∀ σ H Q, liftE K W (dLc2 di g t di1 g1 t1 de vs vs1) σ H Q → tLc2 (liftI K W di) (liftGw K g vs) (liftT K WF t) (liftI K WF di1) (liftGw K g1 vs1) (liftT K WF t1) (liftE K WF de) vs vs1 σ H Q := fun σ H Q ⟨env, M, q, E, H0, so, S, h, k, kx⟩ =>
  goI so S h kx fun J items ok H1 H' M1 e1 so1 S1 io w kx1 => by
    intro Dl hD
    have S1' := S1.newCell (vs := []) (xs := []) hD .nil
    have sw := slot_wipe so1 vs
    refine ⟨fun i m H2 => m = items.length - i ∧ i ≤ items.length ∧ ∃ M2 H3, Ext H1 H3 ∧ SD K H3 H2 M2 ∧ lc2W ok g t di1 g1 t1 de vs1 (wipeD env vs) q Dl (items.drop i) M2,
      ⟨_, rfl, Nat.zero_le _, _, H1, Ext.refl _, S1', w Dl (S1.fresh hD).2⟩, ?_⟩
    rintro i m H2 ⟨rfl, hi2, M2, H3, e3, S3, w3⟩
    by_cases hlt : i < items.length
    · have hx : items[i]? = some items[i] := List.getElem?_eq_getElem hlt
      rw [List.drop_eq_getElem_cons hlt] at w3
      obtain ⟨o3, w3⟩ := w3
      obtain ⟨g1', g2⟩ := io.go H3 H2 M2 i _ e3 S3 o3 hx
      refine .inr ⟨g1', fun H4 => ∃ M4 H5, Ext H1 H5 ∧ SD K H5 H4 M4 ∧ lc2W ok g t di1 g1 t1 de vs1 (wipeD env vs) q Dl (items.drop (i + 1)) M4, fun H4 z => ⟨items.length - (i + 1), by omega, rfl, hlt, z⟩, fun x H4 y => ?_⟩
      obtain ⟨H5, e5, S5, r5⟩ := g2 x H4 y
      refine ⟨_, _, M2, _, H5, r5, sw.mono (e3.trans e5), S5, w3, fun σ6 env6 H6 H6' M6 e6 so6 S6 w6 wz => ⟨?_, goT so6 S6 w6 kx0 fun b H7 H7' M7 e7 so7 S7 w7 _ => ?_⟩⟩
      · rw [wz]; exact wipe2 vs
      · have e17 : Ext H1 H7 := ((e3.trans e5).trans e6).trans e7
        cases b with
        | false => exact iteF ⟨M7, H7, e17, S7, w7⟩
        | true =>
          refine iteT ?_
          refine goI so7 S7 (show di1 env6 M7 _ noX from w7) kx0 fun J1 items1 ok1 H8 H8' M8 e8 so8 S8 io1 w8 _ => ?_
          have sw1 := slot_wipe so8 vs1
          refine ⟨fun j m H9 => m = items1.length - j ∧ j ≤ items1.length ∧ ∃ M9 H10, Ext H8 H10 ∧ SD K H10 H9 M9 ∧ inW ok1 g1 t1 de (wipeD env6 vs1) Dl (fun M4 => lc2W ok g t di1 g1 t1 de vs1 (wipeD env vs) q Dl (items.drop (i + 1)) M4) (items1.drop j) M9,
            ⟨_, rfl, Nat.zero_le _, _, H8, Ext.refl _, S8, w8⟩, ?_⟩
          rintro j m H9 ⟨rfl, hj2, M9, H10, e10, S10, w10⟩
          by_cases hlj : j < items1.length
          · have hx1 : items1[j]? = some items1[j] := List.getElem?_eq_getElem hlj
            rw [List.drop_eq_getElem_cons hlj] at w10
            obtain ⟨o10, w10⟩ := w10
            obtain ⟨k1, k2⟩ := io1.go H10 H9 M9 j _ e10 S10 o10 hx1
            refine .inr ⟨k1, fun H4 => ∃ M4 H5, Ext H8 H5 ∧ SD K H5 H4 M4 ∧ inW ok1 g1 t1 de (wipeD env6 vs1) Dl (fun M4 => lc2W ok g t di1 g1 t1 de vs1 (wipeD env vs) q Dl (items.drop (i + 1)) M4) (items1.drop (j + 1)) M4, fun H4 z => ⟨items1.length - (j + 1), by omega, rfl, hlj, z⟩, fun x1 H11 y1 => ?_⟩
            obtain ⟨H12, e12, S12, r12⟩ := k2 x1 H11 y1
            refine ⟨_, _, M9, _, H12, r12, sw1.mono (e10.trans e12), S12, w10, fun σ13 env13 H13 H13' M13 e13 so13 S13 w13 wz1 => ⟨?_, goT so13 S13 w13 kx0 fun b1 H14 H14' M14 e14 so14 S14 w14 _ => ?_⟩⟩
            · rw [wz1]; exact wipe2 vs1
            · have e814 : Ext H8 H14 := ((e10.trans e12).trans e13).trans e14
              cases b1 with
              | true =>
                refine iteT ?_
                refine goE so14 S14 (show de env13 M14 _ noX from w14) kx0 fun v d H15 H15' M15 e15 so15 S15 r15 ⟨xs, ex, hl, w15⟩ _ => ?_
                obtain ⟨n0, us, e16, r16⟩ := S15.cell Dl xs ex
                exact ⟨us, e16, by rw [r16.length]; exact hl, _, H15, e814.trans e15, S15.write ex (r16.app (.one r15)), w15⟩
              | false => exact iteF ⟨M14, H14, e814, S14, w14⟩
          · have hge : items1.length ≤ j := Nat.le_of_not_lt hlj
            rw [List.drop_eq_nil_of_le hge] at w10
            exact .inl ⟨io1.stop H10 H9 M9 j e10 S10 w10.1 hge, M9, H10, (e17.trans e8).trans e10, S10, w10.2⟩
    · have hge : items.length ≤ i := Nat.le_of_not_lt hlt
      rw [List.drop_eq_nil_of_le hge] at w3
      obtain ⟨o3, xs, ex, w3⟩ := w3
      refine .inl ⟨io.stop H3 H2 M2 i e3 S3 o3 hge, ?_⟩
      obtain ⟨us, _, n0, S4, r4⟩ := S3.freeze ex
      exact k _ _ _ H2 _ ((e1.trans e3).trans (Ext.add n0)) S4 r4 w3
theorem pd_lc2 {elt tg iter tg1 iter1 : Expr} {ifs ifs1 : List Expr} {scope : Scope} {own : List (Str × Nat)} {vs1 : List Nat} {pos : Pos} {di di1 : DI} {g g1 : GD} {t t1 : DT} {de : DE} (hc : X.calm = true) (hN : X.N.Nodup) (hi : ID X W tg iter di) (ok : BlkOk X.N X.env.scope scope own) (hv : ∀ i ∈ vs1, i ∈ own.map (·.2))
    (hg : ∀ (s : Shared) (H : Hp) (C : Addr) (cl : List (Str × Addr)) (fp : List Addr), TgW (X.blk s H scope (compEnvC scope cl C X.env) fp) tg g (own.map (·.2))) (ht : ∀ (s : Shared) (H : Hp) (C : Addr) (cl : List (Str × Addr)) (fp : List Addr), TsD (X.blk s H scope (compEnvC scope cl C X.env) fp) ifs t)
    (hi1 : ∀ (s : Shared) (H : Hp) (C : Addr) (cl : List (Str × Addr)) (fp : List Addr), ID (X.blk s H scope (compEnvC scope cl C X.env) fp) WF tg1 iter1 di1)
    (hg1 : ∀ (s : Shared) (H : Hp) (C : Addr) (cl : List (Str × Addr)) (fp : List Addr), TgW (X.blk s H scope (compEnvC scope cl C X.env) fp) tg1 g1 vs1) (ht1 : ∀ (s : Shared) (H : Hp) (C : Addr) (cl : List (Str × Addr)) (fp : List Addr), TsD (X.blk s H scope (compEnvC scope cl C X.env) fp) ifs1 t1)
    (he : ∀ (s : Shared) (H : Hp) (C : Addr) (cl : List (Str × Addr)) (fp : List Addr), PD (X.blk s H scope (compEnvC scope cl C X.env) fp) WF elt de) (hs : ∀ x, foldedSetIterable iter X.env x = pure x := by intro _; rfl) (hs1 : ∀ env x, foldedSetIterable iter1 env x = pure x := by intro _ _; rfl) :
    PD X W (.ListComp elt [⟨tg, iter, ifs, 0⟩, ⟨tg1, iter1, ifs1, 0⟩] scope pos) (dLc2 di g t di1 g1 t1 de (own.map (·.2)) vs1) :=
  peImp (pe_lc2 (g := liftGw X.K g (own.map Prod.snd)) (tt := liftT X.K WF t) (wi1 := liftI X.K WF di1) (g1 := liftGw X.K g1 vs1) (tt1 := liftT X.K WF t1) (te := liftE X.K WF de) hc hN hi ok hv hg ht hi1 hg1 ht1 he hs hs1) lift_lc2
end
end DL
set_option maxRecDepth 100000
set_option maxHeartbeats 4000000
namespace DL
open PySem PySem.Spec PyProof.Rows L2
section
variable {M : Mem} {q : QD}
theorem ifB {b : Bool} {A B : Prop} (h1 : b = true → A) (h2 : b = false → B) : if b = true then A else B := by
  cases b with
  | true => exact iteT (h1 rfl)
  | false => exact iteF (h2 rfl)
theorem ifD {p : Prop} [Decidable p] {A B : Prop} (h1 : p → A) (h2 : ¬ p → B) : if decide p = true then A else B := ifB (fun h => h1 (of_decide_eq_true h)) fun h => h2 (of_decide_eq_false h)
theorem ifYes {b : Bool} {A B : Prop} (h : b = true) (h1 : A) : if b = true then A else B := by rw [if_pos h]; exact h1
theorem ifNo {b : Bool} {A B : Prop} (h : b = false) (h1 : B) : if b = true then A else B := by rw [if_neg (by rw [h]; exact Bool.false_ne_true)]; exact h1
theorem ix_cel {c : Addr} {xs : List D} {i : Int} {d : D} (h : M c = some (.ls xs)) (e : atI xs i = some d) (w : q d M) : rdIx (.cel c) (.int i) M q := ⟨xs, i, d, celL_of h, rfl, e, w⟩
theorem ix_lst {xs : List D} {i : Int} {d : D} (e : atI xs i = some d) (w : q d M) : rdIx (.lst xs) (.int i) M q := ⟨xs, i, d, rfl, rfl, e, w⟩
theorem ix_tup {xs : List D} {i : Int} {d : D} (e : atI xs i = some d) (w : q d M) : rdIx (.tup xs) (.int i) M q := ⟨xs, i, d, rfl, rfl, e, w⟩
theorem ix_str {x : Str} {i : Int} {c : Nat} (z : x.length ≤ sizeLine) (e : atI x.cps.toList i = some c) (w : q (.str ⟨#[c]⟩) M) : rdIx (.str x) (.int i) M q := ⟨x, i, c, rfl, rfl, z, e, w⟩
theorem add_int {i j : Int} (w : q (.int (i + j)) M) : rdAdd (.int i) (.int j) M q := w
theorem add_str {a b : Str} (h : a.length + b.length ≤ sizeLine) (w : q (.str (a ++ b)) M) : rdAdd (.str a) (.str b) M q := ⟨h, w⟩
theorem add_tup {a b : List D} (h : a.length + b.length ≤ sizeLine) (w : q (.tup (a ++ b)) M) : rdAdd (.tup a) (.tup b) M q := ⟨h, w⟩
theorem add_lst {x y : D} {a b : List D} (hx : lstOf M x = some a) (hy : lstOf M y = some b) (h : a.length + b.length ≤ sizeLine) (w : q (.lst (a ++ b)) M) : rdAdd x y M q := by
  cases x with
  | lst _ => exact ⟨a, b, hx, hy, h, w⟩
  | cel _ => exact ⟨a, b, hx, hy, h, w⟩
  | _ => cases hx
theorem str_app (a b : Str) : (a ++ b).cps.toList = a.cps.toList ++ b.cps.toList := by
  show (a.cps ++ b.cps).toList = _
  exact Array.toList_append
theorem str_len (a : Str) : a.length = a.cps.toList.length := by
  show a.cps.size = _
  rw [Array.length_toList]
theorem sub_int {i j : Int} (w : q (.int (i - j)) M) : rdSub (.int i) (.int j) M q := ⟨trivial, w⟩
theorem mul_int {i j : Int} (c : IntMulOk i j) (w : q (.int (i * j)) M) : rdMul (.int i) (.int j) M q := ⟨c, w⟩
theorem mul_l {i j : Int} (c : -(2 ^ 64) < i) (c' : i < 2 ^ 64) (w : q (.int (i * j)) M) : rdMul (.int i) (.int j) M q := ⟨CMul.ok (.inl ⟨c, c'⟩), w⟩
theorem mul_r {i j : Int} (c : -(2 ^ 64) < j) (c' : j < 2 ^ 64) (w : q (.int (i * j)) M) : rdMul (.int i) (.int j) M q := ⟨CMul.ok (.inr ⟨c, c'⟩), w⟩
theorem mod_int {i j : Int} (c : 0 < j) (w : q (.int (i % j)) M) : rdMod (.int i) (.int j) M q := ⟨c, w⟩
/-- what is left: some number below -/
theorem mod_any {i j : Int} (c : 0 < j) (w : ∀ r, 0 ≤ r → r < j → q (.int r) M) : rdMod (.int i) (.int j) M q := ⟨c, w _ (Int.emod_nonneg _ (by omega)) (Int.emod_lt_of_pos _ c)⟩
theorem div_int {i j : Int} (c : 0 < j) (c' : j < 1073741824) (w : q (.int (i / j)) M) : rdDiv (.int i) (.int j) M q := ⟨⟨c, c'⟩, w⟩
theorem dm_int {i j : Int} (c : 0 < j) (c' : j < 1073741824) (w : q (.tup [.int (i / j), .int (i % j)]) M) : rdDivmod [.int i, .int j] M q := ⟨⟨c, c'⟩, w⟩
theorem lt_int {i j : Int} (w : q (.bl (decide (i < j))) M) : rdLt (.int i) (.int j) M q := ⟨trivial, w⟩
theorem le_int {i j : Int} (w : q (.bl (decide (i ≤ j))) M) : rdLe (.int i) (.int j) M q := ⟨trivial, w⟩
theorem gt_int {i j : Int} (w : q (.bl (decide (j < i))) M) : rdGt (.int i) (.int j) M q := ⟨trivial, w⟩
theorem ge_int {i j : Int} (w : q (.bl (decide (j ≤ i))) M) : rdGe (.int i) (.int j) M q := ⟨trivial, w⟩
theorem int_int {i : Int} (w : q (.int i) M) : rdInt [.int i] M q := w
theorem len_lst {xs : List D} (w : q (.int xs.length) M) : rdLen [.lst xs] M q := ⟨_, rfl, xs, rfl, w⟩
theorem len_tup {xs : List D} (w : q (.int xs.length) M) : rdLen [.tup xs] M q := ⟨_, rfl, xs, rfl, w⟩
theorem len_cel {c : Addr} {xs : List D} (h : M c = some (.ls xs)) (w : q (.int xs.length) M) : rdLen [.cel c] M q := ⟨_, rfl, xs, celL_of h, w⟩
theorem len_str {x : Str} (z : x.length ≤ sizeLine) (w : q (.int x.length) M) : rdLen [.str x] M q := ⟨_, rfl, z, w⟩
theorem eq_int {i j : Int} (w : q (.bl (decide (i = j))) M) : rdEq (.int i) (.int j) M q := by
  refine .inl ⟨.int i, .int j, rfl, rfl, rfl, rfl, ?_⟩
  have e : PyData.eqv (.int i) (.int j) = decide (i = j) := by
    first
    | rfl
    | (unfold PyData.eqv; rfl)
    | simp [PyData.eqv]
  rw [e]; exact w
theorem eq_str {i j : Str} (hi : PyData.strOk i = true) (hj : PyData.strOk j = true) (w : q (.bl (decide (i = j))) M) : rdEq (.str i) (.str j) M q := .inr ⟨i, j, rfl, rfl, w⟩
theorem ne_strA {i j : Str} (w : q (.bl (!decide (i = j))) M) : rdNe (.str i) (.str j) M q := .inr ⟨i, j, rfl, rfl, w⟩
theorem ne_int {i j : Int} (w : q (.bl (!decide (i = j))) M) : rdNe (.int i) (.int j) M q := by
  refine .inl ⟨.int i, .int j, rfl, rfl, rfl, rfl, ?_⟩
  have e : PyData.eqv (.int i) (.int j) = decide (i = j) := by
    first
    | rfl
    | (unfold PyData.eqv; rfl)
    | simp [PyData.eqv]
  rw [e]; exact w
end
/-- all cells that were there are as they were -/
def Kept (M M' : Mem) : Prop := ∀ c x, M c = some x → M' c = some x
theorem Kept.refl (M : Mem) : Kept M M := fun _ _ h => h
theorem Kept.trans {M M' M'' : Mem} (a : Kept M M') (b : Kept M' M'') : Kept M M'' := fun c x h => b c x (a c x h)
theorem Kept.new {M : Mem} {c : Addr} {x : Cel} (h : M c = none) : Kept M (mset M c x) := fun d y e => by
  by_cases q : d = c
  · subst q; rw [h] at e; cases e
  · rw [mset_ne q]; exact e
theorem Kept.put {M M' : Mem} {c : Addr} {x : Cel} (a : Kept M M') (h : M c = none) : Kept M (mset M' c x) := fun d y e => by
  by_cases q : d = c
  · subst q; rw [h] at e; cases e
  · rw [mset_ne q]; exact a d y e
theorem Kept.del {M M' : Mem} {c : Addr} (a : Kept M M') (h : M c = none) : Kept M (mdel M' c) := fun d y e => by
  by_cases q : d = c
  · subst q; rw [h] at e; cases e
  · unfold mdel; rw [if_neg q]; exact a d y e
/-- .. but one -/
def KeptB (k : Addr) (M M' : Mem) : Prop := ∀ c x, M c = some x → c ≠ k → M' c = some x
theorem KeptB.refl {k : Addr} (M : Mem) : KeptB k M M := fun _ _ h _ => h
theorem KeptB.trans {k : Addr} {M M' M'' : Mem} (a : KeptB k M M') (b : KeptB k M' M'') : KeptB k M M'' := fun c x h n => b c x (a c x h n) n
theorem Kept.b {k : Addr} {M M' : Mem} (a : Kept M M') : KeptB k M M' := fun c x h _ => a c x h
theorem KeptB.self {k : Addr} {M M' : Mem} {x : Cel} (a : KeptB k M M') : KeptB k M (mset M' k x) := fun c y h n => by rw [mset_ne n]; exact a c y h n
theorem KeptB.put {k : Addr} {M M' : Mem} {c : Addr} {x : Cel} (a : KeptB k M M') (h : M c = none) : KeptB k M (mset M' c x) := fun d y e n => by
  by_cases q : d = c
  · subst q; rw [h] at e; cases e
  · rw [mset_ne q]; exact a d y e n
theorem KeptB.del {k : Addr} {M M' : Mem} {c : Addr} (a : KeptB k M M') (h : M c = none) : KeptB k M (mdel M' c) := fun d y e n => by
  by_cases q : d = c
  · subst q; rw [h] at e; cases e
  · unfold mdel; rw [if_neg q]; exact a d y e n
theorem seq_kept {k : Addr} {M M' : Mem} {d : D} {xs : List D} (h : KeptB k M M') (n : d ≠ .cel k) (e : seqOf M d = some xs) : seqOf M' d = some xs := by
  cases d with
  | cel c => exact celL_of (h c _ (celL_eq e) fun z => n (by rw [z]))
  | lst _ => exact e
  | lsf _ => exact e
  | tup _ => exact e
  | _ => cases e
theorem lsq_kept {k : Addr} {M M' : Mem} {d : D} {xs : List D} (h : KeptB k M M') (n : d ≠ .cel k) (e : lsqOf M d = some xs) : lsqOf M' d = some xs := by
  cases d with
  | cel c => exact celL_of (h c _ (celL_eq e) fun z => n (by rw [z]))
  | lst _ => exact e
  | lsf _ => exact e
  | _ => cases e
theorem lsq_seq {M : Mem} {d : D} {xs : List D} (e : lsqOf M d = some xs) : seqOf M d = some xs := by
  cases d with
  | cel c => exact e
  | lst _ => exact e
  | lsf _ => exact e
  | _ => cases e
theorem len_seq {M : Mem} {q : QD} {d : D} {xs : List D} (e : seqOf M d = some xs) (w : q (.int xs.length) M) : rdLen [d] M q := by
  refine ⟨d, rfl, ?_⟩
  cases d with
  | str _ => cases e
  | _ => exact ⟨xs, e, w⟩
theorem ix_seq {M : Mem} {q : QD} {d : D} {xs : List D} {i : Int} {x : D} (e : seqOf M d = some xs) (h : atI xs i = some x) (w : q x M) : rdIx d (.int i) M q := by
  cases d with
  | str _ => cases e
  | _ => exact ⟨xs, i, x, e, rfl, h, w⟩
theorem atI_in {α : Type} {xs : List α} {i : Int} (h0 : 0 ≤ i) (h1 : i < xs.length) : ∃ x, atI xs i = some x ∧ x ∈ xs := by
  obtain ⟨n, rfl⟩ := Int.eq_ofNat_of_zero_le h0
  have hn : n < xs.length := by omega
  refine ⟨xs[n], ?_, List.getElem_mem hn⟩
  unfold atI ixN
  rw [if_pos h0, if_pos h1]
  exact List.getElem?_eq_getElem hn
theorem atI_nat {α : Type} {xs : List α} {n : Nat} {x : α} (h : xs[n]? = some x) : atI xs (n : Int) = some x := by
  have hn := (List.getElem?_eq_some_iff.mp h).1
  unfold atI ixN
  rw [if_pos (Int.natCast_nonneg n), if_pos (by omega)]
  exact h
theorem atI_zero {α : Type} {x : α} {xs : List α} : atI (x :: xs) 0 = some x := atI_nat (n := 0) rfl
section
variable {ok : Mem → Prop} {g : GD} {body : DS} {d : EndD} {xs : List D}
/-- a loop over a list: I i: ahead of the i-th turn -/
theorem for_lst (I : Nat → EnvD → Mem → Prop) (h0 : ∀ env M, I xs.length env M → ok M ∧ d.nx env M)
    (hs : ∀ i x env M, xs[i]? = some x → I i env M → ∀ nx : EnvD → Mem → Prop, (∀ env' M', I (i + 1) env' M' → nx env' M') → ok M ∧ g x env M (fun env' M' => body { d with nx := nx, ct := nx, bk := d.nx } env' M') d.ex) (env : EnvD) (M : Mem) (h : I 0 env M) : forW ok g body d xs env M := by
  have : ∀ (r : List D) (i : Nat) env M, r = xs.drop i → i ≤ xs.length → I i env M → forW ok g body d r env M := by
    intro r
    induction r with
    | nil =>
      intro i env M e hi hI
      have : i = xs.length := by
        have := congrArg List.length e
        rw [List.length_nil, List.length_drop] at this
        omega
      subst this
      exact h0 env M hI
    | cons x r ih =>
      intro i env M e hi hI
      have hlt : i < xs.length := by
        have := congrArg List.length e
        rw [List.length_cons, List.length_drop] at this
        omega
      rw [List.drop_eq_getElem_cons hlt] at e
      injection e with e1 e2
      exact hs i x env M (by rw [e1]; exact List.getElem?_eq_getElem hlt) hI _ fun env' M' h' => ih (i + 1) env' M' e2 hlt h'
  exact this xs 0 env M rfl (Nat.zero_le _) h
theorem for_rng {lo : Int} {n : Nat} (I : Nat → EnvD → Mem → Prop) (h0 : ∀ env M, I n env M → ok M ∧ d.nx env M)
    (hs : ∀ i env M, i < n → I i env M → ∀ nx : EnvD → Mem → Prop, (∀ env' M', I (i + 1) env' M' → nx env' M') → ok M ∧ g (.int (lo + (i : Nat))) env M (fun env' M' => body { d with nx := nx, ct := nx, bk := d.nx } env' M') d.ex) (env : EnvD) (M : Mem) (h : I 0 env M) : forW ok g body d (rngD lo n) env M := by
  have hl : (rngD lo n).length = n := by unfold rngD; rw [List.length_map, List.length_range]
  refine for_lst I (by rw [hl]; exact h0) (fun i x env M hx hI nx hn => ?_) env M h
  unfold rngD at hx
  rw [List.getElem?_map] at hx
  obtain ⟨j, hj, rfl⟩ := omap hx
  obtain ⟨h1, h2⟩ := List.getElem?_eq_some_iff.mp hj
  rw [List.length_range] at h1
  rw [List.getElem_range] at h2
  subst h2
  exact hs i env M h1 hI nx hn
end
section
variable {ok : Mem → Prop} {g : GD} {t : DT} {de : DE} {env : EnvD} {q : QD} {c : Addr} {xs : List D}
theorem lc_lst (I : Nat → Mem → Prop) (h0 : ∀ M, I xs.length M → ok M ∧ ∃ ys, M c = some (.ls ys) ∧ q (.lst ys) (mdel M c))
    (hs : ∀ i x M, xs[i]? = some x → I i M → ∀ nx : Mem → Prop, (∀ M', I (i + 1) M' → nx M') →
      ok M ∧ g x env M (fun env' M' => t env' M' (fun b M2 => if b = true then de env' M2 (fun y M3 => ∃ ys, M3 c = some (.ls ys) ∧ ys.length < sizeLine ∧ nx (mset M3 c (.ls (ys ++ [y])))) noX else nx M2) noX) (fun _ => noX)) (M : Mem) (h : I 0 M) : lcW ok g t de env q c xs M := by
  have : ∀ (r : List D) (i : Nat) M, r = xs.drop i → i ≤ xs.length → I i M → lcW ok g t de env q c r M := by
    intro r
    induction r with
    | nil =>
      intro i M e hi hI
      have : i = xs.length := by
        have := congrArg List.length e
        rw [List.length_nil, List.length_drop] at this
        omega
      subst this
      exact h0 M hI
    | cons x r ih =>
      intro i M e hi hI
      have hlt : i < xs.length := by
        have := congrArg List.length e
        rw [List.length_cons, List.length_drop] at this
        omega
      rw [List.drop_eq_getElem_cons hlt] at e
      injection e with e1 e2
      exact hs i x M (by rw [e1]; exact List.getElem?_eq_getElem hlt) hI _ fun M' h' => ih (i + 1) M' e2 hlt h'
  exact this xs 0 M rfl (Nat.zero_le _) h
/-- nothing but the new list changes: which items are taken, what is made of them -/
theorem lc_pure {M : Mem} (p : D → Bool) (f : D → D) (hc : M c = none) (hn : xs.length ≤ sizeLine) (hok : ∀ acc, ok (mset M c (.ls acc)))
    (hs : ∀ x, x ∈ xs → ∀ (acc : List D), acc.length < sizeLine → ∀ nx : Mem → Prop, (p x = true → nx (mset M c (.ls (acc ++ [f x])))) → (p x = false → nx (mset M c (.ls acc))) →
      g x env (mset M c (.ls acc)) (fun env' M' => t env' M' (fun b M2 => if b = true then de env' M2 (fun y M3 => ∃ ys, M3 c = some (.ls ys) ∧ ys.length < sizeLine ∧ nx (mset M3 c (.ls (ys ++ [y])))) noX else nx M2) noX) (fun _ => noX))
    (hq : q (.lst ((xs.filter p).map f)) M) : lcW ok g t de env q c xs (mset M c (.ls [])) := by
  refine lc_lst (fun i M' => M' = mset M c (.ls (((xs.take i).filter p).map f))) (fun M' e => ?_) (fun i x M' hx e nx hnx => ?_) _ (by rw [List.take_zero]; rfl)
  · subst e
    rw [List.take_length]
    refine ⟨hok _, _, mset_same, ?_⟩
    rw [mdel_mset hc]
    exact hq
  · subst e
    have hlt := (List.getElem?_eq_some_iff.mp hx).1
    have e1 : xs.take (i + 1) = xs.take i ++ [x] := by
      rw [List.take_succ, hx]; rfl
    refine ⟨hok _, hs x (List.mem_of_getElem? hx) _ ?_ nx (fun hp => hnx _ ?_) fun hp => hnx _ ?_⟩
    · rw [List.length_map]
      have := List.length_filter_le p (xs.take i)
      rw [List.length_take] at this
      omega
    · rw [e1, List.filter_append, List.map_append]
      have : ([x] : List D).filter p = [x] := by simp [hp]
      rw [this]; rfl
    · rw [e1, List.filter_append]
      have : ([x] : List D).filter p = [] := by simp [hp]
      rw [this, List.append_nil]
theorem in_lst {ok : Mem → Prop} {g : GD} {t : DT} {de : DE} {env : EnvD} {c : Addr} {nx0 : Mem → Prop} {xs : List D} (I : Nat → Mem → Prop) (h0 : ∀ M, I xs.length M → ok M ∧ nx0 M)
    (hs : ∀ i x M, xs[i]? = some x → I i M → ∀ nx : Mem → Prop, (∀ M', I (i + 1) M' → nx M') →
      ok M ∧ g x env M (fun env' M' => t env' M' (fun b M2 => if b = true then de env' M2 (fun y M3 => ∃ ys, M3 c = some (.ls ys) ∧ ys.length < sizeLine ∧ nx (mset M3 c (.ls (ys ++ [y])))) noX else nx M2) noX) (fun _ => noX)) (M : Mem) (h : I 0 M) : inW ok g t de env c nx0 xs M := by
  have : ∀ (r : List D) (i : Nat) M, r = xs.drop i → i ≤ xs.length → I i M → inW ok g t de env c nx0 r M := by
    intro r
    induction r with
    | nil =>
      intro i M e hi hI
      have : i = xs.length := by
        have := congrArg List.length e
        rw [List.length_nil, List.length_drop] at this
        omega
      subst this
      exact h0 M hI
    | cons x r ih =>
      intro i M e hi hI
      have hlt : i < xs.length := by
        have := congrArg List.length e
        rw [List.length_cons, List.length_drop] at this
        omega
      rw [List.drop_eq_getElem_cons hlt] at e
      injection e with e1 e2
      exact hs i x M (by rw [e1]; exact List.getElem?_eq_getElem hlt) hI _ fun M' h' => ih (i + 1) M' e2 hlt h'
  exact this xs 0 M rfl (Nat.zero_le _) h
theorem lc2_lst {ok : Mem → Prop} {g : GD} {t : DT} {di1 : DI} {g1 : GD} {t1 : DT} {de : DE} {vs1 : List Nat} {env : EnvD} {q : QD} {c : Addr} {xs : List D} (I : Nat → Mem → Prop) (h0 : ∀ M, I xs.length M → ok M ∧ ∃ ys, M c = some (.ls ys) ∧ q (.lst ys) (mdel M c))
    (hs : ∀ i x M, xs[i]? = some x → I i M → ∀ nx : Mem → Prop, (∀ M', I (i + 1) M' → nx M') →
      ok M ∧ g x env M (fun env' M' => t env' M' (fun b M2 => if b = true then di1 env' M2 (fun items1 ok1 M3 => inW ok1 g1 t1 de (wipeD env' vs1) c (fun M4 => nx M4) items1 M3) noX else nx M2) noX) (fun _ => noX)) (M : Mem) (h : I 0 M) : lc2W ok g t di1 g1 t1 de vs1 env q c xs M := by
  have : ∀ (r : List D) (i : Nat) M, r = xs.drop i → i ≤ xs.length → I i M → lc2W ok g t di1 g1 t1 de vs1 env q c r M := by
    intro r
    induction r with
    | nil =>
      intro i M e hi hI
      have : i = xs.length := by
        have := congrArg List.length e
        rw [List.length_nil, List.length_drop] at this
        omega
      subst this
      exact h0 M hI
    | cons x r ih =>
      intro i M e hi hI
      have hlt : i < xs.length := by
        have := congrArg List.length e
        rw [List.length_cons, List.length_drop] at this
        omega
      rw [List.drop_eq_getElem_cons hlt] at e
      injection e with e1 e2
      exact hs i x M (by rw [e1]; exact List.getElem?_eq_getElem hlt) hI _ fun M' h' => ih (i + 1) M' e2 hlt h'
  exact this xs 0 M rfl (Nat.zero_le _) h
theorem acc_put {M : Mem} {acc : List D} {y : D} {nx : Mem → Prop} (hz : acc.length < sizeLine) (h : nx (mset M c (.ls (acc ++ [y])))) : ∃ ys, (mset M c (.ls acc)) c = some (.ls ys) ∧ ys.length < sizeLine ∧ nx (mset (mset M c (.ls acc)) c (.ls (ys ++ [y]))) :=
  ⟨acc, mset_same, hz, by rw [mset_mset]; exact h⟩
end
theorem flats_str : ∀ xs : List Str, flats (xs.map D.str) = some (xs.map V.str)
  | [] => rfl
  | x :: xs => by
    show (match flat (.str x), flats (xs.map D.str) with | some v, some vs => some (v :: vs) | _, _ => none) = _
    rw [flats_str xs]; rfl
theorem flats_int : ∀ xs : List Int, flats (xs.map D.int) = some (xs.map V.int)
  | [] => rfl
  | x :: xs => by
    show (match flat (.int x), flats (xs.map D.int) with | some v, some vs => some (v :: vs) | _, _ => none) = _
    rw [flats_int xs]; rfl
theorem inV_str (x : Str) : ∀ xs : List Str, inV (.str x) (xs.map V.str) = decide (x ∈ xs)
  | [] => by simp [inV]
  | y :: ys => by
    have ih := inV_str x ys
    unfold inV at ih ⊢
    rw [List.map_cons, List.any_cons, ih]
    show ((y == x) || decide (x ∈ ys)) = _
    by_cases e : y = x
    · subst e; simp
    · simp [e, Ne.symm e]
theorem inV_int (x : Int) : ∀ xs : List Int, inV (.int x) (xs.map V.int) = decide (x ∈ xs)
  | [] => by simp [inV]
  | y :: ys => by
    have ih := inV_int x ys
    unfold inV at ih ⊢
    rw [List.map_cons, List.any_cons, ih]
    show ((y == x) || decide (x ∈ ys)) = _
    by_cases e : y = x
    · subst e; simp
    · simp [e, Ne.symm e]
section
variable {M : Mem} {q : QD}
theorem in_q {neg : Bool} {x d : D} {xs : List D} {v : V} {vs : List V} (e : seqOf M d = some xs) (ex : flat x = some v) (es : flats xs = some vs) (w : q (.bl (if neg then !inV v vs else inV v vs)) M) : rdIn neg x d M q := by
  cases d with
  | str _ => cases e
  | _ => exact ⟨xs, v, vs, e, ex, es, w⟩
theorem in_str {x : Str} {d : D} {xs : List Str} (e : seqOf M d = some (xs.map D.str)) (w : q (.bl (decide (x ∈ xs))) M) : rdIn false (.str x) d M q :=
  in_q e rfl (flats_str xs) (by rw [inV_str]; exact w)
theorem ni_str {x : Str} {d : D} {xs : List Str} (e : seqOf M d = some (xs.map D.str)) (w : q (.bl (!decide (x ∈ xs))) M) : rdIn true (.str x) d M q :=
  in_q e rfl (flats_str xs) (by rw [inV_str]; exact w)
theorem in_int {x : Int} {d : D} {xs : List Int} (e : seqOf M d = some (xs.map D.int)) (w : q (.bl (decide (x ∈ xs))) M) : rdIn false (.int x) d M q :=
  in_q e rfl (flats_int xs) (by rw [inV_int]; exact w)
theorem ni_int {x : Int} {d : D} {xs : List Int} (e : seqOf M d = some (xs.map D.int)) (w : q (.bl (!decide (x ∈ xs))) M) : rdIn true (.int x) d M q :=
  in_q e rfl (flats_int xs) (by rw [inV_int]; exact w)
theorem shL0 : SeqAt.shaped (.list []) = true := by
  unfold SeqAt.shaped
  simp [PyData.canLay0, PyData.canLayAll0, PyData.depth, PyData.depthAll]
theorem ne_nil {d : D} {p : List PyData} (e : pyOf M d = some (.list p)) (hs : SeqAt.shaped (.list p) = true) (w : q (.bl (!p.isEmpty)) M) : rdNe d (.lst []) M q := by
  refine .inl ⟨.list p, .list [], e, rfl, hs, shL0, ?_⟩
  have : PyData.eqv (.list p) (.list []) = p.isEmpty := by
    cases p <;> simp [PyData.eqv, PyData.eqvAll]
  rw [this]; exact w
theorem toPys_str : ∀ xs : List Str, toPys (xs.map D.str) = some (xs.map PyData.str)
  | [] => rfl
  | x :: xs => by
    show (match toPy (.str x), toPys (xs.map D.str) with | some p, some ps => some (p :: ps) | _, _ => none) = _
    rw [toPys_str xs]; rfl
theorem toPys_int : ∀ xs : List Int, toPys (xs.map D.int) = some (xs.map PyData.int)
  | [] => rfl
  | x :: xs => by
    show (match toPy (.int x), toPys (xs.map D.int) with | some p, some ps => some (p :: ps) | _, _ => none) = _
    rw [toPys_int xs]; rfl
theorem shStrs {xs : List Str} (h : ∀ x ∈ xs, PyData.strOk x = true) : SeqAt.shaped (.list (xs.map PyData.str)) = true ∧ SeqAt.shaped (.tuple (xs.map PyData.str)) = true := by
  have a : PyData.canLayAll0 (xs.map PyData.str) = true := by
    induction xs with
    | nil => rfl
    | cons x xs ih =>
      rw [List.map_cons]
      show (PyData.canLay0 (.str x) && PyData.canLayAll0 (xs.map PyData.str)) = true
      rw [ih fun y hy => h y (List.mem_cons_of_mem _ hy)]
      simp [PyData.canLay0, h x List.mem_cons_self]
  have b : PyData.depthAll (xs.map PyData.str) = 0 := by
    clear a h
    induction xs with
    | nil => rfl
    | cons x xs ih => rw [List.map_cons]; simp [PyData.depthAll, PyData.depth, ih]
  constructor
  · unfold SeqAt.shaped; simp [PyData.canLay0, PyData.depth, a, b]
  · unfold SeqAt.shaped; simp [PyData.canLay0, PyData.depth, a, b]
theorem shInts (xs : List Int) : SeqAt.shaped (.list (xs.map PyData.int)) = true := by
  have a : PyData.canLayAll0 (xs.map PyData.int) = true := by
    induction xs with
    | nil => rfl
    | cons x xs ih =>
      rw [List.map_cons]
      show (PyData.canLay0 (.int x) && PyData.canLayAll0 (xs.map PyData.int)) = true
      rw [ih]
      simp [PyData.canLay0]
  have b : PyData.depthAll (xs.map PyData.int) = 0 := by
    clear a
    induction xs with
    | nil => rfl
    | cons x xs ih => rw [List.map_cons]; simp [PyData.depthAll, PyData.depth, ih]
  unfold SeqAt.shaped; simp [PyData.canLay0, PyData.depth, a, b]
theorem cut_to {α : Type} (xs : List α) (n : Nat) : cutD xs none (some (n : Int)) = xs.take n := by
  unfold cutD
  rw [HT.sIx_none, HT.sIx_nat, Nat.sub_zero, List.drop_zero]
  by_cases h : n ≤ xs.length
  · rw [Nat.min_eq_left h]
  · rw [Nat.min_eq_right (by omega), List.take_of_length_le (Nat.le_refl _), List.take_of_length_le (by omega)]
theorem cut_from {α : Type} (xs : List α) (n : Nat) : cutD xs (some (n : Int)) none = xs.drop n := by
  unfold cutD
  rw [HT.sIx_none, HT.sIx_nat]
  by_cases h : n ≤ xs.length
  · rw [Nat.min_eq_left h, List.take_of_length_le (by rw [List.length_drop]; omega)]
  · rw [Nat.min_eq_right (by omega), List.drop_of_length_le (Nat.le_refl _), List.drop_of_length_le (by omega), List.take_nil]
theorem sl_lst {xs : List D} {n : Nat} (w : q (.lst (xs.take n)) M) : rdSl (.lst xs) none (some (n : Int)) M q := ⟨xs, rfl, by rw [cut_to]; exact w⟩
theorem sl_tup {xs : List D} {n : Nat} (w : q (.tup (xs.take n)) M) : rdSl (.tup xs) none (some (n : Int)) M q := by
  show q (.tup (cutD xs none (some (n : Int)))) M
  rw [cut_to]; exact w
theorem slf_tup {xs : List D} {n : Nat} (w : q (.tup (xs.drop n)) M) : rdSl (.tup xs) (some (n : Int)) none M q := by
  show q (.tup (cutD xs (some (n : Int)) none)) M
  rw [cut_from]; exact w
theorem sl_str {x : Str} {n : Nat} (z : x.length ≤ sizeLine) (w : ∀ y : Str, y.cps.toList = x.cps.toList.take n → q (.str y) M) : rdSl (.str x) none (some (n : Int)) M q := by
  refine ⟨z, w _ ?_⟩
  have e : (cutS x none (some (n : Int))).cps.toList = cutD x.cps.toList none (some (n : Int)) := by
    unfold cutS cutD
    rw [str_len]
  rw [e, cut_to]
end
section
variable {M : Mem} {q : QD}
theorem min_int {i j : Int} (w : ∀ m, m ≤ i → m ≤ j → (m = i ∨ m = j) → q (.int m) M) : rdMin2 [.int i, .int j] M q := by
  show q (.int (if j < i then j else i)) M
  by_cases h : j < i
  · rw [if_pos h]; exact w j (by omega) (by omega) (.inr rfl)
  · rw [if_neg h]; exact w i (by omega) (by omega) (.inl rfl)
theorem max_int {i j : Int} (w : ∀ m, i ≤ m → j ≤ m → (m = i ∨ m = j) → q (.int m) M) : rdMax2 [.int i, .int j] M q := by
  show q (.int (if j > i then j else i)) M
  by_cases h : j > i
  · rw [if_pos h]; exact w j (by omega) (by omega) (.inr rfl)
  · rw [if_neg h]; exact w i (by omega) (by omega) (.inl rfl)
theorem sl_lsf {xs : List D} {n : Nat} (w : q (.lst (xs.take n)) M) : rdSl (.lsf xs) none (some (n : Int)) M q := ⟨xs, rfl, by rw [cut_to]; exact w⟩
theorem pow_int {i j : Int} (c : CPow i j) (w : q (.int (i ^ j.toNat)) M) : rdPow (.int i) (.int j) M q := ⟨c, w⟩
theorem in_sign {c : Nat} {z : Str} (w : q (.bl (decide (c ∈ z.cps.toList))) M) : rdIn false (.str ⟨#[c]⟩) (.str z) M q := ⟨c, rfl, w⟩
theorem bls_all {b : Bool} : ∀ {xs : List D}, (∀ x ∈ xs, x = .bl b) → bls xs = some (xs.map fun _ => b)
  | [], _ => rfl
  | x :: xs, h => by
    have e := h x List.mem_cons_self
    subst e
    show (bls xs).map (b :: ·) = _
    rw [bls_all fun y hy => h y (List.mem_cons_of_mem _ hy)]
    rfl
theorem all_true {xs : List D} (h : ∀ x ∈ xs, x = .bl true) (w : q (.bl true) M) : rdAll [.lst xs] M q := by
  refine ⟨_, xs, _, rfl, rfl, bls_all h, ?_⟩
  have : (xs.map fun _ => true).all id = true := by simp
  rw [this]; exact w
theorem any_false {xs : List D} (h : ∀ x ∈ xs, x = .bl false) (w : q (.bl false) M) : rdAny [.lst xs] M q := by
  refine ⟨_, xs, _, rfl, rfl, bls_all h, ?_⟩
  have : (xs.map fun _ => false).any id = false := by simp
  rw [this]; exact w
end
/-- no more than the other has, if all are there and none twice -/
theorem nodup_len {α : Type} [DecidableEq α] : ∀ {xs ys : List α}, xs.Nodup → (∀ x ∈ xs, x ∈ ys) → xs.length ≤ ys.length
  | [], _, _, _ => Nat.zero_le _
  | x :: xs, ys, hn, h => by
    have hx := h x List.mem_cons_self
    obtain ⟨hn1, hn2⟩ := List.nodup_cons.mp hn
    have h2 : xs.length ≤ (ys.erase x).length := nodup_len hn2 fun y hy => by
      have hne : y ≠ x := fun e => hn1 (e ▸ hy)
      exact (List.mem_erase_of_ne hne).mpr (h y (List.mem_cons_of_mem _ hy))
    rw [List.length_erase_of_mem hx] at h2
    have : 0 < ys.length := List.length_pos_of_mem hx
    rw [List.length_cons]
    omega
end DL
set_option maxRecDepth 100000
set_option maxHeartbeats 4000000
namespace DL
open PySem PySem.Spec PyProof.Rows L2
section
variable {X : Cx} {W : WX}
def permL {α : Type} (pm : List Nat) (xs : List α) : List α := pm.filterMap fun i => xs[i]?
theorem permL_vals {xs : List V} {us : List Value} (r : Vals xs us) : ∀ pm : List Nat, Vals (permL pm xs) (permL pm us)
  | [] => .nil
  | i :: pm => by
    have ih := permL_vals r pm
    unfold permL at ih ⊢
    rw [List.filterMap_cons, List.filterMap_cons]
    cases hx : xs[i]? with
    | none =>
      have : us[i]? = none := by rw [List.getElem?_eq_none_iff] at hx ⊢; rw [← r.length]; exact hx
      rw [this]; exact ih
    | some x =>
      obtain ⟨u, hu, ru⟩ := r.get hx
      rw [hu]
      exact .cons ru ih
theorem permL_dn {K : PySem.W.Frag} {H : Hp} {vs : List V} {ds : List D} (r : DnL K H vs ds) : ∀ pm : List Nat, DnL K H (permL pm vs) (permL pm ds)
  | [] => .nil
  | i :: pm => by
    have ih := permL_dn r pm
    unfold permL at ih ⊢
    rw [List.filterMap_cons, List.filterMap_cons]
    cases hx : vs[i]? with
    | none =>
      have : ds[i]? = none := by rw [List.getElem?_eq_none_iff] at hx ⊢; rw [← r.length]; exact hx
      rw [this]; exact ih
    | some x =>
      obtain ⟨u, hu, ru⟩ := r.getV hx
      rw [hu]
      exact .cons ru ih
def KwPm (fd : FuncData) (ps : List Str) (ks : List Str) (pm : List Nat) : Prop := ∀ (s : Shared) (us ws : List Value), us.length = 1 → ws.length = ks.length → BindsTo s fd ⟨us, ks.zip ws⟩ (ps.zip (us ++ permL pm ws))
def KokP (P : Program) (w : World) (K : PySem.W.Frag) (mg : Str → Option Value) (base : Heap) (x : Str) (C : Addr) (k n : Nat) (ks : List Str) (pm : List Nat) (sd : SpD) : Prop :=
  ∃ (f : Addr) (fd : FuncData) (ps : List Str), mg x = some (.ref C) ∧ Mk K C f ∧ KwPm fd ps ks pm ∧ FnOk P w K mg base (L2.CX P w) k f fd ps (spOf K n sd)
@[reducible] def dMakeP (C : Addr) (n : Nat) (ks : List Str) (pm : List Nat) (sd : SpD) (da : DA) : DE := fun env M q E => da env M (fun ds M1 => ds.length = ks.length ∧ (permL pm ds).length + 1 = n ∧ ∀ c, M1 c = none → sd (.cel c :: permL pm ds) (mset M1 c (.ob C [])) (fun v M2 => v = .non ∧ ∃ fs, M2 c = some (.ob C fs) ∧ q (.ins C (fs.map (·.1)) (fs.map (·.2))) (mdel M2 c)) E) E
theorem run_makeP {k n : Nat} {C f : Addr} {fd : FuncData} {ps ks : List Str} {pm : List Nat} {sd : SpD} {pins : List (Addr × Obj)} {σ : L2.St} {H : Hp} {s : Shared} {Q : VK} {us : List Value} {vs : List V} (Mm : Mk X.K C f) (F : FnOk X.prog X.w X.K X.mg X.base (L2.CX X.prog X.w) k f fd ps (spOf X.K n sd))
    (hr : Room (k + 1) X.A) (hb : KwPm fd ps ks pm) (tk : Takes X W) (I : Inv X pins σ H s) (r : Vals vs us) (hl : vs.length = ks.length)
    (h : ∀ x dx, H x = none → H dx = none → dx ≠ x → spOf X.K n sd (.ref x :: permL pm vs) (upd (upd H dx (.own x)) x (.ins C dx [])) (fun v H2 => v = .non ∧ Q (.ref x) H2) (WE W σ)) :
    wpAny (model X.prog X.w) X.A (call (.ref C) [] (ks.zip us)) (EP X pins σ Q) X.xe s := by
  have hq := h (s.heap.objs.size + 1) s.heap.objs.size (I.hok.fresh (Nat.le_succ _)) (I.hok.fresh (Nat.le_refl _)) (Nat.ne_of_lt (Nat.lt_succ_self _))
  have I2 := Inv.made (C := C) I
  have r2 : Vals (V.ref (s.heap.objs.size + 1) :: permL pm vs) (Value.ref (s.heap.objs.size + 1) :: permL pm us) := .cons rfl (permL_vals r pm)
  refine wpAny_call (make_map (f := f) I.kIn Mm.makes Mm.init (beq_iff_eq.mp Mm.fn) (codeAny_mono (F.run _ X.stack _ _ ⟨[Value.ref (s.heap.objs.size + 1)], ks.zip us⟩ (Value.ref (s.heap.objs.size + 1) :: permL pm us) _ _ (WE W σ) (hr.make C [] (ks.zip us))
    (I2.env0.make C [] (ks.zip us)) (hb _ [Value.ref (s.heap.objs.size + 1)] us rfl (by rw [← r.length]; exact hl)) r2 hq) fun r s' hq' => ?_))
  cases r with
  | error e => exact passAt tk σ pins _ _ e s' I2 hq'
  | ok fl =>
    cases fl with
    | ret u =>
      obtain ⟨v, H', I3, rv, ev, q3⟩ := I2.after hq'
      subst ev
      exact ⟨rv, ⟨V.ref (s.heap.objs.size + 1), H', I3, rfl, q3⟩⟩
    | next => exact False.elim hq'
    | brk => exact False.elim hq'
    | cont => exact False.elim hq'
theorem pd_makeP {k n : Nat} {C : Addr} {x : Str} {ks : List Str} {pm : List Nat} {sd : SpD} {kws : List Keyword} {da : DA} {p pos : Pos} (F : KokP X.prog X.w X.K X.mg X.base x C k n ks pm sd) (hr : Room (k + 1) X.A) (tk : Takes X W) (ha : KD X W kws da) (hg : Gl X x := by rfl)
    (hall : (backToKw pos (keywordEach kws X.env)).all (·.1.isSome) = true := by rfl) (hks : (backToKw pos (keywordEach kws X.env)).filterMap (·.1) = ks := by rfl) (hdb : (x == ("__debug__" : Str)) = false := by decide)
    (hpl : ((backTo pos (starEach [] X.env)).any (·.1) || (backToKw pos (keywordEach kws X.env)).any (·.1.isNone)) = false := by rfl) : PD X W (.Call (.Name x p) [] kws pos) (dMakeP C n ks pm sd da) := by
  obtain ⟨f, fd, ps, hm, Mm, hb, F⟩ := F
  constructor
  intro pins s σ H Q I ⟨env, M, q, E, H0, so, S, h, kq, kx⟩
  refine wpAny_Call_Name_kw (ld_glob I hg hm ?_ hdb)
  refine PySem.W.callWith_KW0 (h₀ := X.base) I.ok.mod.kin Mm.kp hall (wpAny_mono (PK.run (t := liftA X.K W da) ha pos pins s σ H (fun vs H1 => vs.length = ks.length ∧ ∀ x dx, H1 x = none → H1 dx = none → dx ≠ x → spOf X.K n sd (.ref x :: permL pm vs) (upd (upd H1 dx (.own x)) x (.ins C dx [])) (fun v H2 => v = .non ∧ Q (.ref x) H2) (WE W σ)) I
    (goA so S h kx fun vs ds H1 H' M1 e1 so1 S1 rs ⟨hl, hn, w⟩ kx1 => ⟨by rw [rs.length]; exact hl, fun x dx hx hd ne => ?_⟩)) (fun us s1 ⟨vs, H1, I1, r, hl, q1⟩ => ⟨I1.kIn, ?_⟩) fun _ _ z => z) hpl
  · refine ⟨.cel x :: permL pm ds, _, _, E, H1, hn, .cons (.cel x) (permL_dn rs pm), made_D S1 hx hd ne, w x (S1.fresh hx).2, fun v d H2 H2' M2 e2 S2 rv ⟨ev, fs, em, z⟩ => ?_, kx1⟩
    subst ev
    refine ⟨rv.inv_non, ?_⟩
    obtain ⟨o, n0, S3, r3⟩ := S2.freezeO em
    exact kq _ _ _ H2' _ ((e1.trans e2).trans (Ext.add n0)) S3 r3 z
  · rw [hks]
    exact run_makeP Mm F hr hb tk I1 r hl q1
@[reducible] def dMakeL (i : Nat) (C : Addr) (n : Nat) (sd : SpD) (da : DA) : DE := fun env M q E => env[i]? = some (some (.cel C)) ∧ dMake C n sd da env M q E
theorem pd_makeL {k n i : Nat} {C : Addr} {x y : Str} {sd : SpD} {e : Expr} {es : List Expr} {da : DA} {p pos : Pos} (F : Kok X.prog X.w X.K X.mg X.base y C k n sd) (hr : Room (k + 1) X.A) (tk : Takes X W) (ha : AD X W (e :: es) da) (hN : X.N[i]? = some x := by rfl)
    (hv : Vis X.env.scope x := by first | exact Or.inl rfl | exact Or.inr (Or.inl rfl) | exact Or.inr (Or.inr rfl)) (hdb : (x == ("__debug__" : Str)) = false := by decide) (hcd : (x == ("__classdict__" : Str)) = false := by decide)
    (he : starEach (e :: es) X.env = (false, eval e X.env) :: starEach es X.env := by rfl) (hpl : (backTo pos (starEach es X.env)).any (·.1) = false := by rfl) : PD X W (.Call (.Name x p) (e :: es) [] pos) (dMakeL i C n sd da) := by
  obtain ⟨f, fd, ps, hm, Mm, hb, F⟩ := F
  constructor
  intro pins s σ H Q I ⟨env, M, q, E, H0, so, S, ⟨hi, h⟩, kq, kx⟩
  obtain ⟨v0, hv0, rv0⟩ := so.get i _ hi
  have ev0 := rv0.inv_cel
  subst ev0
  refine wpAny_Call_Name_kw (thn ((pe_var (pos := p) hN hv hdb hcd).run pins s σ H (fun v H1 => v = .ref C ∧ H1 = H) I ⟨.ref C, hv0, rfl, rfl⟩) fun u s1 ⟨v, H1, I1, r1, q1⟩ => ?_)
  obtain ⟨rfl, rfl⟩ := q1
  cases r1
  refine PySem.W.callWith_K (h₀ := X.base) I.ok.mod.kin Mm.kp (wpAny_mono (PA.run ha pos pins s1 σ _ (fun vs H1 => ∀ x dx, H1 x = none → H1 dx = none → dx ≠ x → spOf X.K n sd (.ref x :: vs) (upd (upd H1 dx (.own x)) x (.ins C dx [])) (fun v H2 => v = .non ∧ Q (.ref x) H2) (WE W σ)) I1
    (goA so S h kx fun vs ds H1 H' M1 e1 so1 S1 rs ⟨hl, w⟩ kx1 x dx hx hd ne => ?_)) (fun us s1 ⟨vs, H1, I1, r, q1⟩ => ⟨I1.kIn, run_makeD Mm F hr hb tk I1 r q1⟩) fun _ _ z => z) he hpl
  refine ⟨.cel x :: ds, _, _, E, H1, hl, .cons (.cel x) rs, made_D S1 hx hd ne, w x (S1.fresh hx).2, fun v d H2 H2' M2 e2 S2 rv ⟨ev, fs, em, z⟩ => ?_, kx1⟩
  subst ev
  refine ⟨rv.inv_non, ?_⟩
  obtain ⟨o, n0, S3, r3⟩ := S2.freezeO em
  exact kq _ _ _ H2' _ ((e1.trans e2).trans (Ext.add n0)) S3 r3 z
def Cok (P : Program) (w : World) (K : PySem.W.Frag) (mg : Str → Option Value) (base : Heap) (x : Str) (C : Addr) (m : Str) (k n : Nat) (sd : SpD) : Prop :=
  mg x = some (.ref C) ∧ ∃ (mc : Value) (p g : Addr) (fd : FuncData) (ps : List Str), ClX.CRead K C mc ∧ ClX.CMet K C mc m p g ∧ Binds K fd ps [] ∧ FnOk P w K mg base (L2.CX P w) k g fd ps (spOf K n sd)
@[reducible] def dCMeth (C : Addr) (n : Nat) (sd : SpD) (da : DA) : DE := fun env M q E => da env M (fun ds M1 => ds.length + 1 = n ∧ sd (.cel C :: ds) M1 q E) E
open ClX in
theorem pd_cmeth {k n : Nat} {C : Addr} {x m : Str} {sd : SpD} {e : Expr} {es : List Expr} {da : DA} {p apos pos : Pos} {pl : Sem Bool} (F : Cok X.prog X.w X.K X.mg X.base x C m k n sd) (hr : Room k X.A) (tk : Takes X W) (ha : AD X W (e :: es) da) (hg : Gl X x := by rfl) (hdb : (x == ("__debug__" : Str)) = false := by decide)
    (hst : starEach (e :: es) X.env = (false, eval e X.env) :: starEach es X.env := by rfl) (hpl : (backTo pos (starEach es X.env)).any (·.1) = false := by rfl)
    (ht : eval (.Call (.Attribute (.Name x p) m apos) (e :: es) [] pos) X.env = (do
      let ov ← eval (.Name x p) X.env
      standAt apos.atName
      let (f, first) ← holding [ov] (getMethod ov m pl)
      callWith pos f first (backTo pos (starEach (e :: es) X.env)) (backToKw pos (keywordEach [] X.env))) := by rfl) : PD X W (.Call (.Attribute (.Name x p) m apos) (e :: es) [] pos) (dCMeth C n sd da) := by
  obtain ⟨hm, mc, rp, g, fd, ps, r, c, hb, F⟩ := F
  constructor
  intro pins s σ H Q I ⟨env, M, q, E, H0, so, S, h, kq, kx⟩
  refine PySem.W.methodCall_KW (pl := pl) (wpAny_mono (PE.run (pe_glob (pos := p) (v := .ref C) hg hm rfl hdb) pins s σ H (fun x H1 => x = .ref C ∧ H1 = H) I ⟨rfl, rfl⟩) (fun u s1 ⟨x, H1, I1, rx, ex, eh⟩ => ?_) fun _ _ z => z) ht
  subst ex eh
  obtain rfl : u = Value.ref C := rx
  refine getmethcm_ok I1 r c fun s2 I2 => ?_
  refine callwith_cm I2 (base_none I1 (Nat.le_refl _)) c.fi (thn (PA.run ha pos _ s2 σ H1 (fun vs H2 => spOf X.K n sd (.ref C :: vs) H2 Q (WE W σ)) I2
    (goA so S h kx fun vs ds H2 H'' M2 e2 so2 S2 rs ⟨hl, w2⟩ kx2 => ⟨.cel C :: ds, M2, q, E, H2, hl, .cons (.cel C) rs, S2, w2, kq.mono e2, kx2⟩)) fun us s3 ⟨vs, H2, I3, rv, q2⟩ => ⟨⟨pin_at I3, I3.kIn⟩, ?_⟩) hst hpl
  have hl : (Value.ref C :: us).length = ps.length := by
    have e := (show Vals (V.ref C :: vs) (Value.ref C :: us) from .cons rfl rv).length
    rw [F.len _ _ _ _ q2] at e
    exact e.symm
  have hbb := hb s3 (Value.ref C :: us) I3.kIn (by rw [List.append_nil]; exact hl)
  rw [List.append_nil] at hbb
  have z : wpAny (model X.prog X.w) X.A (call (.ref s1.heap.objs.size) us) (EP X ((s1.heap.objs.size, PySem.W.methodObj (.ref g) (.ref C)) :: pins) σ Q) X.xe s3 :=
    wpAny_call (PySem.W.method_call (pin_at I3) (codeAny_mono (F.run X.A X.stack s3 H2 ⟨Value.ref C :: us, []⟩ (Value.ref C :: us) (V.ref C :: vs) Q (WE W σ) hr I3.env0 hbb (.cons rfl rv) q2) fun r s' hq' => by
      cases r with
      | error e => exact passAt tk σ _ H2 s3 e s' I3 hq'
      | ok fl =>
        cases fl with
        | ret u => exact I3.after hq'
        | next => exact False.elim hq'
        | brk => exact False.elim hq'
        | cont => exact False.elim hq'))
  exact thn z fun _ _ y => unpinE y
@[reducible] def dTryN (db : DS) : DS := fun d env M => db { d with ex := fun _ => noX } env M
theorem sd_tryN {x : Str} {c : Value} {body suite : List Stmt} {b₀ : Stmt} {np pos pos' : Pos} {db : DS} (hc : Names X x c) (tk : Takes X W)
    (hb : ∀ (W' : WX) (pn : List (Addr × Obj)) (xe : Value → Shared → Prop), Takes (X.tr pn xe) W' → PassesOwn (model X.prog X.w) X.A X.env xe → BD (X.tr pn xe) W' body db) (hs : X.stack = X.env :: X.outer := by rfl) (hf : X.env.frame = some X.env.locals := by rfl) :
    SDt X W (.Try body [.ExceptHandler (some (.Name x np)) none (b₀ :: suite) pos'] [] [] pos) (dTryN db) :=
  psImp (ps_try_only (ts := fun _ _ _ _ _ _ => False) (tb := fun W' => liftS X.K W' db) hs hf hc tk hb (fun a oe cls d pn _ _ => ⟨fun pins s σ H D I h => h.elim⟩)) fun D σ H ⟨env, M, d, H0, so, S, h, k⟩ => ⟨env, M, _, H0, so, S, h, ⟨k.nx, k.rt, k.bk, k.ct, kxe0⟩⟩
theorem SD.dput {K : PySem.W.Frag} {H0 H : Hp} {M : Mem} (S : SD K H0 H M) {c : Addr} {s : List (Key × D)} {r : List (Key × V)} (n0 : H0 c = none) (h : KvL K H0 r s) : SD K H0 (upd H c (.dK r)) (mset M c (.dc s)) := S.put (x := .dc s) n0 fun _ e => ⟨_, e, h⟩
def rdIntS : RDL := fun ds M q => ∃ (a : Str) (n : Int), ds = [.str a] ∧ PySem.intText? a = some n ∧ a.length ≤ 640 ∧ q (.int n) M
theorem cd_intS : CallD X (.type "int") rdIntS := ⟨_, call_int_str, fun H0 H M xs ds q Q S r w k => by
  obtain ⟨a, n, rfl, e, hl, w⟩ := w
  obtain ⟨v, rfl, rv⟩ := dnl1 r
  cases rv
  exact ⟨a, n, rfl, e, hl, k.here S (.int _) w⟩⟩
end
section
variable {M : Mem} {q : QD}
theorem slf_lst {xs : List D} {n : Nat} (w : q (.lst (xs.drop n)) M) : rdSl (.lst xs) (some (n : Int)) none M q := ⟨xs, rfl, by rw [cut_from]; exact w⟩
theorem eq_strA {i j : Str} (w : q (.bl (decide (i = j))) M) : rdEq (.str i) (.str j) M q := .inr ⟨i, j, rfl, rfl, w⟩
end
end DL
set_option maxRecDepth 100000
set_option maxHeartbeats 4000000
namespace DL
open PySem PySem.Spec PyProof.Rows L2
end DL
set_option maxRecDepth 100000
set_option maxHeartbeats 4000000
namespace DL
open PySem PySem.Spec PyProof.Rows L2
theorem e0_of {K : PySem.W.Frag} {P : Program} {w : World} {H : Hp} {outer : List Env} {s : Shared} {u : Value} {s' : Shared} (h : L2.CX P w outer H s E0 u s') : False := by
  obtain ⟨_, _, _, _, _, _, _, _, _, _, _, _, z⟩ := h
  exact z
section
variable {X : Cx} {W : WX}
/-- the call of a special method, around A with the same frames -/
theorem run_own {k n : Nat} {f : Addr} {fd : FuncData} {ps : List Str} {sd : SpD} {pins : List (Addr × Obj)} {σ : L2.St} {H : Hp} {s : Shared} {us : List Value} {vs : List V} {A : Around} {E : Value → Shared → Prop} {Q : VK} (F : FnOk X.prog X.w X.K X.mg X.base (L2.CX X.prog X.w) k f fd ps (spOf X.K n sd)) (hr : Room k A) (hb : Binds X.K fd ps [])
    (hfr : A.frames = X.A.frames) (I : Inv X pins σ H s) (r : Vals vs us) (h : spOf X.K n sd vs H Q E0) : wpAny (model X.prog X.w) A (call (.ref f) us) (EP X pins σ Q) E s := by
  have e0 : Env0 X.prog X.w X.K X.mg X.base A X.stack s H := by
    have e := I.env0
    exact ⟨by rw [hfr]; exact e.frames, e.mod, e.bs, e.bsz, e.funs, e.frf, e.hok, e.bare⟩
  have hl : (us ++ []).length = ps.length := by
    rw [List.append_nil, ← r.length]; exact F.len _ _ _ _ h
  have hbb := hb s us I.kIn hl
  rw [List.append_nil] at hbb
  refine wpAny_call (codeAny_mono (F.run A X.stack s H ⟨us, []⟩ us vs Q E0 hr e0 hbb r h) fun res s' out => ?_)
  cases res with
  | error e => exact (e0_of (K := X.K) out).elim
  | ok fl =>
    cases fl with
    | ret u => exact I.after out
    | next => exact out.elim
    | brk => exact out.elim
    | cont => exact out.elim
/-- str(o), own __str__ -/
def rdStrO (C : Addr) (sd : SpD) : RDL := fun ds M q => ∃ d fs, ds = [d] ∧ fsOf M C d = some fs ∧ sd [d] M (fun v M1 => ∃ x : Str, v = .str x ∧ q v M1) noX
theorem cd_strO {k : Nat} {C : Addr} {sd : SpD} (F : Mok X.prog X.w X.K X.mg X.base C "__str__" k 1 sd) (hr : Room (k + 2) X.A) : CallD X (.type "str") (rdStrO C sd) := by
  obtain ⟨c, f, fd, ps, hm, hfn, hb, F⟩ := F
  refine ⟨fun xs H Q => ∃ a dx fs, xs = [.ref a] ∧ H a = some (.ins C dx fs) ∧ spOf X.K 1 sd [.ref a] H (fun v H' => ∃ x : Str, v = .str x ∧ Q v H') E0, fun pins s σ H xs us Q I r h => ?_, fun H0 H M xs ds q Q S r w k => ?_⟩
  · obtain ⟨a, dx, fs, rfl, ea, h⟩ := h
    obtain ⟨u, rfl, ru⟩ := vals1 r
    obtain rfl : u = Value.ref a := ru
    obtain ⟨mA, J, _⟩ := ins_get I.hok ea
    obtain ⟨od, J, _⟩ := J.look
    have h2 : Room k X.A.in1.in1 := hr.in1.in1
    refine PySem.W.kso_call (by have := h2.un; omega) I.kIn J hm.at_ hm.fn (wpAny_mono (run_own F h2 hb rfl I (.cons (show RelV (.ref a) (.ref a) from rfl) .nil) h) (fun r s' ⟨v', H', I', rv, x, ev, q⟩ => ?_) fun _ _ z => z)
    subst ev
    obtain ⟨t, rfl⟩ := rv
    exact ⟨.str x, H', I', ⟨t, rfl⟩, q⟩
  · obtain ⟨d, fs, rfl, ef, w⟩ := w
    obtain ⟨v, rfl, rv⟩ := dnl1 r
    obtain ⟨a, dd, fvs, rfl, q1, r⟩ := S.obj rv ef
    exact ⟨a, dd, fvs, rfl, q1, [d], M, _, noX, H0, rfl, .cons rv .nil, S, w, fun v d H0' H' M' e S' rv ⟨n, ed, z⟩ => by subst ed; exact ⟨n, rv.inv_str, k _ _ H0' H' M' e S' rv z⟩, kx0⟩
/-- o == p, own __eq__, both of the class -/
def rdEqO (C : Addr) (sd : SpD) : RD2 := fun x y M q => ∃ fs gs, fsOf M C x = some fs ∧ fsOf M C y = some gs ∧ sd [x, y] M (fun v M1 => ∃ b, v = .bl b ∧ q v M1) noX
theorem opd_eqO {k : Nat} {C : Addr} {sd : SpD} (F : Mok X.prog X.w X.K X.mg X.base C "__eq__" k 2 sd) (hr : Room k X.A) : OpD X (compareOp .Eq) (rdEqO C sd) := by
  obtain ⟨c, f, fd, ps, hm, hfn, hb, F⟩ := F
  refine ⟨fun x y H Q => ∃ a dx fs b dy gs, x = .ref a ∧ H a = some (.ins C dx fs) ∧ y = .ref b ∧ H b = some (.ins C dy gs) ∧ spOf X.K 2 sd [x, y] H (fun v H' => ∃ b, v = .bl b ∧ Q v H') E0, fun pins s σ H x y v u Q I rx ry h => ?_, fun H0 H M x y dx dy q Q S hx hy w k => ?_⟩
  · obtain ⟨a, dx, fs, b, dy, gs, rfl, ea, rfl, eb, h⟩ := h
    obtain rfl : v = Value.ref a := rx
    obtain rfl : u = Value.ref b := ry
    obtain ⟨mA, J, _⟩ := ins_get I.hok ea
    obtain ⟨mB, J', _⟩ := ins_get I.hok eb
    obtain ⟨od, J, _⟩ := J.look
    obtain ⟨od', J', _⟩ := J'.look
    obtain ⟨m, hF⟩ := I.fr
    refine PySem.W.cmp_K (op := .Eq) (tb := .ref C) (by have := hr.un; omega) hF I.ok.mod.kin J J'.type (by simp [PySem.W.notFirst]) hm.at_ hm.fn (wpAny_mono (run_own F hr hb rfl I (.cons (show RelV (.ref a) (.ref a) from rfl) (.cons (show RelV (.ref b) (.ref b) from rfl) .nil)) h) (fun r s' ⟨v', H', I', rv, b, ev, q⟩ => ?_) fun _ _ z => z)
    subst ev
    cases rv
    exact ⟨.bl b, H', I', rfl, q⟩
  · obtain ⟨fs, gs, ef, eg, w⟩ := w
    obtain ⟨a, dd, fvs, rfl, q1, r⟩ := S.obj hx ef
    obtain ⟨b, dd', gvs, rfl, q2, r'⟩ := S.obj hy eg
    exact ⟨a, dd, fvs, b, dd', gvs, rfl, q1, rfl, q2, [dx, dy], M, _, noX, H0, rfl, .cons hx (.cons hy .nil), S, w, fun v d H0' H' M' e S' rv ⟨b, ed, z⟩ => by subst ed; exact ⟨b, rv.inv_bl, k _ _ H0' H' M' e S' rv z⟩, kx0⟩
@[reducible] def dFmt (de : DE) : DE := fun env M q E => de env M (fun x M1 => (∃ y : Str, x = .str y ∧ y.length ≤ sizeLine ∧ q (.str y) M1) ∨ ∃ i : Int, x = .int i ∧ i.natAbs.log2 < 1920 ∧ q (.str (toString i)) M1) E
theorem pd_fmt {e : Expr} {de : DE} {pos : Pos} (he : PD X W e de) : PD X W (.FormattedValue e (-1) none pos) (dFmt de) := peImp (pe_fmt he) fun σ H Q ⟨env, M, q, E, H0, so, S, h, k, kx⟩ =>
  goE so S h kx fun x dx H1 H' M1 e1 so1 S1 rx w kx1 => by
    rcases w with ⟨y, rfl, hz, w⟩ | ⟨i, rfl, hz, w⟩
    · exact .inl ⟨y, rx.inv_str, hz, k _ _ H1 H' M1 e1 S1 (.str _) w⟩
    · exact .inr ⟨i, rx.inv_int, hz, k _ _ H1 H' M1 e1 S1 (.str _) w⟩
inductive JD (X : Cx) (W : WX) : List Expr → List DE → Prop where
  | nil : JD X W [] []
  | cons {e : Expr} {d : DE} {es : List Expr} {ds : List DE} (h : PD X W e d) (r : JD X W es ds) : JD X W (e :: es) (d :: ds)
def dJs : List DE → Str → EnvD → Mem → (Str → Mem → Prop) → XD → Prop
  | [], acc, _, M, q, _ => q acc M
  | d :: ds, acc, env, M, q, E => d env M (fun x M1 => ∃ y : Str, x = .str y ∧ (acc ++ y).length ≤ sizeLine ∧ dJs ds (acc ++ y) env M1 q E) E
theorem JD.pj {es : List Expr} {ds : List DE} (h : JD X W es ds) : PJ X es (ds.map (liftE X.K W)) := by
  induction h with
  | nil => exact .nil
  | cons h _ ih => exact .cons h ih
theorem lift_js {K : PySem.W.Frag} {ds : List DE} : ∀ (acc : Str) (σ : L2.St) (H H0 : Hp) (env : EnvD) (M : Mem) (q : QD) (E : XD) (Q : VK), SlotOk K H0 σ env → SD K H0 H M → dJs ds acc env M (fun out M' => q (.str out) M') E → KQ K H0 q Q → (KX K H0 E fun c d => W c d σ) →
    tJs (ds.map (liftE K W)) acc σ H fun out H1 => Q (.str out) H1 := by
  induction ds with
  | nil => intro acc σ H H0 env M q E Q so S h k kx; exact k _ _ H0 H M (Ext.refl H0) S (.str acc) h
  | cons d ds ih =>
    intro acc σ H H0 env M q E Q so S h k kx
    exact goE so S h kx fun x dx H1 H' M1 e1 so1 S1 rx ⟨y, ey, hz, w⟩ kx1 => by
      subst ey
      exact ⟨y, rx.inv_str, hz, ih (acc ++ y) σ H' H1 env M1 q E Q so1 S1 w (k.mono e1) kx1⟩
def dJoined (ds : List DE) : DE := fun env M q E => dJs ds Str.empty env M (fun out M' => q (.str out) M') E
theorem pd_joined {v1 v2 : Expr} {rest : List Expr} {ds : List DE} {pos : Pos} (h : JD X W (v1 :: v2 :: rest) ds) : PD X W (.JoinedStr (v1 :: v2 :: rest) pos) (dJoined ds) :=
  peImp (pe_joined h.pj) fun σ H Q ⟨env, M, q, E, H0, so, S, h, k, kx⟩ => lift_js Str.empty σ H H0 env M q E Q so S h k kx
structure OwnI (K : PySem.W.Frag) (C : Addr) : Prop where
  cl : Cls K C
  ha : PySem.W.findIn K (.ref C) "__class__" = some (some (.builtin "object.__class__"))
  hn : PySem.W.specialIn K (.builtin "object.__class__") "__get__" = some (some (.builtin "getset_descriptor.__get__"))
  htk : PySem.W.takesIn K (.builtin "object.__class__") = some true
  hm : PySem.W.mroIn K C (.type "object") = some true
  no : ∀ t : String, t ∈ ["NoneType", "bool", "int", "str", "list", "tuple", "dict"] → PySem.W.kitOne K (.type t) (.ref C) = some false
theorem tyD_in {M : Mem} {d : D} {t : String} (h : tyD M d = some t) : t ∈ ["NoneType", "bool", "int", "str", "list", "tuple", "dict"] := by
  cases d with
  | cel c =>
    have e' : (match M c with | some (.ls _) => some "list" | some (.dc _) => some "dict" | _ => none) = some t := h
    split at e'
    · cases e'; decide
    · cases e'; decide
    · cases e'
  | ty n => cases h
  | ins C f v => cases h
  | _ => cases h; decide
@[reducible] def rdIsiC (C : Addr) : RD1 := fun d M q => ((∃ fs, fsOf M C d = some fs) ∧ q (.bl true) M) ∨ ((∃ t, tyD M d = some t) ∧ q (.bl false) M)
@[reducible] def dIsiC (C : Addr) (de : DE) : DE := fun env M q E => de env M (fun d M1 => rdIsiC C d M1 q) E
theorem pd_isiC {e : Expr} {y : Str} {C : Addr} {p p' pos : Pos} {de : DE} (he : PD X W e de) (o : OwnI X.K C) (hm : X.mg "isinstance" = none) (hmy : X.mg y = some (.ref C)) (hg : Gl X "isinstance" := by rfl) (hgy : Gl X y := by rfl) (hdy : (y == ("__debug__" : Str)) = false := by decide)
    (hs : starEach [e, .Name y p'] X.env = (false, eval e X.env) :: starEach [.Name y p'] X.env := by rfl) (hpl : (backTo pos (starEach [.Name y p'] X.env)).any (·.1) = false := by rfl) (hv2 : bootBuiltins "isinstance" = some (.builtin "isinstance") := by decide +kernel) : PD X W (.Call (.Name "isinstance" p) [e, .Name y p'] [] pos) (dIsiC C de) := by
  have h2 : AD X W [e, .Name y p'] (dCons de (dCons (dC (.cel C)) dNil)) := ad_cons he (ad_cons (pd_of_tC (pe_glob hgy hmy (show RelV (.ref C) (.ref C) from rfl) hdy) fun _ => .cel C) ad_nil (by rfl)) hs
  refine peImp (pe_callB (x := "isinstance") call_isi hg hm hv2 h2 (by decide) (by decide) hs hpl) fun σ H Q ⟨env, M, q, E, H0, so, S, h, k, kx⟩ => ?_
  refine ⟨env, M, fun ds M1 => (match ds with | [d, .cel m] => m = C ∧ rdIsiC C d M1 q | _ => False), E, H0, so, S, ?_, ?_, kx⟩
  · show de env M (fun d M1 => C = C ∧ rdIsiC C d M1 q) E
    rw [show (fun d M1 => C = C ∧ rdIsiC C d M1 q) = (fun d M1 => rdIsiC C d M1 q) from by funext d M1; exact propext ⟨fun h => h.2, fun h => ⟨rfl, h⟩⟩]
    exact h
  · intro vs ds H1 H' M1 e1 S1 rs w
    have w' : ∃ d, ds = [d, .cel C] ∧ rdIsiC C d M1 q := by
      revert w
      split
      · rintro ⟨rfl, w⟩; exact ⟨_, rfl, w⟩
      · exact fun z => z.elim
    clear w
    obtain ⟨d, ed, w⟩ := w'
    subst ed
    obtain ⟨v, u, rfl, rv, ru⟩ := dnl2 rs
    cases ru
    rcases w with ⟨⟨fs, ef⟩, w⟩ | ⟨⟨t, et⟩, w⟩
    · obtain ⟨a, dd, fvs, rfl, q1, r⟩ := S1.obj rv ef
      exact ⟨.ref a, .ref C, .ref C, .ref C, true, rfl, .own C, .base (.ins q1 o.cl o.ha o.hn o.htk o.hm), by unfold PySem.W.kitOne; rw [if_pos (by simp)], k _ _ H1 H' M1 e1 S1 (.bl true) w⟩
    · exact ⟨v, .ref C, .type t, .ref C, false, rfl, .own C, S1.tyX rv et, o.no t (tyD_in et), k _ _ H1 H' M1 e1 S1 (.bl false) w⟩
@[reducible] def dMeth0 (C : Addr) (m : Str) (sd : SpD) (do_ : DE) : DE := fun env M q E => do_ env M (fun o M1 => ∃ fs, fsOf M1 C o = some fs ∧ fs.lookup m = none ∧ sd [o] M1 q E) E
theorem pd_meth0 {k : Nat} {C : Addr} {m : Str} {sd : SpD} {o : Expr} {do_ : DE} {apos pos : Pos} {pl : Sem Bool} (F : Mok X.prog X.w X.K X.mg X.base C m k 1 sd) (hr : Room k X.A) (tk : Takes X W) (ho : PD X W o do_)
    (ht : eval (.Call (.Attribute o m apos) [] [] pos) X.env = (do
      let ov ← eval o X.env
      standAt apos.atName
      let (f, first) ← holding [ov] (getMethod ov m pl)
      callWith pos f first (backTo pos (starEach [] X.env)) (backToKw pos (keywordEach [] X.env))) := by rfl) : PD X W (.Call (.Attribute o m apos) [] [] pos) (dMeth0 C m sd do_) := by
  obtain ⟨c, f, fd, ps, hm, _, hb, F⟩ := F
  constructor
  intro pins s σ H Q I ⟨env, M, q, E, H0, so, S, h, kq, kx⟩
  refine PySem.W.methodCall_KW (pl := pl) (wpAny_mono (PE.run ho pins s σ H (fun x H1 => ∃ a dx fs, x = .ref a ∧ H1 a = some (.ins C dx fs) ∧ fs.lookup m = none ∧ spOf X.K 1 sd [x] H1 Q (WE W σ)) I
    (goE so S h kx fun x dx H1 H' M1 e1 so1 S1 rx ⟨fs, ef, el, w⟩ kx1 => ?_)) (fun u s1 ⟨x, H1, I1, rx, a, dx, fs, ex, ea, l, q1⟩ => ?_) fun _ _ z => z) ht
  · obtain ⟨a, dd, fvs, rfl, q1, r⟩ := S1.obj rx ef
    exact ⟨a, dd, fvs, rfl, q1, r.no el, [dx], M1, q, E, H1, rfl, .cons rx .nil, S1, w, kq.mono e1, kx1⟩
  · subst ex
    obtain rfl : u = Value.ref a := rx
    refine getmeth_ok I1 ea c hm l ?_
    refine PySem.W.callWith_K0 (first := [.ref a]) I1.kIn hm.kp ?_
    exact run_fnSD (E := WE W) (us := [.ref a]) (vs := [.ref a]) F hr hb .nil (passAt tk σ) I1 (.cons (show RelV (.ref a) (.ref a) from rfl) .nil) (by rw [List.append_nil]; exact q1)
end
end DL
set_option maxRecDepth 100000
namespace R
open PySem PySem.Spec PyProof.Rows L2 DL
def letB (c : Nat) : Bool := decide (97 ≤ c ∧ c ≤ 122)
def signB (c : Nat) : Bool := decide (97 ≤ c ∧ c ≤ 122 ∨ 48 ≤ c ∧ c ≤ 57)
def nameL : List Nat → Bool
  | [] => false
  | c :: r => letB c && r.all signB && decide (r.length ≤ 7)
/-- a name: one to eight signs, a letter first -/
def nameB (x : Str) : Bool := nameL x.cps.toList
structure Host where
  name : Str
  rack : Str
  marks : List Int
  deriving DecidableEq
abbrev intsT (ms : List Int) : D := .tup (ms.map D.int)
abbrev strsT (xs : List Str) : D := .tup (xs.map D.str)
abbrev strsL (xs : List Str) : D := .lst (xs.map D.str)
abbrev hostD (h : Host) : D := .tup [.str h.name, .str h.rack, intsT h.marks]
abbrev crewD (hs : List Host) : D := .tup (hs.map hostD)
structure MarksOk (size : Int) (ms : List Int) : Prop where
  ne : 1 ≤ ms.length
  few : ms.length ≤ 16
  asc : ms.Pairwise (· < ·)
  inn : ∀ m ∈ ms, 0 ≤ m ∧ m < size
/-- a host that may stand behind the others -/
structure NextOk (size : Int) (hs : List Host) (h : Host) : Prop where
  name : nameB h.name = true
  rack : nameB h.rack = true
  fresh : ∀ o ∈ hs, o.name ≠ h.name
  marks : MarksOk size h.marks
  free : ∀ o ∈ hs, ∀ m ∈ h.marks, m ∉ o.marks
structure CrewOk (size : Int) (hs : List Host) : Prop where
  ne : hs ≠ []
  few : hs.length ≤ 12
  each : ∀ (i : Nat) h, hs[i]? = some h → NextOk size (hs.take i) h
structure Rule where
  wide : Int
  spread : Str
  write : Int
  read : Int
  pend : Str
  deriving DecidableEq
structure RuleOk (r : Rule) : Prop where
  w : 1 ≤ r.wide ∧ r.wide ≤ 5
  s : r.spread = "hosts" ∨ r.spread = "racks"
  p : 1 ≤ r.write ∧ r.write ≤ r.wide
  g : 1 ≤ r.read ∧ r.read ≤ r.wide
  m : r.pend = "plain" ∨ r.pend = "with"
def frameL (size : Int) (r : Rule) (hs : List Host) : List D := [.int size, .int r.wide, .str r.spread, .int r.write, .int r.read, .str r.pend, crewD hs]
def fNames : List Str := ["_points", "_factor", "_spread", "_write", "_read_number", "_pending", "_hosts"]
def fieldsD (size : Int) (r : Rule) (hs : List Host) : List (Str × D) := [("_points", .int size), ("_factor", .int r.wide), ("_spread", .str r.spread), ("_write", .int r.write), ("_read_number", .int r.read), ("_pending", .str r.pend), ("_hosts", crewD hs)]
def ringD (C : Addr) (size : Int) (r : Rule) (hs : List Host) : D := .ins C fNames (frameL size r hs)
/-- the generator's state -/
def Kg (M : Mem) (k : Addr) (g : Int) : Prop := ∃ a b c : Int, M k = some (.ls [.int a, .int b, .int c]) ∧ 0 ≤ b ∧ b < 2147483648 ∧ 0 ≤ c ∧ c ≤ g
def sd_is_whole (C : Addr) : SpD := fun ds M q _ => ∃ i : Int, ds = [.int i] ∧ q (.bl true) M
def sd_is_from_to (C : Addr) : SpD := fun ds M q _ => ∃ v lo hi : Int, ds = [.int v, .int lo, .int hi] ∧ q (.bl (decide (lo ≤ v ∧ v ≤ hi))) M
def sd_is_word_of (C : Addr) : SpD := fun ds M q _ => (∃ (x : Str) (ws : List Str), ds = [.str x, strsT ws] ∧ q (.bl (decide (x ∈ ws))) M) ∨ ∃ (d : D) (ws : List Str) (t : String), ds = [d, strsT ws] ∧ tyD M d = some t ∧ t ≠ "str" ∧ q (.bl false) M
def sd_is_name (C : Addr) : SpD := fun ds M q _ => ∃ x : Str, ds = [.str x] ∧ nameB x = true ∧ q (.bl true) M
def sd_is_ascending (C : Addr) : SpD := fun ds M q _ => ∃ ms : List Int, ds = [intsT ms] ∧ ms.length ≤ 16 ∧ ms.Pairwise (· < ·) ∧ q (.bl true) M
def sd_are_free_marks (C : Addr) : SpD := fun ds M q _ => ∃ (ms : List Int) (size : Int) (hs : List Host), ds = [intsT ms, .int size, crewD hs] ∧ MarksOk size ms ∧ hs.length ≤ 12 ∧ (∀ o ∈ hs, ∀ m ∈ ms, m ∉ o.marks) ∧ q (.bl true) M
def sd_is_free_name (C : Addr) : SpD := fun ds M q _ => ∃ (x : Str) (hs : List Host), ds = [.str x, crewD hs] ∧ nameB x = true ∧ hs.length ≤ 12 ∧ (∀ o ∈ hs, nameB o.name = true ∧ o.name ≠ x) ∧ q (.bl true) M
def sd_is_next_host (C : Addr) : SpD := fun ds M q _ => ∃ (h : Host) (size : Int) (hs : List Host), ds = [hostD h, .int size, crewD hs] ∧ NextOk size hs h ∧ hs.length ≤ 12 ∧ (∀ o ∈ hs, nameB o.name = true) ∧ q (.bl true) M
def sd_check_hosts (C : Addr) : SpD := fun ds M q _ => ∃ (size : Int) (hs : List Host), ds = [.int size, crewD hs] ∧ CrewOk size hs ∧ q .non M
def sd_Ring___init__ (C : Addr) : SpD := fun ds M q _ => ∃ (c : Addr) (size : Int) (r : Rule) (hs : List Host), ds = .cel c :: frameL size r hs ∧ M c = some (.ob C []) ∧ 1 ≤ size ∧ size ≤ 1000000000000000000 ∧ RuleOk r ∧ CrewOk size hs ∧ q .non (mset M c (.ob C (fieldsD size r hs)))
/-- the drawing -/
def sd_dip (C : Addr) : SpD := fun ds M q _ => ∃ (k : Addr) (n g : Int), ds = [.cel k, .int n] ∧ 0 < n ∧ n < 1073741824 ∧ Kg M k g ∧ g < 1099511627776 ∧ ∀ v M', 0 ≤ v → v < n → KeptB k M M' → Kg M' k (g + 1) → q (.int v) M'
def sd_of (C : Addr) : SpD := fun ds M q _ => ∃ (k : Addr) (d : D) (xs : List D) (g : Int), ds = [.cel k, d] ∧ d ≠ .cel k ∧ seqOf M d = some xs ∧ 0 < xs.length ∧ xs.length < 1000000 ∧ Kg M k g ∧ g < 1099511627776 ∧ ∀ x M', x ∈ xs → KeptB k M M' → Kg M' k (g + 1) → q x M'
def sd_vast (C : Addr) : SpD := fun ds M q _ => ∃ (k : Addr) (n g : Int), ds = [.cel k, .int n] ∧ 0 < n ∧ Kg M k g ∧ g + 4 < 1099511627776 ∧ ∀ v M', 0 ≤ v → v < n → KeptB k M M' → Kg M' k (g + 4) → q (.int v) M'
def sd_title (C : Addr) : SpD := fun ds M q _ => ∃ (k : Addr) (g : Int), ds = [.cel k] ∧ Kg M k g ∧ g + 20 < 1099511627776 ∧ ∀ x M', nameB x = true → KeptB k M M' → Kg M' k (g + 20) → q (.str x) M'
def sd_titles (C : Addr) : SpD := fun ds M q _ => ∃ (k : Addr) (n : Nat) (g : Int), ds = [.cel k, .int n] ∧ n ≤ 12 ∧ Kg M k g ∧ g + 400 < 1099511627776 ∧ ∀ (xs : List Str) M', xs.length = n → xs.Nodup → (∀ x ∈ xs, nameB x = true) → KeptB k M M' → Kg M' k (g + 400) → q (strsL xs) M'
def sd_yards (C : Addr) : SpD := fun ds M q _ => ∃ (k : Addr) (n : Nat) (g : Int), ds = [.cel k, .int n] ∧ n ≤ 12 ∧ Kg M k g ∧ g + 500 < 1099511627776 ∧ ∀ (xs : List Str) M', xs.length = n → (∀ x ∈ xs, nameB x = true) → KeptB k M M' → Kg M' k (g + 500) → q (strsL xs) M'
def sd_free (C : Addr) : SpD := fun ds M q _ => ∃ (size wish : Int) (d : D) (ts : List Int), ds = [.int size, d, .int wish] ∧ seqOf M d = some (ts.map D.int) ∧ (ts.length : Int) < size ∧ ts.length < 100000 ∧ ∀ v, 0 ≤ v → v < size → v ∉ ts → q (.int v) M
def sd_place (C : Addr) : SpD := fun ds M q _ => ∃ (k : Addr) (size g : Int) (d : D) (ts : List Int), ds = [.cel k, .int size, d] ∧ d ≠ .cel k ∧ lsqOf M d = some (ts.map D.int) ∧ ts.length < 100000 ∧ 0 < size ∧ Kg M k g ∧ g + 10 < 1099511627776 ∧ ∀ v M', 0 ≤ v → v < size → KeptB k M M' → Kg M' k (g + 10) → q (.int v) M'
def sd_band (C : Addr) : SpD := fun ds M q _ => ∃ (k : Addr) (size g : Int) (most each : Nat), ds = [.cel k, .int size, .int most, .int each] ∧ 0 < size ∧ 1 ≤ most ∧ most ≤ 12 ∧ 1 ≤ each ∧ each ≤ 16 ∧ Kg M k g ∧ g + 10000 < 1099511627776 ∧ ∀ hs M', CrewOk size hs → (hs.length ≤ most ∧ ∀ h ∈ hs, h.marks.length ≤ each) → KeptB k M M' → Kg M' k (g + 10000) → q (crewD hs) M'
def sd_rule (C : Addr) : SpD := fun ds M q _ => ∃ (k : Addr) (g : Int), ds = [.cel k] ∧ Kg M k g ∧ g + 10 < 1099511627776 ∧ ∀ r M', RuleOk r → KeptB k M M' → Kg M' k (g + 10) → q (.lst [.int r.wide, .str r.spread, .int r.write, .int r.read, .str r.pend]) M'
def sd_build (C : Addr) : SpD := fun ds M q _ => ∃ (k : Addr) (size g : Int) (most each : Nat), ds = [.cel k, .int size, .int most, .int each] ∧ 0 < size ∧ 1 ≤ most ∧ most ≤ 12 ∧ 1 ≤ each ∧ each ≤ 16 ∧ Kg M k g ∧ g + 20000 < 1099511627776 ∧ ∀ r hs M', RuleOk r → CrewOk size hs → (hs.length ≤ most ∧ ∀ h ∈ hs, h.marks.length ≤ each) → KeptB k M M' → Kg M' k (g + 20000) → q (.lst (frameL size r hs)) M'
def sd_filled (C : Addr) : SpD := fun ds M q _ => ∃ (ns : List Int) (t : Nat), ds = [.lsf (ns.map D.int), .int t] ∧ t < 1000 ∧ ns.length ≤ 63 ∧ (∀ n ∈ ns, Builtin.Int.intBits n ≤ 1048576) ∧ ∀ k M', M k = none → Kept M M' → Kg M' k 0 → q (.cel k) M'
def digB (c : Nat) : Bool := decide (48 ≤ c ∧ c ≤ 57)
/-- a written number: one to nineteen digits, no needless zeros -/
def wnB (x : Str) : Bool := decide (1 ≤ x.length ∧ x.length ≤ 19) && (x.cps.toList.all digB && (decide (x = ("0" : Str)) || decide (x.cps.toList.head? ≠ some 48)))
def wnum (x : Str) : Option Int := if wnB x then some ((NumText.digitsVal x.cps.toList : Nat) : Int) else none
def optD : Option Int → D
  | some n => .int n
  | none => .non
def numS (i : Int) : Str := Str.ofString (toString i)
def sd_is_written_number (C : Addr) : SpD := fun ds M q _ => ∃ x : Str, ds = [.str x] ∧ x.length ≤ 16777216 ∧ q (.bl (wnB x)) M
def sd_written_number (C : Addr) : SpD := fun ds M q _ => ∃ x : Str, ds = [.str x] ∧ x.length ≤ 16777216 ∧ q (optD (wnum x)) M
def hostRow (h : Host) : Str := Txt.join " " ((["host", h.name, h.rack] : List Str) ++ h.marks.map numS)
def ringRow (size : Int) (r : Rule) : Str := Txt.join " " (["ring", numS size, numS r.wide, r.spread, numS r.write, numS r.read, r.pend] : List Str)
def sheetS (size : Int) (r : Rule) (hs : List Host) : Str := Txt.join "\n" (ringRow size r :: hs.map hostRow)
/-- a host as it stands in a text -/
structure HostT (size : Int) (h : Host) : Prop where
  name : nameB h.name = true
  rack : nameB h.rack = true
  marks : MarksOk size h.marks
def sd_written_host (C : Addr) : SpD := fun ds M q _ => ∃ (size : Int) (h : Host), ds = [.str (hostRow h)] ∧ size ≤ 1000000000000000000 ∧ HostT size h ∧ ∀ M', Kept M M' → q (hostD h) M'
def sd_Ring_read (C : Addr) : SpD := fun ds M q _ => ∃ (size : Int) (r : Rule) (hs : List Host), ds = [.cel C, .str (sheetS size r hs)] ∧ 1 ≤ size ∧ size ≤ 1000000000000000000 ∧ RuleOk r ∧ CrewOk size hs ∧ ∀ M', Kept M M' → q (ringD C size r hs) M'
def sd_sheet (C : Addr) : SpD := fun ds M q _ => ∃ (size : Int) (r : Rule) (hs : List Host), ds = [.lst (frameL size r hs)] ∧ 1 ≤ size ∧ size ≤ 1000000000000000000 ∧ RuleOk r ∧ CrewOk size hs ∧ ∀ M', Kept M M' → q (.str (sheetS size r hs)) M'
def sd_made (C : Addr) : SpD := fun ds M q _ => ∃ (k : Addr) (g : Int) (size : Int) (r : Rule) (hs : List Host), ds = [.cel k, .lst (frameL size r hs)] ∧ 1 ≤ size ∧ size ≤ 1000000000000000000 ∧ RuleOk r ∧ CrewOk size hs ∧ Kg M k g ∧ g + 10 < 1099511627776 ∧ ∀ M', KeptB k M M' → Kg M' k (g + 1) → q (ringD C size r hs) M'
def sd_width (C : Addr) : SpD := fun ds M q _ => ∃ (k : Addr) (g : Int), ds = [.cel k] ∧ Kg M k g ∧ g + 20 < 1099511627776 ∧ ∀ v M', 1 ≤ v → v ≤ 1000000000000000000 → KeptB k M M' → Kg M' k (g + 10) → q (.int v) M'
def sd_host_row (C : Addr) : SpD := fun ds M q _ => ∃ (size : Int) (h : Host), ds = [hostD h] ∧ size ≤ 1000000000000000000 ∧ HostT size h ∧ q (.str (hostRow h)) M
def sd_Ring__first_row (C : Addr) : SpD := fun ds M q _ => ∃ (size : Int) (r : Rule) (hs : List Host), ds = [ringD C size r hs] ∧ 1 ≤ size ∧ size ≤ 1000000000000000000 ∧ RuleOk r ∧ q (.str (ringRow size r)) M
def sd_Ring___str__ (C : Addr) : SpD := fun ds M q _ => ∃ (size : Int) (r : Rule) (hs : List Host), ds = [ringD C size r hs] ∧ 1 ≤ size ∧ size ≤ 1000000000000000000 ∧ RuleOk r ∧ CrewOk size hs ∧ ∀ M', Kept M M' → q (.str (sheetS size r hs)) M'
def sd_Ring___eq__ (C : Addr) : SpD := fun ds M q _ => ∃ (size : Int) (r : Rule) (hs : List Host) (size' : Int) (r' : Rule) (hs' : List Host), ds = [ringD C size r hs, ringD C size' r' hs'] ∧ RuleOk r ∧ RuleOk r' ∧ CrewOk size hs ∧ CrewOk size' hs' ∧ q (.bl (decide (size = size' ∧ r = r' ∧ hs = hs'))) M
end R
set_option maxRecDepth 100000
namespace R
open PySem PySem.Spec PyProof.Rows L2 DL
abbrev N_filled : List Str := ["_law_script", "_law_turn", "_law_own", "_law_mix", "_law_cell"]
def db_filled (C : Addr) : DS :=
    (dSeq (dSet 2 (dIf (dTst (dOp rdLt (dVar 1) (dCB rdLen (dCons (dVar 0) dNil)))) (dOp rdIx (dVar 0) (dVar 1)) (dC (.int 0))))
    (dSeq (dSet 3 (dOp rdAdd (dC (.int 90007)) (dOp rdMul (dC (.int 4409)) (dVar 1))))
    (dSeq (dFor (dIter (dSl rdSl (dVar 0) dNo (dPart (dC (.int 6))))) (gdName 4) (dSet 3 (dOp rdMod (dCB rdInt (dCons (dOp rdAdd (dOp rdAdd (dOp rdMul (dVar 3) (dC (.int 33347))) (dOp rdMul (dVar 4) (dC (.int 11)))) (dC (.int 29))) dNil)) (dC (.int 2147483543)))))
    (dRet (dLstC (dCons (dIf (dOr (dTst (dOp rdLt (dVar 2) (dC (.int 0)))) (dTst (dOp rdGe (dVar 2) (dOp rdPow (dC (.int 10)) (dC (.int 18)))))) (dCB rdAbs (dCons (dVar 2) dNil)) (dC (.int 0))) (dCons (dOp rdMod (dCB rdInt (dCons (dOp rdAdd (dOp rdAdd (dOp rdMul (dVar 3) (dC (.int 71))) (dOp rdMul (dVar 2) (dVar 2))) (dOp rdMul (dC (.int 13)) (dVar 1))) dNil)) (dC (.int 2147483543))) (dCons (dC (.int 0)) dNil))))))))
abbrev N_dip : List Str := ["_law_keg", "_law_many", "_law_figure", "_law_mix"]
def db_dip (C : Addr) : DS :=
    (dSeq (dIfS (dTst (dOp rdGt (dOp rdIx (dVar 0) (dC (.int 0))) (dC (.int 0)))) (dSeq (dAsg (dCB rdDivmod (dCons (dOp rdIx (dVar 0) (dC (.int 0))) (dCons (dVar 1) dNil))) (gdTup 2 (gdCons (gdSub (dVar 0) (dC (.int 0))) (gdCons (gdName 2) gdNil))))
    (dRet (dVar 2))) dNext)
    (dSeq (dAsg (dOp rdAdd (dOp rdIx (dVar 0) (dC (.int 2))) (dC (.int 1))) (gdSub (dVar 0) (dC (.int 2))))
    (dSeq (dSet 3 (dOp rdMod (dCB rdInt (dCons (dOp rdAdd (dOp rdAdd (dOp rdMul (dOp rdIx (dVar 0) (dC (.int 1))) (dOp rdAdd (dC (.int 39877)) (dOp rdMul (dC (.int 2)) (dOp rdIx (dVar 0) (dC (.int 2)))))) (dOp rdMul (dC (.int 6151)) (dOp rdIx (dVar 0) (dC (.int 2))))) (dC (.int 3))) dNil)) (dC (.int 2147483543))))
    (dSeq (dAsg (dOp rdMod (dCB rdInt (dCons (dOp rdAdd (dOp rdMul (dVar 3) (dC (.int 44491))) (dOp rdMul (dOp rdIx (dVar 0) (dC (.int 2))) (dOp rdIx (dVar 0) (dC (.int 2))))) dNil)) (dC (.int 2147483497))) (gdSub (dVar 0) (dC (.int 1))))
    (dRet (dOp rdMod (dCB rdInt (dCons (dOp rdDiv (dOp rdIx (dVar 0) (dC (.int 1))) (dC (.int 512))) dNil)) (dVar 1)))))))
abbrev N_free : List Str := ["_law_size", "_law_taken", "_law_wish", "_law_step"]
def db_free (C : Addr) : DS :=
    (dSeq (dFor (dRng1 (dCons (dOp rdAdd (dCB rdLen (dCons (dVar 1) dNil)) (dC (.int 1))) dNil)) (gdName 3) (dIfS (dTst (dOp (rdIn true) (dOp rdMod (dCB rdInt (dCons (dOp rdAdd (dVar 2) (dVar 3)) dNil)) (dVar 0)) (dVar 1))) (dRet (dOp rdMod (dCB rdInt (dCons (dOp rdAdd (dVar 2) (dVar 3)) dNil)) (dVar 0))) dNext))
    (dRet (dVar 2)))
abbrev N_sheet : List Str := ["_law_frame", "_law_size", "_law_wide", "_law_word", "_law_puts", "_law_gets", "_law_mode", "_law_crew", "_law_rows", "_law_tag", "_law_bay", "_law_spots", "_law_spot"]
def db_sheet (C : Addr) : DS :=
    (dSeq (dAsg (dVar 0) (gdLst 7 (gdCons (gdName 1) (gdCons (gdName 2) (gdCons (gdName 3) (gdCons (gdName 4) (gdCons (gdName 5) (gdCons (gdName 6) (gdCons (gdName 7) gdNil)))))))))
    (dSeq (dSet 8 (dLstC (dCons (dM1 rdJoin (dC (.str " ")) (dLst (dCons (dC (.str "ring")) (dCons (dCB rdStrI (dCons (dVar 1) dNil)) (dCons (dCB rdStrI (dCons (dVar 2) dNil)) (dCons (dVar 3) (dCons (dCB rdStrI (dCons (dVar 4) dNil)) (dCons (dCB rdStrI (dCons (dVar 5) dNil)) (dCons (dVar 6) dNil))))))))) dNil)))
    (dSeq (dFor (dIter (dVar 7)) (gdTup 3 (gdCons (gdName 9) (gdCons (gdName 10) (gdCons (gdName 11) gdNil)))) (dExp (dApp (dVar 8) (dCons (dM1 rdJoin (dC (.str " ")) (dOp rdAdd (dLst (dCons (dC (.str "host")) (dCons (dVar 9) (dCons (dVar 10) dNil)))) (dLc (dIter (dVar 11)) (gdName 12) dYes (dCB rdStrI (dCons (dVar 12) dNil)) [12]))) dNil))))
    (dRet (dM1 rdJoin (dC (.str "\n")) (dVar 8))))))
abbrev N_is_ascending : List Str := ["row", "one", "other"]
def db_is_ascending (C : Addr) : DS :=
    (dRet (dCB rdAll (dCons (dLc (dZip (dCons (dVar 0) (dCons (dSl rdSl (dVar 0) (dPart (dC (.int 1))) dNo) dNil))) (gdTup 2 (gdCons (gdName 1) (gdCons (gdName 2) gdNil))) dYes (dOp rdLt (dVar 1) (dVar 2)) [1, 2]) dNil)))
abbrev N_is_whole : List Str := ["value"]
def db_is_whole (C : Addr) : DS :=
    (dRet (dAndV (dIsi "int" (dVar 0)) (dNotV (dIsi "bool" (dVar 0)))))
abbrev N_is_name : List Str := ["value", "sign"]
def db_is_name (C : Addr) : DS :=
    (dSeq (dIfS (dOr (dNot (dTru (dIsi "str" (dVar 0)))) (dNot (dTst (dChn rdLe rdLe (dC (.int 1)) (dCB rdLen (dCons (dVar 0) dNil)) (dC (.int 8)))))) (dRet (dC (.bl false))) dNext)
    (dRet (dAndV (dOp (rdIn false) (dOp rdIx (dVar 0) (dC (.int 0))) (dC (.str "abcdefghijklmnopqrstuvwxyz"))) (dCB rdAll (dCons (dLc (dIterS (dVar 0)) (gdName 1) dYes (dOp (rdIn false) (dVar 1) (dOp rdAdd (dC (.str "abcdefghijklmnopqrstuvwxyz")) (dC (.str "0123456789")))) [1]) dNil)))))
abbrev N_is_word_of : List Str := ["value", "words"]
def db_is_word_of (C : Addr) : DS :=
    (dRet (dAndV (dIsi "str" (dVar 0)) (dOp (rdIn false) (dVar 0) (dVar 1))))
abbrev N_is_written_number : List Str := ["word", "sign"]
def db_is_written_number (C : Addr) : DS :=
    (dSeq (dIfS (dNot (dTst (dChn rdLe rdLe (dC (.int 1)) (dCB rdLen (dCons (dVar 0) dNil)) (dC (.int 19))))) (dRet (dC (.bl false))) dNext)
    (dRet (dAndV (dCB rdAll (dCons (dLc (dIterS (dVar 0)) (gdName 1) dYes (dOp (rdIn false) (dVar 1) (dC (.str "0123456789"))) [1]) dNil)) (dOrV (dOp rdEq (dVar 0) (dC (.str "0"))) (dOp rdNe (dOp rdIx (dVar 0) (dC (.int 0))) (dC (.str "0")))))))
abbrev N_of : List Str := ["_law_keg", "_law_things"]
def db_of (C : Addr) : DS :=
    (dRet (dOp rdIx (dVar 1) (dCall 2 (sd_dip C) (dCons (dVar 0) (dCons (dCB rdLen (dCons (dVar 1) dNil)) dNil)))))
abbrev N_vast : List Str := ["_law_keg", "_law_many", "_law_found", "_law_turn"]
def db_vast (C : Addr) : DS :=
    (dSeq (dSet 2 (dC (.int 0)))
    (dSeq (dFor (dRng1 (dCons (dC (.int 4)) dNil)) (gdName 3) (dSet 2 (dOp rdAdd (dOp rdMul (dVar 2) (dC (.int 1000003))) (dCall 2 (sd_dip C) (dCons (dVar 0) (dCons (dC (.int 1000003)) dNil))))))
    (dRet (dOp rdMod (dCB rdInt (dCons (dVar 2) dNil)) (dVar 1)))))
abbrev N_is_from_to : List Str := ["value", "least", "most"]
def db_is_from_to (C : Addr) : DS :=
    (dRet (dAndV (dCall 1 (sd_is_whole C) (dCons (dVar 0) dNil)) (dChn rdLe rdLe (dVar 1) (dVar 0) (dVar 2))))
abbrev N_is_free_name : List Str := ["value", "hosts", "host"]
def db_is_free_name (C : Addr) : DS :=
    (dRet (dAndV (dCall 1 (sd_is_name C) (dCons (dVar 0) dNil)) (dNotV (dCB rdAny (dCons (dLc (dIter (dVar 1)) (gdName 2) dYes (dOp rdEq (dVar 0) (dOp rdIx (dVar 2) (dC (.int 0)))) [2]) dNil)))))
abbrev N_written_number : List Str := ["word"]
def db_written_number (C : Addr) : DS :=
    (dSeq (dIfS (dNot (dTru (dCall 1 (sd_is_written_number C) (dCons (dVar 0) dNil)))) (dRet (dC .non)) dNext)
    (dRet (dCB rdIntS (dCons (dVar 0) dNil))))
abbrev N_place : List Str := ["_law_keg", "_law_size", "_law_taken", "_law_way"]
def db_place (C : Addr) : DS :=
    (dSeq (dSet 3 (dCall 2 (sd_dip C) (dCons (dVar 0) (dCons (dC (.int 8)) dNil))))
    (dSeq (dIfS (dTst (dOp rdEq (dVar 3) (dC (.int 0)))) (dRet (dOp rdIx (dLst (dCons (dC (.int 0)) (dCons (dOp rdSub (dVar 1) (dC (.int 1))) dNil))) (dCall 2 (sd_dip C) (dCons (dVar 0) (dCons (dC (.int 2)) dNil))))) dNext)
    (dSeq (dIfS (dAnd (dTst (dOp rdLt (dVar 3) (dC (.int 4)))) (dTst (dOp rdNe (dVar 2) (dLst dNil)))) (dRet (dOp rdMod (dCB rdInt (dCons (dOp rdSub (dOp rdAdd (dCall 2 (sd_of C) (dCons (dVar 0) (dCons (dVar 2) dNil))) (dCall 2 (sd_dip C) (dCons (dVar 0) (dCons (dC (.int 5)) dNil)))) (dC (.int 2))) dNil)) (dVar 1))) dNext)
    (dRet (dIf (dTst (dOp rdLt (dVar 1) (dC (.int 1000)))) (dCall 2 (sd_dip C) (dCons (dVar 0) (dCons (dVar 1) dNil))) (dCall 2 (sd_vast C) (dCons (dVar 0) (dCons (dVar 1) dNil))))))))
abbrev N_title : List Str := ["_law_keg", "_law_small", "_law_found", "_law_turn"]
def db_title (C : Addr) : DS :=
    (dSeq (dSet 1 (dC (.str "abcdefghijklmnopqrstuvwxyz")))
    (dSeq (dIfS (dTst (dOp rdEq (dCall 2 (sd_dip C) (dCons (dVar 0) (dCons (dC (.int 6)) dNil))) (dC (.int 0)))) (dRet (dCall 2 (sd_of C) (dCons (dVar 0) (dCons (dLst (dCons (dC (.str "ring")) (dCons (dC (.str "host")) (dCons (dC (.str "plan")) (dCons (dC (.str "hosts")) (dCons (dC (.str "racks")) (dCons (dC (.str "with")) (dCons (dC (.str "plain")) (dCons (dC (.str "join")) (dCons (dC (.str "settle")) dNil)))))))))) dNil)))) dNext)
    (dSeq (dSet 2 (dOp rdIx (dVar 1) (dCall 2 (sd_dip C) (dCons (dVar 0) (dCons (dC (.int 26)) dNil)))))
    (dSeq (dFor (dRng1 (dCons (dCall 2 (sd_of C) (dCons (dVar 0) (dCons (dLst (dCons (dC (.int 0)) (dCons (dC (.int 0)) (dCons (dC (.int 1)) (dCons (dC (.int 2)) (dCons (dC (.int 7)) (dCons (dC (.int 3)) dNil))))))) dNil))) dNil)) (gdName 3) (dSet 2 (dOp rdAdd (dVar 2) (dOp rdIx (dOp rdAdd (dVar 1) (dC (.str "0123456789"))) (dCall 2 (sd_dip C) (dCons (dVar 0) (dCons (dC (.int 36)) dNil)))))))
    (dRet (dVar 2))))))
abbrev N_rule : List Str := ["_law_keg", "_law_wide", "_law_found"]
def db_rule (C : Addr) : DS :=
    (dSeq (dSet 1 (dOp rdAdd (dC (.int 1)) (dCall 2 (sd_dip C) (dCons (dVar 0) (dCons (dC (.int 5)) dNil)))))
    (dSeq (dSet 2 (dLst (dCons (dVar 1) (dCons (dCall 2 (sd_of C) (dCons (dVar 0) (dCons (dLst (dCons (dC (.str "hosts")) (dCons (dC (.str "racks")) dNil))) dNil))) dNil))))
    (dRet (dOp rdAdd (dVar 2) (dLst (dCons (dOp rdAdd (dC (.int 1)) (dCall 2 (sd_dip C) (dCons (dVar 0) (dCons (dVar 1) dNil)))) (dCons (dOp rdAdd (dC (.int 1)) (dCall 2 (sd_dip C) (dCons (dVar 0) (dCons (dVar 1) dNil)))) (dCons (dCall 2 (sd_of C) (dCons (dVar 0) (dCons (dLst (dCons (dC (.str "plain")) (dCons (dC (.str "with")) dNil))) dNil))) dNil))))))))
abbrev N_are_free_marks : List Str := ["value", "points", "hosts", "mark", "host"]
def db_are_free_marks (C : Addr) : DS :=
    (dSeq (dIfS (dOr (dNot (dTru (dIsi "tuple" (dVar 0)))) (dNot (dTst (dChn rdLe rdLe (dC (.int 1)) (dCB rdLen (dCons (dVar 0) dNil)) (dC (.int 16)))))) (dRet (dC (.bl false))) dNext)
    (dSeq (dIfS (dOr (dNot (dTru (dCB rdAll (dCons (dLc (dIter (dVar 0)) (gdName 3) dYes (dCall 3 (sd_is_from_to C) (dCons (dVar 3) (dCons (dC (.int 0)) (dCons (dOp rdSub (dVar 1) (dC (.int 1))) dNil)))) [3]) dNil)))) (dNot (dTru (dCall 1 (sd_is_ascending C) (dCons (dVar 0) dNil))))) (dRet (dC (.bl false))) dNext)
    (dRet (dNotV (dCB rdAny (dCons (dLc2 (dIter (dVar 2)) (gdName 4) dYes (dIter (dVar 0)) (gdName 3) dYes (dOp (rdIn false) (dVar 3) (dOp rdIx (dVar 4) (dC (.int 2)))) [4, 3] [3]) dNil))))))
abbrev N_written_host : List Str := ["row", "words", "word"]
def db_written_host (C : Addr) : DS :=
    (dSeq (dSet 1 (dM1 rdSplit (dVar 0) (dC (.str " "))))
    (dSeq (dIfS (dOr (dTst (dOp rdNe (dOp rdIx (dVar 1) (dC (.int 0))) (dC (.str "host")))) (dTst (dOp rdLt (dCB rdLen (dCons (dVar 1) dNil)) (dC (.int 4))))) (dRet (dC .non)) dNext)
    (dRet (dTup (dCons (dOp rdIx (dVar 1) (dC (.int 1))) (dCons (dOp rdIx (dVar 1) (dC (.int 2))) (dCons (dCB rdTuple (dCons (dLc (dIter (dSl rdSl (dVar 1) (dPart (dC (.int 3))) dNo)) (gdName 2) dYes (dCall 1 (sd_written_number C) (dCons (dVar 2) dNil)) [2]) dNil)) dNil)))))))
abbrev N_width : List Str := ["_law_keg", "_law_way"]
def db_width (C : Addr) : DS :=
    (dSeq (dSet 1 (dCall 2 (sd_dip C) (dCons (dVar 0) (dCons (dC (.int 6)) dNil))))
    (dSeq (dIfS (dTst (dOp rdLt (dVar 1) (dC (.int 2)))) (dRet (dOp rdAdd (dC (.int 1)) (dCall 2 (sd_dip C) (dCons (dVar 0) (dCons (dC (.int 30)) dNil))))) dNext)
    (dSeq (dIfS (dTst (dOp rdLt (dVar 1) (dC (.int 4)))) (dRet (dOp rdIx (dLst (dCons (dOp rdPow (dC (.int 10)) (dC (.int 18))) (dCons (dOp rdSub (dOp rdPow (dC (.int 10)) (dC (.int 18))) (dC (.int 1))) dNil))) (dOp rdSub (dVar 1) (dC (.int 2))))) dNext)
    (dRet (dIf (dTst (dOp rdEq (dVar 1) (dC (.int 4)))) (dOp rdAdd (dC (.int 1)) (dCall 2 (sd_dip C) (dCons (dVar 0) (dCons (dOp rdPow (dC (.int 10)) (dC (.int 5))) dNil)))) (dOp rdAdd (dC (.int 1)) (dCall 2 (sd_vast C) (dCons (dVar 0) (dCons (dOp rdPow (dC (.int 10)) (dC (.int 18))) dNil)))))))))
abbrev N_titles : List Str := ["_law_keg", "_law_many", "_law_spare", "_law_found", "_law_turn", "_law_tag", "_law_each"]
def db_titles (C : Addr) : DS :=
    (dSeq (dAsg (dTup (dCons (dLst (dCons (dC (.str "a")) (dCons (dC (.str "b")) (dCons (dC (.str "a1")) (dCons (dC (.str "a2")) (dCons (dC (.str "zz9")) (dCons (dC (.str "q")) (dCons (dC (.str "r1")) (dCons (dC (.str "x")) (dCons (dC (.str "y")) (dCons (dC (.str "z")) (dCons (dC (.str "h0")) (dCons (dC (.str "h1")) dNil))))))))))))) (dCons (dLstC dNil) dNil))) (gdTup 2 (gdCons (gdName 2) (gdCons (gdName 3) gdNil))))
    (dSeq (dFor (dRng1 (dCons (dVar 1) dNil)) (gdName 4) (dSeq (dSet 5 (dCall 1 (sd_title C) (dCons (dVar 0) dNil)))
    (dSeq (dIfS (dAnd (dTst (dOp rdNe (dVar 3) (dLst dNil))) (dTst (dOp rdEq (dCall 2 (sd_dip C) (dCons (dVar 0) (dCons (dC (.int 4)) dNil))) (dC (.int 0))))) (dSet 5 (dOp rdAdd (dSl rdSl (dOp rdIx (dVar 3) (dC (.int 0))) dNo (dPart (dC (.int 7)))) (dOp rdIx (dC (.str "0123456789ab")) (dVar 4)))) dNext)
    (dExp (dApp (dVar 3) (dCons (dOp rdIx (dLc (dIter (dOp rdAdd (dLst (dCons (dVar 5) dNil)) (dVar 2))) (gdName 6) (dTst (dOp (rdIn true) (dVar 6) (dVar 3))) (dVar 6) [6]) (dC (.int 0))) dNil))))))
    (dRetF (dVar 3))))
abbrev N_is_next_host : List Str := ["value", "points", "hosts", "name", "rack", "marks"]
def db_is_next_host (C : Addr) : DS :=
    (dSeq (dIfS (dOr (dNot (dTru (dIsi "tuple" (dVar 0)))) (dTst (dOp rdNe (dCB rdLen (dCons (dVar 0) dNil)) (dC (.int 3))))) (dRet (dC (.bl false))) dNext)
    (dSeq (dAsg (dVar 0) (gdTup 3 (gdCons (gdName 3) (gdCons (gdName 4) (gdCons (gdName 5) gdNil)))))
    (dRet (dAndV (dCall 2 (sd_is_free_name C) (dCons (dVar 3) (dCons (dVar 2) dNil))) (dAndV (dCall 1 (sd_is_name C) (dCons (dVar 4) dNil)) (dCall 3 (sd_are_free_marks C) (dCons (dVar 5) (dCons (dVar 1) (dCons (dVar 2) dNil)))))))))
abbrev N_yards : List Str := ["_law_keg", "_law_many", "_law_pool", "_law_turn"]
def db_yards (C : Addr) : DS :=
    (dSeq (dSet 2 (dCall 2 (sd_titles C) (dCons (dVar 0) (dCons (dOp rdAdd (dC (.int 1)) (dCall 2 (sd_dip C) (dCons (dVar 0) (dCons (dC (.int 4)) dNil)))) dNil))))
    (dRet (dLc (dRng1 (dCons (dVar 1) dNil)) (gdName 3) dYes (dCall 2 (sd_of C) (dCons (dVar 0) (dCons (dVar 2) dNil))) [3])))
abbrev N_check_hosts : List Str := ["points", "hosts", "index", "host"]
def db_check_hosts (C : Addr) : DS :=
    (dSeq (dIfS (dOr (dNot (dTru (dIsi "tuple" (dVar 1)))) (dTst (dOp rdEq (dCB rdLen (dCons (dVar 1) dNil)) (dC (.int 0))))) dNever dNext)
    (dFor (dEnum (dCons (dVar 1) dNil)) (gdTup 2 (gdCons (gdName 2) (gdCons (gdName 3) gdNil))) (dIfS (dOr (dTst (dOp rdEq (dVar 2) (dC (.int 12)))) (dNot (dTru (dCall 3 (sd_is_next_host C) (dCons (dVar 3) (dCons (dVar 0) (dCons (dSl rdSl (dVar 1) dNo (dPart (dVar 2))) dNil))))))) dNever dNext)))
abbrev N_band : List Str := ["_law_keg", "_law_size", "_law_most", "_law_each", "_law_many", "_law_taken", "_law_found", "_law_tags", "_law_bays", "_law_at", "_law_spots", "_law_room", "_law_turn", "_law_spot"]
def db_band (C : Addr) : DS :=
    (dSeq (dPar3 4 5 6 (dCons (dCB rdMin2 (dCons (dOp rdAdd (dC (.int 1)) (dCall 2 (sd_dip C) (dCons (dVar 0) (dCons (dVar 2) dNil)))) (dCons (dVar 1) dNil))) (dCons (dLstC dNil) (dCons (dLstC dNil) dNil))))
    (dSeq (dPar2 7 8 (dCons (dCall 2 (sd_titles C) (dCons (dVar 0) (dCons (dVar 4) dNil))) (dCons (dCall 2 (sd_yards C) (dCons (dVar 0) (dCons (dVar 4) dNil))) dNil)))
    (dSeq (dFor (dRng1 (dCons (dVar 4) dNil)) (gdName 9) (dSeq (dPar2 10 11 (dCons (dLstC dNil) (dCons (dOp rdSub (dOp rdSub (dVar 1) (dCB rdLen (dCons (dVar 5) dNil))) (dOp rdSub (dOp rdSub (dVar 4) (dC (.int 1))) (dVar 9))) dNil)))
    (dSeq (dFor (dRng1 (dCons (dCB rdMin2 (dCons (dOp rdAdd (dC (.int 1)) (dCall 2 (sd_dip C) (dCons (dVar 0) (dCons (dVar 3) dNil)))) (dCons (dVar 11) dNil))) dNil)) (gdName 12) (dSeq (dSet 13 (dCall 3 (sd_free C) (dCons (dVar 1) (dCons (dVar 5) (dCons (dCall 3 (sd_place C) (dCons (dVar 0) (dCons (dVar 1) (dCons (dVar 5) dNil)))) dNil)))))
    (dSeq (dExp (dApp (dVar 10) (dCons (dVar 13) dNil)))
    (dExp (dApp (dVar 5) (dCons (dVar 13) dNil))))))
    (dExp (dApp (dVar 6) (dCons (dTup (dCons (dOp rdIx (dVar 7) (dVar 9)) (dCons (dOp rdIx (dVar 8) (dVar 9)) (dCons (dCB rdTuple (dCons (dCB rdSortI (dCons (dVar 10) dNil)) dNil)) dNil)))) dNil))))))
    (dRet (dCB rdTuple (dCons (dVar 6) dNil))))))
abbrev N_Ring___init__ : List Str := ["self", "points", "factor", "spread", "write", "read", "pending", "hosts"]
def db_Ring___init__ (C : Addr) : DS :=
    (dSeq (dIfS (dNot (dTru (dCall 3 (sd_is_from_to C) (dCons (dVar 1) (dCons (dC (.int 1)) (dCons (dC (.int 1000000000000000000)) dNil)))))) dNever dNext)
    (dSeq (dIfS (dNot (dTru (dCall 3 (sd_is_from_to C) (dCons (dVar 2) (dCons (dC (.int 1)) (dCons (dC (.int 5)) dNil)))))) dNever dNext)
    (dSeq (dIfS (dNot (dTru (dCall 2 (sd_is_word_of C) (dCons (dVar 3) (dCons (dC (.tup [.str "hosts", .str "racks"])) dNil))))) dNever dNext)
    (dSeq (dIfS (dNot (dTru (dCall 3 (sd_is_from_to C) (dCons (dVar 4) (dCons (dC (.int 1)) (dCons (dVar 2) dNil)))))) dNever dNext)
    (dSeq (dIfS (dNot (dTru (dCall 3 (sd_is_from_to C) (dCons (dVar 5) (dCons (dC (.int 1)) (dCons (dVar 2) dNil)))))) dNever dNext)
    (dSeq (dIfS (dNot (dTru (dCall 2 (sd_is_word_of C) (dCons (dVar 6) (dCons (dC (.tup [.str "plain", .str "with"])) dNil))))) dNever dNext)
    (dSeq (dExp (dCall 2 (sd_check_hosts C) (dCons (dVar 1) (dCons (dVar 7) dNil))))
    (dSeq (dFSet C "_points" (dVar 0) (dVar 1))
    (dSeq (dFSet C "_factor" (dVar 0) (dVar 2))
    (dSeq (dFSet C "_spread" (dVar 0) (dVar 3))
    (dSeq (dFSet C "_write" (dVar 0) (dVar 4))
    (dSeq (dFSet C "_read_number" (dVar 0) (dVar 5))
    (dSeq (dFSet C "_pending" (dVar 0) (dVar 6))
    (dFSet C "_hosts" (dVar 0) (dVar 7)))))))))))))))
abbrev N_build : List Str := ["_law_keg", "_law_size", "_law_most", "_law_each"]
def db_build (C : Addr) : DS :=
    (dRet (dOp rdAdd (dOp rdAdd (dLst (dCons (dVar 1) dNil)) (dCall 1 (sd_rule C) (dCons (dVar 0) dNil))) (dLst (dCons (dCall 4 (sd_band C) (dCons (dVar 0) (dCons (dVar 1) (dCons (dVar 2) (dCons (dVar 3) dNil))))) dNil))))
abbrev N_Ring_read : List Str := ["cls", "text", "rows", "words", "points", "factor", "write", "read", "hosts", "k", "row"]
def db_Ring_read (C : Addr) : DS :=
    (dSeq (dIfS (dNot (dTru (dIsi "str" (dVar 1)))) dNever dNext)
    (dSeq (dSet 2 (dM1 rdSplit (dVar 1) (dC (.str "\n"))))
    (dSeq (dSet 3 (dM1 rdSplit (dOp rdIx (dVar 2) (dC (.int 0))) (dC (.str " "))))
    (dSeq (dIfS (dOr (dTst (dOp rdNe (dOp rdIx (dVar 3) (dC (.int 0))) (dC (.str "ring")))) (dTst (dOp rdNe (dCB rdLen (dCons (dVar 3) dNil)) (dC (.int 7))))) dNever dNext)
    (dSeq (dAsg (dLc (dIter (dTup (dCons (dC (.int 1)) (dCons (dC (.int 2)) (dCons (dC (.int 4)) (dCons (dC (.int 5)) dNil)))))) (gdName 9) dYes (dCall 1 (sd_written_number C) (dCons (dOp rdIx (dVar 3) (dVar 9)) dNil)) [9]) (gdLst 4 (gdCons (gdName 4) (gdCons (gdName 5) (gdCons (gdName 6) (gdCons (gdName 7) gdNil))))))
    (dSeq (dSet 8 (dCB rdTuple (dCons (dLc (dIter (dSl rdSl (dVar 2) (dPart (dC (.int 1))) dNo)) (gdName 10) dYes (dCall 1 (sd_written_host C) (dCons (dVar 10) dNil)) [10]) dNil)))
    (dTryN (dRet (dMakeL 0 C 8 (sd_Ring___init__ C) (dCons (dVar 4) (dCons (dVar 5) (dCons (dOp rdIx (dVar 3) (dC (.int 3))) (dCons (dVar 6) (dCons (dVar 7) (dCons (dOp rdIx (dVar 3) (dC (.int 6))) (dCons (dVar 8) dNil))))))))))))))))
abbrev N_made : List Str := ["_law_keg", "_law_frame", "_law_way", "_law_size", "_law_wide", "_law_word", "_law_puts", "_law_gets", "_law_mode", "_law_crew"]
def db_made (C : Addr) : DS :=
    (dSeq (dSet 2 (dCall 2 (sd_dip C) (dCons (dVar 0) (dCons (dC (.int 3)) dNil))))
    (dSeq (dAsg (dVar 1) (gdLst 7 (gdCons (gdName 3) (gdCons (gdName 4) (gdCons (gdName 5) (gdCons (gdName 6) (gdCons (gdName 7) (gdCons (gdName 8) (gdCons (gdName 9) gdNil)))))))))
    (dSeq (dIfS (dTst (dOp rdEq (dVar 2) (dC (.int 0)))) (dRet (dMake C 8 (sd_Ring___init__ C) (dCons (dVar 3) (dCons (dVar 4) (dCons (dVar 5) (dCons (dVar 6) (dCons (dVar 7) (dCons (dVar 8) (dCons (dVar 9) dNil))))))))) dNext)
    (dSeq (dIfS (dTst (dOp rdEq (dVar 2) (dC (.int 1)))) (dRet (dMakeP C 8 ["hosts", "pending", "read", "write", "spread", "factor", "points"] [6, 5, 4, 3, 2, 1, 0] (sd_Ring___init__ C) (dCons (dVar 9) (dCons (dVar 8) (dCons (dVar 7) (dCons (dVar 6) (dCons (dVar 5) (dCons (dVar 4) (dCons (dVar 3) dNil))))))))) dNext)
    (dRet (dCMeth C 2 (sd_Ring_read C) (dCons (dCall 1 (sd_sheet C) (dCons (dVar 1) dNil)) dNil)))))))
end R
set_option maxRecDepth 100000
namespace R
open PySem PySem.Spec PyProof.Rows L2 DL
end R
set_option maxRecDepth 100000
set_option maxHeartbeats 1000000
namespace R
open PySem PySem.Spec PyProof.Rows L2 DL
local macro_rules | `(tactic| bv_omega) => `(tactic| first | assumption | exact mset_same)
local macro_rules | `(tactic| symm) => `(tactic| first
  | ((with_reducible show ∃ _, _ = _ ∧ _); refine ⟨_, rfl, ?_⟩)
  | ((with_reducible show _ = _ ∧ _); refine ⟨rfl, ?_⟩)
  | ((with_reducible show ∃ _ _, _ = _ ∧ _ = _ ∧ _); refine ⟨_, _, rfl, rfl, ?_⟩)
  | ((with_reducible show ∃ _ _, _ = _ ∧ _); refine ⟨_, _, rfl, ?_⟩)
  | ((with_reducible show ∃ _ _ _, _ = _ ∧ _); refine ⟨_, _, _, rfl, ?_⟩)
  | ((with_reducible show (_ ≤ _ ∧ _) ∧ _); refine ⟨by omega, ?_⟩)
  | with_reducible refine add_int ?_ | with_reducible refine sub_int ?_
  | with_reducible refine lt_int ?_ | with_reducible refine le_int ?_ | with_reducible refine gt_int ?_ | with_reducible refine ge_int ?_
  | with_reducible refine int_int ?_
  | with_reducible refine eq_int ?_ | with_reducible refine ne_int ?_
  | with_reducible refine len_tup ?_ | with_reducible refine len_lst ?_
  | ((with_reducible show rdIx (.cel _) (.int _) _ _); refine ix_cel (by bv_omega) (by rfl) ?_)
  | ((with_reducible show rdIx (.lst _) (.int _) _ _); refine ix_lst (by rfl) ?_)
  | ((with_reducible show rdIx (.tup _) (.int _) _ _); refine ix_tup (by rfl) ?_)
  | ((with_reducible show rdLen [.cel _] _ _); refine len_cel (by bv_omega) ?_)
  | ((with_reducible show rdMul (.int _) (.int _) _ _); first | refine mul_l (by decide) (by decide) ?_ | refine mul_r (by decide) (by decide) ?_ | refine mul_l (by omega) (by omega) ?_ | refine mul_r (by omega) (by omega) ?_)
  | ((with_reducible show rdDiv (.int _) (.int _) _ _); refine div_int (by first | decide | assumption | omega) (by first | decide | assumption | omega) ?_)
  | ((with_reducible show rdDivmod [.int _, .int _] _ _); refine dm_int (by first | decide | assumption | omega) (by first | decide | assumption | omega) ?_)
  | ((with_reducible show @ite _ (_ = true) _ _ _); first | refine ifYes (by first | with_reducible rfl | exact Bool.not_false | assumption) ?_ | refine ifNo (by first | with_reducible rfl | exact Bool.not_true | assumption) ?_)
  | ((with_reducible show ∃ _, _ ∧ _); refine ⟨_, celL_of (by bv_omega), ?_⟩)
  | ((with_reducible show ∃ _ _ _ _, _ ∧ _ ∧ _ ∧ _ ∧ _); refine ⟨_, _, _, _, rfl, rfl, by bv_omega, by rfl, ?_⟩)
  | ((with_reducible show (_ : Nat) ≤ sizeLine ∧ _); refine ⟨by rw [sizeLine_eq]; exact Nat.le_of_ble_eq_true rfl, ?_⟩))
local macro_rules | `(tactic| infer_instance) => `(tactic| ((repeat symm); try dsimp only))
local macro_rules | `(tactic| ac_rfl) => `(tactic| ((repeat (first | symm | ((with_reducible show rdMod (.int _) (.int _) _ _); refine mod_any (by first | decide | assumption | omega) ?_; intro _ _ _))); try dsimp only))
theorem kp_is_whole (C : Addr) : Keeps N_is_whole 1 (sd_is_whole C) (db_is_whole C) := by
  rintro ds M q ex hl ⟨i, rfl, h⟩
  show db_is_whole C _ [some (.int i)] M
  unfold db_is_whole
  ac_rfl
  exact h
theorem kp_is_from_to (C : Addr) : Keeps N_is_from_to 3 (sd_is_from_to C) (db_is_from_to C) := by
  rintro ds M q ex hl ⟨v, lo, hi, rfl, h⟩
  show db_is_from_to C _ [some (.int v), some (.int lo), some (.int hi)] M
  unfold db_is_from_to
  ac_rfl
  refine ⟨v, rfl, ?_⟩
  ac_rfl
  refine ifD (fun h1 => ?_) (fun h1 => ?_)
  · ac_rfl
    have e : decide (v ≤ hi) = decide (lo ≤ v ∧ v ≤ hi) := by simp [h1]
    rw [e]; exact h
  · have e : false = decide (lo ≤ v ∧ v ≤ hi) := by simp [h1]
    rw [e]; exact h
theorem kp_dip (C : Addr) : Keeps N_dip 2 (sd_dip C) (db_dip C) := by
  rintro ds M q ex hl ⟨k, n, g, rfl, n0, n1, ⟨a, b, c, hM, b0, b1, c0, c1⟩, hg, h⟩
  show db_dip C _ [some (.cel k), some (.int n), none, none] M
  unfold db_dip
  ac_rfl
  refine ifD (fun h1 => ?_) (fun h1 => ?_)
  · ac_rfl
    exact h _ _ (Int.emod_nonneg _ (by omega)) (Int.emod_lt_of_pos _ n0) (KeptB.refl M).self ⟨_, _, _, mset_same, b0, b1, c0, by omega⟩
  · ac_rfl
    exact h _ _ (by assumption) (by assumption) (((KeptB.refl M).self).self) ⟨_, _, _, mset_same, by assumption, by omega, by omega, by omega⟩
theorem kp_of (C : Addr) : Keeps N_of 2 (sd_of C) (db_of C) := by
  rintro ds M q ex hl ⟨k, d, xs, g, rfl, hd, hs, x0, x1, hK, hg, h⟩
  show db_of C _ [some (.cel k), some d] M
  unfold db_of
  ac_rfl
  refine len_seq hs ?_
  ac_rfl
  refine ⟨k, _, g, rfl, by omega, by omega, hK, hg, fun v M' v0 v1 hB hK' => ?_⟩
  obtain ⟨x, e, m⟩ := atI_in v0 v1
  exact ix_seq (seq_kept hB hd hs) e (h x M' m hB hK')
theorem kp_vast (C : Addr) : Keeps N_vast 2 (sd_vast C) (db_vast C) := by
  rintro ds M q ex hl ⟨k, n, g, rfl, n0, hK, hg, h⟩
  show db_vast C _ [some (.cel k), some (.int n), none, none] M
  unfold db_vast
  ac_rfl
  refine for_rng (n := 4) (fun i env M' => ∃ f t, env = [some (.cel k), some (.int n), some (.int f), t] ∧ KeptB k M M' ∧ Kg M' k (g + i)) ?_ ?_ _ _ ⟨0, none, rfl, .refl M, by simpa using hK⟩
  · rintro env M' ⟨f, t, rfl, hB, hK'⟩
    refine ⟨trivial, ?_⟩
    ac_rfl
    exact h _ _ (by assumption) (by assumption) hB hK'
  · rintro i env M' hi ⟨f, t, rfl, hB, hK'⟩ nx hn
    refine ⟨trivial, ?_⟩
    ac_rfl
    refine ⟨k, _, _, rfl, by decide, by decide, hK', by omega, fun v M2 v0 v1 hB2 hK2 => ?_⟩
    ac_rfl
    exact hn _ _ ⟨_, _, rfl, hB.trans hB2, by
      have e : g + ((i + 1 : Nat) : Int) = g + (i : Nat) + 1 := by omega
      rw [e]; exact hK2⟩
theorem all_in {p : Nat → Bool} {x : Str} {v n : Int} (h : x.cps.toList.all p = true) (hn : (x.cps.toList.length : Int) = n) (h0 : 0 ≤ v) (h1 : v < n) : ∃ c, atI x.cps.toList v = some c ∧ p c = true := by
  obtain ⟨c, e, m⟩ := atI_in h0 (by rw [hn]; exact h1)
  exact ⟨c, e, List.all_eq_true.mp h c m⟩
theorem name_lit {x : Str} (h : x ∈ (["ring", "host", "plan", "hosts", "racks", "with", "plain", "join", "settle"] : List Str)) : nameB x = true := by
  have : (["ring", "host", "plan", "hosts", "racks", "with", "plain", "join", "settle"] : List Str).all nameB = true := by decide +kernel
  exact List.all_eq_true.mp this x h
theorem kp_title (C : Addr) : Keeps N_title 1 (sd_title C) (db_title C) := by
  rintro ds M q ex hl ⟨k, g, rfl, hK, hg, h⟩
  show db_title C _ [some (.cel k), none, none, none] M
  unfold db_title
  ac_rfl
  refine ⟨k, _, g, rfl, by decide, by decide, hK, by omega, fun v M1 v0 v1 hB1 hK1 => ?_⟩
  ac_rfl
  refine ifD (fun h1 => ?_) (fun h1 => ?_)
  · ac_rfl
    refine ⟨k, _, _, _, rfl, (fun z => nomatch z), rfl, by decide, by decide, hK1, by omega, fun x M2 m hB2 hK2 => ?_⟩
    obtain ⟨y, my, rfl⟩ : ∃ y : Str, y ∈ (["ring", "host", "plan", "hosts", "racks", "with", "plain", "join", "settle"] : List Str) ∧ x = .str y := by
      have e : ([.str "ring", .str "host", .str "plan", .str "hosts", .str "racks", .str "with", .str "plain", .str "join", .str "settle"] : List D) = (["ring", "host", "plan", "hosts", "racks", "with", "plain", "join", "settle"] : List Str).map D.str := rfl
      rw [e] at m
      obtain ⟨y, h1, h2⟩ := List.mem_map.mp m
      exact ⟨y, h1, h2.symm⟩
    obtain ⟨a, b, c, h3, h4, h5, h6, h7⟩ := hK2
    exact h y _ (name_lit my) (hB1.trans hB2) ⟨a, b, c, h3, h4, h5, h6, by omega⟩
  · ac_rfl
    refine ⟨k, _, _, rfl, by decide, by decide, hK1, by omega, fun v2 M2 v20 v21 hB2 hK2 => ?_⟩
    obtain ⟨c, ec, hc⟩ := all_in (p := letB) (x := "abcdefghijklmnopqrstuvwxyz") (v := v2) (by decide +kernel) (by decide +kernel) v20 v21
    refine ix_str (by rw [sizeLine_eq]; decide) ec ?_
    ac_rfl
    refine ⟨k, _, _, _, rfl, (fun z => nomatch z), rfl, by decide, by decide, hK2, by omega, fun x M3 m hB3 hK3 => ?_⟩
    obtain ⟨j, hj, rfl⟩ : ∃ j : Nat, j ≤ 7 ∧ x = .int j := by
      simp only [List.mem_cons, List.not_mem_nil, or_false] at m
      rcases m with rfl | rfl | rfl | rfl | rfl | rfl
      · exact ⟨0, by decide, rfl⟩
      · exact ⟨0, by decide, rfl⟩
      · exact ⟨1, by decide, rfl⟩
      · exact ⟨2, by decide, rfl⟩
      · exact ⟨7, by decide, rfl⟩
      · exact ⟨3, by decide, rfl⟩
    ac_rfl
    refine for_rng (n := j) (fun i env M' => ∃ (f : Str) (r : List Nat) (t : Option D), env = [some (.cel k), some (.str "abcdefghijklmnopqrstuvwxyz"), some (.str f), t] ∧ f.cps.toList = c :: r ∧ r.length = i ∧ r.all signB = true ∧ KeptB k M M' ∧ Kg M' k (g + 3 + i)) ?_ ?_ _ _ ⟨_, [], none, rfl, rfl, rfl, rfl, (hB1.trans hB2).trans hB3, by
      obtain ⟨a, b, c, h3, h4, h5, h6, h7⟩ := hK3
      exact ⟨a, b, c, h3, h4, h5, h6, by omega⟩⟩
    · rintro env M' ⟨f, r, t, rfl, ef, hr, hs, hB, a, b, c, h3, h4, h5, h6, h7⟩
      refine ⟨trivial, ?_⟩
      ac_rfl
      refine h f _ ?_ hB ⟨a, b, c, h3, h4, h5, h6, by omega⟩
      unfold nameB
      rw [ef]
      show (letB _ && r.all signB && decide (r.length ≤ 7)) = true
      rw [hc, hs, decide_eq_true (by omega)]
      rfl
    · rintro i env M' hi ⟨f, r, t, rfl, ef, hr, hs, hB, hK'⟩ nx hn
      refine ⟨trivial, ?_⟩
      ac_rfl
      refine add_str (by rw [sizeLine_eq]; decide) ?_
      ac_rfl
      refine ⟨k, _, _, rfl, by decide, by decide, hK', by omega, fun v4 M4 v40 v41 hB4 hK4 => ?_⟩
      obtain ⟨c4, ec4, hc4⟩ := all_in (p := signB) (x := "abcdefghijklmnopqrstuvwxyz" ++ "0123456789") (v := v4) (by decide +kernel) (by decide +kernel) v40 v41
      refine ix_str (by rw [sizeLine_eq]; decide) ec4 ?_
      refine add_str (by rw [str_len, str_len, ef, sizeLine_eq]; simp; omega) ?_
      ac_rfl
      refine hn _ _ ⟨_, r ++ [c4], _, rfl, ?_, ?_, ?_, hB.trans hB4, ?_⟩
      · rw [str_app, ef]; rfl
      · rw [List.length_append, hr]; rfl
      · rw [List.all_append, hs]; simp [hc4]
      · obtain ⟨a, b, c, h3, h4, h5, h6, h7⟩ := hK4
        exact ⟨a, b, c, h3, h4, h5, h6, by omega⟩
theorem strOk_nat {x : Str} (h : x.cps.toList.all (fun c => decide (c < 1114112)) = true) : PyData.strOk x = true := by
  unfold PyData.strOk
  rw [← Array.all_toList]
  exact h
theorem name_ok {x : Str} (h : nameB x = true) : PyData.strOk x = true := by
  refine strOk_nat ?_
  unfold nameB at h
  cases e : x.cps.toList with
  | nil => rfl
  | cons c r =>
    rw [e] at h
    have h' : (letB c && r.all signB && decide (r.length ≤ 7)) = true := h
    rw [Bool.and_eq_true, Bool.and_eq_true] at h'
    obtain ⟨⟨h1, h2⟩, _⟩ := h'
    rw [List.all_eq_true] at h2 ⊢
    intro d hd
    rcases List.mem_cons.mp hd with rfl | hd
    · have := of_decide_eq_true h1
      exact decide_eq_true (by omega)
    · have := of_decide_eq_true (h2 d hd)
      exact decide_eq_true (by omega)
theorem name_len {x : Str} (h : nameB x = true) : 1 ≤ x.length ∧ x.length ≤ 8 := by
  unfold nameB at h
  rw [str_len]
  cases e : x.cps.toList with
  | nil => rw [e] at h; cases h
  | cons c r =>
    rw [e] at h
    have h' : (letB c && r.all signB && decide (r.length ≤ 7)) = true := h
    rw [Bool.and_eq_true] at h'
    have := of_decide_eq_true h'.2
    rw [List.length_cons]
    omega
/-- a name cut to seven signs, and one more -/
theorem name_cut {x y : Str} {c : Nat} (h : nameB x = true) (hy : y.cps.toList = x.cps.toList.take 7) (hc : signB c = true) : nameB (y ++ ⟨#[c]⟩) = true := by
  unfold nameB at h ⊢
  rw [str_app, hy]
  cases e : x.cps.toList with
  | nil => rw [e] at h; cases h
  | cons a r =>
    rw [e] at h
    have h' : (letB a && r.all signB && decide (r.length ≤ 7)) = true := h
    rw [Bool.and_eq_true, Bool.and_eq_true] at h'
    obtain ⟨⟨h1, h2⟩, _⟩ := h'
    show (letB a && (r.take 6 ++ [c]).all signB && decide ((r.take 6 ++ [c]).length ≤ 7)) = true
    rw [h1, List.all_append, List.length_append, List.length_take]
    have h3 : (r.take 6).all signB = true := by
      rw [List.all_eq_true] at h2 ⊢
      exact fun d hd => h2 d (List.mem_of_mem_take hd)
    rw [h3, decide_eq_true (by simp; omega)]
    simp [hc]
abbrev spare : List Str := ["a", "b", "a1", "a2", "zz9", "q", "r1", "x", "y", "z", "h0", "h1"]
theorem spare_nd : spare.Nodup := by decide +kernel
theorem spare_ok : ∀ x ∈ spare, nameB x = true := List.all_eq_true.mp (by decide +kernel : spare.all nameB = true)
theorem kg_le {M : Mem} {k : Addr} {g g' : Int} (h : Kg M k g) (e : g ≤ g') : Kg M k g' := by
  obtain ⟨a, b, c, h3, h4, h5, h6, h7⟩ := h
  exact ⟨a, b, c, h3, h4, h5, h6, by omega⟩
theorem kg_kept {M M' : Mem} {k : Addr} {g : Int} (h : Kg M k g) (e : Kept M M') : Kg M' k g := by
  obtain ⟨a, b, c, h3, h⟩ := h
  exact ⟨a, b, c, e k _ h3, h⟩
theorem kg_ne {M : Mem} {k c : Addr} {g : Int} (h : Kg M k g) (e : M c = none) : c ≠ k := by
  obtain ⟨a, b, c', h3, _⟩ := h
  rintro rfl
  rw [e] at h3; cases h3
theorem kp_titles (C : Addr) : Keeps N_titles 2 (sd_titles C) (db_titles C) := by
  rintro ds M q ex hl ⟨k, n, g, rfl, n1, hK, hg, h⟩
  show db_titles C _ [some (.cel k), some (.int n), none, none, none, none, none] M
  unfold db_titles
  ac_rfl
  intro c hc
  have hck := kg_ne hK hc
  ac_rfl
  refine for_rng (n := ((n : Nat) : Int).toNat) (fun i env M' => ∃ (xs : List Str) (t u v : Option D), env = [some (.cel k), some (.int n), some (strsL spare), some (.cel c), t, u, v] ∧ M' c = some (.ls (xs.map D.str)) ∧ xs.length = i ∧ xs.Nodup ∧ (∀ x ∈ xs, nameB x = true) ∧ KeptB k M M' ∧ Kg M' k (g + 30 * i)) ?_ ?_ _ _
    ⟨[], none, none, none, rfl, mset_same, rfl, .nil, fun x hx => by simp at hx, (Kept.new hc).b, by
      obtain ⟨a, b, d, h3, h4⟩ := hK
      exact ⟨a, b, d, by rw [mset_ne (Ne.symm hck)]; exact h3, by simpa using h4⟩⟩
  · rintro env M' ⟨xs, t, u, v, rfl, hM, hx, hnd, hok, hB, hK'⟩
    refine ⟨trivial, ?_⟩
    ac_rfl
    have hxn : xs.length = n := by rw [hx]; omega
    refine ⟨c, _, rfl, hM, ?_⟩
    refine h xs _ hxn hnd hok (hB.del hc) ?_
    obtain ⟨a, b, d, h3, h4, h5, h6, h7⟩ := hK'
    exact ⟨a, b, d, by unfold mdel; rw [if_neg (Ne.symm hck)]; exact h3, h4, h5, h6, by omega⟩
  · rintro i env M' hi ⟨xs, t, u, v, rfl, hM, hx, hnd, hok, hB, hK'⟩ nx hn
    refine ⟨trivial, ?_⟩
    ac_rfl
    refine ⟨k, _, rfl, hK', by omega, fun tag M1 htag hB1 hK1 => ?_⟩
    have hM1 : M1 c = some (.ls (xs.map D.str)) := hB1 c _ hM hck
    -- behind the choice of a tag
    have tail : ∀ (M2 : Mem) (tg : Str) (w : Option D), nameB tg = true → M2 c = some (.ls (xs.map D.str)) → KeptB k M M2 → Kg M2 k (g + 30 * i + 21) →
        dExp (dApp (dVar 3) (dCons (dOp rdIx (dLc (dIter (dOp rdAdd (dLst (dCons (dVar 5) dNil)) (dVar 2))) (gdName 6) (dTst (dOp (rdIn true) (dVar 6) (dVar 3))) (dVar 6) [6]) (dC (.int 0))) dNil)) { nx := nx, ct := nx, bk := fun env' M' => dRetF (dVar 3) { nx := fun x M' => q .non M', rt := q, ex := fun _ => ex } env' M', rt := q, ex := fun _ => ex } [some (.cel k), some (.int n), some (strsL spare), some (.cel c), w, some (.str tg), v] M2 := by
      intro M2 tg w htg hM2 hB2 hK2
      ac_rfl
      refine ⟨c, _, rfl, hM2, ?_⟩
      ac_rfl
      refine add_lst rfl rfl (by rw [sizeLine_eq]; exact Nat.le_of_ble_eq_true rfl) ?_
      ac_rfl
      intro c2 hc2
      have hcc : c2 ≠ c := fun e => by rw [e, hM2] at hc2; cases hc2
      have hl2 : spare.length = 12 := rfl
      refine lc_pure (fun d => match d with | .str x => !decide (x ∈ xs) | _ => false) (fun d => d) hc2 (by rw [sizeLine_eq]; exact Nat.le_of_ble_eq_true rfl) (fun acc => rfl) (fun x hxm acc hz nx2 hy hno => ?_) ?_
      · obtain ⟨y, my, rfl⟩ : ∃ y : Str, y ∈ tg :: spare ∧ x = .str y := by
          have e : ([.str tg] : List D) ++ spare.map D.str = (tg :: spare).map D.str := rfl
          rw [e] at hxm
          obtain ⟨y, h1, h2⟩ := List.mem_map.mp hxm
          exact ⟨y, h1, h2.symm⟩
        ac_rfl
        refine ni_str (xs := xs) (celL_of (by rw [mset_ne (Ne.symm hcc)]; exact hM2)) ?_
        ac_rfl
        refine ifB (fun hb => ?_) (fun hb => ?_)
        · ac_rfl
          exact acc_put hz (hy hb)
        · exact hno hb
      · have e : ([.str tg] : List D) ++ spare.map D.str = (tg :: spare).map D.str := rfl
        rw [e, List.filter_map]
        have hne : (tg :: spare).filter (fun x => !decide (x ∈ xs)) ≠ [] := fun z => by
          have hall : ∀ x ∈ spare, x ∈ xs := fun x hx => by
            have := List.filter_eq_nil_iff.mp z x (List.mem_cons_of_mem _ hx)
            simpa using this
          have := nodup_len spare_nd hall
          omega
        obtain ⟨y, r, ey⟩ : ∃ y r, (tg :: spare).filter (fun x => !decide (x ∈ xs)) = y :: r := by
          cases hh : (tg :: spare).filter (fun x => !decide (x ∈ xs)) with
          | nil => exact absurd hh hne
          | cons y r => exact ⟨y, r, rfl⟩
        have my : y ∈ (tg :: spare).filter (fun x => !decide (x ∈ xs)) := by rw [ey]; exact List.mem_cons_self
        obtain ⟨m1, m2⟩ := List.mem_filter.mp my
        have m3 : y ∉ xs := by simpa using m2
        have hyn : nameB y = true := by
          rcases List.mem_cons.mp m1 with rfl | m
          · exact htg
          · exact spare_ok y m
        have ef : ((fun d => match d with | .str x => !decide (x ∈ xs) | _ => false) ∘ D.str) = fun x => !decide (x ∈ xs) := rfl
        rw [ef, ey]
        refine ix_lst (d := .str y) atI_zero ?_
        ac_rfl
        refine ⟨_, _, rfl, hM2, by rw [List.length_map, sizeLine_eq]; omega, ?_⟩
        refine hn _ _ ⟨xs ++ [y], _, _, _, rfl, ?_, ?_, ?_, ?_, ?_, ?_⟩
        · rw [mset_same, List.map_append]; rfl
        · rw [List.length_append, hx]; rfl
        · rw [List.nodup_append]
          refine ⟨hnd, by simp, fun a ha b hb => ?_⟩
          rw [List.mem_singleton.mp hb]
          rintro rfl
          exact m3 ha
        · intro x hx
          rcases List.mem_append.mp hx with hx | hx
          · exact hok x hx
          · rw [List.mem_singleton.mp hx]; exact hyn
        · exact hB2.put hc
        · obtain ⟨a, b, d, h3, h4, h5, h6, h7⟩ := hK2
          exact ⟨a, b, d, by rw [mset_ne (Ne.symm hck)]; exact h3, h4, h5, h6, by omega⟩
    ac_rfl
    refine ne_nil (p := xs.map PyData.str) ?_ (shStrs fun x hx => name_ok (hok x hx)).1 ?_
    · show (match celL M1 c with | some xs => (toPys xs).map PyData.list | none => none) = _
      rw [celL_of hM1]
      show (toPys (xs.map D.str)).map PyData.list = _
      rw [toPys_str]; rfl
    ac_rfl
    have hB01 : KeptB k M M1 := hB.trans hB1
    have hKn : ∀ M2, Kg M2 k (g + 30 * i + 20 + 1) → Kg M2 k (g + 30 * i + 21) := fun M2 h => kg_le h (by omega)
    refine ifB (fun hb => ?_) (fun hb => ?_)
    · ac_rfl
      refine ⟨k, _, _, rfl, by decide, by decide, hK1, by omega, fun v0 M2 v00 v01 hB2 hK2 => ?_⟩
      ac_rfl
      have hM2 : M2 c = some (.ls (xs.map D.str)) := hB2 c _ hM1 hck
      refine ifD (fun h0 => ?_) (fun h0 => ?_)
      · ac_rfl
        cases xs with
        | nil => simp at hb
        | cons x0 xs0 =>
          refine ix_cel hM2 atI_zero ?_
          ac_rfl
          have hx0 := hok x0 List.mem_cons_self
          refine sl_str (n := 7) (by have := name_len hx0; rw [sizeLine_eq]; omega) fun y hy => ?_
          ac_rfl
          obtain ⟨c4, ec4, hc4⟩ := all_in (p := signB) (x := "0123456789ab") (v := (i : Nat)) (by decide +kernel) (n := 12) (by decide +kernel) (by omega) (by omega)
          have ei : (0 : Int) + (i : Nat) = (i : Nat) := by omega
          refine ix_str (by rw [sizeLine_eq]; decide) (by rw [ei]; exact ec4) ?_
          have hyl : y.length ≤ 7 := by rw [str_len, hy, List.length_take]; omega
          refine add_str (by rw [str_len ⟨#[c4]⟩, sizeLine_eq]; simp; omega) ?_
          exact tail M2 _ _ (name_cut hx0 hy hc4) hM2 (hB01.trans hB2) (hKn M2 hK2)
      · exact tail M2 tag _ htag hM2 (hB01.trans hB2) (hKn M2 hK2)
    · exact tail M1 tag _ htag hM1 hB01 (kg_le hK1 (by omega))
theorem kp_yards (C : Addr) : Keeps N_yards 2 (sd_yards C) (db_yards C) := by
  rintro ds M q ex hl ⟨k, n, g, rfl, n1, hK, hg, h⟩
  show db_yards C _ [some (.cel k), some (.int n), none, none] M
  unfold db_yards
  ac_rfl
  refine ⟨k, _, _, rfl, by decide, by decide, hK, by omega, fun v M1 v0 v1 hB1 hK1 => ?_⟩
  ac_rfl
  obtain ⟨j, rfl⟩ := Int.eq_ofNat_of_zero_le v0
  refine ⟨k, j + 1, _, by congr 3; omega, by omega, hK1, by omega, fun ps M2 hl2 hnd hok hB2 hK2 => ?_⟩
  ac_rfl
  intro c hc
  have hck := kg_ne hK2 hc
  refine lc_lst (fun i M' => ∃ xs : List Str, M' c = some (.ls (xs.map D.str)) ∧ xs.length = i ∧ (∀ x ∈ xs, nameB x = true) ∧ KeptB k M2 M' ∧ Kg M' k (g + 401 + i)) ?_ ?_ _ ⟨[], mset_same, rfl, fun x hx => by simp at hx, (Kept.new hc).b, ?_⟩
  · rintro M' ⟨xs, hM, hx, hok2, hB, a, b, d, h3, h4, h5, h6, h7⟩
    have hn : (rngD 0 ((n : Nat) : Int).toNat).length = n := by unfold rngD; rw [List.length_map, List.length_range]; omega
    refine ⟨trivial, _, hM, ?_⟩
    refine h xs _ (by rw [hx]; exact hn) hok2 ?_ ⟨a, b, d, by unfold mdel; rw [if_neg (Ne.symm hck)]; exact h3, h4, h5, h6, by rw [hn] at h7; omega⟩
    intro c' x e ne
    have e1 := hB2 c' x (hB1 c' x e ne) ne
    have hne : c' ≠ c := fun z => by rw [z, hc] at e1; cases e1
    unfold mdel
    rw [if_neg hne]
    exact hB c' x e1 ne
  · rintro i x M' hxi ⟨xs, hM, hx, hok2, hB, hK'⟩ nx hn
    refine ⟨trivial, ?_⟩
    ac_rfl
    refine ⟨k, _, ps.map D.str, _, rfl, (fun z => nomatch z), rfl, by rw [List.length_map]; omega, by rw [List.length_map]; omega, hK', ?_, fun y M3 hy hB3 hK3 => ?_⟩
    · have hi := (List.getElem?_eq_some_iff.mp hxi).1
      unfold rngD at hi; rw [List.length_map, List.length_range] at hi
      omega
    · obtain ⟨z, mz, rfl⟩ := List.mem_map.mp hy
      have hM3 := hB3 c _ hM hck
      refine ⟨_, hM3, by rw [List.length_map, hx, sizeLine_eq]; have hi := (List.getElem?_eq_some_iff.mp hxi).1; unfold rngD at hi; rw [List.length_map, List.length_range] at hi; omega, hn _ ⟨xs ++ [z], ?_, ?_, ?_, ?_, ?_⟩⟩
      · rw [mset_same, List.map_append]; rfl
      · rw [List.length_append, hx]; rfl
      · intro x hx
        rcases List.mem_append.mp hx with hx | hx
        · exact hok2 x hx
        · rw [List.mem_singleton.mp hx]; exact hok z mz
      · exact (hB.trans hB3).put hc
      · obtain ⟨a, b, d, h3, h4, h5, h6, h7⟩ := hK3
        exact ⟨a, b, d, by rw [mset_ne (Ne.symm hck)]; exact h3, h4, h5, h6, by omega⟩
  · obtain ⟨a, b, d, h3, h4, h5, h6, h7⟩ := hK2
    exact ⟨a, b, d, by rw [mset_ne (Ne.symm hck)]; exact h3, h4, h5, h6, by omega⟩
/-- among so many steps in a row one is not taken -/
theorem some_free {size wish : Int} {ts : List Int} (h : (ts.length : Int) < size) : ∃ s : Nat, s ≤ ts.length ∧ (wish + s) % size ∉ ts := by
  have hp : 0 < size := by omega
  by_cases hh : ∃ s : Nat, s ≤ ts.length ∧ (wish + s) % size ∉ ts
  · exact hh
  · exfalso
    have hall : ∀ x ∈ (List.range (ts.length + 1)).map (fun s : Nat => (wish + s) % size), x ∈ ts := fun x hx => by
      obtain ⟨s, hs, rfl⟩ := List.mem_map.mp hx
      rw [List.mem_range] at hs
      by_cases m : (wish + s) % size ∈ ts
      · exact m
      · exact absurd ⟨s, by omega, m⟩ hh
    have hnd : ((List.range (ts.length + 1)).map (fun s : Nat => (wish + s) % size)).Nodup := by
      unfold List.Nodup
      rw [List.pairwise_map]
      have hr : (List.range (ts.length + 1)).Pairwise (fun a b => a < b ∧ b < ts.length + 1) := by
        have h1 : (List.range (ts.length + 1)).Pairwise (· < ·) := List.pairwise_lt_range
        exact List.Pairwise.imp_of_mem (fun {a b} ha hb hab => ⟨hab, List.mem_range.mp hb⟩) h1
      refine hr.imp fun {a b} hab e => ?_
      have e1 : (wish + b - (wish + a)) % size = 0 := by
        rw [Int.sub_emod, ← e, Int.sub_self, Int.zero_emod]
      have e2 : wish + (b : Int) - (wish + a) = ((b - a : Nat) : Int) := by omega
      rw [e2, Int.emod_eq_of_lt (by omega) (by omega)] at e1
      omega
    have := nodup_len hnd hall
    rw [List.length_map, List.length_range] at this
    omega
theorem kp_free (C : Addr) : Keeps N_free 3 (sd_free C) (db_free C) := by
  rintro ds M q ex hl ⟨size, wish, d, ts, rfl, hs, hlt, hz, h⟩
  show db_free C _ [some (.int size), some d, some (.int wish), none] M
  unfold db_free
  ac_rfl
  refine len_seq hs ?_
  rw [List.length_map]
  ac_rfl
  refine for_rng (n := ((ts.length : Int) + 1).toNat) (fun i env M' => M' = M ∧ (∃ t, env = [some (.int size), some d, some (.int wish), t]) ∧ ∀ s : Nat, s < i → (wish + s) % size ∈ ts) ?_ ?_ _ _ ⟨rfl, ⟨none, rfl⟩, fun s hs => absurd hs (Nat.not_lt_zero _)⟩
  · rintro env M' ⟨rfl, _, hall⟩
    obtain ⟨s, h1, h2⟩ := some_free (wish := wish) hlt
    exact absurd (hall s (by omega)) h2
  · rintro i env M' hi ⟨rfl, ⟨t, rfl⟩, hall⟩ nx hn
    refine ⟨trivial, ?_⟩
    infer_instance
    refine mod_int (by omega) ?_
    infer_instance
    refine ni_int hs ?_
    infer_instance
    have e0 : wish + (0 + (i : Int)) = wish + i := by omega
    rw [e0]
    refine ifB (fun hb => ?_) (fun hb => ?_)
    · infer_instance
      refine mod_int (by omega) ?_
      rw [e0]
      exact h _ (Int.emod_nonneg _ (by omega)) (Int.emod_lt_of_pos _ (by omega)) (by simpa using hb)
    · refine hn _ _ ⟨rfl, ⟨_, rfl⟩, fun s hs2 => ?_⟩
      by_cases e : s = i
      · subst e; simpa using hb
      · exact hall s (by omega)
theorem kp_place (C : Addr) : Keeps N_place 3 (sd_place C) (db_place C) := by
  rintro ds M q ex hl ⟨k, size, g, d, ts, rfl, hd, hs, hz, h0, hK, hg, h⟩
  show db_place C _ [some (.cel k), some (.int size), some d, none] M
  unfold db_place
  ac_rfl
  refine ⟨k, _, _, rfl, by decide, by decide, hK, by omega, fun v M1 v0 v1 hB1 hK1 => ?_⟩
  ac_rfl
  refine ifD (fun h1 => ?_) (fun h1 => ?_)
  · ac_rfl
    refine ⟨k, _, _, rfl, by decide, by decide, hK1, by omega, fun v2 M2 v20 v21 hB2 hK2 => ?_⟩
    have e : v2 = 0 ∨ v2 = 1 := by omega
    rcases e with rfl | rfl
    · refine ix_lst (by rfl) ?_
      exact h 0 M2 (Int.le_refl _) h0 (hB1.trans hB2) (kg_le hK2 (by omega))
    · refine ix_lst (by rfl) ?_
      exact h (size - 1) M2 (by omega) (by omega) (hB1.trans hB2) (kg_le hK2 (by omega))
  · ac_rfl
    have hs1 := lsq_kept hB1 hd hs
    have last : ∀ (w : Option D), dRet (dIf (dTst (dOp rdLt (dVar 1) (dC (.int 1000)))) (dCall 2 (sd_dip C) (dCons (dVar 0) (dCons (dVar 1) dNil))) (dCall 2 (sd_vast C) (dCons (dVar 0) (dCons (dVar 1) dNil)))) { nx := fun x M' => q .non M', rt := q, ex := fun _ => ex } [some (.cel k), some (.int size), some d, w] M1 := by
      intro w
      ac_rfl
      refine ifD (fun h3 => ?_) (fun h3 => ?_)
      · ac_rfl
        exact ⟨k, _, _, rfl, h0, by omega, hK1, by omega, fun v2 M2 v20 v21 hB2 hK2 => h v2 M2 v20 v21 (hB1.trans hB2) (kg_le hK2 (by omega))⟩
      · ac_rfl
        exact ⟨k, _, _, rfl, h0, hK1, by omega, fun v2 M2 v20 v21 hB2 hK2 => h v2 M2 v20 v21 (hB1.trans hB2) (kg_le hK2 (by omega))⟩
    refine ifD (fun h2 => ?_) (fun h2 => ?_)
    · ac_rfl
      refine ne_nil (p := ts.map PyData.int) ?_ (shInts ts) ?_
      · cases d with
        | cel c =>
          show (match celL M1 c with | some xs => (toPys xs).map PyData.list | none => none) = _
          rw [show celL M1 c = some (ts.map D.int) from hs1]
          show (toPys (ts.map D.int)).map PyData.list = _
          rw [toPys_int]; rfl
        | lst xs =>
          cases hs1
          show (toPys (ts.map D.int)).map PyData.list = _
          rw [toPys_int]; rfl
        | lsf xs =>
          cases hs1
          show (toPys (ts.map D.int)).map PyData.list = _
          rw [toPys_int]; rfl
        | _ => cases hs1
      ac_rfl
      refine ifB (fun hb => ?_) (fun hb => ?_)
      · ac_rfl
        refine ⟨k, d, ts.map D.int, _, rfl, hd, lsq_seq hs1, ?_, by rw [List.length_map]; omega, hK1, by omega, fun x M2 hx hB2 hK2 => ?_⟩
        · rw [List.length_map]
          cases ts with
          | nil => simp at hb
          | cons a b => simp
        · obtain ⟨z, mz, rfl⟩ := List.mem_map.mp hx
          ac_rfl
          refine ⟨k, _, _, rfl, by decide, by decide, hK2, by omega, fun v3 M3 v30 v31 hB3 hK3 => ?_⟩
          ac_rfl
          exact h _ M3 (by assumption) (by assumption) ((hB1.trans hB2).trans hB3) (kg_le hK3 (by omega))
      · exact last _
    · exact last _
theorem kp_rule (C : Addr) : Keeps N_rule 1 (sd_rule C) (db_rule C) := by
  rintro ds M q ex hl ⟨k, g, rfl, hK, hg, h⟩
  show db_rule C _ [some (.cel k), none, none] M
  unfold db_rule
  ac_rfl
  refine ⟨k, _, _, rfl, by decide, by decide, hK, by omega, fun v M1 v0 v1 hB1 hK1 => ?_⟩
  ac_rfl
  refine ⟨k, _, _, _, rfl, (fun z => nomatch z), rfl, by decide, by decide, hK1, by omega, fun x M2 mx hB2 hK2 => ?_⟩
  ac_rfl
  refine ⟨k, _, _, rfl, by omega, by omega, hK2, by omega, fun v2 M3 v20 v21 hB3 hK3 => ?_⟩
  ac_rfl
  refine ⟨k, _, _, rfl, by omega, by omega, hK3, by omega, fun v3 M4 v30 v31 hB4 hK4 => ?_⟩
  ac_rfl
  refine ⟨k, _, _, _, rfl, (fun z => nomatch z), rfl, by decide, by decide, hK4, by omega, fun y M5 my hB5 hK5 => ?_⟩
  ac_rfl
  refine add_lst rfl rfl (by rw [sizeLine_eq]; exact Nat.le_of_ble_eq_true rfl) ?_
  obtain ⟨sx, hsx, rfl⟩ : ∃ s : Str, (s = "hosts" ∨ s = "racks") ∧ x = .str s := by
    simp only [List.mem_cons, List.not_mem_nil, or_false] at mx
    rcases mx with rfl | rfl
    · exact ⟨_, .inl rfl, rfl⟩
    · exact ⟨_, .inr rfl, rfl⟩
  obtain ⟨sy, hsy, rfl⟩ : ∃ s : Str, (s = "plain" ∨ s = "with") ∧ y = .str s := by
    simp only [List.mem_cons, List.not_mem_nil, or_false] at my
    rcases my with rfl | rfl
    · exact ⟨_, .inl rfl, rfl⟩
    · exact ⟨_, .inr rfl, rfl⟩
  exact h ⟨1 + v, sx, 1 + v2, 1 + v3, sy⟩ M5 ⟨⟨by show 1 ≤ 1 + v; omega, by show 1 + v ≤ 5; omega⟩, hsx, ⟨by show 1 ≤ 1 + v2; omega, by show 1 + v2 ≤ 1 + v; omega⟩, ⟨by show 1 ≤ 1 + v3; omega, by show 1 + v3 ≤ 1 + v; omega⟩, hsy⟩ ((((hB1.trans hB2).trans hB3).trans hB4).trans hB5) (kg_le hK5 (by omega))
theorem kp_build (C : Addr) : Keeps N_build 4 (sd_build C) (db_build C) := by
  rintro ds M q ex hl ⟨k, size, g, most, each, rfl, h0, m1, m2, e1, e2, hK, hg, h⟩
  show db_build C _ [some (.cel k), some (.int size), some (.int most), some (.int each)] M
  unfold db_build
  ac_rfl
  refine ⟨k, _, rfl, hK, by omega, fun r M1 hr hB1 hK1 => ?_⟩
  refine add_lst rfl rfl (by rw [sizeLine_eq]; exact Nat.le_of_ble_eq_true rfl) ?_
  ac_rfl
  refine ⟨k, size, _, most, each, rfl, h0, m1, m2, e1, e2, hK1, by omega, fun hs M2 hc hf hB2 hK2 => ?_⟩
  ac_rfl
  refine add_lst rfl rfl (by rw [sizeLine_eq]; exact Nat.le_of_ble_eq_true rfl) ?_
  exact h r hs M2 hr hc hf (hB1.trans hB2) (kg_le hK2 (by omega))
theorem kp_filled (C : Addr) : Keeps N_filled 2 (sd_filled C) (db_filled C) := by
  rintro ds M q ex hl ⟨ns, t, rfl, ht, hn, hb, h⟩
  show db_filled C _ [some (.lsf (ns.map D.int)), some (.int t), none, none, none] M
  unfold db_filled
  ac_rfl
  refine len_seq rfl ?_
  ac_rfl
  have rest : ∀ own : Int, Builtin.Int.intBits own ≤ 1048576 → (dSeq (dSet 3 (dOp rdAdd (dC (.int 90007)) (dOp rdMul (dC (.int 4409)) (dVar 1))))
    (dSeq (dFor (dIter (dSl rdSl (dVar 0) dNo (dPart (dC (.int 6))))) (gdName 4) (dSet 3 (dOp rdMod (dCB rdInt (dCons (dOp rdAdd (dOp rdAdd (dOp rdMul (dVar 3) (dC (.int 33347))) (dOp rdMul (dVar 4) (dC (.int 11)))) (dC (.int 29))) dNil)) (dC (.int 2147483543)))))
    (dRet (dLstC (dCons (dIf (dOr (dTst (dOp rdLt (dVar 2) (dC (.int 0)))) (dTst (dOp rdGe (dVar 2) (dOp rdPow (dC (.int 10)) (dC (.int 18)))))) (dCB rdAbs (dCons (dVar 2) dNil)) (dC (.int 0))) (dCons (dOp rdMod (dCB rdInt (dCons (dOp rdAdd (dOp rdAdd (dOp rdMul (dVar 3) (dC (.int 71))) (dOp rdMul (dVar 2) (dVar 2))) (dOp rdMul (dC (.int 13)) (dVar 1))) dNil)) (dC (.int 2147483543))) (dCons (dC (.int 0)) dNil)))))))
      { nx := fun _ M' => q .non M', rt := q, ex := fun _ => ex } [some (.lsf (ns.map D.int)), some (.int t), some (.int own), none, none] M := by
    intro own hown
    ac_rfl
    refine sl_lsf (n := 6) ?_
    ac_rfl
    refine for_lst (fun i env M' => M' = M ∧ ∃ (m : Int) (w : Option D), env = [some (.lsf (ns.map D.int)), some (.int t), some (.int own), some (.int m), w]) ?_ ?_ _ _ ⟨rfl, _, _, rfl⟩
    · rintro env M' ⟨rfl, m, w, rfl⟩
      refine ⟨rfl, ?_⟩
      have fin : ∀ a : Int, dCons (dOp rdMod (dCB rdInt (dCons (dOp rdAdd (dOp rdAdd (dOp rdMul (dVar 3) (dC (.int 71))) (dOp rdMul (dVar 2) (dVar 2))) (dOp rdMul (dC (.int 13)) (dVar 1))) dNil)) (dC (.int 2147483543))) (dCons (dC (.int 0)) dNil) [some (.lsf (ns.map D.int)), some (.int t), some (.int own), some (.int m), w] M' (fun xs M2 => (D.int a :: xs).length ≤ sizeLine ∧ ∀ c, M2 c = none → q (.cel c) (mset M2 c (.ls (D.int a :: xs)))) ex := by
        intro a
        ac_rfl
        refine mul_int (IntMulOk.of_le hown hown (by decide)) ?_
        ac_rfl
        intro c hc
        exact h c _ hc (Kept.new hc) ⟨_, _, _, mset_same, by assumption, by omega, by decide, by decide⟩
      ac_rfl
      refine ifD (fun h1 => ?_) (fun h1 => ?_)
      · ac_rfl
        exact fin _
      · ac_rfl
        refine pow_int (by refine ⟨?_, ?_, ?_⟩ <;> decide) ?_
        ac_rfl
        refine ifD (fun h2 => ?_) (fun h2 => ?_)
        · ac_rfl
          exact fin _
        · exact fin _
    · rintro i x env M' hx ⟨rfl, m, w, rfl⟩ nx hnx
      refine ⟨rfl, ?_⟩
      obtain ⟨z, _, rfl⟩ : ∃ z : Int, True ∧ x = .int z := by
        have := List.mem_of_mem_take (List.mem_of_getElem? hx)
        obtain ⟨z, _, e⟩ := List.mem_map.mp this
        exact ⟨z, trivial, e.symm⟩
      ac_rfl
      exact hnx _ _ ⟨rfl, _, _, rfl⟩
  refine ifD (fun h1 => ?_) (fun h1 => ?_)
  · ac_rfl
    rw [List.length_map] at h1
    have hlt : t < ns.length := by omega
    refine ix_seq (xs := ns.map D.int) rfl (atI_nat (n := t) (by rw [List.getElem?_map, List.getElem?_eq_getElem hlt]; rfl)) ?_
    exact rest _ (hb _ (List.getElem_mem hlt))
  · exact rest 0 (by decide)
theorem kp_is_word_of (C : Addr) : Keeps N_is_word_of 2 (sd_is_word_of C) (db_is_word_of C) := by
  rintro ds M q ex hl (⟨x, ws, rfl, h⟩ | ⟨d, ws, t, rfl, ht, hn, h⟩)
  · show db_is_word_of C _ [some (.str x), some (strsT ws)] M
    unfold db_is_word_of
    ac_rfl
    exact in_str (xs := ws) rfl h
  · show db_is_word_of C _ [some d, some (strsT ws)] M
    unfold db_is_word_of
    refine ⟨d, rfl, t, false, ht, ?_, ?_⟩
    · have := tyD_in ht
      simp only [List.mem_cons, List.not_mem_nil, or_false] at this
      rcases this with rfl | rfl | rfl | rfl | rfl | rfl | rfl <;> first | rfl | exact absurd rfl hn
    · refine ⟨false, rfl, ?_⟩
      rw [if_neg Bool.false_ne_true]
      exact h
theorem let_in {c : Nat} (h : letB c = true) : c ∈ ("abcdefghijklmnopqrstuvwxyz" : Str).cps.toList := by
  have e : ("abcdefghijklmnopqrstuvwxyz" : Str).cps.toList = (List.range 26).map (97 + ·) := by decide +kernel
  rw [e]
  have := of_decide_eq_true h
  exact List.mem_map.mpr ⟨c - 97, List.mem_range.mpr (by omega), by omega⟩
theorem sign_in {c : Nat} (h : signB c = true) : c ∈ (("abcdefghijklmnopqrstuvwxyz" : Str) ++ ("0123456789" : Str)).cps.toList := by
  have e : (("abcdefghijklmnopqrstuvwxyz" : Str) ++ ("0123456789" : Str)).cps.toList = (List.range 26).map (97 + ·) ++ (List.range 10).map (48 + ·) := by decide +kernel
  rw [e]
  rcases of_decide_eq_true h with h | h
  · exact List.mem_append.mpr (.inl (List.mem_map.mpr ⟨c - 97, List.mem_range.mpr (by omega), by omega⟩))
  · exact List.mem_append.mpr (.inr (List.mem_map.mpr ⟨c - 48, List.mem_range.mpr (by omega), by omega⟩))
theorem kp_is_name (C : Addr) : Keeps N_is_name 1 (sd_is_name C) (db_is_name C) := by
  rintro ds M q ex hl ⟨x, rfl, hx, h⟩
  show db_is_name C _ [some (.str x), none] M
  unfold db_is_name
  have hlen := name_len hx
  have hsz : x.length ≤ sizeLine := by rw [sizeLine_eq]; omega
  ac_rfl
  refine len_str hsz ?_
  ac_rfl
  refine ifD (fun h1 => ?_) (fun h1 => absurd hlen.1 (by omega))
  ac_rfl
  have e8 : decide ((x.length : Int) ≤ 8) = true := decide_eq_true (by omega)
  rw [e8]
  ac_rfl
  unfold nameB at hx
  cases e : x.cps.toList with
  | nil => rw [e] at hx; cases hx
  | cons c r =>
    rw [e] at hx
    have h' : (letB c && r.all signB && decide (r.length ≤ 7)) = true := hx
    rw [Bool.and_eq_true, Bool.and_eq_true] at h'
    obtain ⟨⟨h1, h2⟩, h3⟩ := h'
    refine ix_str hsz (by rw [e]; exact atI_zero) ?_
    ac_rfl
    refine in_sign ?_
    refine ⟨true, by rw [decide_eq_true (let_in h1)], ?_⟩
    ac_rfl
    intro c0 hc0
    have hxl : (strD x).length ≤ sizeLine := by unfold strD; rw [List.length_map, ← str_len]; exact hsz
    refine lc_pure (fun _ => true) (fun _ => .bl true) hc0 hxl (fun _ => trivial) (fun y hy acc hz nx hyes _ => ?_) ?_
    · obtain ⟨d, hd, rfl⟩ := List.mem_map.mp hy
      have hsd : signB d = true := by
        rw [e] at hd
        rcases List.mem_cons.mp hd with rfl | hd
        · have := of_decide_eq_true h1
          exact decide_eq_true (.inl this)
        · exact List.all_eq_true.mp h2 d hd
      ac_rfl
      refine add_str (by rw [sizeLine_eq]; decide) ?_
      refine in_sign ?_
      rw [decide_eq_true (sign_in hsd)]
      exact acc_put hz (hyes rfl)
    · refine all_true (fun y hy => ?_) h
      obtain ⟨_, _, e⟩ := List.mem_map.mp hy
      exact e.symm
end R
set_option maxRecDepth 100000
set_option maxHeartbeats 1000000
namespace R
open PySem PySem.Spec PyProof.Rows L2 DL
local macro_rules | `(tactic| bv_omega) => `(tactic| first | assumption | exact mset_same)
local macro_rules | `(tactic| symm) => `(tactic| first
  | ((with_reducible show ∃ _, _ = _ ∧ _); refine ⟨_, rfl, ?_⟩)
  | ((with_reducible show _ = _ ∧ _); refine ⟨rfl, ?_⟩)
  | ((with_reducible show ∃ _ _, _ = _ ∧ _ = _ ∧ _); refine ⟨_, _, rfl, rfl, ?_⟩)
  | ((with_reducible show ∃ _ _, _ = _ ∧ _); refine ⟨_, _, rfl, ?_⟩)
  | ((with_reducible show ∃ _ _ _, _ = _ ∧ _); refine ⟨_, _, _, rfl, ?_⟩)
  | ((with_reducible show (_ ≤ _ ∧ _) ∧ _); refine ⟨by omega, ?_⟩)
  | with_reducible refine add_int ?_ | with_reducible refine sub_int ?_
  | with_reducible refine lt_int ?_ | with_reducible refine le_int ?_ | with_reducible refine gt_int ?_ | with_reducible refine ge_int ?_
  | with_reducible refine int_int ?_
  | with_reducible refine eq_int ?_ | with_reducible refine ne_int ?_
  | with_reducible refine len_tup ?_ | with_reducible refine len_lst ?_
  | ((with_reducible show rdIx (.cel _) (.int _) _ _); refine ix_cel (by bv_omega) (by rfl) ?_)
  | ((with_reducible show rdIx (.lst _) (.int _) _ _); refine ix_lst (by rfl) ?_)
  | ((with_reducible show rdIx (.tup _) (.int _) _ _); refine ix_tup (by rfl) ?_)
  | ((with_reducible show rdLen [.cel _] _ _); refine len_cel (by bv_omega) ?_)
  | ((with_reducible show rdMul (.int _) (.int _) _ _); first | refine mul_l (by decide) (by decide) ?_ | refine mul_r (by decide) (by decide) ?_ | refine mul_l (by omega) (by omega) ?_ | refine mul_r (by omega) (by omega) ?_)
  | ((with_reducible show rdDiv (.int _) (.int _) _ _); refine div_int (by first | decide | assumption | omega) (by first | decide | assumption | omega) ?_)
  | ((with_reducible show rdDivmod [.int _, .int _] _ _); refine dm_int (by first | decide | assumption | omega) (by first | decide | assumption | omega) ?_)
  | ((with_reducible show @ite _ (_ = true) _ _ _); first | refine ifYes (by first | with_reducible rfl | exact Bool.not_false | assumption) ?_ | refine ifNo (by first | with_reducible rfl | exact Bool.not_true | assumption) ?_)
  | ((with_reducible show ∃ _, _ ∧ _); refine ⟨_, celL_of (by bv_omega), ?_⟩)
  | ((with_reducible show ∃ _ _ _ _, _ ∧ _ ∧ _ ∧ _ ∧ _); refine ⟨_, _, _, _, rfl, rfl, by bv_omega, by rfl, ?_⟩)
  | ((with_reducible show (_ : Nat) ≤ sizeLine ∧ _); refine ⟨by rw [sizeLine_eq]; exact Nat.le_of_ble_eq_true rfl, ?_⟩))
local macro_rules | `(tactic| infer_instance) => `(tactic| ((repeat symm); try dsimp only))
local macro_rules | `(tactic| ac_rfl) => `(tactic| ((repeat (first | symm | ((with_reducible show rdMod (.int _) (.int _) _ _); refine mod_any (by first | decide | assumption | omega) ?_; intro _ _ _))); try dsimp only))
theorem zip_asc {ms : List Int} (h : ms.Pairwise (· < ·)) {y : D} (hy : y ∈ zipD (ms.map D.int) ((ms.map D.int).drop 1)) : ∃ a b : Int, y = .tup [.int a, .int b] ∧ a < b := by
  unfold zipD at hy
  obtain ⟨i, hi⟩ := List.getElem?_of_mem hy
  rw [List.getElem?_zipWith, List.getElem?_drop, List.getElem?_map, List.getElem?_map] at hi
  cases e1 : ms[i]? with
  | none => rw [e1] at hi; simp at hi
  | some a =>
    cases e2 : ms[1 + i]? with
    | none => rw [e1, e2] at hi; simp at hi
    | some b =>
      rw [e1, e2] at hi
      simp at hi
      refine ⟨a, b, hi.symm, ?_⟩
      obtain ⟨p1, q1⟩ := List.getElem?_eq_some_iff.mp e1
      obtain ⟨p2, q2⟩ := List.getElem?_eq_some_iff.mp e2
      have := List.pairwise_iff_getElem.mp h i (1 + i) p1 p2 (by omega)
      rw [q1, q2] at this
      exact this
theorem kp_is_ascending (C : Addr) : Keeps N_is_ascending 1 (sd_is_ascending C) (db_is_ascending C) := by
  rintro ds M q ex hl ⟨ms, rfl, h16, hasc, h⟩
  show db_is_ascending C _ [some (intsT ms), none, none] M
  unfold db_is_ascending
  ac_rfl
  refine slf_tup (n := 1) ?_
  ac_rfl
  refine ⟨_, _, _, _, rfl, .inl ⟨rfl, rfl, ?_⟩⟩
  intro c hc
  refine lc_pure (fun _ => true) (fun _ => .bl true) hc ?_ (fun _ => trivial) (fun y hy acc hz nx hyes _ => ?_) ?_
  · unfold zipD; rw [List.length_zipWith, List.length_map, sizeLine_eq]; omega
  · obtain ⟨a, b, rfl, hab⟩ := zip_asc hasc hy
    ac_rfl
    rw [decide_eq_true hab]
    exact acc_put hz (hyes rfl)
  · refine all_true (fun y hy => ?_) h
    obtain ⟨_, _, e⟩ := List.mem_map.mp hy
    exact e.symm
theorem kp_is_free_name (C : Addr) : Keeps N_is_free_name 2 (sd_is_free_name C) (db_is_free_name C) := by
  rintro ds M q ex hl ⟨x, hs, rfl, hx, h12, hne, h⟩
  show db_is_free_name C _ [some (.str x), some (crewD hs), none] M
  unfold db_is_free_name
  ac_rfl
  refine ⟨x, rfl, hx, ?_⟩
  ac_rfl
  intro c hc
  refine lc_pure (fun _ => true) (fun _ => .bl false) hc (by rw [List.length_map, sizeLine_eq]; omega) (fun _ => rfl) (fun y hy acc hz nx hyes _ => ?_) ?_
  · obtain ⟨o, ho, rfl⟩ := List.mem_map.mp hy
    obtain ⟨h1, h2⟩ := hne o ho
    ac_rfl
    refine eq_str (name_ok hx) (name_ok h1) ?_
    rw [decide_eq_false (fun e => h2 e.symm)]
    exact acc_put hz (hyes rfl)
  · refine any_false (fun y hy => ?_) ?_
    · obtain ⟨_, _, e⟩ := List.mem_map.mp hy
      exact e.symm
    · ac_rfl
      exact h
theorem kp_are_free_marks (C : Addr) : Keeps N_are_free_marks 3 (sd_are_free_marks C) (db_are_free_marks C) := by
  rintro ds M q ex hl ⟨ms, size, hs, rfl, hm, h12, hfree, h⟩
  show db_are_free_marks C _ [some (intsT ms), some (.int size), some (crewD hs), none, none] M
  unfold db_are_free_marks
  ac_rfl
  have h1 := hm.ne
  have h16 := hm.few
  rw [List.length_map]
  refine ifD (fun h2 => ?_) (fun h2 => absurd h1 (by omega))
  ac_rfl
  rw [decide_eq_true (show (ms.length : Int) ≤ 16 by omega)]
  ac_rfl
  intro c hc
  refine lc_pure (fun _ => true) (fun _ => .bl true) hc (by rw [List.length_map, sizeLine_eq]; omega) (fun _ => rfl) (fun y hy acc hz nx hyes _ => ?_) ?_
  · obtain ⟨m, mm, rfl⟩ := List.mem_map.mp hy
    ac_rfl
    refine ⟨m, 0, size - 1, rfl, ?_⟩
    have := hm.inn m mm
    rw [decide_eq_true (show 0 ≤ m ∧ m ≤ size - 1 by omega)]
    exact acc_put hz (hyes rfl)
  · refine all_true (fun y hy => ?_) ?_
    · obtain ⟨_, _, e⟩ := List.mem_map.mp hy
      exact e.symm
    ac_rfl
    refine ⟨ms, rfl, h16, hm.asc, ?_⟩
    ac_rfl
    intro c2 hc2
    refine lc2_lst (fun i M' => ∃ acc : List D, M' = mset M c2 (.ls acc) ∧ (∀ x ∈ acc, x = .bl false) ∧ acc.length ≤ 16 * i) ?_ ?_ _ ⟨[], rfl, fun x hx => by simp at hx, Nat.zero_le _⟩
    · rintro M' ⟨acc, rfl, ha, hl⟩
      refine ⟨rfl, acc, mset_same, ?_⟩
      rw [mdel_mset hc2]
      refine any_false ha ?_
      ac_rfl
      exact h
    · rintro i x M' hx ⟨acc, rfl, ha, hl⟩ nx hnx
      refine ⟨rfl, ?_⟩
      have hi := (List.getElem?_eq_some_iff.mp hx).1
      rw [List.length_map] at hi
      obtain ⟨o, ho, rfl⟩ := List.mem_map.mp (List.mem_of_getElem? hx)
      ac_rfl

      refine in_lst (fun j M' => ∃ acc : List D, M' = mset M c2 (.ls acc) ∧ (∀ x ∈ acc, x = .bl false) ∧ acc.length ≤ 16 * i + j) ?_ ?_ _ ⟨acc, rfl, ha, by omega⟩
      · rintro M' ⟨acc, rfl, ha, hl⟩
        rw [List.length_map] at hl
        exact ⟨rfl, hnx _ ⟨acc, rfl, ha, by omega⟩⟩
      · rintro j x M' hx ⟨acc, rfl, ha, hl⟩ nx2 hnx2
        have hj := (List.getElem?_eq_some_iff.mp hx).1
        rw [List.length_map] at hj
        obtain ⟨m, mm, rfl⟩ := List.mem_map.mp (List.mem_of_getElem? hx)
        refine ⟨rfl, ?_⟩
        ac_rfl
        refine in_int (xs := o.marks) rfl ?_
        rw [decide_eq_false (hfree o ho m mm)]
        refine acc_put (by rw [sizeLine_eq]; omega) (hnx2 _ ⟨acc ++ [.bl false], rfl, fun x hx => ?_, by rw [List.length_append, List.length_singleton]; omega⟩)
        rcases List.mem_append.mp hx with hx | hx
        · exact ha x hx
        · exact List.mem_singleton.mp hx
theorem kp_is_next_host (C : Addr) : Keeps N_is_next_host 3 (sd_is_next_host C) (db_is_next_host C) := by
  rintro ds M q ex hl ⟨o, size, hs, rfl, hn, h12, hnames, h⟩
  show db_is_next_host C _ [some (hostD o), some (.int size), some (crewD hs), none, none, none] M
  unfold db_is_next_host
  ac_rfl
  refine ⟨o.name, hs, rfl, hn.name, h12, fun p hp => ⟨hnames p hp, hn.fresh p hp⟩, ?_⟩
  ac_rfl
  refine ⟨o.rack, rfl, hn.rack, ?_⟩
  ac_rfl
  exact ⟨o.marks, size, hs, rfl, hn.marks, h12, hn.free, h⟩
theorem crew_name {size : Int} {hs : List Host} (h : CrewOk size hs) : ∀ o ∈ hs, nameB o.name = true := fun o ho => by
  obtain ⟨i, hi⟩ := List.getElem?_of_mem ho
  exact (h.each i o hi).name
theorem crew_marks {size : Int} {hs : List Host} (h : CrewOk size hs) : ∀ o ∈ hs, MarksOk size o.marks := fun o ho => by
  obtain ⟨i, hi⟩ := List.getElem?_of_mem ho
  exact (h.each i o hi).marks
theorem kp_check_hosts (C : Addr) : Keeps N_check_hosts 2 (sd_check_hosts C) (db_check_hosts C) := by
  rintro ds M q ex hl ⟨size, hs, rfl, hc, h⟩
  show db_check_hosts C _ [some (.int size), some (crewD hs), none, none] M
  unfold db_check_hosts
  ac_rfl
  have hne : 0 < hs.length := List.length_pos_iff.mpr hc.ne
  have h12 := hc.few
  rw [decide_eq_false (show ¬ (((hs.map hostD).length : Int) = 0) by rw [List.length_map]; omega)]
  ac_rfl
  refine for_lst (fun i env M' => M' = M ∧ ∃ t u, env = [some (.int size), some (crewD hs), t, u]) ?_ ?_ _ _ ⟨rfl, none, none, rfl⟩
  · rintro env M' ⟨rfl, t, u, rfl⟩
    exact ⟨rfl, h⟩
  · rintro i x env M' hx ⟨rfl, t, u, rfl⟩ nx hn
    refine ⟨rfl, ?_⟩
    obtain ⟨y, hy, rfl⟩ := enumD_get hx
    rw [List.getElem?_map] at hy
    obtain ⟨o, ho, rfl⟩ := omap hy
    have hi := (List.getElem?_eq_some_iff.mp ho).1
    ac_rfl
    rw [decide_eq_false (show ¬ ((i : Int) = 12) by omega)]
    ac_rfl
    refine sl_tup (n := i) ?_
    rw [← List.map_take]
    ac_rfl
    refine ⟨o, size, hs.take i, rfl, hc.each i o ho, by rw [List.length_take]; omega, fun p hp => crew_name hc p (List.mem_of_mem_take hp), ?_⟩
    ac_rfl
    exact hn _ _ ⟨rfl, _, _, rfl⟩
theorem kp_Ring___init__ (C : Addr) : Keeps N_Ring___init__ 8 (sd_Ring___init__ C) (db_Ring___init__ C) := by
  rintro ds M q ex hl ⟨c, size, r, hs, rfl, hM, s0, s1, hr, hc, h⟩
  show db_Ring___init__ C _ [some (.cel c), some (.int size), some (.int r.wide), some (.str r.spread), some (.int r.write), some (.int r.read), some (.str r.pend), some (crewD hs)] M
  unfold db_Ring___init__
  ac_rfl
  refine ⟨size, 1, 1000000000000000000, rfl, ?_⟩
  rw [decide_eq_true (show 1 ≤ size ∧ size ≤ 1000000000000000000 from ⟨s0, s1⟩)]
  ac_rfl
  refine ⟨r.wide, 1, 5, rfl, ?_⟩
  rw [decide_eq_true hr.w]
  ac_rfl
  refine .inl ⟨r.spread, ["hosts", "racks"], rfl, ?_⟩
  rw [decide_eq_true (show r.spread ∈ (["hosts", "racks"] : List Str) by rcases hr.s with e | e <;> rw [e] <;> simp)]
  ac_rfl
  refine ⟨r.write, 1, r.wide, rfl, ?_⟩
  rw [decide_eq_true hr.p]
  ac_rfl
  refine ⟨r.read, 1, r.wide, rfl, ?_⟩
  rw [decide_eq_true hr.g]
  ac_rfl
  refine .inl ⟨r.pend, ["plain", "with"], rfl, ?_⟩
  rw [decide_eq_true (show r.pend ∈ (["plain", "with"] : List Str) by rcases hr.m with e | e <;> rw [e] <;> simp)]
  ac_rfl
  refine ⟨size, hs, rfl, hc, ?_⟩
  ac_rfl
  refine ⟨c, _, rfl, hM, Nat.le_of_ble_eq_true rfl, ?_⟩
  ac_rfl
  refine ⟨c, _, rfl, mset_same, Nat.le_of_ble_eq_true rfl, ?_⟩
  ac_rfl
  refine ⟨c, _, rfl, mset_same, Nat.le_of_ble_eq_true rfl, ?_⟩
  ac_rfl
  refine ⟨c, _, rfl, mset_same, Nat.le_of_ble_eq_true rfl, ?_⟩
  ac_rfl
  refine ⟨c, _, rfl, mset_same, Nat.le_of_ble_eq_true rfl, ?_⟩
  ac_rfl
  refine ⟨c, _, rfl, mset_same, Nat.le_of_ble_eq_true rfl, ?_⟩
  ac_rfl
  refine ⟨c, _, rfl, mset_same, Nat.le_of_ble_eq_true rfl, ?_⟩
  simp only [mset_mset]
  exact h
theorem fs_ring {C : Addr} {size : Int} {r : Rule} {hs : List Host} {M : Mem} : fsOf M C (ringD C size r hs) = some (fieldsD size r hs) := by
  show (if C = C then some (fNames.zip (frameL size r hs)) else none) = _
  rw [if_pos rfl]
  rfl
theorem fld_ring {C : Addr} {size : Int} {r : Rule} {hs : List Host} {M : Mem} {B : D → Prop} {f : Str} {v : D} (h : (fieldsD size r hs).lookup f = some v) (w : B v) : ∃ fs v, fsOf M C (ringD C size r hs) = some fs ∧ fs.lookup f = some v ∧ B v := ⟨_, v, fs_ring, h, w⟩
theorem lk_hosts {size : Int} {r : Rule} {hs : List Host} : (fieldsD size r hs).lookup ("_hosts" : Str) = some (crewD hs) := by rfl
theorem lk_points {size : Int} {r : Rule} {hs : List Host} : (fieldsD size r hs).lookup ("_points" : Str) = some (.int size) := by rfl
theorem lk_spread {size : Int} {r : Rule} {hs : List Host} : (fieldsD size r hs).lookup ("_spread" : Str) = some (.str r.spread) := by rfl
theorem lk_factor {size : Int} {r : Rule} {hs : List Host} : (fieldsD size r hs).lookup ("_factor" : Str) = some (.int r.wide) := by rfl
end R
set_option maxRecDepth 100000
set_option maxHeartbeats 1000000
namespace R
open PySem PySem.Spec PyProof.Rows L2 DL
local macro_rules | `(tactic| bv_omega) => `(tactic| first | assumption | exact mset_same)
local macro_rules | `(tactic| symm) => `(tactic| first
  | ((with_reducible show ∃ _, _ = _ ∧ _); refine ⟨_, rfl, ?_⟩)
  | ((with_reducible show _ = _ ∧ _); refine ⟨rfl, ?_⟩)
  | ((with_reducible show ∃ _ _, _ = _ ∧ _ = _ ∧ _); refine ⟨_, _, rfl, rfl, ?_⟩)
  | ((with_reducible show ∃ _ _, _ = _ ∧ _); refine ⟨_, _, rfl, ?_⟩)
  | ((with_reducible show ∃ _ _ _, _ = _ ∧ _); refine ⟨_, _, _, rfl, ?_⟩)
  | ((with_reducible show (_ ≤ _ ∧ _) ∧ _); refine ⟨by omega, ?_⟩)
  | with_reducible refine add_int ?_ | with_reducible refine sub_int ?_
  | with_reducible refine lt_int ?_ | with_reducible refine le_int ?_ | with_reducible refine gt_int ?_ | with_reducible refine ge_int ?_
  | with_reducible refine int_int ?_
  | with_reducible refine eq_int ?_ | with_reducible refine ne_int ?_
  | with_reducible refine len_tup ?_ | with_reducible refine len_lst ?_
  | ((with_reducible show rdIx (.cel _) (.int _) _ _); refine ix_cel (by bv_omega) (by rfl) ?_)
  | ((with_reducible show rdIx (.lst _) (.int _) _ _); refine ix_lst (by rfl) ?_)
  | ((with_reducible show rdIx (.tup _) (.int _) _ _); refine ix_tup (by rfl) ?_)
  | ((with_reducible show rdLen [.cel _] _ _); refine len_cel (by bv_omega) ?_)
  | ((with_reducible show rdMul (.int _) (.int _) _ _); first | refine mul_l (by decide) (by decide) ?_ | refine mul_r (by decide) (by decide) ?_ | refine mul_l (by omega) (by omega) ?_ | refine mul_r (by omega) (by omega) ?_)
  | ((with_reducible show rdDiv (.int _) (.int _) _ _); refine div_int (by first | decide | assumption | omega) (by first | decide | assumption | omega) ?_)
  | ((with_reducible show rdDivmod [.int _, .int _] _ _); refine dm_int (by first | decide | assumption | omega) (by first | decide | assumption | omega) ?_)
  | ((with_reducible show @ite _ (_ = true) _ _ _); first | refine ifYes (by first | with_reducible rfl | exact Bool.not_false | assumption) ?_ | refine ifNo (by first | with_reducible rfl | exact Bool.not_true | assumption) ?_)
  | ((with_reducible show ∃ _, _ ∧ _); refine ⟨_, celL_of (by bv_omega), ?_⟩)
  | ((with_reducible show ∃ _ _ _ _, _ ∧ _ ∧ _ ∧ _ ∧ _); refine ⟨_, _, _, _, rfl, rfl, by bv_omega, by rfl, ?_⟩)
  | ((with_reducible show (_ : Nat) ≤ sizeLine ∧ _); refine ⟨by rw [sizeLine_eq]; exact Nat.le_of_ble_eq_true rfl, ?_⟩))
local macro_rules | `(tactic| infer_instance) => `(tactic| ((repeat symm); try dsimp only))
local macro_rules | `(tactic| ac_rfl) => `(tactic| ((repeat (first | symm | ((with_reducible show rdMod (.int _) (.int _) _ _); refine mod_any (by first | decide | assumption | omega) ?_; intro _ _ _))); try dsimp only))
theorem str_ext {x y : Str} (h : x.cps.toList = y.cps.toList) : x = y := TL.ext_tl h
theorem str_lit0 : ("0" : Str).cps.toList = [48] := by decide +kernel
theorem dig_in {c : Nat} : c ∈ ("0123456789" : Str).cps.toList ↔ digB c = true := by
  have e : ("0123456789" : Str).cps.toList = (List.range 10).map (48 + ·) := by decide +kernel
  rw [e, List.mem_map]
  unfold digB
  rw [decide_eq_true_iff]
  constructor
  · rintro ⟨a, h, rfl⟩; have := List.mem_range.mp h; omega
  · intro h; exact ⟨c - 48, List.mem_range.mpr (by omega), by omega⟩
theorem kp_is_written_number (C : Addr) : Keeps N_is_written_number 1 (sd_is_written_number C) (db_is_written_number C) := by
  rintro ds M q ex hl ⟨x, rfl, hx, h⟩
  show db_is_written_number C _ [some (.str x), none] M
  unfold db_is_written_number
  have hsz : x.length ≤ sizeLine := by rw [sizeLine_eq]; exact hx
  ac_rfl
  refine len_str hsz ?_
  ac_rfl
  refine ifD (fun h1 => ?_) (fun h1 => ?_)
  · ac_rfl
    have w : ∀ (b : Bool), decide ((x.length : Int) ≤ 19) = b → _ := fun b e => e
    cases e19 : decide ((x.length : Int) ≤ 19) with
    | false =>
      ac_rfl
      have e : wnB x = false := by
        unfold wnB
        rw [decide_eq_false (show ¬ (1 ≤ x.length ∧ x.length ≤ 19) from fun z => by have := of_decide_eq_false e19; omega)]
        rfl
      rw [e] at h
      exact h
    | true =>
      have h19 : x.length ≤ 19 := by have := of_decide_eq_true e19; omega
      have h01 : 1 ≤ x.length := by omega
      ac_rfl
      intro c0 hc0
      have hxl : (strD x).length ≤ sizeLine := by unfold strD; rw [List.length_map, ← str_len]; exact hsz
      refine lc_pure (fun _ => true) (fun d => match d with | .str s => .bl (s.cps.toList.all digB) | d => d) hc0 hxl (fun _ => trivial) (fun y hy acc hz nx hyes _ => ?_) ?_
      · obtain ⟨d, hd, rfl⟩ := List.mem_map.mp hy
        ac_rfl
        refine in_sign ?_
        have e : decide (d ∈ ("0123456789" : Str).cps.toList) = ([d] : List Nat).all digB := by
          rw [List.all_cons, List.all_nil, Bool.and_true]
          by_cases hh : digB d = true
          · rw [hh]; exact decide_eq_true (dig_in.mpr hh)
          · rw [show digB d = false by simpa using hh]; exact decide_eq_false fun z => hh (dig_in.mp z)
        rw [e]
        exact acc_put hz (hyes rfl)
      · have eb : bls (((strD x).filter fun _ => true).map fun d => match d with | .str s => .bl (s.cps.toList.all digB) | d => d) = some (x.cps.toList.map fun c => ([c] : List Nat).all digB) := by
          rw [List.filter_eq_self.mpr fun _ _ => rfl]
          unfold strD
          rw [List.map_map]
          generalize x.cps.toList = l
          induction l with
          | nil => rfl
          | cons a l ih =>
            show (bls _).map _ = _
            rw [ih]; rfl
        refine ⟨_, _, _, rfl, rfl, eb, ?_⟩
        have ea : (x.cps.toList.map fun c => ([c] : List Nat).all digB).all id = x.cps.toList.all digB := by
          rw [List.all_map]
          congr 1
          funext c
          simp
        rw [ea]
        ac_rfl
        have ew : wnB x = (x.cps.toList.all digB && (decide (x = ("0" : Str)) || decide (x.cps.toList.head? ≠ some 48))) := by
          unfold wnB
          rw [decide_eq_true (show 1 ≤ x.length ∧ x.length ≤ 19 from ⟨h01, h19⟩), Bool.true_and]
        refine ifB (fun hb => ?_) (fun hb => ?_)
        · ac_rfl
          refine eq_strA ?_
          refine ⟨_, rfl, ?_⟩
          refine ifB (fun h0 => ?_) (fun h0 => ?_)
          · rw [ew, hb, h0] at h
            exact h
          · ac_rfl
            obtain ⟨c, r, hcr⟩ : ∃ c r, x.cps.toList = c :: r := by
              cases e : x.cps.toList with
              | nil => rw [str_len, e] at h01; exact absurd h01 (by simp)
              | cons c r => exact ⟨c, r, rfl⟩
            refine ix_str hsz (by rw [hcr]; exact atI_zero) ?_
            ac_rfl
            refine ne_strA ?_
            have e2 : (!decide ((⟨#[c]⟩ : Str) = ("0" : Str))) = decide (x.cps.toList.head? ≠ some 48) := by
              rw [hcr, List.head?_cons]
              by_cases hc : c = 48
              · subst hc
                have : (⟨#[48]⟩ : Str) = ("0" : Str) := by decide +kernel
                rw [decide_eq_true this, decide_eq_false (fun z => z rfl)]
                rfl
              · rw [decide_eq_false (fun z => hc ?_), decide_eq_true (show some c ≠ some 48 from fun z => hc (Option.some.inj z))]
                · rfl
                · have := congrArg (fun s : Str => s.cps.toList) z
                  rw [str_lit0] at this
                  have e3 : ([c] : List Nat) = [48] := this
                  simpa using e3
            rw [e2]
            rw [ew, hb, h0] at h
            exact h
        · rw [ew, hb] at h
          exact h
  · have e : wnB x = false := by
      unfold wnB
      rw [decide_eq_false (show ¬ (1 ≤ x.length ∧ x.length ≤ 19) from fun z => h1 (by omega))]
      rfl
    ac_rfl
    rw [e] at h
    exact h
theorem wnB_digits {x : Str} (h : wnB x = true) : x.cps.toList.all digB = true ∧ 1 ≤ x.length ∧ x.length ≤ 19 := by
  unfold wnB at h
  rw [Bool.and_eq_true, Bool.and_eq_true] at h
  exact ⟨h.2.1, of_decide_eq_true h.1⟩
theorem int_of_digits {x : Str} (h : wnB x = true) : PySem.intText? x = some ((NumText.digitsVal x.cps.toList : Nat) : Int) := by
  obtain ⟨h1, h2, h3⟩ := wnB_digits h
  refine PySem.intText_digits ?_ ?_ (by omega)
  · intro c hc
    have := List.all_eq_true.mp h1 c hc
    exact of_decide_eq_true this
  · intro e
    rw [str_len, e] at h2
    exact absurd h2 (by simp)
theorem kp_written_number (C : Addr) : Keeps N_written_number 1 (sd_written_number C) (db_written_number C) := by
  rintro ds M q ex hl ⟨x, rfl, hx, h⟩
  show db_written_number C _ [some (.str x)] M
  unfold db_written_number
  infer_instance
  refine ⟨x, rfl, hx, ?_⟩
  infer_instance
  unfold wnum at h
  cases hb : wnB x with
  | true =>
    rw [hb, if_pos rfl] at h
    infer_instance
    exact ⟨x, _, rfl, int_of_digits hb, by have := wnB_digits hb; omega, h⟩
  | false =>
    rw [hb] at h
    infer_instance
    exact h
theorem num_tl (n : Nat) : (numS (n : Int)).cps.toList = TL.numL n := TL.tl_num n
theorem num_wn {n : Nat} (h : n < 10 ^ 19) : wnum (numS (n : Int)) = some (n : Int) := by
  have hd : (numS (n : Int)).cps.toList.all digB = true := by
    rw [num_tl, List.all_eq_true]
    intro c hc
    exact decide_eq_true (TL.numL_digits n c hc)
  have hl : (numS (n : Int)).length ≤ 19 := by
    rw [str_len, num_tl]; exact TL.numL_len (by decide) h
  have hl1 : 1 ≤ (numS (n : Int)).length := by
    rw [str_len, num_tl]
    have := TL.numL_ne n
    cases e : TL.numL n with
    | nil => exact absurd e this
    | cons c r => simp
  have hz : (decide ((numS (n : Int)) = ("0" : Str)) || decide ((numS (n : Int)).cps.toList.head? ≠ some 48)) = true := by
    rw [num_tl]
    by_cases h0 : n = 0
    · subst h0
      rw [Bool.or_eq_true]; left
      decide +kernel
    · rw [Bool.or_eq_true]; right
      rw [decide_eq_true_iff]
      have key : ∀ m : Nat, m ≠ 0 → (TL.numL m).head? ≠ some 48 := by
        intro m
        induction m using Nat.strongRecOn with
        | ind m ih =>
          intro hm
          by_cases h10 : m < 10
          · rw [TL.numL_lt h10]
            simp
            omega
          · rw [TL.numL_step (by omega)]
            have h1 := ih (m / 10) (by omega) (by omega)
            have h2 := TL.numL_ne (m / 10)
            cases e : TL.numL (m / 10) with
            | nil => exact absurd e h2
            | cons c r => rw [e] at h1; simpa using h1
      exact key n h0
  have hw : wnB (numS (n : Int)) = true := by
    unfold wnB
    rw [decide_eq_true (show 1 ≤ (numS (n : Int)).length ∧ (numS (n : Int)).length ≤ 19 from ⟨hl1, hl⟩), hd, hz]
    rfl
  unfold wnum
  rw [hw, if_pos rfl, num_tl, TL.numL_val]
theorem num_wnI {i : Int} (h0 : 0 ≤ i) (h1 : i < 10 ^ 19) : wnum (numS i) = some i := by
  obtain ⟨n, rfl⟩ := Int.eq_ofNat_of_zero_le h0
  exact num_wn (by omega)
theorem num_len {i : Int} (h0 : 0 ≤ i) (h1 : i < 10 ^ 19) : (numS i).length ≤ 19 := by
  obtain ⟨n, rfl⟩ := Int.eq_ofNat_of_zero_le h0
  rw [str_len, num_tl]; exact TL.numL_len (by decide) (by omega)
theorem num_free {i : Int} (h0 : 0 ≤ i) {s : Nat} (hs : s < 48) : s ∉ (numS i).cps.toList := by
  obtain ⟨n, rfl⟩ := Int.eq_ofNat_of_zero_le h0
  rw [num_tl]; exact TL.numL_free (.inl hs)
theorem name_free {x : Str} (h : nameB x = true) {s : Nat} (hs : s < 48) : s ∉ x.cps.toList := by
  unfold nameB at h
  cases e : x.cps.toList with
  | nil => simp
  | cons c r =>
    rw [e] at h
    have h' : (letB c && r.all signB && decide (r.length ≤ 7)) = true := h
    rw [Bool.and_eq_true, Bool.and_eq_true] at h'
    obtain ⟨⟨h1, h2⟩, _⟩ := h'
    intro hm
    rcases List.mem_cons.mp hm with rfl | hm
    · have := of_decide_eq_true h1; omega
    · have := of_decide_eq_true (List.all_eq_true.mp h2 s hm); omega
theorem join_len (S : List Nat) : ∀ ps : List (List Nat), (TL.joinL S ps).length ≤ (ps.map (·.length)).sum + ps.length * S.length
  | [] => by simp [TL.joinL]
  | [p] => by simp [TL.joinL]
  | p :: q :: r => by
    have ih := join_len S (q :: r)
    show (p ++ (S ++ TL.joinL S (q :: r))).length ≤ _
    rw [List.length_append, List.length_append, List.map_cons, List.sum_cons, List.length_cons, Nat.succ_mul]
    omega
theorem tl_txt (y : Str) (ps : List Str) : (Txt.join y ps).cps.toList = TL.joinL y.cps.toList (ps.map fun p => p.cps.toList) := by
  rw [TL.join_eq]; exact TL.tl_join y ps
theorem txt_len (y : Str) (ps : List Str) : (Txt.join y ps).length ≤ (ps.map (·.length)).sum + ps.length * y.length := by
  rw [str_len, tl_txt]
  refine Nat.le_trans (join_len _ _) ?_
  rw [List.map_map, List.length_map, ← str_len]
  have : ((fun x : List Nat => x.length) ∘ fun p : Str => p.cps.toList) = fun p : Str => p.length := by
    funext p; show p.cps.toList.length = p.length; rw [str_len]
  rw [this]
  exact Nat.le_refl _
theorem join_free {s : Nat} {S : List Nat} (hS : s ∉ S) : ∀ {ps : List (List Nat)}, (∀ p ∈ ps, s ∉ p) → s ∉ TL.joinL S ps
  | [], _ => by simp [TL.joinL]
  | [p], h => by simpa [TL.joinL] using h p (by simp)
  | p :: q :: r, h => by
    have ih := join_free hS (ps := q :: r) fun x hx => h x (List.mem_cons_of_mem _ hx)
    show s ∉ p ++ (S ++ TL.joinL S (q :: r))
    intro hm
    rcases List.mem_append.mp hm with hm | hm
    · exact h p (by simp) hm
    · rcases List.mem_append.mp hm with hm | hm
      · exact hS hm
      · exact ih hm
theorem split_sp {ps : List Str} (hne : ps ≠ []) (h : ∀ p ∈ ps, 32 ∉ p.cps.toList) : Txt.split (Txt.join " " ps) " " = ps := by
  exact TL.split_join (y := (" " : Str)) (s := 32) (S := []) (by decide +kernel) (by decide +kernel) hne h
theorem split_nl {ps : List Str} (hne : ps ≠ []) (h : ∀ p ∈ ps, 10 ∉ p.cps.toList) : Txt.split (Txt.join "\n" ps) "\n" = ps := by
  exact TL.split_join (y := ("\n" : Str)) (s := 10) (S := []) (by decide +kernel) (by decide +kernel) hne h
theorem sum_le {α : Type} {f : α → Nat} {b : Nat} : ∀ {l : List α}, (∀ x ∈ l, f x ≤ b) → (l.map f).sum ≤ l.length * b
  | [], _ => by simp
  | x :: l, h => by
    have := sum_le (l := l) fun y hy => h y (List.mem_cons_of_mem _ hy)
    have h1 := h x (by simp)
    rw [List.map_cons, List.sum_cons, List.length_cons, Nat.succ_mul]
    omega
end R
set_option maxRecDepth 100000
set_option maxHeartbeats 1000000
namespace R
open PySem PySem.Spec PyProof.Rows L2 DL
local macro_rules | `(tactic| bv_omega) => `(tactic| first | assumption | exact mset_same)
local macro_rules | `(tactic| symm) => `(tactic| first
  | ((with_reducible show ∃ _, _ = _ ∧ _); refine ⟨_, rfl, ?_⟩)
  | ((with_reducible show _ = _ ∧ _); refine ⟨rfl, ?_⟩)
  | ((with_reducible show ∃ _ _, _ = _ ∧ _ = _ ∧ _); refine ⟨_, _, rfl, rfl, ?_⟩)
  | ((with_reducible show ∃ _ _, _ = _ ∧ _); refine ⟨_, _, rfl, ?_⟩)
  | ((with_reducible show ∃ _ _ _, _ = _ ∧ _); refine ⟨_, _, _, rfl, ?_⟩)
  | ((with_reducible show (_ ≤ _ ∧ _) ∧ _); refine ⟨by omega, ?_⟩)
  | with_reducible refine add_int ?_ | with_reducible refine sub_int ?_
  | with_reducible refine lt_int ?_ | with_reducible refine le_int ?_ | with_reducible refine gt_int ?_ | with_reducible refine ge_int ?_
  | with_reducible refine int_int ?_
  | with_reducible refine eq_int ?_ | with_reducible refine ne_int ?_
  | with_reducible refine len_tup ?_ | with_reducible refine len_lst ?_
  | ((with_reducible show rdIx (.cel _) (.int _) _ _); refine ix_cel (by bv_omega) (by rfl) ?_)
  | ((with_reducible show rdIx (.lst _) (.int _) _ _); refine ix_lst (by rfl) ?_)
  | ((with_reducible show rdIx (.tup _) (.int _) _ _); refine ix_tup (by rfl) ?_)
  | ((with_reducible show rdLen [.cel _] _ _); refine len_cel (by bv_omega) ?_)
  | ((with_reducible show rdMul (.int _) (.int _) _ _); first | refine mul_l (by decide) (by decide) ?_ | refine mul_r (by decide) (by decide) ?_ | refine mul_l (by omega) (by omega) ?_ | refine mul_r (by omega) (by omega) ?_)
  | ((with_reducible show rdDiv (.int _) (.int _) _ _); refine div_int (by first | decide | assumption | omega) (by first | decide | assumption | omega) ?_)
  | ((with_reducible show rdDivmod [.int _, .int _] _ _); refine dm_int (by first | decide | assumption | omega) (by first | decide | assumption | omega) ?_)
  | ((with_reducible show @ite _ (_ = true) _ _ _); first | refine ifYes (by first | with_reducible rfl | exact Bool.not_false | assumption) ?_ | refine ifNo (by first | with_reducible rfl | exact Bool.not_true | assumption) ?_)
  | ((with_reducible show ∃ _, _ ∧ _); refine ⟨_, celL_of (by bv_omega), ?_⟩)
  | ((with_reducible show ∃ _ _ _ _, _ ∧ _ ∧ _ ∧ _ ∧ _); refine ⟨_, _, _, _, rfl, rfl, by bv_omega, by rfl, ?_⟩)
  | ((with_reducible show (_ : Nat) ≤ sizeLine ∧ _); refine ⟨by rw [sizeLine_eq]; exact Nat.le_of_ble_eq_true rfl, ?_⟩))
local macro_rules | `(tactic| infer_instance) => `(tactic| ((repeat symm); try dsimp only))
local macro_rules | `(tactic| ac_rfl) => `(tactic| ((repeat (first | symm | ((with_reducible show rdMod (.int _) (.int _) _ _); refine mod_any (by first | decide | assumption | omega) ?_; intro _ _ _))); try dsimp only))
theorem marks_num {size : Int} {ms : List Int} (h : MarksOk size ms) (hs : size ≤ 1000000000000000000) {m : Int} (hm : m ∈ ms) : 0 ≤ m ∧ m < 10 ^ 19 := by
  have := h.inn m hm
  exact ⟨this.1, by omega⟩
theorem hostRow_words {size : Int} {h : Host} (hT : HostT size h) (hs : size ≤ 1000000000000000000) : ∀ p ∈ ((["host", h.name, h.rack] : List Str) ++ h.marks.map numS), 32 ∉ p.cps.toList ∧ 10 ∉ p.cps.toList ∧ p.length ≤ 19 := by
  intro p hp
  rcases List.mem_append.mp hp with hp | hp
  · simp only [List.mem_cons, List.not_mem_nil, or_false] at hp
    rcases hp with rfl | rfl | rfl
    · exact ⟨by decide +kernel, by decide +kernel, by decide +kernel⟩
    · exact ⟨name_free hT.name (by decide), name_free hT.name (by decide), by have := name_len hT.name; omega⟩
    · exact ⟨name_free hT.rack (by decide), name_free hT.rack (by decide), by have := name_len hT.rack; omega⟩
  · obtain ⟨m, hm, rfl⟩ := List.mem_map.mp hp
    have := marks_num hT.marks hs hm
    exact ⟨num_free this.1 (by decide), num_free this.1 (by decide), num_len this.1 this.2⟩
theorem hostRow_split {size : Int} {h : Host} (hT : HostT size h) (hs : size ≤ 1000000000000000000) : Txt.split (hostRow h) " " = (["host", h.name, h.rack] : List Str) ++ h.marks.map numS :=
  split_sp (by simp) fun p hp => (hostRow_words hT hs p hp).1
theorem hostRow_nl {size : Int} {h : Host} (hT : HostT size h) (hs : size ≤ 1000000000000000000) : 10 ∉ (hostRow h).cps.toList := by
  unfold hostRow
  rw [tl_txt]
  refine join_free (by decide +kernel) fun p hp => ?_
  obtain ⟨x, hx, rfl⟩ := List.mem_map.mp hp
  exact (hostRow_words hT hs x hx).2.1
theorem sp_len : (" " : Str).length = 1 := by decide +kernel
theorem nl_len : ("\n" : Str).length = 1 := by decide +kernel
theorem hostRow_len {size : Int} {h : Host} (hT : HostT size h) (hs : size ≤ 1000000000000000000) : (hostRow h).length ≤ 400 ∧ (((["host", h.name, h.rack] : List Str) ++ h.marks.map numS).map (·.length)).sum + ((["host", h.name, h.rack] : List Str) ++ h.marks.map numS).length * (" " : Str).length ≤ 400 := by
  have h1 := sum_le (f := fun s : Str => s.length) (b := 19) fun p hp => (hostRow_words hT hs p hp).2.2
  have h3 : ((["host", h.name, h.rack] : List Str) ++ h.marks.map numS).length ≤ 19 := by
    have := hT.marks.few
    rw [List.length_append, List.length_map]
    simp only [List.length_cons, List.length_nil]
    omega
  have h2 := txt_len " " ((["host", h.name, h.rack] : List Str) ++ h.marks.map numS)
  unfold hostRow
  rw [sp_len] at h2 ⊢
  generalize ((["host", h.name, h.rack] : List Str) ++ h.marks.map numS) = l at *
  have h4 : l.length * 19 ≤ 19 * 19 := Nat.mul_le_mul_right 19 h3
  omega
theorem crew_hostT {size : Int} {hs : List Host} (hc : CrewOk size hs) {h : Host} (hh : h ∈ hs) : HostT size h := by
  obtain ⟨i, hi⟩ := List.getElem?_of_mem hh
  have := hc.each i h hi
  exact ⟨this.name, this.rack, this.marks⟩
theorem kp_written_host (C : Addr) : Keeps N_written_host 1 (sd_written_host C) (db_written_host C) := by
  rintro ds M q ex hl ⟨size, h, rfl, hs, hT, hq⟩
  show db_written_host C _ [some (.str (hostRow h)), none, none] M
  unfold db_written_host
  have hlen := (hostRow_len hT hs).1
  ac_rfl
  refine ⟨_, rfl, by decide +kernel, by rw [sizeLine_eq]; omega, ?_⟩
  rw [hostRow_split hT hs]
  have em : (((["host", h.name, h.rack] : List Str) ++ h.marks.map numS).map D.str) = .str "host" :: .str h.name :: .str h.rack :: (h.marks.map numS).map D.str := rfl
  rw [em]
  ac_rfl
  refine ix_lst (atI_nat (n := 0) rfl) ?_
  ac_rfl
  refine ne_strA ?_
  rw [decide_eq_true rfl]
  ac_rfl
  have h1 := hT.marks.ne
  have h16 := hT.marks.few
  have e4 : decide (((D.str "host" :: D.str h.name :: D.str h.rack :: (h.marks.map numS).map D.str).length : Int) < 4) = false := by
    refine decide_eq_false ?_
    simp only [List.length_cons, List.length_map]
    omega
  rw [e4]
  ac_rfl
  refine ix_lst (atI_nat (n := 1) rfl) ?_
  ac_rfl
  refine ix_lst (atI_nat (n := 2) rfl) ?_
  ac_rfl
  refine slf_lst (n := 3) ?_
  ac_rfl
  intro c hc
  refine lc_pure (fun _ => true) (fun d => match d with | .str s => optD (wnum s) | d => d) hc ?_ (fun _ => rfl) (fun y hy acc hz nx hyes _ => ?_) ?_
  · show ((h.marks.map numS).map D.str).length ≤ sizeLine
    rw [List.length_map, List.length_map, sizeLine_eq]; omega
  · obtain ⟨z, hz2, rfl⟩ := List.mem_map.mp (show y ∈ (h.marks.map numS).map D.str from hy)
    obtain ⟨m, hm, rfl⟩ := List.mem_map.mp hz2
    have hn := marks_num hT.marks hs hm
    ac_rfl
    refine ⟨numS m, rfl, by have := num_len hn.1 hn.2; omega, ?_⟩
    exact acc_put hz (hyes rfl)
  · have e : ((((h.marks.map numS).map D.str).filter fun _ => true).map fun d => match d with | .str s => optD (wnum s) | d => d) = h.marks.map D.int := by
      rw [List.filter_eq_self.mpr fun _ _ => rfl, List.map_map, List.map_map]
      refine List.map_congr_left fun m hm => ?_
      have hn := marks_num hT.marks hs hm
      show optD (wnum (numS m)) = .int m
      rw [num_wnI hn.1 hn.2]
      rfl
    refine ⟨_, _, rfl, rfl, ?_⟩
    ac_rfl
    rw [show ((List.drop 3 (D.str "host" :: D.str h.name :: D.str h.rack :: List.map D.str (List.map numS h.marks))).filter fun _ => true) = ((h.marks.map numS).map D.str).filter fun _ => true from rfl, e]
    exact hq M (Kept.refl M)
end R
set_option maxRecDepth 100000
set_option maxHeartbeats 1000000
namespace R
open PySem PySem.Spec PyProof.Rows L2 DL
local macro_rules | `(tactic| bv_omega) => `(tactic| first | assumption | exact mset_same)
local macro_rules | `(tactic| symm) => `(tactic| first
  | ((with_reducible show ∃ _, _ = _ ∧ _); refine ⟨_, rfl, ?_⟩)
  | ((with_reducible show _ = _ ∧ _); refine ⟨rfl, ?_⟩)
  | ((with_reducible show ∃ _ _, _ = _ ∧ _ = _ ∧ _); refine ⟨_, _, rfl, rfl, ?_⟩)
  | ((with_reducible show ∃ _ _, _ = _ ∧ _); refine ⟨_, _, rfl, ?_⟩)
  | ((with_reducible show ∃ _ _ _, _ = _ ∧ _); refine ⟨_, _, _, rfl, ?_⟩)
  | ((with_reducible show (_ ≤ _ ∧ _) ∧ _); refine ⟨by omega, ?_⟩)
  | with_reducible refine add_int ?_ | with_reducible refine sub_int ?_
  | with_reducible refine lt_int ?_ | with_reducible refine le_int ?_ | with_reducible refine gt_int ?_ | with_reducible refine ge_int ?_
  | with_reducible refine int_int ?_
  | with_reducible refine eq_int ?_ | with_reducible refine ne_int ?_
  | with_reducible refine len_tup ?_ | with_reducible refine len_lst ?_
  | ((with_reducible show rdIx (.cel _) (.int _) _ _); refine ix_cel (by bv_omega) (by rfl) ?_)
  | ((with_reducible show rdIx (.lst _) (.int _) _ _); refine ix_lst (by rfl) ?_)
  | ((with_reducible show rdIx (.tup _) (.int _) _ _); refine ix_tup (by rfl) ?_)
  | ((with_reducible show rdLen [.cel _] _ _); refine len_cel (by bv_omega) ?_)
  | ((with_reducible show rdMul (.int _) (.int _) _ _); first | refine mul_l (by decide) (by decide) ?_ | refine mul_r (by decide) (by decide) ?_ | refine mul_l (by omega) (by omega) ?_ | refine mul_r (by omega) (by omega) ?_)
  | ((with_reducible show rdDiv (.int _) (.int _) _ _); refine div_int (by first | decide | assumption | omega) (by first | decide | assumption | omega) ?_)
  | ((with_reducible show rdDivmod [.int _, .int _] _ _); refine dm_int (by first | decide | assumption | omega) (by first | decide | assumption | omega) ?_)
  | ((with_reducible show @ite _ (_ = true) _ _ _); first | refine ifYes (by first | with_reducible rfl | exact Bool.not_false | assumption) ?_ | refine ifNo (by first | with_reducible rfl | exact Bool.not_true | assumption) ?_)
  | ((with_reducible show ∃ _, _ ∧ _); refine ⟨_, celL_of (by bv_omega), ?_⟩)
  | ((with_reducible show ∃ _ _ _ _, _ ∧ _ ∧ _ ∧ _ ∧ _); refine ⟨_, _, _, _, rfl, rfl, by bv_omega, by rfl, ?_⟩)
  | ((with_reducible show (_ : Nat) ≤ sizeLine ∧ _); refine ⟨by rw [sizeLine_eq]; exact Nat.le_of_ble_eq_true rfl, ?_⟩))
local macro_rules | `(tactic| infer_instance) => `(tactic| ((repeat symm); try dsimp only))
local macro_rules | `(tactic| ac_rfl) => `(tactic| ((repeat (first | symm | ((with_reducible show rdMod (.int _) (.int _) _ _); refine mod_any (by first | decide | assumption | omega) ?_; intro _ _ _))); try dsimp only))
theorem spread_ok {s : Str} (h : s = "hosts" ∨ s = "racks") : 32 ∉ s.cps.toList ∧ 10 ∉ s.cps.toList ∧ s.length ≤ 19 := by
  rcases h with rfl | rfl <;> exact ⟨by decide +kernel, by decide +kernel, by decide +kernel⟩
theorem pend_ok {s : Str} (h : s = "plain" ∨ s = "with") : 32 ∉ s.cps.toList ∧ 10 ∉ s.cps.toList ∧ s.length ≤ 19 := by
  rcases h with rfl | rfl <;> exact ⟨by decide +kernel, by decide +kernel, by decide +kernel⟩
structure RowOk (size : Int) (r : Rule) : Prop where
  p : 0 ≤ size ∧ size < 10 ^ 19
  w : 0 ≤ r.wide ∧ r.wide < 10 ^ 19
  a : 0 ≤ r.write ∧ r.write < 10 ^ 19
  b : 0 ≤ r.read ∧ r.read < 10 ^ 19
theorem rowOk_of {size : Int} {r : Rule} (s0 : 1 ≤ size) (s1 : size ≤ 1000000000000000000) (hr : RuleOk r) : RowOk size r := by
  obtain ⟨h1, h2, h3, h4, h5⟩ := hr
  exact ⟨by omega, by omega, by omega, by omega⟩
theorem ringRow_words {size : Int} {r : Rule} (h : RowOk size r) (hr : RuleOk r) : ∀ p ∈ (["ring", numS size, numS r.wide, r.spread, numS r.write, numS r.read, r.pend] : List Str), 32 ∉ p.cps.toList ∧ 10 ∉ p.cps.toList ∧ p.length ≤ 19 := by
  have nm : ∀ {i : Int}, 0 ≤ i ∧ i < 10 ^ 19 → 32 ∉ (numS i).cps.toList ∧ 10 ∉ (numS i).cps.toList ∧ (numS i).length ≤ 19 := fun h => ⟨num_free h.1 (by decide), num_free h.1 (by decide), num_len h.1 h.2⟩
  intro p hp
  simp only [List.mem_cons, List.not_mem_nil, or_false] at hp
  rcases hp with rfl | rfl | rfl | rfl | rfl | rfl | rfl
  · exact ⟨by decide +kernel, by decide +kernel, by decide +kernel⟩
  · exact nm h.p
  · exact nm h.w
  · exact spread_ok hr.s
  · exact nm h.a
  · exact nm h.b
  · exact pend_ok hr.m
theorem ringRow_split {size : Int} {r : Rule} (h : RowOk size r) (hr : RuleOk r) : Txt.split (ringRow size r) " " = (["ring", numS size, numS r.wide, r.spread, numS r.write, numS r.read, r.pend] : List Str) :=
  split_sp (by simp) fun p hp => (ringRow_words h hr p hp).1
theorem ringRow_nl {size : Int} {r : Rule} (h : RowOk size r) (hr : RuleOk r) : 10 ∉ (ringRow size r).cps.toList := by
  unfold ringRow
  rw [tl_txt]
  refine join_free (by decide +kernel) fun p hp => ?_
  obtain ⟨x, hx, rfl⟩ := List.mem_map.mp hp
  exact (ringRow_words h hr x hx).2.1
theorem ringRow_len {size : Int} {r : Rule} (h : RowOk size r) (hr : RuleOk r) : (ringRow size r).length ≤ 400 ∧ ((["ring", numS size, numS r.wide, r.spread, numS r.write, numS r.read, r.pend] : List Str).map (·.length)).sum + (["ring", numS size, numS r.wide, r.spread, numS r.write, numS r.read, r.pend] : List Str).length * (" " : Str).length ≤ 400 := by
  have h1 := sum_le (f := fun s : Str => s.length) (b := 19) fun p hp => (ringRow_words h hr p hp).2.2
  have h2 := txt_len " " (["ring", numS size, numS r.wide, r.spread, numS r.write, numS r.read, r.pend] : List Str)
  have h3 : (["ring", numS size, numS r.wide, r.spread, numS r.write, numS r.read, r.pend] : List Str).length = 7 := rfl
  unfold ringRow
  rw [sp_len] at h2 ⊢
  rw [h3] at h1 h2 ⊢
  generalize ((["ring", numS size, numS r.wide, r.spread, numS r.write, numS r.read, r.pend] : List Str).map (·.length)).sum = t at *
  omega
theorem sheet_rows {size : Int} {r : Rule} {hs : List Host} (s0 : 1 ≤ size) (s1 : size ≤ 1000000000000000000) (hr : RuleOk r) (hc : CrewOk size hs) : ∀ p ∈ ringRow size r :: hs.map hostRow, 10 ∉ p.cps.toList ∧ p.length ≤ 400 := by
  have hw := rowOk_of s0 s1 hr
  intro p hp
  rcases List.mem_cons.mp hp with rfl | hp
  · exact ⟨ringRow_nl hw hr, (ringRow_len hw hr).1⟩
  · obtain ⟨o, ho, rfl⟩ := List.mem_map.mp hp
    exact ⟨hostRow_nl (crew_hostT hc ho) s1, (hostRow_len (crew_hostT hc ho) s1).1⟩
theorem sheet_split {size : Int} {r : Rule} {hs : List Host} (s0 : 1 ≤ size) (s1 : size ≤ 1000000000000000000) (hr : RuleOk r) (hc : CrewOk size hs) : Txt.split (sheetS size r hs) "\n" = ringRow size r :: hs.map hostRow :=
  split_nl (by simp) fun p hp => (sheet_rows s0 s1 hr hc p hp).1
theorem sheet_len {size : Int} {r : Rule} {hs : List Host} (s0 : 1 ≤ size) (s1 : size ≤ 1000000000000000000) (hr : RuleOk r) (hc : CrewOk size hs) : (sheetS size r hs).length ≤ 6000 ∧ ((ringRow size r :: hs.map hostRow).map (·.length)).sum + (ringRow size r :: hs.map hostRow).length * ("\n" : Str).length ≤ 6000 := by
  have h1 := sum_le (f := fun s : Str => s.length) (b := 400) fun p hp => (sheet_rows s0 s1 hr hc p hp).2
  have h2 := txt_len "\n" (ringRow size r :: hs.map hostRow)
  have h3 : (ringRow size r :: hs.map hostRow).length ≤ 13 := by
    have := hc.few
    rw [List.length_cons, List.length_map]; omega
  unfold sheetS
  rw [nl_len] at h2 ⊢
  generalize (ringRow size r :: hs.map hostRow) = l at *
  have h4 : l.length * 400 ≤ 13 * 400 := Nat.mul_le_mul_right 400 h3
  omega
theorem kp_Ring_read (C : Addr) : Keeps N_Ring_read 2 (sd_Ring_read C) (db_Ring_read C) := by
  rintro ds M q ex hl ⟨size, r, hs, rfl, s0, s1, hr, hc, h⟩
  show db_Ring_read C _ [some (.cel C), some (.str (sheetS size r hs)), none, none, none, none, none, none, none, none, none] M
  unfold db_Ring_read
  have hw := rowOk_of s0 s1 hr
  have hlen := (sheet_len s0 s1 hr hc).1
  infer_instance
  refine ⟨_, rfl, by decide +kernel, by rw [sizeLine_eq]; omega, ?_⟩
  rw [sheet_split s0 s1 hr hc, List.map_cons]
  infer_instance
  refine ix_lst (atI_nat (n := 0) rfl) ?_
  infer_instance
  refine ⟨_, rfl, by decide +kernel, by rw [sizeLine_eq]; have := (ringRow_len hw hr).1; omega, ?_⟩
  rw [ringRow_split hw hr]
  infer_instance
  refine ne_strA ?_
  rw [decide_eq_true rfl]
  infer_instance
  intro c hcn
  refine lc_pure (fun _ => true) (fun d => match d with | .int 1 => .int size | .int 2 => .int r.wide | .int 4 => .int r.write | .int 5 => .int r.read | d => d) hcn (by rw [sizeLine_eq]; decide) (fun _ => rfl) (fun y hy acc hz nx hyes _ => ?_) ?_
  · simp only [List.mem_cons, List.not_mem_nil, or_false] at hy
    rcases hy with rfl | rfl | rfl | rfl
    · infer_instance
      refine ⟨_, rfl, by have := num_len hw.p.1 hw.p.2; omega, ?_⟩
      rw [num_wnI hw.p.1 hw.p.2]
      exact acc_put hz (hyes rfl)
    · infer_instance
      refine ⟨_, rfl, by have := num_len hw.w.1 hw.w.2; omega, ?_⟩
      rw [num_wnI hw.w.1 hw.w.2]
      exact acc_put hz (hyes rfl)
    · infer_instance
      refine ⟨_, rfl, by have := num_len hw.a.1 hw.a.2; omega, ?_⟩
      rw [num_wnI hw.a.1 hw.a.2]
      exact acc_put hz (hyes rfl)
    · infer_instance
      refine ⟨_, rfl, by have := num_len hw.b.1 hw.b.2; omega, ?_⟩
      rw [num_wnI hw.b.1 hw.b.2]
      exact acc_put hz (hyes rfl)
  · infer_instance
    refine slf_lst (n := 1) ?_
    infer_instance
    intro c2 hc2
    have hdrop : List.drop 1 (D.str (ringRow size r) :: List.map D.str (List.map hostRow hs)) = (hs.map hostRow).map D.str := rfl
    rw [hdrop]
    have hf := hc.few
    refine lc_lst (fun i M' => M' c2 = some (.ls ((hs.take i).map hostD)) ∧ Kept M M') ?_ ?_ _ ⟨mset_same, Kept.new hc2⟩
    · rintro M' ⟨hC, hK⟩
      rw [List.length_map, List.length_map, List.take_length] at hC
      refine ⟨rfl, _, hC, ?_⟩
      infer_instance
      refine ⟨_, _, rfl, rfl, ?_⟩
      infer_instance
      have hK2 := hK.del hc2
      generalize mdel M' c2 = M2 at *
      intro c3 hc3
      refine ⟨c3, size, r, hs, rfl, mset_same, s0, s1, hr, hc, rfl, fieldsD size r hs, ?_, ?_⟩
      · rw [mset_mset, mset_same]
      · rw [mset_mset]
        exact h _ (hK2.trans ((Kept.new hc3).del hc3))
    · rintro i x M' hx ⟨hC, hK⟩ nx hnx
      refine ⟨rfl, ?_⟩
      rw [List.map_map, List.getElem?_map] at hx
      obtain ⟨o, ho, rfl⟩ := omap hx
      have hi := (List.getElem?_eq_some_iff.mp ho).1
      infer_instance
      refine ⟨size, o, rfl, s1, crew_hostT hc (List.mem_of_getElem? ho), fun M3 hK3 => ?_⟩
      refine ⟨_, hK3 c2 _ hC, by rw [List.length_map, List.length_take, sizeLine_eq]; omega, hnx _ ⟨?_, (hK.trans hK3).put hc2⟩⟩
      rw [mset_same, List.take_succ, ho, List.map_append]
      rfl
theorem log_ok {i : Int} (h0 : 0 ≤ i) (h1 : i < 10 ^ 19) : i.natAbs.log2 < 1920 := by
  obtain ⟨n, rfl⟩ := Int.eq_ofNat_of_zero_le h0
  have h2 : n < 2 ^ 64 := by omega
  have : (n : Int).natAbs = n := by omega
  rw [this]
  by_cases hn : n = 0
  · subst hn; decide
  · have := (Nat.log2_lt hn).mpr h2
    omega
theorem strI_num {M : Mem} {q : QD} {i : Int} (h0 : 0 ≤ i) (h1 : i < 10 ^ 19) (w : q (.str (numS i)) M) : rdStrI [.int i] M q := ⟨log_ok h0 h1, w⟩
theorem kp_sheet (C : Addr) : Keeps N_sheet 1 (sd_sheet C) (db_sheet C) := by
  rintro ds M q ex hl ⟨size, r, hs, rfl, s0, s1, hr, hc, h⟩
  show db_sheet C _ [some (.lst (frameL size r hs)), none, none, none, none, none, none, none, none, none, none, none, none] M
  unfold db_sheet
  have hw := rowOk_of s0 s1 hr
  have hf := hc.few
  ac_rfl
  refine strI_num hw.p.1 hw.p.2 ?_
  ac_rfl
  refine strI_num hw.w.1 hw.w.2 ?_
  ac_rfl
  refine strI_num hw.a.1 hw.a.2 ?_
  ac_rfl
  refine strI_num hw.b.1 hw.b.2 ?_
  ac_rfl
  refine ⟨_, (["ring", numS size, numS r.wide, r.spread, numS r.write, numS r.read, r.pend] : List Str), rfl, rfl, by have := (ringRow_len hw hr).2; omega, ?_⟩
  ac_rfl
  intro c hcn
  ac_rfl
  refine for_lst (fun i env M' => ∃ (w9 w10 w11 w12 : Option D), env = [some (.lst (frameL size r hs)), some (.int size), some (.int r.wide), some (.str r.spread), some (.int r.write), some (.int r.read), some (.str r.pend), some (crewD hs), some (.cel c), w9, w10, w11, w12] ∧ M' c = some (.ls ((ringRow size r :: (hs.take i).map hostRow).map D.str)) ∧ Kept M M') ?_ ?_ _ _ ⟨_, _, _, _, rfl, mset_same, Kept.new hcn⟩
  · rintro env M' ⟨w9, w10, w11, w12, rfl, hC, hK⟩
    rw [List.length_map, List.take_length] at hC
    refine ⟨rfl, ?_⟩
    ac_rfl
    refine ⟨_, ringRow size r :: hs.map hostRow, celL_of hC, strs_map _, by have := (sheet_len s0 s1 hr hc).2; omega, ?_⟩
    exact h M' hK
  · rintro i x env M' hx ⟨w9, w10, w11, w12, rfl, hC, hK⟩ nx hnx
    refine ⟨rfl, ?_⟩
    rw [List.getElem?_map] at hx
    obtain ⟨o, ho, rfl⟩ := omap hx
    have hi := (List.getElem?_eq_some_iff.mp ho).1
    have hT := crew_hostT hc (List.mem_of_getElem? ho)
    ac_rfl
    refine ⟨c, _, rfl, hC, ?_⟩
    ac_rfl
    intro c2 hc2
    have hcc : c2 ≠ c := fun e => by rw [e, hC] at hc2; cases hc2
    have h16 := hT.marks.few
    refine lc_pure (fun _ => true) (fun d => match d with | .int i => .str (numS i) | d => d) hc2 (by rw [List.length_map, sizeLine_eq]; omega) (fun _ => rfl) (fun y hy acc hz nx2 hyes _ => ?_) ?_
    · obtain ⟨m, hm, rfl⟩ := List.mem_map.mp hy
      have hn := marks_num hT.marks s1 hm
      ac_rfl
      refine strI_num hn.1 hn.2 ?_
      exact acc_put hz (hyes rfl)
    · have e : (((o.marks.map D.int).filter fun _ => true).map fun d => match d with | .int i => .str (numS i) | d => d) = (o.marks.map numS).map D.str := by
        rw [List.filter_eq_self.mpr fun _ _ => rfl, List.map_map, List.map_map]
        rfl
      rw [e]
      refine add_lst rfl rfl (by rw [List.length_map, List.length_map, sizeLine_eq]; simp only [List.length_cons, List.length_nil]; omega) ?_
      refine ⟨_, (["host", o.name, o.rack] : List Str) ++ o.marks.map numS, rfl, (by have := DL.strs_map (((["host", o.name, o.rack] : List Str)) ++ o.marks.map numS); rw [List.map_append] at this; exact this), by have := (hostRow_len hT s1).2; omega, ?_⟩
      ac_rfl
      refine ⟨_, _, rfl, hC, by rw [List.length_map, List.length_cons, List.length_map, List.length_take, sizeLine_eq]; omega, hnx _ _ ⟨_, _, _, _, rfl, ?_, hK.put hcn⟩⟩
      rw [mset_same, List.take_succ, ho, List.map_append, ← List.cons_append, List.map_append]
      rfl
end R
set_option maxRecDepth 100000
set_option maxHeartbeats 1000000
namespace R
open PySem PySem.Spec PyProof.Rows L2 DL
local macro_rules | `(tactic| bv_omega) => `(tactic| first | assumption | exact mset_same)
local macro_rules | `(tactic| symm) => `(tactic| first
  | ((with_reducible show ∃ _, _ = _ ∧ _); refine ⟨_, rfl, ?_⟩)
  | ((with_reducible show _ = _ ∧ _); refine ⟨rfl, ?_⟩)
  | ((with_reducible show ∃ _ _, _ = _ ∧ _ = _ ∧ _); refine ⟨_, _, rfl, rfl, ?_⟩)
  | ((with_reducible show ∃ _ _, _ = _ ∧ _); refine ⟨_, _, rfl, ?_⟩)
  | ((with_reducible show ∃ _ _ _, _ = _ ∧ _); refine ⟨_, _, _, rfl, ?_⟩)
  | ((with_reducible show (_ ≤ _ ∧ _) ∧ _); refine ⟨by omega, ?_⟩)
  | with_reducible refine add_int ?_ | with_reducible refine sub_int ?_
  | with_reducible refine lt_int ?_ | with_reducible refine le_int ?_ | with_reducible refine gt_int ?_ | with_reducible refine ge_int ?_
  | with_reducible refine int_int ?_
  | with_reducible refine eq_int ?_ | with_reducible refine ne_int ?_
  | with_reducible refine len_tup ?_ | with_reducible refine len_lst ?_
  | ((with_reducible show rdIx (.cel _) (.int _) _ _); refine ix_cel (by bv_omega) (by rfl) ?_)
  | ((with_reducible show rdIx (.lst _) (.int _) _ _); refine ix_lst (by rfl) ?_)
  | ((with_reducible show rdIx (.tup _) (.int _) _ _); refine ix_tup (by rfl) ?_)
  | ((with_reducible show rdLen [.cel _] _ _); refine len_cel (by bv_omega) ?_)
  | ((with_reducible show rdMul (.int _) (.int _) _ _); first | refine mul_l (by decide) (by decide) ?_ | refine mul_r (by decide) (by decide) ?_ | refine mul_l (by omega) (by omega) ?_ | refine mul_r (by omega) (by omega) ?_)
  | ((with_reducible show rdDiv (.int _) (.int _) _ _); refine div_int (by first | decide | assumption | omega) (by first | decide | assumption | omega) ?_)
  | ((with_reducible show rdDivmod [.int _, .int _] _ _); refine dm_int (by first | decide | assumption | omega) (by first | decide | assumption | omega) ?_)
  | ((with_reducible show @ite _ (_ = true) _ _ _); first | refine ifYes (by first | with_reducible rfl | exact Bool.not_false | assumption) ?_ | refine ifNo (by first | with_reducible rfl | exact Bool.not_true | assumption) ?_)
  | ((with_reducible show ∃ _, _ ∧ _); refine ⟨_, celL_of (by bv_omega), ?_⟩)
  | ((with_reducible show ∃ _ _ _ _, _ ∧ _ ∧ _ ∧ _ ∧ _); refine ⟨_, _, _, _, rfl, rfl, by bv_omega, by rfl, ?_⟩)
  | ((with_reducible show (_ : Nat) ≤ sizeLine ∧ _); refine ⟨by rw [sizeLine_eq]; exact Nat.le_of_ble_eq_true rfl, ?_⟩))
local macro_rules | `(tactic| infer_instance) => `(tactic| ((repeat symm); try dsimp only))
local macro_rules | `(tactic| ac_rfl) => `(tactic| ((repeat (first | symm | ((with_reducible show rdMod (.int _) (.int _) _ _); refine mod_any (by first | decide | assumption | omega) ?_; intro _ _ _))); try dsimp only))
end R
set_option maxRecDepth 100000
set_option maxHeartbeats 1000000
namespace R
open PySem PySem.Spec PyProof.Rows L2 DL
local macro_rules | `(tactic| bv_omega) => `(tactic| first | assumption | exact mset_same)
local macro_rules | `(tactic| symm) => `(tactic| first
  | ((with_reducible show ∃ _, _ = _ ∧ _); refine ⟨_, rfl, ?_⟩)
  | ((with_reducible show _ = _ ∧ _); refine ⟨rfl, ?_⟩)
  | ((with_reducible show ∃ _ _, _ = _ ∧ _ = _ ∧ _); refine ⟨_, _, rfl, rfl, ?_⟩)
  | ((with_reducible show ∃ _ _, _ = _ ∧ _); refine ⟨_, _, rfl, ?_⟩)
  | ((with_reducible show ∃ _ _ _, _ = _ ∧ _); refine ⟨_, _, _, rfl, ?_⟩)
  | ((with_reducible show (_ ≤ _ ∧ _) ∧ _); refine ⟨by omega, ?_⟩)
  | with_reducible refine add_int ?_ | with_reducible refine sub_int ?_
  | with_reducible refine lt_int ?_ | with_reducible refine le_int ?_ | with_reducible refine gt_int ?_ | with_reducible refine ge_int ?_
  | with_reducible refine int_int ?_
  | with_reducible refine eq_int ?_ | with_reducible refine ne_int ?_
  | with_reducible refine len_tup ?_ | with_reducible refine len_lst ?_
  | ((with_reducible show rdIx (.cel _) (.int _) _ _); refine ix_cel (by bv_omega) (by rfl) ?_)
  | ((with_reducible show rdIx (.lst _) (.int _) _ _); refine ix_lst (by rfl) ?_)
  | ((with_reducible show rdIx (.tup _) (.int _) _ _); refine ix_tup (by rfl) ?_)
  | ((with_reducible show rdLen [.cel _] _ _); refine len_cel (by bv_omega) ?_)
  | ((with_reducible show rdMul (.int _) (.int _) _ _); first | refine mul_l (by decide) (by decide) ?_ | refine mul_r (by decide) (by decide) ?_ | refine mul_l (by omega) (by omega) ?_ | refine mul_r (by omega) (by omega) ?_)
  | ((with_reducible show rdDiv (.int _) (.int _) _ _); refine div_int (by first | decide | assumption | omega) (by first | decide | assumption | omega) ?_)
  | ((with_reducible show rdDivmod [.int _, .int _] _ _); refine dm_int (by first | decide | assumption | omega) (by first | decide | assumption | omega) ?_)
  | ((with_reducible show @ite _ (_ = true) _ _ _); first | refine ifYes (by first | with_reducible rfl | exact Bool.not_false | assumption) ?_ | refine ifNo (by first | with_reducible rfl | exact Bool.not_true | assumption) ?_)
  | ((with_reducible show ∃ _, _ ∧ _); refine ⟨_, celL_of (by bv_omega), ?_⟩)
  | ((with_reducible show ∃ _ _ _ _, _ ∧ _ ∧ _ ∧ _ ∧ _); refine ⟨_, _, _, _, rfl, rfl, by bv_omega, by rfl, ?_⟩)
  | ((with_reducible show (_ : Nat) ≤ sizeLine ∧ _); refine ⟨by rw [sizeLine_eq]; exact Nat.le_of_ble_eq_true rfl, ?_⟩))
local macro_rules | `(tactic| infer_instance) => `(tactic| ((repeat symm); try dsimp only))
local macro_rules | `(tactic| ac_rfl) => `(tactic| ((repeat (first | symm | ((with_reducible show rdMod (.int _) (.int _) _ _); refine mod_any (by first | decide | assumption | omega) ?_; intro _ _ _))); try dsimp only))
theorem kg_put {M : Mem} {k c : Addr} {g : Int} {x : Cel} (h : Kg M k g) (n : M c = none) : Kg (mset M c x) k g := by
  obtain ⟨a, b, d, h3, h⟩ := h
  exact ⟨a, b, d, by rw [mset_ne (fun e => by rw [e, n] at h3; cases h3)]; exact h3, h⟩
theorem kp_made (C : Addr) : Keeps N_made 2 (sd_made C) (db_made C) := by
  rintro ds M q ex hl ⟨k, g, size, r, hs, rfl, s0, s1, hr, hc, hK, hg, h⟩
  show db_made C _ [some (.cel k), some (.lst (frameL size r hs)), none, none, none, none, none, none, none, none] M
  unfold db_made
  infer_instance
  refine ⟨k, _, _, rfl, by decide, by decide, hK, by omega, fun v M1 v0 v1 hB1 hK1 => ?_⟩
  infer_instance
  have fin : ∀ M', Kept M1 M' → q (ringD C size r hs) M' := fun M' hK' => h M' (hB1.trans hK'.b) (kg_kept hK1 hK')
  refine ifD (fun h1 => ?_) (fun h1 => ?_)
  · infer_instance
    intro c hcn
    refine ⟨c, size, r, hs, rfl, mset_same, s0, s1, hr, hc, rfl, fieldsD size r hs, ?_, ?_⟩
    · rw [mset_mset, mset_same]
    · rw [mset_mset]
      exact fin _ ((Kept.new hcn).del hcn)
  · infer_instance
    refine ifD (fun h2 => ?_) (fun h2 => ?_)
    · infer_instance
      intro c hcn
      refine ⟨c, size, r, hs, rfl, mset_same, s0, s1, hr, hc, rfl, fieldsD size r hs, ?_, ?_⟩
      · rw [mset_mset, mset_same]
      · rw [mset_mset]
        exact fin _ ((Kept.new hcn).del hcn)
    · infer_instance
      refine ⟨size, r, hs, rfl, s0, s1, hr, hc, fun M2 hK2 => ?_⟩
      infer_instance
      exact ⟨size, r, hs, rfl, s0, s1, hr, hc, fun M3 hK3 => fin _ (hK2.trans hK3)⟩
theorem kp_width (C : Addr) : Keeps N_width 1 (sd_width C) (db_width C) := by
  rintro ds M q ex hl ⟨k, g, rfl, hK, hg, h⟩
  show db_width C _ [some (.cel k), none] M
  unfold db_width
  infer_instance
  refine ⟨k, _, _, rfl, by decide, by decide, hK, by omega, fun v M1 v0 v1 hB1 hK1 => ?_⟩
  infer_instance
  refine ifD (fun h1 => ?_) (fun h1 => ?_)
  · infer_instance
    refine ⟨k, _, _, rfl, by decide, by decide, hK1, by omega, fun v2 M2 v20 v21 hB2 hK2 => ?_⟩
    infer_instance
    exact h _ M2 (by omega) (by omega) (hB1.trans hB2) (kg_le hK2 (by omega))
  · infer_instance
    refine ifD (fun h2 => ?_) (fun h2 => ?_)
    · infer_instance
      refine pow_int (by refine ⟨?_, ?_, ?_⟩ <;> decide) ?_
      infer_instance
      refine pow_int (by refine ⟨?_, ?_, ?_⟩ <;> decide) ?_
      infer_instance
      have e : v = 2 ∨ v = 3 := by omega
      rcases e with rfl | rfl
      · refine ix_lst (by rfl) ?_
        exact h _ M1 (by decide) (by decide) hB1 (kg_le hK1 (by omega))
      · refine ix_lst (by rfl) ?_
        exact h _ M1 (by decide) (by decide) hB1 (kg_le hK1 (by omega))
    · infer_instance
      refine ifD (fun h3 => ?_) (fun h3 => ?_)
      · infer_instance
        refine pow_int (by refine ⟨?_, ?_, ?_⟩ <;> decide) ?_
        infer_instance
        refine ⟨k, _, _, rfl, by decide, by decide, hK1, by omega, fun v2 M2 v20 v21 hB2 hK2 => ?_⟩
        infer_instance
        have : v2 < 100000 := v21
        exact h _ M2 (by omega) (by omega) (hB1.trans hB2) (kg_le hK2 (by omega))
      · infer_instance
        refine pow_int (by refine ⟨?_, ?_, ?_⟩ <;> decide) ?_
        infer_instance
        refine ⟨k, _, _, rfl, by decide, hK1, by omega, fun v2 M2 v20 v21 hB2 hK2 => ?_⟩
        infer_instance
        have : v2 < 1000000000000000000 := v21
        exact h _ M2 (by omega) (by omega) (hB1.trans hB2) (kg_le hK2 (by omega))
end R
set_option maxRecDepth 100000
set_option maxHeartbeats 1000000
namespace R
open PySem PySem.Spec PyProof.Rows L2 DL
local macro_rules | `(tactic| bv_omega) => `(tactic| first | assumption | exact mset_same)
local macro_rules | `(tactic| symm) => `(tactic| first
  | ((with_reducible show ∃ _, _ = _ ∧ _); refine ⟨_, rfl, ?_⟩)
  | ((with_reducible show _ = _ ∧ _); refine ⟨rfl, ?_⟩)
  | ((with_reducible show ∃ _ _, _ = _ ∧ _ = _ ∧ _); refine ⟨_, _, rfl, rfl, ?_⟩)
  | ((with_reducible show ∃ _ _, _ = _ ∧ _); refine ⟨_, _, rfl, ?_⟩)
  | ((with_reducible show ∃ _ _ _, _ = _ ∧ _); refine ⟨_, _, _, rfl, ?_⟩)
  | ((with_reducible show (_ ≤ _ ∧ _) ∧ _); refine ⟨by omega, ?_⟩)
  | with_reducible refine add_int ?_ | with_reducible refine sub_int ?_
  | with_reducible refine lt_int ?_ | with_reducible refine le_int ?_ | with_reducible refine gt_int ?_ | with_reducible refine ge_int ?_
  | with_reducible refine int_int ?_
  | with_reducible refine eq_int ?_ | with_reducible refine ne_int ?_
  | with_reducible refine len_tup ?_ | with_reducible refine len_lst ?_
  | ((with_reducible show rdIx (.cel _) (.int _) _ _); refine ix_cel (by bv_omega) (by rfl) ?_)
  | ((with_reducible show rdIx (.lst _) (.int _) _ _); refine ix_lst (by rfl) ?_)
  | ((with_reducible show rdIx (.tup _) (.int _) _ _); refine ix_tup (by rfl) ?_)
  | ((with_reducible show rdLen [.cel _] _ _); refine len_cel (by bv_omega) ?_)
  | ((with_reducible show rdMul (.int _) (.int _) _ _); first | refine mul_l (by decide) (by decide) ?_ | refine mul_r (by decide) (by decide) ?_ | refine mul_l (by omega) (by omega) ?_ | refine mul_r (by omega) (by omega) ?_)
  | ((with_reducible show rdDiv (.int _) (.int _) _ _); refine div_int (by first | decide | assumption | omega) (by first | decide | assumption | omega) ?_)
  | ((with_reducible show rdDivmod [.int _, .int _] _ _); refine dm_int (by first | decide | assumption | omega) (by first | decide | assumption | omega) ?_)
  | ((with_reducible show @ite _ (_ = true) _ _ _); first | refine ifYes (by first | with_reducible rfl | exact Bool.not_false | assumption) ?_ | refine ifNo (by first | with_reducible rfl | exact Bool.not_true | assumption) ?_)
  | ((with_reducible show ∃ _, _ ∧ _); refine ⟨_, celL_of (by bv_omega), ?_⟩)
  | ((with_reducible show ∃ _ _ _ _, _ ∧ _ ∧ _ ∧ _ ∧ _); refine ⟨_, _, _, _, rfl, rfl, by bv_omega, by rfl, ?_⟩)
  | ((with_reducible show (_ : Nat) ≤ sizeLine ∧ _); refine ⟨by rw [sizeLine_eq]; exact Nat.le_of_ble_eq_true rfl, ?_⟩))
local macro_rules | `(tactic| infer_instance) => `(tactic| ((repeat symm); try dsimp only))
local macro_rules | `(tactic| ac_rfl) => `(tactic| ((repeat (first | symm | ((with_reducible show rdMod (.int _) (.int _) _ _); refine mod_any (by first | decide | assumption | omega) ?_; intro _ _ _))); try dsimp only))
end R
set_option maxRecDepth 100000
set_option maxHeartbeats 1000000
namespace R
open PySem PySem.Spec PyProof.Rows L2 DL
local macro_rules | `(tactic| bv_omega) => `(tactic| first | assumption | exact mset_same)
local macro_rules | `(tactic| symm) => `(tactic| first
  | ((with_reducible show ∃ _, _ = _ ∧ _); refine ⟨_, rfl, ?_⟩)
  | ((with_reducible show _ = _ ∧ _); refine ⟨rfl, ?_⟩)
  | ((with_reducible show ∃ _ _, _ = _ ∧ _ = _ ∧ _); refine ⟨_, _, rfl, rfl, ?_⟩)
  | ((with_reducible show ∃ _ _, _ = _ ∧ _); refine ⟨_, _, rfl, ?_⟩)
  | ((with_reducible show ∃ _ _ _, _ = _ ∧ _); refine ⟨_, _, _, rfl, ?_⟩)
  | ((with_reducible show (_ ≤ _ ∧ _) ∧ _); refine ⟨by omega, ?_⟩)
  | with_reducible refine add_int ?_ | with_reducible refine sub_int ?_
  | with_reducible refine lt_int ?_ | with_reducible refine le_int ?_ | with_reducible refine gt_int ?_ | with_reducible refine ge_int ?_
  | with_reducible refine int_int ?_
  | with_reducible refine eq_int ?_ | with_reducible refine ne_int ?_
  | with_reducible refine len_tup ?_ | with_reducible refine len_lst ?_
  | ((with_reducible show rdIx (.cel _) (.int _) _ _); refine ix_cel (by bv_omega) (by rfl) ?_)
  | ((with_reducible show rdIx (.lst _) (.int _) _ _); refine ix_lst (by rfl) ?_)
  | ((with_reducible show rdIx (.tup _) (.int _) _ _); refine ix_tup (by rfl) ?_)
  | ((with_reducible show rdLen [.cel _] _ _); refine len_cel (by bv_omega) ?_)
  | ((with_reducible show rdMul (.int _) (.int _) _ _); first | refine mul_l (by decide) (by decide) ?_ | refine mul_r (by decide) (by decide) ?_ | refine mul_l (by omega) (by omega) ?_ | refine mul_r (by omega) (by omega) ?_)
  | ((with_reducible show rdDiv (.int _) (.int _) _ _); refine div_int (by first | decide | assumption | omega) (by first | decide | assumption | omega) ?_)
  | ((with_reducible show rdDivmod [.int _, .int _] _ _); refine dm_int (by first | decide | assumption | omega) (by first | decide | assumption | omega) ?_)
  | ((with_reducible show @ite _ (_ = true) _ _ _); first | refine ifYes (by first | with_reducible rfl | exact Bool.not_false | assumption) ?_ | refine ifNo (by first | with_reducible rfl | exact Bool.not_true | assumption) ?_)
  | ((with_reducible show ∃ _, _ ∧ _); refine ⟨_, celL_of (by bv_omega), ?_⟩)
  | ((with_reducible show ∃ _ _ _ _, _ ∧ _ ∧ _ ∧ _ ∧ _); refine ⟨_, _, _, _, rfl, rfl, by bv_omega, by rfl, ?_⟩)
  | ((with_reducible show (_ : Nat) ≤ sizeLine ∧ _); refine ⟨by rw [sizeLine_eq]; exact Nat.le_of_ble_eq_true rfl, ?_⟩))
local macro_rules | `(tactic| infer_instance) => `(tactic| ((repeat symm); try dsimp only))
local macro_rules | `(tactic| ac_rfl) => `(tactic| ((repeat (first | symm | ((with_reducible show rdMod (.int _) (.int _) _ _); refine mod_any (by first | decide | assumption | omega) ?_; intro _ _ _))); try dsimp only))
end R
set_option maxRecDepth 100000
set_option maxHeartbeats 1000000
namespace R
open PySem PySem.Spec PyProof.Rows L2 DL
local macro_rules | `(tactic| bv_omega) => `(tactic| first | assumption | exact mset_same)
local macro_rules | `(tactic| symm) => `(tactic| first
  | ((with_reducible show ∃ _, _ = _ ∧ _); refine ⟨_, rfl, ?_⟩)
  | ((with_reducible show _ = _ ∧ _); refine ⟨rfl, ?_⟩)
  | ((with_reducible show ∃ _ _, _ = _ ∧ _ = _ ∧ _); refine ⟨_, _, rfl, rfl, ?_⟩)
  | ((with_reducible show ∃ _ _, _ = _ ∧ _); refine ⟨_, _, rfl, ?_⟩)
  | ((with_reducible show ∃ _ _ _, _ = _ ∧ _); refine ⟨_, _, _, rfl, ?_⟩)
  | ((with_reducible show (_ ≤ _ ∧ _) ∧ _); refine ⟨by omega, ?_⟩)
  | with_reducible refine add_int ?_ | with_reducible refine sub_int ?_
  | with_reducible refine lt_int ?_ | with_reducible refine le_int ?_ | with_reducible refine gt_int ?_ | with_reducible refine ge_int ?_
  | with_reducible refine int_int ?_
  | with_reducible refine eq_int ?_ | with_reducible refine ne_int ?_
  | with_reducible refine len_tup ?_ | with_reducible refine len_lst ?_
  | ((with_reducible show rdIx (.cel _) (.int _) _ _); refine ix_cel (by bv_omega) (by rfl) ?_)
  | ((with_reducible show rdIx (.lst _) (.int _) _ _); refine ix_lst (by rfl) ?_)
  | ((with_reducible show rdIx (.tup _) (.int _) _ _); refine ix_tup (by rfl) ?_)
  | ((with_reducible show rdLen [.cel _] _ _); refine len_cel (by bv_omega) ?_)
  | ((with_reducible show rdMul (.int _) (.int _) _ _); first | refine mul_l (by decide) (by decide) ?_ | refine mul_r (by decide) (by decide) ?_ | refine mul_l (by omega) (by omega) ?_ | refine mul_r (by omega) (by omega) ?_)
  | ((with_reducible show rdDiv (.int _) (.int _) _ _); refine div_int (by first | decide | assumption | omega) (by first | decide | assumption | omega) ?_)
  | ((with_reducible show rdDivmod [.int _, .int _] _ _); refine dm_int (by first | decide | assumption | omega) (by first | decide | assumption | omega) ?_)
  | ((with_reducible show @ite _ (_ = true) _ _ _); first | refine ifYes (by first | with_reducible rfl | exact Bool.not_false | assumption) ?_ | refine ifNo (by first | with_reducible rfl | exact Bool.not_true | assumption) ?_)
  | ((with_reducible show ∃ _, _ ∧ _); refine ⟨_, celL_of (by bv_omega), ?_⟩)
  | ((with_reducible show ∃ _ _ _ _, _ ∧ _ ∧ _ ∧ _ ∧ _); refine ⟨_, _, _, _, rfl, rfl, by bv_omega, by rfl, ?_⟩)
  | ((with_reducible show (_ : Nat) ≤ sizeLine ∧ _); refine ⟨by rw [sizeLine_eq]; exact Nat.le_of_ble_eq_true rfl, ?_⟩))
local macro_rules | `(tactic| infer_instance) => `(tactic| ((repeat symm); try dsimp only))
local macro_rules | `(tactic| ac_rfl) => `(tactic| ((repeat (first | symm | ((with_reducible show rdMod (.int _) (.int _) _ _); refine mod_any (by first | decide | assumption | omega) ?_; intro _ _ _))); try dsimp only))
end R
set_option maxRecDepth 100000
set_option maxHeartbeats 1000000
namespace R
open PySem PySem.Spec PyProof.Rows L2 DL
local macro_rules | `(tactic| bv_omega) => `(tactic| first | assumption | exact mset_same)
local macro_rules | `(tactic| symm) => `(tactic| first
  | ((with_reducible show ∃ _, _ = _ ∧ _); refine ⟨_, rfl, ?_⟩)
  | ((with_reducible show _ = _ ∧ _); refine ⟨rfl, ?_⟩)
  | ((with_reducible show ∃ _ _, _ = _ ∧ _ = _ ∧ _); refine ⟨_, _, rfl, rfl, ?_⟩)
  | ((with_reducible show ∃ _ _, _ = _ ∧ _); refine ⟨_, _, rfl, ?_⟩)
  | ((with_reducible show ∃ _ _ _, _ = _ ∧ _); refine ⟨_, _, _, rfl, ?_⟩)
  | ((with_reducible show (_ ≤ _ ∧ _) ∧ _); refine ⟨by omega, ?_⟩)
  | with_reducible refine add_int ?_ | with_reducible refine sub_int ?_
  | with_reducible refine lt_int ?_ | with_reducible refine le_int ?_ | with_reducible refine gt_int ?_ | with_reducible refine ge_int ?_
  | with_reducible refine int_int ?_
  | with_reducible refine eq_int ?_ | with_reducible refine ne_int ?_
  | with_reducible refine len_tup ?_ | with_reducible refine len_lst ?_
  | ((with_reducible show rdIx (.cel _) (.int _) _ _); refine ix_cel (by bv_omega) (by rfl) ?_)
  | ((with_reducible show rdIx (.lst _) (.int _) _ _); refine ix_lst (by rfl) ?_)
  | ((with_reducible show rdIx (.tup _) (.int _) _ _); refine ix_tup (by rfl) ?_)
  | ((with_reducible show rdLen [.cel _] _ _); refine len_cel (by bv_omega) ?_)
  | ((with_reducible show rdMul (.int _) (.int _) _ _); first | refine mul_l (by decide) (by decide) ?_ | refine mul_r (by decide) (by decide) ?_ | refine mul_l (by omega) (by omega) ?_ | refine mul_r (by omega) (by omega) ?_)
  | ((with_reducible show rdDiv (.int _) (.int _) _ _); refine div_int (by first | decide | assumption | omega) (by first | decide | assumption | omega) ?_)
  | ((with_reducible show rdDivmod [.int _, .int _] _ _); refine dm_int (by first | decide | assumption | omega) (by first | decide | assumption | omega) ?_)
  | ((with_reducible show @ite _ (_ = true) _ _ _); first | refine ifYes (by first | with_reducible rfl | exact Bool.not_false | assumption) ?_ | refine ifNo (by first | with_reducible rfl | exact Bool.not_true | assumption) ?_)
  | ((with_reducible show ∃ _, _ ∧ _); refine ⟨_, celL_of (by bv_omega), ?_⟩)
  | ((with_reducible show ∃ _ _ _ _, _ ∧ _ ∧ _ ∧ _ ∧ _); refine ⟨_, _, _, _, rfl, rfl, by bv_omega, by rfl, ?_⟩)
  | ((with_reducible show (_ : Nat) ≤ sizeLine ∧ _); refine ⟨by rw [sizeLine_eq]; exact Nat.le_of_ble_eq_true rfl, ?_⟩))
local macro_rules | `(tactic| infer_instance) => `(tactic| ((repeat symm); try dsimp only))
local macro_rules | `(tactic| ac_rfl) => `(tactic| ((repeat (first | symm | ((with_reducible show rdMod (.int _) (.int _) _ _); refine mod_any (by first | decide | assumption | omega) ?_; intro _ _ _))); try dsimp only))
theorem name_repr {x : Str} (h : nameB x = true) : (reprText x).length ≤ 82 := by
  have h8 := name_len h
  have := StrLaws.reprText_len x (fun c hc => by
    have := name_ok h
    unfold PyData.strOk at this
    rw [← Array.all_toList, List.all_eq_true] at this
    have := of_decide_eq_true (this c hc)
    omega)
  omega
end R
set_option maxRecDepth 100000
set_option maxHeartbeats 1000000
namespace R
open PySem PySem.Spec PyProof.Rows L2 DL
local macro_rules | `(tactic| bv_omega) => `(tactic| first | assumption | exact mset_same)
local macro_rules | `(tactic| symm) => `(tactic| first
  | ((with_reducible show ∃ _, _ = _ ∧ _); refine ⟨_, rfl, ?_⟩)
  | ((with_reducible show _ = _ ∧ _); refine ⟨rfl, ?_⟩)
  | ((with_reducible show ∃ _ _, _ = _ ∧ _ = _ ∧ _); refine ⟨_, _, rfl, rfl, ?_⟩)
  | ((with_reducible show ∃ _ _, _ = _ ∧ _); refine ⟨_, _, rfl, ?_⟩)
  | ((with_reducible show ∃ _ _ _, _ = _ ∧ _); refine ⟨_, _, _, rfl, ?_⟩)
  | ((with_reducible show (_ ≤ _ ∧ _) ∧ _); refine ⟨by omega, ?_⟩)
  | with_reducible refine add_int ?_ | with_reducible refine sub_int ?_
  | with_reducible refine lt_int ?_ | with_reducible refine le_int ?_ | with_reducible refine gt_int ?_ | with_reducible refine ge_int ?_
  | with_reducible refine int_int ?_
  | with_reducible refine eq_int ?_ | with_reducible refine ne_int ?_
  | with_reducible refine len_tup ?_ | with_reducible refine len_lst ?_
  | ((with_reducible show rdIx (.cel _) (.int _) _ _); refine ix_cel (by bv_omega) (by rfl) ?_)
  | ((with_reducible show rdIx (.lst _) (.int _) _ _); refine ix_lst (by rfl) ?_)
  | ((with_reducible show rdIx (.tup _) (.int _) _ _); refine ix_tup (by rfl) ?_)
  | ((with_reducible show rdLen [.cel _] _ _); refine len_cel (by bv_omega) ?_)
  | ((with_reducible show rdMul (.int _) (.int _) _ _); first | refine mul_l (by decide) (by decide) ?_ | refine mul_r (by decide) (by decide) ?_ | refine mul_l (by omega) (by omega) ?_ | refine mul_r (by omega) (by omega) ?_)
  | ((with_reducible show rdDiv (.int _) (.int _) _ _); refine div_int (by first | decide | assumption | omega) (by first | decide | assumption | omega) ?_)
  | ((with_reducible show rdDivmod [.int _, .int _] _ _); refine dm_int (by first | decide | assumption | omega) (by first | decide | assumption | omega) ?_)
  | ((with_reducible show @ite _ (_ = true) _ _ _); first | refine ifYes (by first | with_reducible rfl | exact Bool.not_false | assumption) ?_ | refine ifNo (by first | with_reducible rfl | exact Bool.not_true | assumption) ?_)
  | ((with_reducible show ∃ _, _ ∧ _); refine ⟨_, celL_of (by bv_omega), ?_⟩)
  | ((with_reducible show ∃ _ _ _ _, _ ∧ _ ∧ _ ∧ _ ∧ _); refine ⟨_, _, _, _, rfl, rfl, by bv_omega, by rfl, ?_⟩)
  | ((with_reducible show (_ : Nat) ≤ sizeLine ∧ _); refine ⟨by rw [sizeLine_eq]; exact Nat.le_of_ble_eq_true rfl, ?_⟩))
local macro_rules | `(tactic| infer_instance) => `(tactic| ((repeat symm); try dsimp only))
local macro_rules | `(tactic| ac_rfl) => `(tactic| ((repeat (first | symm | ((with_reducible show rdMod (.int _) (.int _) _ _); refine mod_any (by first | decide | assumption | omega) ?_; intro _ _ _))); try dsimp only))
end R
set_option maxRecDepth 100000
namespace R
open PySem PySem.Spec PyProof.Rows L2 DL
abbrev N_Ring___eq__ : List Str := ["self", "other"]
def db_Ring___eq__ (C : Addr) : DS :=
    (dRet (dAndV (dIsiC C (dVar 1)) (dAndV (dOp rdEq (dFld C "_points" (dVar 0)) (dFld C "_points" (dVar 1))) (dAndV (dOp rdEq (dFld C "_factor" (dVar 0)) (dFld C "_factor" (dVar 1))) (dAndV (dOp rdEq (dFld C "_spread" (dVar 0)) (dFld C "_spread" (dVar 1))) (dAndV (dOp rdEq (dFld C "_write" (dVar 0)) (dFld C "_write" (dVar 1))) (dAndV (dOp rdEq (dFld C "_read_number" (dVar 0)) (dFld C "_read_number" (dVar 1))) (dAndV (dOp rdEq (dFld C "_pending" (dVar 0)) (dFld C "_pending" (dVar 1))) (dOp rdEq (dFld C "_hosts" (dVar 0)) (dFld C "_hosts" (dVar 1)))))))))))
abbrev N_host_row : List Str := ["host", "name", "rack", "marks", "mark"]
def db_host_row (C : Addr) : DS :=
    (dSeq (dAsg (dVar 0) (gdTup 3 (gdCons (gdName 1) (gdCons (gdName 2) (gdCons (gdName 3) gdNil)))))
    (dRet (dM1 rdJoin (dC (.str " ")) (dOp rdAdd (dLst (dCons (dC (.str "host")) (dCons (dVar 1) (dCons (dVar 2) dNil)))) (dLc (dIter (dVar 3)) (gdName 4) dYes (dCB rdStrI (dCons (dVar 4) dNil)) [4])))))
abbrev N_Ring__first_row : List Str := ["self", "rules"]
def db_Ring__first_row (C : Addr) : DS :=
    (dSeq (dSet 1 (dJoined [(dFmt (dFld C "_factor" (dVar 0))), (dC (.str " ")), (dFmt (dFld C "_spread" (dVar 0))), (dC (.str " ")), (dFmt (dFld C "_write" (dVar 0))), (dC (.str " ")), (dFmt (dFld C "_read_number" (dVar 0))), (dC (.str " ")), (dFmt (dFld C "_pending" (dVar 0)))]))
    (dRet (dJoined [(dC (.str "ring ")), (dFmt (dFld C "_points" (dVar 0))), (dC (.str " ")), (dFmt (dVar 1))])))
abbrev N_Ring___str__ : List Str := ["self", "host"]
def db_Ring___str__ (C : Addr) : DS :=
    (dRet (dM1 rdJoin (dC (.str "\n")) (dOp rdAdd (dLst (dCons (dMeth0 C "_first_row" (sd_Ring__first_row C) (dVar 0)) dNil)) (dLc (dIter (dFld C "_hosts" (dVar 0))) (gdName 1) dYes (dCall 1 (sd_host_row C) (dCons (dVar 1) dNil)) [1]))))
end R
set_option maxRecDepth 100000
set_option maxHeartbeats 1000000
namespace R
open PySem PySem.Spec PyProof.Rows L2 DL
local macro_rules | `(tactic| bv_omega) => `(tactic| first | assumption | exact mset_same)
local macro_rules | `(tactic| symm) => `(tactic| first
  | ((with_reducible show ∃ _, _ = _ ∧ _); refine ⟨_, rfl, ?_⟩)
  | ((with_reducible show _ = _ ∧ _); refine ⟨rfl, ?_⟩)
  | ((with_reducible show ∃ _ _, _ = _ ∧ _ = _ ∧ _); refine ⟨_, _, rfl, rfl, ?_⟩)
  | ((with_reducible show ∃ _ _, _ = _ ∧ _); refine ⟨_, _, rfl, ?_⟩)
  | ((with_reducible show ∃ _ _ _, _ = _ ∧ _); refine ⟨_, _, _, rfl, ?_⟩)
  | ((with_reducible show (_ ≤ _ ∧ _) ∧ _); refine ⟨by omega, ?_⟩)
  | with_reducible refine add_int ?_ | with_reducible refine sub_int ?_
  | with_reducible refine lt_int ?_ | with_reducible refine le_int ?_ | with_reducible refine gt_int ?_ | with_reducible refine ge_int ?_
  | with_reducible refine int_int ?_
  | with_reducible refine eq_int ?_ | with_reducible refine ne_int ?_
  | with_reducible refine len_tup ?_ | with_reducible refine len_lst ?_
  | ((with_reducible show rdIx (.cel _) (.int _) _ _); refine ix_cel (by bv_omega) (by rfl) ?_)
  | ((with_reducible show rdIx (.lst _) (.int _) _ _); refine ix_lst (by rfl) ?_)
  | ((with_reducible show rdIx (.tup _) (.int _) _ _); refine ix_tup (by rfl) ?_)
  | ((with_reducible show rdLen [.cel _] _ _); refine len_cel (by bv_omega) ?_)
  | ((with_reducible show rdMul (.int _) (.int _) _ _); first | refine mul_l (by decide) (by decide) ?_ | refine mul_r (by decide) (by decide) ?_ | refine mul_l (by omega) (by omega) ?_ | refine mul_r (by omega) (by omega) ?_)
  | ((with_reducible show rdDiv (.int _) (.int _) _ _); refine div_int (by first | decide | assumption | omega) (by first | decide | assumption | omega) ?_)
  | ((with_reducible show rdDivmod [.int _, .int _] _ _); refine dm_int (by first | decide | assumption | omega) (by first | decide | assumption | omega) ?_)
  | ((with_reducible show @ite _ (_ = true) _ _ _); first | refine ifYes (by first | with_reducible rfl | exact Bool.not_false | assumption) ?_ | refine ifNo (by first | with_reducible rfl | exact Bool.not_true | assumption) ?_)
  | ((with_reducible show ∃ _, _ ∧ _); refine ⟨_, celL_of (by bv_omega), ?_⟩)
  | ((with_reducible show ∃ _ _ _ _, _ ∧ _ ∧ _ ∧ _ ∧ _); refine ⟨_, _, _, _, rfl, rfl, by bv_omega, by rfl, ?_⟩)
  | ((with_reducible show (_ : Nat) ≤ sizeLine ∧ _); refine ⟨by rw [sizeLine_eq]; exact Nat.le_of_ble_eq_true rfl, ?_⟩))
local macro_rules | `(tactic| infer_instance) => `(tactic| ((repeat symm); try dsimp only))
local macro_rules | `(tactic| ac_rfl) => `(tactic| ((repeat (first | symm | ((with_reducible show rdMod (.int _) (.int _) _ _); refine mod_any (by first | decide | assumption | omega) ?_; intro _ _ _))); try dsimp only))
def Apart (a b : Host) : Prop := a.name ≠ b.name ∧ ∀ m ∈ b.marks, m ∉ a.marks
theorem Apart.symm {a b : Host} (h : Apart a b) : Apart b a := ⟨Ne.symm h.1, fun m hm hb => h.2 m hb hm⟩
theorem crew_of {size : Int} {hs : List Host} (ne : hs ≠ []) (few : hs.length ≤ 12) (ht : ∀ h ∈ hs, HostT size h) (hp : hs.Pairwise Apart) : CrewOk size hs := by
  refine ⟨ne, few, fun i h hi => ?_⟩
  obtain ⟨hl, e⟩ := List.getElem?_eq_some_iff.mp hi
  have hT := ht h (List.mem_of_getElem? hi)
  have key : ∀ o ∈ hs.take i, Apart o h := fun o ho => by
    obtain ⟨j, hj, rfl⟩ := List.mem_iff_getElem.mp ho
    rw [List.length_take] at hj
    rw [List.getElem_take, ← e]
    exact List.pairwise_iff_getElem.mp hp j i (by omega) hl (by omega)
  exact ⟨hT.name, hT.rack, fun o ho => (key o ho).1, hT.marks, fun o ho m hm => (key o ho).2 m hm⟩
theorem crew_pw {size : Int} {hs : List Host} (hc : CrewOk size hs) : hs.Pairwise Apart := by
  rw [List.pairwise_iff_getElem]
  intro i j hi hj hij
  have h := hc.each j hs[j] (List.getElem?_eq_getElem hj)
  have hm : hs[i] ∈ hs.take j := by
    rw [List.mem_iff_getElem]
    exact ⟨i, by rw [List.length_take]; omega, by rw [List.getElem_take]⟩
  exact ⟨h.fresh _ hm, h.free _ hm⟩
theorem crew_perm {size : Int} {hs gs : List Host} (hc : CrewOk size hs) (hp : gs.Perm hs) : CrewOk size gs := by
  refine crew_of (fun e => hc.ne (by rw [e] at hp; exact List.nil_perm.mp hp)) (by rw [hp.length_eq]; exact hc.few) (fun o ho => crew_hostT hc (hp.mem_iff.mp ho)) ?_
  exact (hp.pairwise_iff (fun h => h.symm)).mpr (crew_pw hc)
theorem lk_write {size : Int} {r : Rule} {hs : List Host} : (fieldsD size r hs).lookup ("_write" : Str) = some (.int r.write) := by rfl
theorem lk_read {size : Int} {r : Rule} {hs : List Host} : (fieldsD size r hs).lookup ("_read_number" : Str) = some (.int r.read) := by rfl
theorem lk_pend {size : Int} {r : Rule} {hs : List Host} : (fieldsD size r hs).lookup ("_pending" : Str) = some (.str r.pend) := by rfl
theorem lk_first {size : Int} {r : Rule} {hs : List Host} : (fieldsD size r hs).lookup ("_first_row" : Str) = none := by rfl
theorem kp_host_row (C : Addr) : Keeps N_host_row 1 (sd_host_row C) (db_host_row C) := by
  rintro ds M q ex hl ⟨size, o, rfl, s1, hT, h⟩
  show db_host_row C _ [some (hostD o), none, none, none, none] M
  unfold db_host_row
  have h16 := hT.marks.few
  infer_instance
  intro c2 hc2
  refine lc_pure (fun _ => true) (fun d => match d with | .int i => .str (numS i) | d => d) hc2 (by rw [List.length_map, sizeLine_eq]; omega) (fun _ => rfl) (fun y hy acc hz nx2 hyes _ => ?_) ?_
  · obtain ⟨m, hm, rfl⟩ := List.mem_map.mp hy
    have hn := marks_num hT.marks s1 hm
    infer_instance
    refine strI_num hn.1 hn.2 ?_
    exact acc_put hz (hyes rfl)
  · have e : (((o.marks.map D.int).filter fun _ => true).map fun d => match d with | .int i => .str (numS i) | d => d) = (o.marks.map numS).map D.str := by
      rw [List.filter_eq_self.mpr fun _ _ => rfl, List.map_map, List.map_map]
      rfl
    rw [e]
    refine add_lst rfl rfl (by rw [List.length_map, List.length_map, sizeLine_eq]; simp only [List.length_cons, List.length_nil]; omega) ?_
    refine ⟨_, (["host", o.name, o.rack] : List Str) ++ o.marks.map numS, rfl, (by have := DL.strs_map (((["host", o.name, o.rack] : List Str)) ++ o.marks.map numS); rw [List.map_append] at this; exact this), by have := (hostRow_len hT s1).2; omega, ?_⟩
    exact h
theorem spread_len {s : Str} (h : s = "hosts" ∨ s = "racks") : s.length ≤ 19 := (spread_ok h).2.2
theorem cat_rules {w a b : Int} {s p : Str} : ((((((((Str.empty ++ numS w) ++ (" " : Str)) ++ s) ++ (" " : Str)) ++ numS a) ++ (" " : Str)) ++ numS b) ++ (" " : Str)) ++ p = Txt.join " " ([numS w, s, numS a, numS b, p] : List Str) := by
  refine str_ext ?_
  rw [tl_txt]
  simp only [str_app]
  show _ = TL.joinL (" " : Str).cps.toList [(numS w).cps.toList, s.cps.toList, (numS a).cps.toList, (numS b).cps.toList, p.cps.toList]
  simp only [TL.joinL]
  show [] ++ _ ++ _ ++ _ ++ _ ++ _ ++ _ ++ _ ++ _ ++ _ = _
  simp only [List.append_assoc, List.nil_append]
theorem cat_first {size : Int} {r : Rule} : (((Str.empty ++ ("ring " : Str)) ++ numS size) ++ (" " : Str)) ++ Txt.join " " ([numS r.wide, r.spread, numS r.write, numS r.read, r.pend] : List Str) = ringRow size r := by
  refine str_ext ?_
  unfold ringRow
  rw [tl_txt]
  simp only [str_app]
  rw [tl_txt]
  have e : ("ring " : Str).cps.toList = ("ring" : Str).cps.toList ++ (" " : Str).cps.toList := by decide +kernel
  rw [e]
  show [] ++ (("ring" : Str).cps.toList ++ (" " : Str).cps.toList) ++ (numS size).cps.toList ++ (" " : Str).cps.toList ++ TL.joinL (" " : Str).cps.toList [(numS r.wide).cps.toList, r.spread.cps.toList, (numS r.write).cps.toList, (numS r.read).cps.toList, r.pend.cps.toList]
    = TL.joinL (" " : Str).cps.toList [("ring" : Str).cps.toList, (numS size).cps.toList, (numS r.wide).cps.toList, r.spread.cps.toList, (numS r.write).cps.toList, (numS r.read).cps.toList, r.pend.cps.toList]
  simp only [TL.joinL]
  simp only [List.append_assoc, List.nil_append]
end R
set_option maxRecDepth 100000
set_option maxHeartbeats 1000000
namespace R
open PySem PySem.Spec PyProof.Rows L2 DL
local macro_rules | `(tactic| bv_omega) => `(tactic| first | assumption | exact mset_same)
local macro_rules | `(tactic| symm) => `(tactic| first
  | ((with_reducible show ∃ _, _ = _ ∧ _); refine ⟨_, rfl, ?_⟩)
  | ((with_reducible show _ = _ ∧ _); refine ⟨rfl, ?_⟩)
  | ((with_reducible show ∃ _ _, _ = _ ∧ _ = _ ∧ _); refine ⟨_, _, rfl, rfl, ?_⟩)
  | ((with_reducible show ∃ _ _, _ = _ ∧ _); refine ⟨_, _, rfl, ?_⟩)
  | ((with_reducible show ∃ _ _ _, _ = _ ∧ _); refine ⟨_, _, _, rfl, ?_⟩)
  | ((with_reducible show (_ ≤ _ ∧ _) ∧ _); refine ⟨by omega, ?_⟩)
  | with_reducible refine add_int ?_ | with_reducible refine sub_int ?_
  | with_reducible refine lt_int ?_ | with_reducible refine le_int ?_ | with_reducible refine gt_int ?_ | with_reducible refine ge_int ?_
  | with_reducible refine int_int ?_
  | with_reducible refine eq_int ?_ | with_reducible refine ne_int ?_
  | with_reducible refine len_tup ?_ | with_reducible refine len_lst ?_
  | ((with_reducible show rdIx (.cel _) (.int _) _ _); refine ix_cel (by bv_omega) (by rfl) ?_)
  | ((with_reducible show rdIx (.lst _) (.int _) _ _); refine ix_lst (by rfl) ?_)
  | ((with_reducible show rdIx (.tup _) (.int _) _ _); refine ix_tup (by rfl) ?_)
  | ((with_reducible show rdLen [.cel _] _ _); refine len_cel (by bv_omega) ?_)
  | ((with_reducible show rdMul (.int _) (.int _) _ _); first | refine mul_l (by decide) (by decide) ?_ | refine mul_r (by decide) (by decide) ?_ | refine mul_l (by omega) (by omega) ?_ | refine mul_r (by omega) (by omega) ?_)
  | ((with_reducible show rdDiv (.int _) (.int _) _ _); refine div_int (by first | decide | assumption | omega) (by first | decide | assumption | omega) ?_)
  | ((with_reducible show rdDivmod [.int _, .int _] _ _); refine dm_int (by first | decide | assumption | omega) (by first | decide | assumption | omega) ?_)
  | ((with_reducible show @ite _ (_ = true) _ _ _); first | refine ifYes (by first | with_reducible rfl | exact Bool.not_false | assumption) ?_ | refine ifNo (by first | with_reducible rfl | exact Bool.not_true | assumption) ?_)
  | ((with_reducible show ∃ _, _ ∧ _); refine ⟨_, celL_of (by bv_omega), ?_⟩)
  | ((with_reducible show ∃ _ _ _ _, _ ∧ _ ∧ _ ∧ _ ∧ _); refine ⟨_, _, _, _, rfl, rfl, by bv_omega, by rfl, ?_⟩)
  | ((with_reducible show (_ : Nat) ≤ sizeLine ∧ _); refine ⟨by rw [sizeLine_eq]; exact Nat.le_of_ble_eq_true rfl, ?_⟩))
local macro_rules | `(tactic| infer_instance) => `(tactic| ((repeat symm); try dsimp only))
local macro_rules | `(tactic| ac_rfl) => `(tactic| ((repeat (first | symm | ((with_reducible show rdMod (.int _) (.int _) _ _); refine mod_any (by first | decide | assumption | omega) ?_; intro _ _ _))); try dsimp only))
theorem cat_len (a b : Str) : (a ++ b).length = a.length + b.length := by
  rw [str_len, str_app, List.length_append, ← str_len, ← str_len]
section
variable {C : Addr} {M : Mem} {q : Str → Mem → Prop} {E : XD} {size : Int} {r : Rule} {hs : List Host} {env : EnvD} {ds : List DE} {acc : Str}
theorem js_nil (w : q acc M) : dJs [] acc env M q E := w
theorem js_lit {x : Str} (hz : (acc ++ x).length ≤ sizeLine) (w : dJs ds (acc ++ x) env M q E) : dJs (dC (.str x) :: ds) acc env M q E := ⟨x, rfl, hz, w⟩
theorem js_int {f : Str} {i : Int} (he : env[0]? = some (some (ringD C size r hs))) (e : (fieldsD size r hs).lookup f = some (.int i)) (h : 0 ≤ i ∧ i < 10 ^ 19) (hz : (acc ++ numS i).length ≤ sizeLine) (w : dJs ds (acc ++ numS i) env M q E) : dJs (dFmt (dFld C f (dVar 0)) :: ds) acc env M q E :=
  ⟨_, he, _, _, fs_ring, e, .inr ⟨i, rfl, log_ok h.1 h.2, numS i, rfl, hz, w⟩⟩
theorem js_str {f : Str} {s : Str} (he : env[0]? = some (some (ringD C size r hs))) (e : (fieldsD size r hs).lookup f = some (.str s)) (hl : s.length ≤ sizeLine) (hz : (acc ++ s).length ≤ sizeLine) (w : dJs ds (acc ++ s) env M q E) : dJs (dFmt (dFld C f (dVar 0)) :: ds) acc env M q E :=
  ⟨_, he, _, _, fs_ring, e, .inl ⟨s, rfl, hl, s, rfl, hz, w⟩⟩
theorem js_var {i : Nat} {s : Str} (he : env[i]? = some (some (.str s))) (hl : s.length ≤ sizeLine) (hz : (acc ++ s).length ≤ sizeLine) (w : dJs ds (acc ++ s) env M q E) : dJs (dFmt (dVar i) :: ds) acc env M q E :=
  ⟨_, he, .inl ⟨s, rfl, hl, s, rfl, hz, w⟩⟩
end
theorem rules_len {r : Rule} (hr : RuleOk r) {size : Int} (hw : RowOk size r) : (Txt.join " " ([numS r.wide, r.spread, numS r.write, numS r.read, r.pend] : List Str)).length ≤ 200 := by
  have h2 := txt_len " " ([numS r.wide, r.spread, numS r.write, numS r.read, r.pend] : List Str)
  have h1 := sum_le (f := fun s : Str => s.length) (b := 19) (l := [numS r.wide, r.spread, numS r.write, numS r.read, r.pend]) fun p hp => by
    simp only [List.mem_cons, List.not_mem_nil, or_false] at hp
    rcases hp with rfl | rfl | rfl | rfl | rfl
    · exact num_len hw.w.1 hw.w.2
    · exact spread_len hr.s
    · exact num_len hw.a.1 hw.a.2
    · exact num_len hw.b.1 hw.b.2
    · exact (pend_ok hr.m).2.2
  rw [sp_len] at h2
  have h3 : ([numS r.wide, r.spread, numS r.write, numS r.read, r.pend] : List Str).length = 5 := rfl
  rw [h3] at h1 h2
  generalize (([numS r.wide, r.spread, numS r.write, numS r.read, r.pend] : List Str).map (·.length)).sum = t at *
  omega
theorem kp_Ring__first_row (C : Addr) : Keeps N_Ring__first_row 1 (sd_Ring__first_row C) (db_Ring__first_row C) := by
  rintro ds M q ex hl ⟨size, r, hs, rfl, s0, s1, hr, h⟩
  show db_Ring__first_row C _ [some (ringD C size r hs), none] M
  unfold db_Ring__first_row
  have hw := rowOk_of s0 s1 hr
  have l1 := num_len hw.w.1 hw.w.2
  have l2 := spread_len hr.s
  have l3 := num_len hw.a.1 hw.a.2
  have l4 := num_len hw.b.1 hw.b.2
  have l5 := (pend_ok hr.m).2.2
  have l6 := num_len hw.p.1 hw.p.2
  have l7 := sp_len
  have l8 : Str.empty.length = 0 := rfl
  have l9 : ("ring " : Str).length = 5 := by decide +kernel
  have l10 := rules_len hr hw
  have hz := sizeLine_eq
  show dJoined _ _ _ _ _
  unfold dJoined
  refine js_int rfl lk_factor hw.w (by simp only [cat_len]; omega) ?_
  refine js_lit (by simp only [cat_len]; omega) ?_
  refine js_str rfl lk_spread (by omega) (by simp only [cat_len]; omega) ?_
  refine js_lit (by simp only [cat_len]; omega) ?_
  refine js_int rfl lk_write hw.a (by simp only [cat_len]; omega) ?_
  refine js_lit (by simp only [cat_len]; omega) ?_
  refine js_int rfl lk_read hw.b (by simp only [cat_len]; omega) ?_
  refine js_lit (by simp only [cat_len]; omega) ?_
  refine js_str rfl lk_pend (by omega) (by simp only [cat_len]; omega) ?_
  refine js_nil ?_
  rw [cat_rules]
  generalize hj : Txt.join " " ([numS r.wide, r.spread, numS r.write, numS r.read, r.pend] : List Str) = J at *
  show dJoined _ _ _ _ _
  unfold dJoined
  refine js_lit (by simp only [cat_len]; omega) ?_
  refine js_int rfl lk_points hw.p (by simp only [cat_len]; omega) ?_
  refine js_lit (by simp only [cat_len]; omega) ?_
  refine js_var rfl (by omega) (by simp only [cat_len]; omega) ?_
  refine js_nil ?_
  rw [← hj, cat_first]
  exact h
theorem kp_Ring___str__ (C : Addr) : Keeps N_Ring___str__ 1 (sd_Ring___str__ C) (db_Ring___str__ C) := by
  rintro ds M q ex hl ⟨size, r, hs, rfl, s0, s1, hr, hc, h⟩
  show db_Ring___str__ C _ [some (ringD C size r hs), none] M
  unfold db_Ring___str__
  have hf := hc.few
  infer_instance
  refine ⟨_, fs_ring, lk_first, size, r, hs, rfl, s0, s1, hr, ?_⟩
  infer_instance
  refine fld_ring lk_hosts ?_
  infer_instance
  intro c hcn
  refine lc_lst (fun i M' => M' = mset M c (.ls (((hs.take i).map hostRow).map D.str))) ?_ ?_ _ rfl
  · rintro M' rfl
    rw [List.length_map, List.take_length]
    refine ⟨rfl, _, mset_same, ?_⟩
    rw [mdel_mset hcn]
    refine add_lst rfl rfl (by rw [List.length_map, List.length_map, sizeLine_eq]; simp only [List.length_cons, List.length_nil]; omega) ?_
    refine ⟨_, ringRow size r :: hs.map hostRow, rfl, DL.strs_map (ringRow size r :: hs.map hostRow), by have := (sheet_len s0 s1 hr hc).2; omega, ?_⟩
    exact h M (Kept.refl M)
  · rintro i x M' hx rfl nx hnx
    refine ⟨rfl, ?_⟩
    rw [List.getElem?_map] at hx
    obtain ⟨o, ho, rfl⟩ := omap hx
    have hi := (List.getElem?_eq_some_iff.mp ho).1
    infer_instance
    refine ⟨size, o, rfl, s1, crew_hostT hc (List.mem_of_getElem? ho), ?_⟩
    refine ⟨_, mset_same, by rw [List.length_map, List.length_map, List.length_take, sizeLine_eq]; omega, hnx _ ?_⟩
    rw [mset_mset, List.take_succ, ho, List.map_append, List.map_append]
    rfl
theorem eqv_str {a b : Str} : PyData.eqv (.str a) (.str b) = decide (a = b) := by
  rw [PyData.eqv]
  by_cases h : a = b
  · subst h; simp
  · simp [h]
theorem eqv_int {a b : Int} : PyData.eqv (.int a) (.int b) = decide (a = b) := by
  rw [PyData.eqv]
  by_cases h : a = b
  · subst h; simp
  · simp [h]
end R
set_option maxRecDepth 100000
set_option maxHeartbeats 1000000
namespace R
open PySem PySem.Spec PyProof.Rows L2 DL
local macro_rules | `(tactic| bv_omega) => `(tactic| first | assumption | exact mset_same)
local macro_rules | `(tactic| symm) => `(tactic| first
  | ((with_reducible show ∃ _, _ = _ ∧ _); refine ⟨_, rfl, ?_⟩)
  | ((with_reducible show _ = _ ∧ _); refine ⟨rfl, ?_⟩)
  | ((with_reducible show ∃ _ _, _ = _ ∧ _ = _ ∧ _); refine ⟨_, _, rfl, rfl, ?_⟩)
  | ((with_reducible show ∃ _ _, _ = _ ∧ _); refine ⟨_, _, rfl, ?_⟩)
  | ((with_reducible show ∃ _ _ _, _ = _ ∧ _); refine ⟨_, _, _, rfl, ?_⟩)
  | ((with_reducible show (_ ≤ _ ∧ _) ∧ _); refine ⟨by omega, ?_⟩)
  | with_reducible refine add_int ?_ | with_reducible refine sub_int ?_
  | with_reducible refine lt_int ?_ | with_reducible refine le_int ?_ | with_reducible refine gt_int ?_ | with_reducible refine ge_int ?_
  | with_reducible refine int_int ?_
  | with_reducible refine eq_int ?_ | with_reducible refine ne_int ?_
  | with_reducible refine len_tup ?_ | with_reducible refine len_lst ?_
  | ((with_reducible show rdIx (.cel _) (.int _) _ _); refine ix_cel (by bv_omega) (by rfl) ?_)
  | ((with_reducible show rdIx (.lst _) (.int _) _ _); refine ix_lst (by rfl) ?_)
  | ((with_reducible show rdIx (.tup _) (.int _) _ _); refine ix_tup (by rfl) ?_)
  | ((with_reducible show rdLen [.cel _] _ _); refine len_cel (by bv_omega) ?_)
  | ((with_reducible show rdMul (.int _) (.int _) _ _); first | refine mul_l (by decide) (by decide) ?_ | refine mul_r (by decide) (by decide) ?_ | refine mul_l (by omega) (by omega) ?_ | refine mul_r (by omega) (by omega) ?_)
  | ((with_reducible show rdDiv (.int _) (.int _) _ _); refine div_int (by first | decide | assumption | omega) (by first | decide | assumption | omega) ?_)
  | ((with_reducible show rdDivmod [.int _, .int _] _ _); refine dm_int (by first | decide | assumption | omega) (by first | decide | assumption | omega) ?_)
  | ((with_reducible show @ite _ (_ = true) _ _ _); first | refine ifYes (by first | with_reducible rfl | exact Bool.not_false | assumption) ?_ | refine ifNo (by first | with_reducible rfl | exact Bool.not_true | assumption) ?_)
  | ((with_reducible show ∃ _, _ ∧ _); refine ⟨_, celL_of (by bv_omega), ?_⟩)
  | ((with_reducible show ∃ _ _ _ _, _ ∧ _ ∧ _ ∧ _ ∧ _); refine ⟨_, _, _, _, rfl, rfl, by bv_omega, by rfl, ?_⟩)
  | ((with_reducible show (_ : Nat) ≤ sizeLine ∧ _); refine ⟨by rw [sizeLine_eq]; exact Nat.le_of_ble_eq_true rfl, ?_⟩))
local macro_rules | `(tactic| infer_instance) => `(tactic| ((repeat symm); try dsimp only))
local macro_rules | `(tactic| ac_rfl) => `(tactic| ((repeat (first | symm | ((with_reducible show rdMod (.int _) (.int _) _ _); refine mod_any (by first | decide | assumption | omega) ?_; intro _ _ _))); try dsimp only))
def hostPy (h : Host) : PyData := .tuple [.str h.name, .str h.rack, .tuple (h.marks.map PyData.int)]
def crewPy (hs : List Host) : PyData := .tuple (hs.map hostPy)
theorem toPy_host (h : Host) : toPy (hostD h) = some (hostPy h) := by
  have e : toPy (intsT h.marks) = some (.tuple (h.marks.map PyData.int)) := by
    show (toPys (h.marks.map D.int)).map PyData.tuple = _
    rw [toPys_int]; rfl
  show (toPys [.str h.name, .str h.rack, intsT h.marks]).map PyData.tuple = _
  have e2 : toPys [.str h.name, .str h.rack, intsT h.marks] = some [.str h.name, .str h.rack, .tuple (h.marks.map PyData.int)] := by
    simp only [toPys, e]
    rfl
  rw [e2]; rfl
theorem toPys_hosts : ∀ hs : List Host, toPys (hs.map hostD) = some (hs.map hostPy)
  | [] => rfl
  | h :: hs => by
    rw [List.map_cons, List.map_cons]
    simp only [toPys, toPy_host, toPys_hosts hs]
theorem py_crew (M : Mem) (hs : List Host) : pyOf M (crewD hs) = some (crewPy hs) := by
  show (toPys (hs.map hostD)).map PyData.tuple = _
  rw [toPys_hosts]; rfl
theorem lay_ints : ∀ ms : List Int, PyData.canLayAll0 (ms.map PyData.int) = true ∧ PyData.depthAll (ms.map PyData.int) = 0
  | [] => ⟨rfl, rfl⟩
  | m :: ms => by
    obtain ⟨h1, h2⟩ := lay_ints ms
    rw [List.map_cons]
    exact ⟨by simp [PyData.canLayAll0, PyData.canLay0, h1], by simp [PyData.depthAll, PyData.depth, h2]⟩
theorem lay_host {h : Host} (h1 : nameB h.name = true) (h2 : nameB h.rack = true) : PyData.canLay0 (hostPy h) = true ∧ PyData.depth (hostPy h) ≤ 2 := by
  obtain ⟨a, b⟩ := lay_ints h.marks
  unfold hostPy
  exact ⟨by simp [PyData.canLay0, PyData.canLayAll0, name_ok h1, name_ok h2, a], by simp [PyData.depth, PyData.depthAll, b]⟩
theorem lay_crew : ∀ {hs : List Host}, (∀ h ∈ hs, nameB h.name = true ∧ nameB h.rack = true) → PyData.canLayAll0 (hs.map hostPy) = true ∧ PyData.depthAll (hs.map hostPy) ≤ 2
  | [], _ => ⟨rfl, by simp [PyData.depthAll]⟩
  | h :: hs, hh => by
    obtain ⟨h1, h2⟩ := lay_crew fun o ho => hh o (List.mem_cons_of_mem _ ho)
    obtain ⟨h3, h4⟩ := lay_host (hh h (by simp)).1 (hh h (by simp)).2
    rw [List.map_cons]
    exact ⟨by simp [PyData.canLayAll0, h1, h3], by simp only [PyData.depthAll]; omega⟩
theorem sh_crew {size : Int} {hs : List Host} (hc : CrewOk size hs) : SeqAt.shaped (crewPy hs) = true := by
  obtain ⟨h1, h2⟩ := lay_crew (hs := hs) fun o ho => ⟨(crew_hostT hc ho).name, (crew_hostT hc ho).rack⟩
  unfold SeqAt.shaped crewPy
  rw [Bool.and_eq_true]
  exact ⟨by simp [PyData.canLay0, h1], decide_eq_true (by simp only [PyData.depth]; omega)⟩
theorem eqv_ints : ∀ xs ys : List Int, PyData.eqvAll (xs.map PyData.int) (ys.map PyData.int) = decide (xs = ys)
  | [], [] => by simp [PyData.eqvAll]
  | [], y :: ys => by simp [PyData.eqvAll]
  | x :: xs, [] => by simp [PyData.eqvAll]
  | x :: xs, y :: ys => by
    rw [List.map_cons, List.map_cons, PyData.eqvAll, eqv_ints xs ys, eqv_int]
    by_cases h : x = y
    · subst h; simp
    · simp [h]
theorem eqv_host (h g : Host) : PyData.eqv (hostPy h) (hostPy g) = decide (h = g) := by
  obtain ⟨a, b, c⟩ := h
  obtain ⟨a', b', c'⟩ := g
  unfold hostPy
  rw [PyData.eqv]
  simp only [PyData.eqvAll, eqv_str, eqv_ints, PyData.eqv]
  by_cases h1 : a = a' <;> by_cases h2 : b = b' <;> by_cases h3 : c = c' <;> simp [h1, h2, h3]
theorem eqv_hosts : ∀ xs ys : List Host, PyData.eqvAll (xs.map hostPy) (ys.map hostPy) = decide (xs = ys)
  | [], [] => by simp [PyData.eqvAll]
  | [], y :: ys => by simp [PyData.eqvAll]
  | x :: xs, [] => by simp [PyData.eqvAll]
  | x :: xs, y :: ys => by
    rw [List.map_cons, List.map_cons, PyData.eqvAll, eqv_hosts xs ys, eqv_host]
    by_cases h : x = y
    · subst h; simp
    · simp [h]
theorem eqv_crew (hs gs : List Host) : PyData.eqv (crewPy hs) (crewPy gs) = decide (hs = gs) := by
  unfold crewPy
  rw [PyData.eqv]
  exact eqv_hosts hs gs
theorem eq_crew {M : Mem} {q : QD} {size size' : Int} {hs gs : List Host} (h1 : CrewOk size hs) (h2 : CrewOk size' gs) (w : q (.bl (decide (hs = gs))) M) : rdEq (crewD hs) (crewD gs) M q :=
  .inl ⟨_, _, py_crew M hs, py_crew M gs, sh_crew h1, sh_crew h2, by rw [eqv_crew]; exact w⟩
theorem kp_Ring___eq__ (C : Addr) : Keeps N_Ring___eq__ 2 (sd_Ring___eq__ C) (db_Ring___eq__ C) := by
  rintro ds M q ex hl ⟨size, r, hs, size', r', hs', rfl, hr, hr', hc, hc', h⟩
  show db_Ring___eq__ C _ [some (ringD C size r hs), some (ringD C size' r' hs')] M
  unfold db_Ring___eq__
  have no : ¬ (size = size' ∧ r = r' ∧ hs = hs') → q (.bl false) M := fun z => by rw [decide_eq_false z] at h; exact h
  obtain ⟨a, b, c, d, e⟩ := r
  obtain ⟨a', b', c', d', e'⟩ := r'
  refine ⟨_, rfl, .inl ⟨⟨_, fs_ring⟩, true, rfl, ?_⟩⟩
  rw [if_pos rfl]
  infer_instance
  refine fld_ring lk_points ?_
  infer_instance
  refine fld_ring lk_points ?_
  infer_instance
  refine ifD (fun e1 => ?_) (fun e1 => no fun z => e1 z.1)
  infer_instance
  refine fld_ring lk_factor ?_
  infer_instance
  refine fld_ring lk_factor ?_
  infer_instance
  refine ifD (fun e2 => ?_) (fun e2 => no fun z => e2 (by have := z.2.1; injection this))
  infer_instance
  refine fld_ring lk_spread ?_
  infer_instance
  refine fld_ring lk_spread ?_
  infer_instance
  refine eq_strA ?_
  infer_instance
  refine ifD (fun e3 => ?_) (fun e3 => no fun z => e3 (by have := z.2.1; injection this))
  infer_instance
  refine fld_ring lk_write ?_
  infer_instance
  refine fld_ring lk_write ?_
  infer_instance
  refine ifD (fun e4 => ?_) (fun e4 => no fun z => e4 (by have := z.2.1; injection this))
  infer_instance
  refine fld_ring lk_read ?_
  infer_instance
  refine fld_ring lk_read ?_
  infer_instance
  refine ifD (fun e5 => ?_) (fun e5 => no fun z => e5 (by have := z.2.1; injection this))
  infer_instance
  refine fld_ring lk_pend ?_
  infer_instance
  refine fld_ring lk_pend ?_
  infer_instance
  refine eq_strA ?_
  infer_instance
  refine ifD (fun e6 => ?_) (fun e6 => no fun z => e6 (by have := z.2.1; injection this))
  infer_instance
  refine fld_ring lk_hosts ?_
  infer_instance
  refine fld_ring lk_hosts ?_
  refine eq_crew hc hc' ?_
  have e7 : decide (hs = hs') = decide (size = size' ∧ (⟨a, b, c, d, e⟩ : Rule) = ⟨a', b', c', d', e'⟩ ∧ hs = hs') := by
    have h2 : a = a' := e2
    have h3 : b = b' := e3
    have h4 : c = c' := e4
    have h5 : d = d' := e5
    have h6 : e = e' := e6
    subst e1 h2 h3 h4 h5 h6
    simp
  rw [e7]
  exact h
end R
set_option maxRecDepth 100000
set_option maxHeartbeats 1000000
namespace R
open PySem PySem.Spec PyProof.Rows L2 DL
local macro_rules | `(tactic| bv_omega) => `(tactic| first | assumption | exact mset_same)
local macro_rules | `(tactic| symm) => `(tactic| first
  | ((with_reducible show ∃ _, _ = _ ∧ _); refine ⟨_, rfl, ?_⟩)
  | ((with_reducible show _ = _ ∧ _); refine ⟨rfl, ?_⟩)
  | ((with_reducible show ∃ _ _, _ = _ ∧ _ = _ ∧ _); refine ⟨_, _, rfl, rfl, ?_⟩)
  | ((with_reducible show ∃ _ _, _ = _ ∧ _); refine ⟨_, _, rfl, ?_⟩)
  | ((with_reducible show ∃ _ _ _, _ = _ ∧ _); refine ⟨_, _, _, rfl, ?_⟩)
  | ((with_reducible show (_ ≤ _ ∧ _) ∧ _); refine ⟨by omega, ?_⟩)
  | with_reducible refine add_int ?_ | with_reducible refine sub_int ?_
  | with_reducible refine lt_int ?_ | with_reducible refine le_int ?_ | with_reducible refine gt_int ?_ | with_reducible refine ge_int ?_
  | with_reducible refine int_int ?_
  | with_reducible refine eq_int ?_ | with_reducible refine ne_int ?_
  | with_reducible refine len_tup ?_ | with_reducible refine len_lst ?_
  | ((with_reducible show rdIx (.cel _) (.int _) _ _); refine ix_cel (by bv_omega) (by rfl) ?_)
  | ((with_reducible show rdIx (.lst _) (.int _) _ _); refine ix_lst (by rfl) ?_)
  | ((with_reducible show rdIx (.tup _) (.int _) _ _); refine ix_tup (by rfl) ?_)
  | ((with_reducible show rdLen [.cel _] _ _); refine len_cel (by bv_omega) ?_)
  | ((with_reducible show rdMul (.int _) (.int _) _ _); first | refine mul_l (by decide) (by decide) ?_ | refine mul_r (by decide) (by decide) ?_ | refine mul_l (by omega) (by omega) ?_ | refine mul_r (by omega) (by omega) ?_)
  | ((with_reducible show rdDiv (.int _) (.int _) _ _); refine div_int (by first | decide | assumption | omega) (by first | decide | assumption | omega) ?_)
  | ((with_reducible show rdDivmod [.int _, .int _] _ _); refine dm_int (by first | decide | assumption | omega) (by first | decide | assumption | omega) ?_)
  | ((with_reducible show @ite _ (_ = true) _ _ _); first | refine ifYes (by first | with_reducible rfl | exact Bool.not_false | assumption) ?_ | refine ifNo (by first | with_reducible rfl | exact Bool.not_true | assumption) ?_)
  | ((with_reducible show ∃ _, _ ∧ _); refine ⟨_, celL_of (by bv_omega), ?_⟩)
  | ((with_reducible show ∃ _ _ _ _, _ ∧ _ ∧ _ ∧ _ ∧ _); refine ⟨_, _, _, _, rfl, rfl, by bv_omega, by rfl, ?_⟩)
  | ((with_reducible show (_ : Nat) ≤ sizeLine ∧ _); refine ⟨by rw [sizeLine_eq]; exact Nat.le_of_ble_eq_true rfl, ?_⟩))
local macro_rules | `(tactic| infer_instance) => `(tactic| ((repeat symm); try dsimp only))
local macro_rules | `(tactic| ac_rfl) => `(tactic| ((repeat (first | symm | ((with_reducible show rdMod (.int _) (.int _) _ _); refine mod_any (by first | decide | assumption | omega) ?_; intro _ _ _))); try dsimp only))
theorem piledN {n : Nat} : ∀ {xs : List Str}, (∀ x ∈ xs, x.length ≤ n) → piled xs ≤ (n + 2) * xs.length
  | [], _ => by simp [piled]
  | x :: xs, h => by
    rw [piled_cons, List.length_cons, Nat.mul_add]
    have := h x List.mem_cons_self
    have := piledN fun y hy => h y (List.mem_cons_of_mem _ hy)
    omega
theorem tup_le (ts : List Str) : (tupleText ts).length ≤ 3 + piled ts := by
  unfold tupleText
  rw [strLen_append, strLen_append]
  have hj : (Str.join ", " ts).length ≤ piled ts := by
    cases ts with
    | nil => decide +kernel
    | cons x r =>
      have := join_length_add (x :: r) (by simp)
      omega
  have h4 : ("(" : Str).length = 1 := rfl
  have h5 : ((if ts.length == 1 then ",)" else ")" : String) : Str).length ≤ 2 := by
    split <;> decide +kernel
  omega
theorem shownAll_len : ∀ xs : List PyData, (PyData.shownAll xs).length = xs.length
  | [] => by simp [PyData.shownAll]
  | x :: xs => by rw [PyData.shownAll, List.length_cons, List.length_cons, shownAll_len xs]
theorem lst_le (ts : List Str) : (("[" : Str) ++ Str.join ", " ts ++ "]").length ≤ 3 + piled ts := by
  rw [strLen_append, strLen_append]
  have hj : (Str.join ", " ts).length ≤ piled ts := by
    cases ts with
    | nil => decide +kernel
    | cons x r =>
      have := join_length_add (x :: r) (by simp)
      omega
  have h4 : ("[" : Str).length = 1 := rfl
  have h5 : ("]" : Str).length = 1 := rfl
  omega
end R
set_option maxRecDepth 100000
set_option maxHeartbeats 1000000
namespace R
open PySem PySem.Spec PyProof.Rows L2 DL
local macro_rules | `(tactic| bv_omega) => `(tactic| first | assumption | exact mset_same)
local macro_rules | `(tactic| symm) => `(tactic| first
  | ((with_reducible show ∃ _, _ = _ ∧ _); refine ⟨_, rfl, ?_⟩)
  | ((with_reducible show _ = _ ∧ _); refine ⟨rfl, ?_⟩)
  | ((with_reducible show ∃ _ _, _ = _ ∧ _ = _ ∧ _); refine ⟨_, _, rfl, rfl, ?_⟩)
  | ((with_reducible show ∃ _ _, _ = _ ∧ _); refine ⟨_, _, rfl, ?_⟩)
  | ((with_reducible show ∃ _ _ _, _ = _ ∧ _); refine ⟨_, _, _, rfl, ?_⟩)
  | ((with_reducible show (_ ≤ _ ∧ _) ∧ _); refine ⟨by omega, ?_⟩)
  | with_reducible refine add_int ?_ | with_reducible refine sub_int ?_
  | with_reducible refine lt_int ?_ | with_reducible refine le_int ?_ | with_reducible refine gt_int ?_ | with_reducible refine ge_int ?_
  | with_reducible refine int_int ?_
  | with_reducible refine eq_int ?_ | with_reducible refine ne_int ?_
  | with_reducible refine len_tup ?_ | with_reducible refine len_lst ?_
  | ((with_reducible show rdIx (.cel _) (.int _) _ _); refine ix_cel (by bv_omega) (by rfl) ?_)
  | ((with_reducible show rdIx (.lst _) (.int _) _ _); refine ix_lst (by rfl) ?_)
  | ((with_reducible show rdIx (.tup _) (.int _) _ _); refine ix_tup (by rfl) ?_)
  | ((with_reducible show rdLen [.cel _] _ _); refine len_cel (by bv_omega) ?_)
  | ((with_reducible show rdMul (.int _) (.int _) _ _); first | refine mul_l (by decide) (by decide) ?_ | refine mul_r (by decide) (by decide) ?_ | refine mul_l (by omega) (by omega) ?_ | refine mul_r (by omega) (by omega) ?_)
  | ((with_reducible show rdDiv (.int _) (.int _) _ _); refine div_int (by first | decide | assumption | omega) (by first | decide | assumption | omega) ?_)
  | ((with_reducible show rdDivmod [.int _, .int _] _ _); refine dm_int (by first | decide | assumption | omega) (by first | decide | assumption | omega) ?_)
  | ((with_reducible show @ite _ (_ = true) _ _ _); first | refine ifYes (by first | with_reducible rfl | exact Bool.not_false | assumption) ?_ | refine ifNo (by first | with_reducible rfl | exact Bool.not_true | assumption) ?_)
  | ((with_reducible show ∃ _, _ ∧ _); refine ⟨_, celL_of (by bv_omega), ?_⟩)
  | ((with_reducible show ∃ _ _ _ _, _ ∧ _ ∧ _ ∧ _ ∧ _); refine ⟨_, _, _, _, rfl, rfl, by bv_omega, by rfl, ?_⟩)
  | ((with_reducible show (_ : Nat) ≤ sizeLine ∧ _); refine ⟨by rw [sizeLine_eq]; exact Nat.le_of_ble_eq_true rfl, ?_⟩))
local macro_rules | `(tactic| infer_instance) => `(tactic| ((repeat symm); try dsimp only))
local macro_rules | `(tactic| ac_rfl) => `(tactic| ((repeat (first | symm | ((with_reducible show rdMod (.int _) (.int _) _ _); refine mod_any (by first | decide | assumption | omega) ?_; intro _ _ _))); try dsimp only))
theorem nodup_asc {ns : List Int} (h : ns.Pairwise (· ≤ ·)) (hn : ns.Nodup) : ns.Pairwise (· < ·) := by
  refine (List.pairwise_and_iff.mpr ⟨h, hn⟩).imp fun {a b} hab => ?_
  have h1 := hab.1
  have h2 : a ≠ b := hab.2
  omega
structure Part (size : Int) (tags bays : List Str) (hs : List Host) (ts : List Int) : Prop where
  each : ∀ (i : Nat) h, hs[i]? = some h → NextOk size (hs.take i) h
  name : hs.map (·.name) = tags.take hs.length
  has : ∀ o ∈ hs, ∀ m ∈ o.marks, m ∈ ts
  few : ts.length ≤ 16 * hs.length
theorem kp_band (C : Addr) : Keeps N_band 4 (sd_band C) (db_band C) := by
  rintro ds M q ex hl ⟨k, size, g, most, each, rfl, s0, m1, m2, e1, e2, hK, hg, h⟩
  show db_band C _ [some (.cel k), some (.int size), some (.int most), some (.int each), none, none, none, none, none, none, none, none, none, none] M
  unfold db_band
  ac_rfl
  refine ⟨k, _, _, rfl, by omega, by omega, hK, by omega, fun v M1 v0 v1 hB1 hK1 => ?_⟩
  ac_rfl
  refine min_int fun many hm1 hm2 hm3 => ?_
  ac_rfl
  intro ct hct
  ac_rfl
  intro cf hcf
  have hctk := kg_ne hK1 hct
  have hcf1 : M1 cf = none := by
    by_cases e : cf = ct
    · rw [e, mset_same] at hcf; cases hcf
    · rw [mset_ne e] at hcf; exact hcf
  have hcft : cf ≠ ct := fun e => by rw [e, mset_same] at hcf; cases hcf
  have hcfk := kg_ne hK1 hcf1
  obtain ⟨n, rfl⟩ := Int.eq_ofNat_of_zero_le (show 0 ≤ many by omega)
  have hn1 : 1 ≤ n := by omega
  have hn2 : n ≤ most := by omega
  ac_rfl
  have hK2 : Kg (mset (mset M1 ct (.ls [])) cf (.ls [])) k (g + 1) := by
    obtain ⟨a, b, d, h3, h4⟩ := hK1
    exact ⟨a, b, d, by rw [mset_ne (Ne.symm hcfk), mset_ne (Ne.symm hctk)]; exact h3, h4⟩
  refine ⟨k, n, _, rfl, by omega, hK2, by omega, fun tags M3 tl tnd tok hB3 hK3 => ?_⟩
  ac_rfl
  refine ⟨k, n, _, rfl, by omega, hK3, by omega, fun bays M4 bl bok hB4 hK4 => ?_⟩
  ac_rfl
  have hcf4 : M4 cf = some (.ls []) := hB4 cf _ (hB3 cf _ mset_same hcfk) hcfk
  have hct4 : M4 ct = some (.ls []) := hB4 ct _ (hB3 ct _ (by rw [mset_ne (Ne.symm hcft), mset_same]) hctk) hctk
  have hBM4 : KeptB k M M4 := by
    intro c x e ne
    have x1 := hB1 c x e ne
    have n1 : c ≠ ct := fun z => by rw [z, hct] at x1; cases x1
    have n2 : c ≠ cf := fun z => by rw [z, hcf1] at x1; cases x1
    exact hB4 c x (hB3 c x (by rw [mset_ne n2, mset_ne n1]; exact x1) ne) ne
  have hctM : M ct = none := by
    cases e : M ct with
    | none => rfl
    | some x => have := hB1 ct x e hctk; rw [hct] at this; cases this
  have hcfM : M cf = none := by
    cases e : M cf with
    | none => rfl
    | some x => have := hB1 cf x e hcfk; rw [hcf1] at this; cases this
  refine for_rng (n := ((n : Nat) : Int).toNat) (fun i env M' => ∃ (hs : List Host) (ts : List Int) (w9 w10 w11 w12 w13 : Option D), env = [some (.cel k), some (.int size), some (.int most), some (.int each), some (.int n), some (.cel ct), some (.cel cf), some (strsL tags), some (strsL bays), w9, w10, w11, w12, w13] ∧
      M' ct = some (.ls (ts.map D.int)) ∧ M' cf = some (.ls (hs.map hostD)) ∧ hs.length = i ∧ Part size tags bays hs ts ∧ (∀ o ∈ hs, o.marks.length ≤ each) ∧ (ts.length : Int) + (n - i) ≤ size ∧ (∀ m ∈ ts, 0 ≤ m ∧ m < size) ∧ KeptB k M M' ∧ Kg M' k (g + 901 + 400 * i)) ?_ ?_ _ _
    ⟨[], [], none, none, none, none, none, rfl, hct4, hcf4, rfl, ⟨fun i h e => by simp at e, rfl, fun o ho => by simp at ho, Nat.zero_le _⟩, fun o ho => by simp at ho, by simp; omega, fun m hm => by simp at hm, hBM4, kg_le hK4 (by omega)⟩
  · rintro env M' ⟨hs, ts, w9, w10, w11, w12, w13, rfl, hT, hF, hi, hP, hE, hz, hin, hB, hK'⟩
    refine ⟨trivial, ?_⟩
    ac_rfl
    refine ⟨.cel cf, _, rfl, celL_of hF, ?_⟩
    refine h hs M' ⟨fun e => by rw [e] at hi; simp at hi; omega, by omega, hP.each⟩ ⟨by omega, hE⟩ hB (kg_le hK' (by omega))
  · rintro i env M' hi ⟨hs, ts, w9, w10, w11, w12, w13, rfl, hT, hF, hlen, hP, hE, hz, hin, hB, hK'⟩ nx hnx
    refine ⟨trivial, ?_⟩
    ac_rfl
    intro cs hcs
    have hcst : cs ≠ ct := fun e => by rw [e, hT] at hcs; cases hcs
    have hcsf : cs ≠ cf := fun e => by rw [e, hF] at hcs; cases hcs
    have hcsk := kg_ne hK' hcs
    have hcsM : M cs = none := by
      cases e : M cs with
      | none => rfl
      | some x => have := hB cs x e hcsk; rw [hcs] at this; cases this
    have hT1 : (mset M' cs (.ls [])) ct = some (.ls (ts.map D.int)) := by rw [mset_ne (Ne.symm hcst)]; exact hT
    have hF1 : (mset M' cs (.ls [])) cf = some (.ls (hs.map hostD)) := by rw [mset_ne (Ne.symm hcsf)]; exact hF
    have hKc : Kg (mset M' cs (.ls [])) k (g + 901 + 400 * i) := by
      obtain ⟨a, b, d, h3, h4⟩ := hK'
      exact ⟨a, b, d, by rw [mset_ne (Ne.symm hcsk)]; exact h3, h4⟩
    infer_instance
    rw [List.length_map]
    refine ⟨k, _, _, rfl, by omega, by omega, hKc, by omega, fun v2 M5 v20 v21 hB5 hK5 => ?_⟩
    infer_instance
    refine min_int fun mj hj1 hj2 hj3 => ?_
    infer_instance
    obtain ⟨mn, rfl⟩ := Int.eq_ofNat_of_zero_le (show 0 ≤ mj by omega)
    have hroom : (mn : Int) ≤ size - ts.length - (n - 1 - i) := by omega
    have hmn1 : 1 ≤ mn := by omega
    have hmn2 : mn ≤ 16 := by omega
    refine for_rng (n := ((mn : Nat) : Int).toNat) (fun j env M6 => ∃ (ss : List Int) (w12 w13 : Option D), env = [some (.cel k), some (.int size), some (.int most), some (.int each), some (.int n), some (.cel ct), some (.cel cf), some (strsL tags), some (strsL bays), some (.int (0 + (i : Nat))), some (.cel cs), some (.int (size - ts.length - (n - 1 - (0 + (i : Nat))))), w12, w13] ∧
        M6 ct = some (.ls ((ts ++ ss).map D.int)) ∧ M6 cf = some (.ls (hs.map hostD)) ∧ M6 cs = some (.ls (ss.map D.int)) ∧ ss.length = j ∧ ss.Nodup ∧ (∀ m ∈ ss, 0 ≤ m ∧ m < size ∧ m ∉ ts) ∧ KeptB k M M6 ∧ Kg M6 k (g + 901 + 400 * i + 1 + 20 * j)) ?_ ?_ _ _
      ⟨[], _, _, rfl, by rw [List.append_nil]; exact hB5 ct _ hT1 hctk, hB5 cf _ hF1 hcfk, hB5 cs _ mset_same hcsk, rfl, .nil, fun m hm => by simp at hm, (hB.put hcsM).trans hB5, kg_le hK5 (by omega)⟩
    · rintro env M6 ⟨ss, w12, w13, rfl, hT6, hF6, hS6, hsl, hsn, hsi, hB6, hK6⟩
      refine ⟨trivial, ?_⟩
      have hin' : i < n := by omega
      obtain ⟨tg, htg⟩ : ∃ x, tags[i]? = some x := ⟨_, List.getElem?_eq_getElem (by omega)⟩
      obtain ⟨by_, hby⟩ : ∃ x, bays[i]? = some x := ⟨_, List.getElem?_eq_getElem (by omega)⟩
      have e0 : (0 : Int) + (i : Nat) = (i : Nat) := by omega
      infer_instance
      refine ⟨cf, _, rfl, hF6, ?_⟩
      infer_instance
      refine ix_lst (d := .str tg) (by rw [e0]; exact DL.atI_nat (by rw [List.getElem?_map, htg]; rfl)) ?_
      infer_instance
      refine ix_lst (d := .str by_) (by rw [e0]; exact DL.atI_nat (by rw [List.getElem?_map, hby]; rfl)) ?_
      infer_instance
      refine ⟨_, _, ss, rfl, celL_of hS6, ints_map ss, fun ns' hp hs' => ?_⟩
      infer_instance
      have hlh : hs.length < 12 := by omega
      refine ⟨_, _, rfl, rfl, ?_⟩
      infer_instance
      refine ⟨_, _, rfl, hF6, by rw [List.length_map, sizeLine_eq]; omega, ?_⟩
      have hnl : ns'.length = ss.length := hp.length_eq
      have hjl : ss.length = mn := by omega
      refine hnx _ _ ⟨hs ++ [⟨tg, by_, ns'⟩], ts ++ ss, _, _, _, _, _, rfl, by rw [mset_ne (Ne.symm hcft)]; exact hT6, by rw [mset_same, List.map_append]; rfl, by rw [List.length_append, hlen]; rfl, ⟨fun j o ho => ?_, ?_, fun o ho m hm => ?_, ?_⟩, fun o ho => ?_, ?_, fun m hm => ?_, hB6.put hcfM, ?_⟩
      · by_cases hji : j < hs.length
        · rw [List.getElem?_append_left hji] at ho
          rw [List.take_append_of_le_length (by omega)]
          exact hP.each j o ho
        · rw [List.getElem?_append_right (by omega)] at ho
          have hj0 : j - hs.length = 0 := by
            cases hh : j - hs.length with
            | zero => rfl
            | succ n => rw [hh] at ho; simp at ho
          rw [hj0] at ho
          have ho' : (⟨tg, by_, ns'⟩ : Host) = o := by simpa using ho
          subst ho'
          have ej : j = hs.length := by omega
          subst ej
          rw [List.take_append_of_le_length (Nat.le_refl _), List.take_length]
          refine ⟨tok tg (List.mem_of_getElem? htg), bok by_ (List.mem_of_getElem? hby), fun o ho e => ?_, ⟨by show 1 ≤ ns'.length; omega, by show ns'.length ≤ 16; omega, nodup_asc hs' (hp.nodup_iff.mpr hsn), fun m hm => ?_⟩, fun o ho m hm hm2 => ?_⟩
          · have hmem : o.name ∈ tags.take hs.length := by rw [← hP.name]; exact List.mem_map.mpr ⟨o, ho, rfl⟩
            obtain ⟨a, ha⟩ := List.getElem?_of_mem hmem
            have hal : a < hs.length := by
              have := (List.getElem?_eq_some_iff.mp ha).1
              rw [List.length_take] at this; omega
            rw [List.getElem?_take, if_pos hal] at ha
            obtain ⟨p1, q1⟩ := List.getElem?_eq_some_iff.mp ha
            obtain ⟨p2, q2⟩ := List.getElem?_eq_some_iff.mp htg
            have := List.pairwise_iff_getElem.mp tnd a i p1 p2 (by omega)
            rw [q1, q2] at this
            exact this e
          · have := hsi m (hp.mem_iff.mp hm)
            exact ⟨this.1, this.2.1⟩
          · exact (hsi m (hp.mem_iff.mp hm)).2.2 (hP.has o ho m hm2)
      · rw [List.map_append, hP.name, List.length_append, List.length_singleton]
        rw [hlen, List.take_succ, htg]
        rfl
      · rcases List.mem_append.mp ho with ho | ho
        · exact List.mem_append.mpr (.inl (hP.has o ho m hm))
        · rw [List.mem_singleton.mp ho] at hm
          exact List.mem_append.mpr (.inr (hp.mem_iff.mp hm))
      · have := hP.few
        rw [List.length_append, List.length_append, List.length_singleton]; omega
      · rcases List.mem_append.mp ho with ho | ho
        · exact hE o ho
        · rw [List.mem_singleton.mp ho]
          show ns'.length ≤ each
          omega
      · rw [List.length_append]; omega
      · rcases List.mem_append.mp hm with hm | hm
        · exact hin m hm
        · have := hsi m hm
          exact ⟨this.1, this.2.1⟩
      · obtain ⟨a, b, d, h3, h4, h5, h6, h7⟩ := hK6
        exact ⟨a, b, d, by rw [mset_ne (Ne.symm hcfk)]; exact h3, h4, h5, h6, by omega⟩
    · rintro j env M6 hj ⟨ss, w12, w13, rfl, hT6, hF6, hS6, hsl, hsn, hsi, hB6, hK6⟩ nx2 hnx2
      refine ⟨trivial, ?_⟩
      have hPf := hP.few
      infer_instance
      refine ⟨k, size, _, .cel ct, ts ++ ss, rfl, (fun z => hctk (D.cel.inj z)), celL_of hT6, by rw [List.length_append]; omega, s0, hK6, by omega, fun v3 M7 v30 v31 hB7 hK7 => ?_⟩
      infer_instance
      have hT7 := hB7 ct _ hT6 hctk
      have hF7 := hB7 cf _ hF6 hcfk
      have hS7 := hB7 cs _ hS6 hcsk
      refine ⟨size, v3, .cel ct, ts ++ ss, rfl, celL_of hT7, by rw [List.length_append]; omega, by rw [List.length_append]; omega, fun v4 v40 v41 hni => ?_⟩
      infer_instance
      refine ⟨cs, _, rfl, hS7, ?_⟩
      infer_instance
      refine ⟨_, _, rfl, hS7, by rw [List.length_map, sizeLine_eq]; omega, ?_⟩
      infer_instance
      refine ⟨ct, _, rfl, by rw [mset_ne (Ne.symm hcst)]; exact hT7, ?_⟩
      infer_instance
      refine ⟨_, _, rfl, by rw [mset_ne (Ne.symm hcst)]; exact hT7, by rw [List.length_map, List.length_append, sizeLine_eq]; omega, ?_⟩
      have hni1 : v4 ∉ ts := fun z => hni (List.mem_append.mpr (.inl z))
      have hni2 : v4 ∉ ss := fun z => hni (List.mem_append.mpr (.inr z))
      refine hnx2 _ _ ⟨ss ++ [v4], _, _, rfl, ?_, ?_, ?_, by rw [List.length_append, hsl]; rfl, ?_, fun m hm => ?_, ?_, ?_⟩
      · rw [mset_same, ← List.append_assoc, List.map_append (l₂ := [v4])]; rfl
      · rw [mset_ne hcft, mset_ne (Ne.symm hcsf)]; exact hF7
      · rw [mset_ne hcst, mset_same, List.map_append]; rfl
      · rw [List.nodup_append]
        refine ⟨hsn, by simp, fun a ha b hb => ?_⟩
        rw [List.mem_singleton.mp hb]
        rintro rfl
        exact hni2 ha
      · rcases List.mem_append.mp hm with hm | hm
        · exact hsi m hm
        · rw [List.mem_singleton.mp hm]; exact ⟨v40, v41, hni1⟩
      · exact ((hB6.trans hB7).put hcsM).put hctM
      · obtain ⟨a, b, d, h3, h4, h5, h6, h7⟩ := hK7
        exact ⟨a, b, d, by rw [mset_ne (Ne.symm hctk), mset_ne (Ne.symm hcsk)]; exact h3, h4, h5, h6, by omega⟩
end R
set_option maxRecDepth 100000
set_option maxHeartbeats 4000000
namespace DL
open PySem PySem.Spec PyProof.Rows L2 PySem.Calls
section
variable {X : Cx} {W : WX}
/-- o != p, own __eq__, no own __ne__ -/
def rdNeO (C : Addr) (sd : SpD) : RD2 := fun x y M q => ∃ fs gs, fsOf M C x = some fs ∧ fsOf M C y = some gs ∧ sd [x, y] M (fun v M1 => ∃ b, v = .bl b ∧ q (.bl (!b)) M1) noX
end
end DL
set_option maxRecDepth 100000
set_option maxHeartbeats 4000000
namespace HT
open PySem PySem.Spec PyProof.Rows
section
variable {prog : Program} {w : World} {A : Around} {E : Value → Shared → Prop} {s : Shared}
theorem adjust_rev (n : Nat) : Builtin.Slice.sliceAdjust none none (-1) (n : Int) = ((n : Int) - 1, -1) := by
  unfold Builtin.Slice.sliceAdjust
  first | rfl | simp
theorem places_rev (n : Nat) : Builtin.Slice.slicePlaces ((n : Int) - 1) (-1) (-1) = n := by
  unfold Builtin.Slice.slicePlaces
  have h1 : ¬ ((-1 : Int) > 0) := by omega
  simp only [h1, if_false]
  split <;> (try simp) <;> omega
theorem fm_congr {α β : Type} {f g : α → Option β} : ∀ {l : List α}, (∀ k ∈ l, f k = g k) → l.filterMap f = l.filterMap g
  | [], _ => rfl
  | k :: l, h => by
    rw [List.filterMap_cons, List.filterMap_cons, h k List.mem_cons_self, fm_congr fun y hy => h y (List.mem_cons_of_mem _ hy)]
theorem pick_rev (xs : Array Value) : ((List.range xs.size).filterMap fun (m : Nat) => xs[((xs.size : Int) - 1 + (m : Int) * -1).toNat]?).toArray = xs.toList.reverse.toArray := by
  have e : (List.range xs.size).filterMap (fun (m : Nat) => xs[((xs.size : Int) - 1 + (m : Int) * -1).toNat]?) = (((List.range xs.size).map fun k => xs.size - 1 - k).filterMap (xs[·]?)) := by
    rw [List.filterMap_map]
    refine fm_congr fun k hk => ?_
    have hk' := List.mem_range.mp hk
    have : ((xs.size : Int) - 1 + (k : Int) * -1).toNat = xs.size - 1 - k := by omega
    rw [this]
    rfl
  rw [e, PySem.W.krv_range, List.filterMap_reverse, PySem.W.krv_all]
theorem sliceApplied_rev {sl : Addr} {vs : Value} {n : Nat} {Q : Int × Int × Nat → Shared → Prop} (hs : s.heap.IsSliceOf sl .none .none vs) (ps : IsPart vs (some (-1)))
    (h : Q ((n : Int) - 1, -1, n) s) : wpAny (model prog w) A (Builtin.Slice.sliceApplied (.ref sl) (pure (n : Int))) Q E s := by
  obtain ⟨os, hos, hcs, hds⟩ := id hs
  unfold Builtin.Slice.sliceApplied Builtin.Slice.sliceFields
  refine wpAny_bind (wpAny_bind (wpAny_field hos hds (x := .none) rfl (wpAny_bind (wpAny_field hos hds (x := .none) rfl (wpAny_bind (wpAny_field hos hds (x := vs) rfl (wpAny_pure ?_)))))))
  refine wpAny_bind (slicePart_ ps ?_)
  show wpAny _ _ (if ((-1 : Int) == 0) = true then _ else _) _ _ s
  rw [if_neg (by decide)]
  refine wpAny_bind (slicePart_ .none (wpAny_bind (slicePart_ .none (wpAny_bind (wpAny_pure ?_)))))
  show wpAny _ _ (match Builtin.Slice.sliceAdjust none none (-1) (n : Int) with | (lo, hi) => pure (lo, (-1 : Int), Builtin.Slice.slicePlaces lo hi (-1))) _ _ s
  rw [adjust_rev n]
  show wpAny _ _ (pure ((n : Int) - 1, (-1 : Int), Builtin.Slice.slicePlaces ((n : Int) - 1) (-1) (-1))) _ _ s
  rw [places_rev]
  exact wpAny_pure h
theorem getItem_tuple_rev {t sl : Addr} {items : Array Value} {vs : Value} {Q : Value → Shared → Prop} (ht : IsTup s.heap t items) (hs : s.heap.IsSliceOf sl .none .none vs) (ps : IsPart vs (some (-1)))
    (h : Q (.ref s.heap.objs.size) { s with heap := s.heap.push { cls := .type "tuple", data := .seq items.toList.reverse.toArray } })
    (hsz : items.size ≤ sizeLine) : wpAny (model prog w) A (getItem (.ref t) (.ref sl)) Q E s := by
  have htake : sizeOk (.seq items.toList.reverse.toArray) := by
    show items.toList.reverse.toArray.size ≤ sizeLine
    rw [List.size_toArray, List.length_reverse, Array.length_toList]
    omega
  obtain ⟨os, hos, hcs, hds⟩ := id hs
  have hTs : s.TypeIs (.ref sl) "slice" := ⟨os, hos, hcs⟩
  unfold getItem
  try with_reducible refine wpAny_holding ?_
  first | refine wpAny_bind (wpAny_pure ?_) | skip
  refine wpAny_bind (wpAny_sequenceKey ht.typeIs (by decide) ?_)
  refine wpAny_bind (wpAny_callSpecial?_slot (name := Str.ofString "__getitem__") ht.typeIs PyProof.Rows.slot_tuple_getitem
    (wpAny_call_entry PyProof.Rows.slot_tuple_getitem ht.typeIs entry_tuple_getitem ?_ (args_tuple_getitem _ _)))
  show wpAny _ _ (Builtin.Tuple.tupleItemsOf (.ref t) >>= _) _ _ s
  refine wpAny_bind (tupleItemsOf_ ht ?_)
  refine wpAny_bind (wpAny_typeOf hTs ?_)
  rw [if_pos (by decide)]
  refine wpAny_bind (sliceApplied_rev hs ps ?_)
  have hno : ¬ ((((items.size : Int) - 1) == 0 && (-1 : Int) == 1 && items.size == items.size) = true) := by
    intro q
    rw [Bool.and_eq_true, Bool.and_eq_true] at q
    exact absurd q.1.2 (by decide)
  show wpAny _ _ (if (((items.size : Int) - 1) == 0 && (-1 : Int) == 1 && items.size == items.size) = true then _ else _) _ _ s
  rw [if_neg hno, pick_rev]
  first
    | exact wpAny_bind (m := Builtin.Tuple.tupleExact _) (wpAny_newObj_type (wpAny_pure ⟨_, rfl, wpAny_pure h⟩) htake)
    | exact wpAny_bind (m := Builtin.Tuple.tupleExact _) (wpAny_newObj_type (wpAny_bind (wpAny_pure (wpAny_pure ⟨_, rfl, wpAny_pure h⟩))) htake)
    | exact wpAny_bind (wpAny_bind (m := Builtin.Tuple.tupleExact _) (wpAny_newObj_type (wpAny_pure (wpAny_pure ⟨_, rfl, wpAny_pure h⟩)) htake))
    | exact wpAny_bind (wpAny_bind (m := Builtin.Tuple.tupleExact _) (wpAny_newObj_type (wpAny_pure ⟨_, rfl, wpAny_pure h⟩) htake))
end
end HT
namespace DL
open PySem PySem.Spec PyProof.Rows L2 PySem.Calls
section
variable {X : Cx} {W : WX}
def tRevT (K : PySem.W.Frag) (te : TE) : TE := fun σ H Q => te σ H fun x H1 => ∃ a xs, x = .ref a ∧ SqT K H1 a xs ∧ ∀ p, H1 p = none → Q (.ref p) (upd H1 p (.tup xs.reverse))
theorem pe_revT {e : Expr} {te : TE} {k : Nat} {p1 p2 p3 pos : Pos} (he : PE X e te) : PE X (.Subscript e (.Slice none none (some (.UnaryOp .USub (.Constant (.int 1) k p1) p2)) p3) pos) (tRevT X.K te) := by
  refine ⟨fun pins s σ H Q I h => ?_⟩
  refine Subscript_ (thn (he.run pins s σ H _ I h) fun v s1 ⟨x, H1, I1, r1, q1⟩ => ?_)
  obtain ⟨a, xs, ex, hx, q⟩ := q1
  subst ex
  cases r1
  have hst : PO X (some (.UnaryOp .USub (.Constant (.int 1) k p1) p2)) (tPart (tUn (rU fun i => .int (-i)) (tC (.int 1)))) := po_some (pe_un un_neg pe_int)
  refine wpAny_Slice (thn (po_none.run pins s1 σ H1 (fun o H2 => o = none ∧ H2 = H1) I1 ⟨rfl, rfl⟩) fun vl s2 ⟨l, H2, I2, pl, el, e2⟩ => ?_)
  subst el e2
  refine thn (po_none.run pins s2 σ H2 (fun o H3 => o = none ∧ H3 = H2) I2 ⟨rfl, rfl⟩) fun vu s3 ⟨u, H3, I3, pu, eu, e3⟩ => ?_
  subst eu e3
  refine thn (hst.run pins s3 σ H3 (fun o H4 => o = some (-1) ∧ H4 = H3) I3 ⟨1, rfl, -1, rfl, rfl, rfl⟩) fun vs s4 ⟨o, H4, I4, ps, eo, e4⟩ => ?_
  subst eo e4
  cases pl
  cases pu
  have I5 : Inv X pins σ H4 { s4 with heap := s4.heap.push { cls := .type "slice", data := .fields #[.none, .none, vs] } } := I4.kept (t' := s4.toks) fun b ob q => Heap.get?_push_of_some _ q
  obtain ⟨its, r, ht, hz⟩ := I5.tuple hx
  have hlen := r.length
  show wpAny (model X.prog X.w) X.A (subscriptTail e (.Slice none none (some (.UnaryOp .USub (.Constant (.int 1) k p1) p2)) p3) (.ref a) (.ref s4.heap.objs.size)) (EP X pins σ Q) X.xe { s4 with heap := s4.heap.push { cls := .type "slice", data := .fields #[.none, .none, vs] } }
  refine tail_any (ops := [.ref a, .ref s4.heap.objs.size]) ht.typeIs (PyProof.Rows.slot_tuple_getitem.lookup) ?_ (by with_unfolding_all rfl)
  refine HT.getItem_tuple_rev ht (Heap.IsSliceOf.new _ .none .none vs) ps ?_ (by rw [List.size_toArray]; omega)
  refine ⟨.ref _, _, I5.laid (t' := s4.toks) (o := .tup xs.reverse) (fun b ob q => Heap.get?_push_of_some _ q) (Nat.le_refl _) ?_, rfl, q _ (I5.hok.fresh (Nat.le_refl _))⟩
  exact ⟨by rw [List.length_reverse]; exact hz, _, r.reverse, IsTup.new _ _⟩
@[reducible] def rdRevT : RD1 := fun x M q => ∃ xs, x = .tup xs ∧ q (.tup xs.reverse) M
@[reducible] def dRevT (de : DE) : DE := fun env M q E => de env M (fun x M1 => rdRevT x M1 q) E
theorem pd_revT {e : Expr} {de : DE} {k : Nat} {p1 p2 p3 pos : Pos} (he : PD X W e de) : PD X W (.Subscript e (.Slice none none (some (.UnaryOp .USub (.Constant (.int 1) k p1) p2)) p3) pos) (dRevT de) :=
  peImp (pe_revT he) fun σ H Q ⟨env, M, q, E, H0, so, S, h, k, kx⟩ => ⟨env, M, _, E, H0, so, S, h, fun v d H1 H' M1 e1 S1 rv w => by
    obtain ⟨xs, rfl, w⟩ := w
    cases rv with
    | tup hh r => exact ⟨_, _, rfl, S1.ex.sqT hh, (k.mono e1).newT S1 r.rev w⟩, kx⟩
end
section
variable {prog : Program} {w : World} {A : Around} {E : Value → Shared → Prop} {s : Shared} {K : PySem.W.Frag} {x C f L : Addr} {h₀ : Heap} {m : Str → Option Value} {ox : Obj} {od : Option Obj} {b tb : Value}
theorem slot_ne : Slot "object" "__ne__" "object.__ne__" := .of (owner := "object") (n := "__ne__") (by rw [typeLookup_type, builtinLookup_eq_fast]; kernel_rfl) (by decide +kernel) (by decide +kernel) (by decide +kernel) (.inl (by decide +kernel)) (by rw [isSubtype_type]; kernel_rfl)
theorem ne_call {Q : Value → Shared → Prop} (hu : A.in1.units < cLine) (X : K.In s.heap) (I : PySem.W.InstAt s.heap x ox C od) (hi : PySem.W.subIn K (.ref C) (.type "object") = some true) (hs : PySem.W.findIn K (.ref C) "__eq__" = some (some (.ref f))) (hf : PySem.W.isFn K (.ref f) = true)
    (h : wpAny (model prog w) A.in1 (call (.ref f) [.ref x, b]) (fun v s' => ∃ r, v = .bool r ∧ Q (.bool (!r)) s') E s) : wpAny (model prog w) A (call (.builtin "object.__ne__") [.ref x, b]) Q E s := by
  refine wpAny_call (codeAny_call_builtin slot_ne.plain PySem.F.cmpEntry_ne ?_)
  refine PySem.W.check_slot PySem.F.cmpKind_ne PySem.F.cmpSplit_ne (I.type.andThen (PySem.W.looks_subIn X hi)) (PySem.F.cmpArgs_ne _ _) ?_
  unfold Builtin.«object.__ne__»
  refine wpAny_bind (wpAny_pure ?_)
  refine wpAny_bind (wpAny_cRoomFor hu ?_)
  refine wpAny_bind (PySem.W.ifBound_K X I hs hf (wpAny_mono h (fun v s' hv => ?_) fun _ _ e => e))
  obtain ⟨r, rfl, hq⟩ := hv
  first
    | exact wpAny_bind (m := truthy (.bool r)) (wpAny_truthy_bool (wpAny_pure hq))
    | exact wpAny_bind (wpAny_truthy_bool (wpAny_pure hq))
theorem ne_K {Q : Value → Shared → Prop} (hu : A.in1.units < cLine) (hu0 : A.units < cLine) (F : Fr h₀ L s.heap m) (X₀ : K.In h₀) (I : PySem.W.InstAt s.heap x ox C od) (hb : PySem.W.Looks (model prog w) s.heap (typeOf b) tb) (hn : PySem.W.notFirst K C tb = true)
    (hne : PySem.W.findIn K (.ref C) "__ne__" = some (some (.builtin "object.__ne__"))) (hi : PySem.W.subIn K (.ref C) (.type "object") = some true)
    (hs : PySem.W.findIn K (.ref C) "__eq__" = some (some (.ref f))) (hf : PySem.W.isFn K (.ref f) = true)
    (h : wpAny (model prog w) A.in1 (call (.ref f) [.ref x, b]) (fun v s' => ∃ r, v = .bool r ∧ Q (.bool (!r)) s') E s) : wpAny (model prog w) A (richCompare .NotEq (.ref x) b) Q E s := by
  have X := X₀.keeps F.keep
  have one : wpAny (model prog w) A (tryCompare (.ref x) "__ne__" b) (fun r s' => ∃ v, r = some v ∧ Q v s') E s := by
    unfold tryCompare
    refine wpAny_bind ?_
    simp only [callSpecialIfBound?, bindSpecialIfBound?]
    refine wpAny_holding (wpAny_bind (wpAny_bind (wpAny_bind (I.type.here ((PySem.W.looks_findIn X hne).here ?_)))))
    simp only [slot_ne.bind]
    refine wpAny_bind (wpAny_askSetting (wpAny_ite ?_))
    have fin : ∀ {Q' : Option Value → Shared → Prop}, (∀ r s', Q (.bool (!r)) s' → Q' (some (.bool (!r))) s') → wpAny (model prog w) A (call (.builtin "object.__ne__") ([.ref x] ++ [b]) >>= fun v => pure (some v)) Q' E s := fun hq =>
      wpAny_bind (wpAny_mono (ne_call (Q := fun v s' => ∃ r, v = .bool (!r) ∧ Q (.bool (!r)) s') hu X I hi hs hf (wpAny_mono h (fun v s' ⟨r, e, z⟩ => ⟨r, e, r, rfl, z⟩) fun _ _ e => e)) (fun v s' ⟨r, e, z⟩ => by subst e; exact wpAny_pure (hq r s' z)) fun _ _ h' => h')
    have fin2 := fin (Q' := fun a s' => wpAny (model prog w) A (match a with | some .notImplemented | none => pure none | some v => pure (some v)) (fun r s' => ∃ v, r = some v ∧ Q v s') E s') fun r s' z => wpAny_pure ⟨_, rfl, z⟩
    split
    · exact wpAny_bind (wpAny_pure (wpAny_pure fin2))
    · exact wpAny_tryCatch (wpAny_bind (wpAny_pure (wpAny_pure fin2)))
  unfold richCompare
  simp only [oneThing_ref]
  refine wpAny_holding (wpAny_bind (wpAny_cRoomFor hu0 ?_))
  refine wpAny_bind (I.type.here (wpAny_bind (hb.here ?_)))
  split
  · rename_i q
    have e : PySem.W.subIn K tb (.ref C) = some false := by
      rcases Bool.or_eq_true_iff.mp hn with e | e
      · rw [beq_iff_eq.mp e] at q; simp at q
      · exact beq_iff_eq.mp e
    refine wpAny_bind ((PySem.W.looks_subIn X e).here ?_)
    simp only [Bool.false_eq_true, if_false]
    refine wpAny_bind (wpAny_mono one (fun r s' z => ?_) fun _ _ e => e)
    obtain ⟨v, rfl, hq⟩ := z
    exact wpAny_pure hq
  · refine wpAny_bind (wpAny_pure ?_)
    simp only [Bool.false_eq_true, if_false]
    refine wpAny_bind (wpAny_mono one (fun r s' z => ?_) fun _ _ e => e)
    obtain ⟨v, rfl, hq⟩ := z
    exact wpAny_pure hq
end
section
variable {X : Cx} {W : WX}
/-- what != asks of the class -/
def NeI (K : PySem.W.Frag) (C : Addr) : Prop := PySem.W.findIn K (.ref C) "__ne__" = some (some (.builtin "object.__ne__")) ∧ PySem.W.subIn K (.ref C) (.type "object") = some true
theorem opd_neO {k : Nat} {C : Addr} {sd : SpD} (F : Mok X.prog X.w X.K X.mg X.base C "__eq__" k 2 sd) (hne : NeI X.K C) (hr : Room (k + 1) X.A) : OpD X (compareOp .NotEq) (rdNeO C sd) := by
  obtain ⟨c, f, fd, ps, hm, hfn, hb, F⟩ := F
  refine ⟨fun x y H Q => ∃ a dx fs b dy gs, x = .ref a ∧ H a = some (.ins C dx fs) ∧ y = .ref b ∧ H b = some (.ins C dy gs) ∧ spOf X.K 2 sd [x, y] H (fun v H' => ∃ b, v = .bl b ∧ Q (.bl (!b)) H') E0, fun pins s σ H x y v u Q I rx ry h => ?_, fun H0 H M x y dx dy q Q S hx hy w k => ?_⟩
  · obtain ⟨a, dx, fs, b, dy, gs, rfl, ea, rfl, eb, h⟩ := h
    obtain rfl : v = Value.ref a := rx
    obtain rfl : u = Value.ref b := ry
    obtain ⟨mA, J, _⟩ := ins_get I.hok ea
    obtain ⟨mB, J', _⟩ := ins_get I.hok eb
    obtain ⟨od, J, _⟩ := J.look
    obtain ⟨od', J', _⟩ := J'.look
    obtain ⟨m, hF⟩ := I.fr
    have h1 := hr.in1.un
    have h0 := hr.un
    refine ne_K (tb := .ref C) (by omega) (by omega) hF I.ok.mod.kin J J'.type (by simp [PySem.W.notFirst]) hne.1 hne.2 hm.at_ hm.fn (wpAny_mono (run_own F hr.in1 hb rfl I (.cons (show RelV (.ref a) (.ref a) from rfl) (.cons (show RelV (.ref b) (.ref b) from rfl) .nil)) h) (fun r s' ⟨v', H', I', rv, b, ev, q⟩ => ?_) fun _ _ z => z)
    subst ev
    cases rv
    exact ⟨b, rfl, .bl (!b), H', I', rfl, q⟩
  · obtain ⟨fs, gs, ef, eg, w⟩ := w
    obtain ⟨a, dd, fvs, rfl, q1, r⟩ := S.obj hx ef
    obtain ⟨b, dd', gvs, rfl, q2, r'⟩ := S.obj hy eg
    exact ⟨a, dd, fvs, b, dd', gvs, rfl, q1, rfl, q2, [dx, dy], M, _, noX, H0, rfl, .cons hx (.cons hy .nil), S, w, fun v d H0' H' M' e S' rv ⟨b, ed, z⟩ => by subst ed; exact ⟨b, rv.inv_bl, k _ _ H0' H' M' e S' (.bl (!b)) z⟩, kx0⟩
end
end DL
set_option maxRecDepth 100000
set_option maxHeartbeats 4000000
namespace DL
open PySem PySem.Spec PyProof.Rows L2
end DL
set_option maxRecDepth 100000
set_option maxHeartbeats 4000000
namespace DL
open PySem PySem.Spec PyProof.Rows L2
end DL
set_option maxRecDepth 100000
set_option maxHeartbeats 4000000
namespace DL
open PySem PySem.Spec PyProof.Rows L2
end DL
set_option maxRecDepth 100000
namespace DL
open PySem PySem.Spec PyProof.Rows L2
end DL
set_option maxRecDepth 100000
set_option maxHeartbeats 4000000
namespace DL
open PySem PySem.Spec PyProof.Rows L2
end DL
set_option maxRecDepth 100000
set_option maxHeartbeats 4000000
namespace DL
open PySem PySem.Spec PyProof.Rows L2 PySem.Calls
end DL
set_option maxRecDepth 100000
set_option maxHeartbeats 4000000
namespace ZL
open PySem PySem.Spec PyProof.Rows PySem.W L2
/-- where a zip of two lists stands that is drawn whole into a list -/
structure At (z TI TO i1 i2 l1 l2 : Addr) (xs ys : Array Value) (n0 : Nat) (i : Nat) (h : Heap) : Prop where
  ti : IsPair h TI (.ref i1) (.ref i2)
  a : h.IsListIter i1 l1 i
  b : h.IsListIter i2 l2 i
  l : h.IsList l1 xs
  r : h.IsList l2 ys
  zz : (IsZip h z TI TO .none ∧ ∃ p q, IsPair h TO p q) ∨ ∃ T f o, IsZipHeld h z TI TO T f ∧ h.get? T = some o ∧ n0 ≤ T
theorem ne_lo {a T n0 : Nat} (h : a < n0) (h' : n0 ≤ T) : T ≠ a := Nat.ne_of_gt (Nat.lt_of_lt_of_le h h')
section
variable {prog : Program} {w : World} {A : Around} {R : Result → Shared → Prop} {z TI TO i1 i2 l1 l2 S : Addr} {xs ys : Array Value} {n0 : Nat} {res : Value}
theorem At.keep {i : Nat} {h h' : Heap} (st : At z TI TO i1 i2 l1 l2 xs ys n0 i h) (k : ∀ c o, c ≠ S → h.get? c = some o → h'.get? c = some o) (hz : z ≠ S) (hTI : TI ≠ S) (hTO : TO ≠ S) (h1 : i1 ≠ S) (h2 : i2 ≠ S) (hl1 : l1 ≠ S) (hl2 : l2 ≠ S) (hS : S < n0) : At z TI TO i1 i2 l1 l2 xs ys n0 i h' where
  ti := k _ _ hTI st.ti
  a := st.a.at fun o e => k _ o h1 e
  b := st.b.at fun o e => k _ o h2 e
  l := st.l.at fun o e => k _ o hl1 e
  r := st.r.at fun o e => k _ o hl2 e
  zz := by
    rcases st.zz with ⟨e, p, q, e2⟩ | ⟨T, f, o, e, e2, hT⟩
    · exact .inl ⟨k _ _ hz e, p, q, k _ _ hTO e2⟩
    · exact .inr ⟨T, f, o, k _ _ hz e, k _ _ (ne_lo hS hT) e2, hT⟩
end
end ZL
set_option maxRecDepth 100000
set_option maxHeartbeats 4000000
namespace ZL
open PySem PySem.Spec PyProof.Rows L2
/-- pairs told of at their places -/
def putP : Hp → List Addr → List (V × V) → Hp
  | H, a :: as, p :: ps => putP (upd H a (.tup [p.1, p.2])) as ps
  | H, [], _ => H
  | H, _ :: _, [] => H
theorem putP_off {b : Addr} : ∀ (as : List Addr) (ps : List (V × V)) (H : Hp), b ∉ as → putP H as ps b = H b
  | [], _, _, _ => rfl
  | _ :: _, [], _, _ => rfl
  | a :: as, p :: ps, H, h => by
    rw [List.mem_cons, not_or] at h
    show putP (upd H a (.tup [p.1, p.2])) as ps b = H b
    rw [putP_off as ps _ h.2, upd_ne h.1]
theorem putP_at : ∀ (as : List Addr) (ps : List (V × V)) (H : Hp), as.Nodup → ∀ (j : Nat) (a : Addr) (p : V × V), as[j]? = some a → ps[j]? = some p → putP H as ps a = some (.tup [p.1, p.2])
  | [], _, _, _, j, a, p, h, _ => by simp at h
  | _ :: _, [], _, _, j, a, p, _, h => by simp at h
  | b :: as, q :: ps, H, hn, j, a, p, h1, h2 => by
    rw [List.nodup_cons] at hn
    show putP (upd H b (.tup [q.1, q.2])) as ps a = _
    cases j with
    | zero =>
      simp at h1 h2
      subst h1 h2
      rw [putP_off as ps _ hn.1, upd_same]
    | succ j => exact putP_at as ps _ hn.2 j a p (by simpa using h1) (by simpa using h2)
theorem refs_vals : ∀ as : List Addr, Vals (as.map V.ref) (as.map Value.ref)
  | [] => .nil
  | _ :: as => .cons rfl (refs_vals as)
/-- what stands there then, over the abstract heap -/
structure Pairs (H H' : Hp) (S : Addr) (as : List Addr) (ps : List (V × V)) : Prop where
  old : ∀ b o, H b = some o → H' b = some o
  eq : H' = putP (upd H S (.lst (as.map V.ref))) as ps
  len : as.length = ps.length
  nd : as.Nodup
  newS : H S = none
  new : ∀ a ∈ as, H a = none
  off : S ∉ as
section
variable {X : Cx} {pins : List (Addr × Obj)} {σ : L2.St} {H : Hp} {s : Shared}
theorem laid {h' : Heap} {tk : Nat} {as : List Addr} {ps : List (V × V)} {c : Nat} {S : Addr} (I : Inv X pins σ H s) (hz : ps.length ≤ sizeLine) (hS0 : s.heap.objs.size ≤ S) (ha : ∀ a ∈ as, s.heap.objs.size ≤ a) (hn : as.Nodup) (hSn : S ∉ as) (hl : as.length = ps.length) (hk : ∀ b o, s.heap.get? b = some o → h'.get? b = some o)
    (hS : h'.get? S = some { cls := .type "list", dict := none, data := .seq (as.map Value.ref).toArray c, slots := #[] }) (hp : ∀ (j : Nat) (a : Addr) (p : V × V), as[j]? = some a → ps[j]? = some p → ∃ x y, RelV p.1 x ∧ RelV p.2 y ∧ h'.get? a = some { cls := .type "tuple", data := .seq #[x, y] }) :
    ∃ H', Pairs H H' S as ps ∧ Inv X pins σ H' { s with heap := h', toks := tk } := by
  have newS : H S = none := I.hok.fresh hS0
  have new : ∀ a ∈ as, H a = none := fun a hm => I.hok.fresh (ha a hm)
  have off : ∀ b, b ∉ as → b ≠ S → putP (upd H S (.lst (as.map V.ref))) as ps b = H b := fun b h1 h2 => by rw [putP_off as ps _ h1, upd_ne h2]
  have eS : putP (upd H S (.lst (as.map V.ref))) as ps S = some (.lst (as.map V.ref)) := by rw [putP_off as ps _ hSn, upd_same]
  have kp : ∀ b u, H b = some u → putP (upd H S (.lst (as.map V.ref))) as ps b = some u := fun b u e => by
    rw [off b (fun z => by rw [new b z] at e; cases e) (fun z => by rw [z, newS] at e; cases e)]; exact e
  refine ⟨_, ⟨kp, rfl, hl, hn, newS, new, hSn⟩, ?_⟩
  refine I.call' (ch := []) rfl ⟨fun b o q _ _ _ => hk b o q, fun b o q _ _ _ => ⟨o.slots, hk b o q⟩, fun b o q n _ => ?_, fun b o q _ => ⟨o, hk b o q⟩, fun b xs q => kp b _ q, fun b o u q => kp b _ q, fun b ps q => ⟨#[], by rw [kp b _ q]; simp⟩⟩ (fun b u q => ?_) I.bare fun b z => by simp at z
  · have hlt := Heap.lt_size q
    rw [off b (fun z => absurd hlt (Nat.not_lt.mpr (ha b z))) (fun z => by subst z; exact absurd hlt (Nat.not_lt.mpr hS0))]
    exact n
  · by_cases hb : b ∈ as
    · obtain ⟨j, hj⟩ := List.getElem?_of_mem hb
      have hj2 := (List.getElem?_eq_some_iff.mp hj).1
      have hpj := List.getElem?_eq_getElem (l := ps) (i := j) (by omega)
      have e := putP_at as ps (upd H S (.lst (as.map V.ref))) hn j b _ hj hpj
      have e2 : some u = some (.tup [(ps[j]'(by omega)).1, (ps[j]'(by omega)).2]) := by rw [← q]; exact e
      cases e2
      obtain ⟨x, y, rx, ry, f⟩ := hp j b _ hj hpj
      exact ⟨by show 2 ≤ sizeLine; decide, [x, y], .cons rx (.cons ry .nil), ⟨_, f, rfl, _, rfl⟩⟩
    · by_cases hb2 : b = S
      · rw [hb2] at q ⊢
        have e2 : some u = some (.lst (as.map V.ref)) := by rw [← q]; exact eS
        cases e2
        exact ⟨by rw [List.length_map]; omega, as.map Value.ref, c, refs_vals as, hS⟩
      · have e2 : H b = some u := by rw [← off b hb hb2]; exact q
        exact (I.hok b u e2).stay (fun d v _ y => hk d v y) (fun d y => kp d _ y) fun d xs y => kp d _ y
end
end ZL
namespace DL
open PySem PySem.Spec PyProof.Rows L2 ZL
end DL
set_option maxRecDepth 100000
set_option maxHeartbeats 4000000
namespace DL
open PySem PySem.Spec PyProof.Rows L2
end DL
set_option maxRecDepth 100000
set_option maxHeartbeats 4000000
namespace TL
open PySem PyProof.Rows SrtO Builtin
section
variable {prog : Program} {w : World} {A : Around} {E : Value → Shared → Prop} {s : Shared}
theorem collect_tuple {l : Addr} {vs : List Value} {Q : List Value → Shared → Prop} (hl : ∃ o, s.heap.get? l = some o ∧ o.cls = .type "tuple" ∧ ∃ n, o.data = .seq vs.toArray n)
    (h : Q vs { s with heap := (s.heap.push (seqObj "list" #[] 0)).update s.heap.objs.size (Obj.mapSeq (· ++ vs.toArray)) }) (hsz : vs.length ≤ sizeLine := by size_fits) :
    wpAny (model prog w) A (collect (.ref l)) Q E s := by
  obtain ⟨o, ho, hc, n, hd⟩ := id hl
  unfold collect
  refine wpAny_bind (wpAny_runValue (codeAny_builtin entry_proto_collect' ?_))
  show wpAny _ _ (do again (.builtin "list.__iadd__" ⟨[← newList [], .ref l], []⟩)) _ _ s
  refine wpAny_bind (wpAny_newList (wpAny_pure ⟨Code.quiet_builtin _ (by decide +kernel), codeAny_builtin entry_list_iadd' ?_⟩))
  show wpAny _ _ (Builtin.List.listExtendWith (.ref s.heap.objs.size) (.ref l) (.ref s.heap.objs.size)) _ _ { s with heap := s.heap.push (seqObj "list" #[] 0) }
  unfold Builtin.List.listExtendWith
  have ho' : (s.heap.push (seqObj "list" #[] 0)).get? l = some o := Heap.get?_push_of_some _ ho
  refine wpAny_bind (wpAny_typeOf (T := "tuple") ⟨o, ho', hc⟩ ?_)
  have ht : (Value.type "tuple" == Value.type "tuple") = true := by rfl
  rw [if_pos (by rw [ht]; simp)]
  refine wpAny_bind (listItems_at ho' hd ?_)
  refine wpAny_bind (listItems_at (xs := #[]) (n := 0) (Heap.get?_push_size _ rfl) rfl ?_)
  rw [if_neg (by simp)]
  refine wpAny_bind (listUpdate_at (xs := #[]) (n := 0) (Heap.get?_push_size _ rfl) rfl ?_ (Nat.zero_le _) (by show (#[] ++ vs.toArray).size ≤ sizeLine + 1; simp only [Array.size_append, List.size_toArray, List.length_nil]; omega))
  refine wpAny_pure ?_
  show wpAny (model prog w) A (do
      let o ← load s.heap.objs.size
      match o.data with
      | .seq xs _ => pure xs.toList
      | _ => unsupported "internal:collect") Q E { s with heap := (s.heap.push (seqObj "list" #[] 0)).update s.heap.objs.size (Obj.mapSeq (· ++ vs.toArray)) }
  refine wpAny_bind (wpAny_load (get?_update_seq (Heap.get?_push_size _ rfl) _) ?_)
  show wpAny _ _ (pure ((#[] : Array Value) ++ vs.toArray).toList) Q E _
  rw [show ((#[] : Array Value) ++ vs.toArray).toList = vs by simp]
  exact wpAny_pure h
theorem sorted_ordT {l : Addr} {vs : List Value} {ltv : Value → Value → Bool} {Q : Value → Shared → Prop} (O : Swo ltv) (hl : ∃ o, s.heap.get? l = some o ∧ o.cls = .type "tuple" ∧ ∃ n, o.data = .seq vs.toArray n) (hz : vs.length ≤ sizeLine)
    (hS : 2 ≤ vs.length → ∀ (h₁ : Heap) (a : Addr), h₁.get? a = some (seqObj "list" vs.toArray 0) → (∀ b o, s.heap.get? b = some o → b ≠ a ∧ h₁.get? b = some o) → SortableO prog w A.in1.in1 { s with heap := h₁ } a vs ltv)
    (h : ∀ out : List Value, Srtd ltv out → Stb ltv out vs → Q (.ref (s.heap.objs.size + 1)) { s with heap := sortedAll s.heap vs out.toArray }) :
    wpAny (model prog w) A (call (.builtin "sorted") [.ref l]) Q E s := by
  refine Calls.call_function_entry kind_sorted plain_sorted entry_sorted (args_sorted1 _) ?_
  unfold Builtin.«sorted»
  refine wpAny_bind (m := checkCount "sorted" 1 1 _) (wpAny_pure ?_)
  refine wpAny_bind (collect_tuple hl ?_ hz)
  refine wpAny_bind (wpAny_newList ?_ hz)
  have hsz : ((s.heap.push (seqObj "list" #[] 0)).update s.heap.objs.size (Obj.mapSeq (· ++ vs.toArray))).objs.size = s.heap.objs.size + 1 := by
    rw [Heap.size_update, size_push']
  have hoL : (((s.heap.push (seqObj "list" #[] 0)).update s.heap.objs.size (Obj.mapSeq (· ++ vs.toArray))).push (seqObj "list" vs.toArray 0)).get? (s.heap.objs.size + 1) = some (seqObj "list" vs.toArray 0) := by
    rw [← hsz]; exact Heap.get?_push_size _ rfl
  have keep : ∀ b o, s.heap.get? b = some o → b ≠ s.heap.objs.size + 1 ∧ (((s.heap.push (seqObj "list" #[] 0)).update s.heap.objs.size (Obj.mapSeq (· ++ vs.toArray))).push (seqObj "list" vs.toArray 0)).get? b = some o := fun b o q => by
    have hlt : b < s.heap.objs.size := Heap.lt_size q
    refine ⟨Nat.ne_of_lt (Nat.lt_succ_of_lt hlt), Heap.get?_push_of_some _ ?_⟩
    rw [Heap.get?_update_ne _ _ _ _ (Nat.ne_of_lt hlt)]
    exact Heap.get?_push_of_some _ q
  show wpAny _ _ _ _ _ { s with heap := ((s.heap.push (seqObj "list" #[] 0)).update s.heap.objs.size (Obj.mapSeq (· ++ vs.toArray))).push (seqObj "list" vs.toArray 0) }
  rw [hsz]
  refine wpAny_bind (wpAny_holding (wpAny_call_entry slot_list_sort ⟨_, hoL, rfl⟩ entry_list_sort (list_sort_ord O hoL hz (fun h2 => hS h2 _ _ hoL keep) fun out hs hb => ⟨_, rfl, ?_⟩) (args_list_sort _)))
  exact wpAny_pure ⟨_, rfl, h out hs hb⟩
end
end TL
namespace DL
open PySem PySem.Spec PyProof.Rows L2
section
variable {X : Cx}
def rSortedIT (K : PySem.W.Frag) : List V → Hp → VK → Prop := fun vs H Q => ∃ (a : Addr) (ns : List Int), vs = [V.ref a] ∧ SqT K H a (ns.map V.int) ∧
  ∀ (ns' : List Int) (p : Addr), ns'.Perm ns → ns'.Pairwise (· ≤ ·) → H p = none → Q (.ref p) (upd H p (.lst (ns'.map V.int)))
theorem cr_sortedIT : CallR X (.builtin "sorted") (rSortedIT X.K) := by
  intro pins s σ H vs us Q I r h
  obtain ⟨a, ns, rfl, hs, q⟩ := h
  obtain ⟨its, rv, hl, hz⟩ := I.tuple hs
  rw [Vals.ref1 r]
  have hi := rv.ints
  obtain ⟨o, ho, hc, n, hd⟩ := hl
  refine TL.sorted_ordT SrtO.swo_int ⟨o, ho, hc, n, hd⟩ (by rw [← rv.length]; exact hz) (fun h2 h₁ a' _ _ => SrtO.ints_sortable hi h2) fun out h1 h2 => ?_
  obtain ⟨k1, k2, k3⟩ := SrtO.ints_out hi h1 h2
  obtain ⟨ep, he'⟩ := PyProof.Rows.sortedAll_at s.heap its out.toArray
  have hlen : ((out.map SrtO.iv).map V.int).length ≤ sizeLine := by
    rw [List.length_map, k2.length_eq]
    rw [List.length_map] at hz
    exact hz
  exact ⟨.ref _, upd H (s.heap.objs.size + 1) (.lst ((out.map SrtO.iv).map V.int)), I.laid (t' := s.toks) (fun _ _ => PyProof.Rows.sortedAll_old) (Nat.le_succ _) ⟨hlen, out, ep, vals_of_ints k1, he'⟩, rfl, q _ _ k2 k3 (I.hok.fresh (Nat.le_succ _))⟩
/-- sorted(tuple of ints) -/
def rdSortIT : RDL := fun ds M q => ∃ ns : List Int, ds = [.tup (ns.map D.int)] ∧ ∀ ns' : List Int, ns'.Perm ns → ns'.Pairwise (· ≤ ·) → q (.lst (ns'.map D.int)) M
theorem cd_sortIT : CallD X (.builtin "sorted") rdSortIT := ⟨_, cr_sortedIT, fun H0 H M xs ds q Q S r w k => by
  obtain ⟨ns, rfl, w⟩ := w
  obtain ⟨v, rfl, rv⟩ := dnl1 r
  cases rv with
  | tup hs rs =>
    have z := ints_dn rs (ints_map ns)
    subst z
    exact ⟨_, ns, rfl, S.ex.sqT hs, fun ns' p h1 h2 hp => k.newL S (dn_ints _) (w ns' h1 h2) p hp⟩⟩
end
end DL
set_option maxRecDepth 100000
set_option maxHeartbeats 4000000
namespace DL
open PySem PySem.Spec PyProof.Rows L2
end DL
set_option maxRecDepth 100000
set_option maxHeartbeats 4000000
namespace SK
open PySem PySem.Spec PyProof.Rows L2
section
variable {P : Program} {w : World} {K : Type} [DecidableEq K] (knd : KeyKind P w K) (key : Value → K)
abbrev keysOf (l : List (Int × Value)) : List K := l.map fun e => key e.2
structure Body (h : Heap) (a : Addr) (o : Obj) (es : Array (Int × Value)) (ep : Nat) (t : SetTable) : Prop where
  at_ : h.get? a = some o
  exact_ : o.ExactSet
  data : o.data = .set es ep t
  el : ElemsOf knd es.toList
  nd : (keysOf key es.toList).Nodup
  few : es.size < scanBound
  fits : t.fits es.size = true
  ris : Ris t.place.toList
  led : w.params.followText "set-order" = true ∨ t.led = true
/-- the set at a: its members ks, each once -/
def SetK (h : Heap) (a : Addr) (ks : List K) : Prop := ∃ o es ep t, Body knd key h a o es ep t ∧ (keysOf key es.toList).Perm ks
end
section
variable {P : Program} {w : World} {K : Type} [DecidableEq K] {knd : KeyKind P w K} {key : Value → K} {h h' : Heap} {a : Addr} {ks : List K}
theorem SetK.keep (R : SetK knd key h a ks) (k : ∀ o, h.get? a = some o → h'.get? a = some o) : SetK knd key h' a ks := by
  obtain ⟨o, es, ep, t, B, p⟩ := R
  exact ⟨o, es, ep, t, { B with at_ := k o B.at_ }, p⟩
theorem SetK.len (R : SetK knd key h a ks) : ks.length < scanBound := by
  obtain ⟨o, es, ep, t, B, p⟩ := R
  rw [← p.length_eq, List.length_map, Array.length_toList]
  exact B.few
end
end SK
namespace DL
open PySem PySem.Spec PyProof.Rows L2
end DL
set_option maxRecDepth 100000
set_option maxHeartbeats 4000000
namespace DL
open PySem PySem.Spec PyProof.Rows L2
end DL
set_option maxRecDepth 100000
set_option maxHeartbeats 4000000
namespace DL
open PySem PySem.Spec PyProof.Rows L2
section
variable {X : Cx} {W : WX}
theorem DnL.split {K : PySem.W.Frag} {H : Hp} : ∀ {ds : List D} {d : D} {vs : List V}, DnL K H vs (ds ++ [d]) → ∃ us u, vs = us ++ [u] ∧ DnL K H us ds ∧ Dn K H u d
  | [], d, _, .cons h .nil => ⟨[], _, rfl, .nil, h⟩
  | x :: ds, d, _, .cons h r => by
    obtain ⟨us, u, rfl, a, b⟩ := DnL.split r
    exact ⟨_ :: us, u, rfl, .cons h a, b⟩
end
end DL
set_option maxRecDepth 100000
set_option maxHeartbeats 4000000
namespace DL
open PySem PySem.Spec PyProof.Rows L2 SrtO
end DL
set_option maxRecDepth 100000
set_option maxHeartbeats 4000000
namespace DL
open PySem PySem.Spec PyProof.Rows L2
end DL
set_option maxRecDepth 100000
set_option maxHeartbeats 4000000
namespace DL
open PySem PySem.Spec PyProof.Rows L2
def IsPairT (h : Heap) (v : Value) (x : PySem.Str) (z : Int) : Prop := ∃ (a : Addr) (o : Obj) (t u : Tok) (n : Nat), v = .ref a ∧ h.get? a = some o ∧ o.cls = .type "tuple" ∧ o.data = .seq #[.str x t, .int z u] n
theorem IsPairT.keeps {h h' : Heap} {v : Value} {x : PySem.Str} {z : Int} (p : IsPairT h v x z) (k : ∀ b o, h.get? b = some o → o.cls = .type "tuple" → h'.get? b = some o) : IsPairT h' v x z := by
  obtain ⟨a, o, t, u, n, e, ho, hc, hd⟩ := p
  exact ⟨a, o, t, u, n, e, k a o ho hc, hc, hd⟩
end DL
set_option maxRecDepth 100000
set_option maxHeartbeats 4000000
namespace DL
open PySem PySem.Spec PyProof.Rows L2
end DL
set_option maxRecDepth 100000
set_option maxHeartbeats 4000000
namespace DL
open PySem PySem.Spec PyProof.Rows L2
theorem int_eq_i {l C dx : Addr} {b : Int} {u : Tok} :
    Meets (Builtin.«int.__eq__» ⟨[.int b u, .ref l], []⟩) (fun _ R s => s.heap.get? l = some (PySem.W.instObj C dx) ∧ R (.ok (.ret .notImplemented)) s) :=
  .of_wp fun prog w A R s h => by obtain ⟨hp, g, d, tk, os⟩ := s; obtain ⟨hl, h⟩ := h; unfold PySem.W.instObj at hl; wp_walk using wpAny_loadPart' hl, wpAny_load hl; exact ⟨_, rfl, h⟩
theorem bool_eq_i {l C dx : Addr} {b : Bool} :
    Meets (Builtin.«int.__eq__» ⟨[.bool b, .ref l], []⟩) (fun _ R s => s.heap.get? l = some (PySem.W.instObj C dx) ∧ R (.ok (.ret .notImplemented)) s) :=
  .of_wp fun prog w A R s h => by obtain ⟨hp, g, d, tk, os⟩ := s; obtain ⟨hl, h⟩ := h; unfold PySem.W.instObj at hl; wp_walk using wpAny_loadPart' hl, wpAny_load hl; exact ⟨_, rfl, h⟩
theorem str_eq_i {l C dx : Addr} {b : Str} {u : Tok} :
    Meets (Builtin.«str.__eq__» ⟨[.str b u, .ref l], []⟩) (fun _ R s => s.heap.get? l = some (PySem.W.instObj C dx) ∧ R (.ok (.ret .notImplemented)) s) :=
  .of_wp fun prog w A R s h => by obtain ⟨hp, g, d, tk, os⟩ := s; obtain ⟨hl, h⟩ := h; unfold PySem.W.instObj at hl; wp_walk using wpAny_loadPart' hl, wpAny_load hl; exact ⟨_, rfl, h⟩
theorem none_eq_i {l C dx : Addr}  :
    Meets (Builtin.«NoneType.__eq__» ⟨[.none, .ref l], []⟩) (fun _ R s => s.heap.get? l = some (PySem.W.instObj C dx) ∧ R (.ok (.ret .notImplemented)) s) :=
  .of_wp fun prog w A R s h => by obtain ⟨hp, g, d, tk, os⟩ := s; obtain ⟨hl, h⟩ := h; unfold PySem.W.instObj at hl; wp_walk using wpAny_loadPart' hl, wpAny_load hl; exact ⟨_, rfl, h⟩
theorem int_ne_i {l C dx : Addr} {b : Int} {u : Tok} :
    Meets (Builtin.«int.__ne__» ⟨[.int b u, .ref l], []⟩) (fun _ R s => s.heap.get? l = some (PySem.W.instObj C dx) ∧ R (.ok (.ret .notImplemented)) s) :=
  .of_wp fun prog w A R s h => by obtain ⟨hp, g, d, tk, os⟩ := s; obtain ⟨hl, h⟩ := h; unfold PySem.W.instObj at hl; wp_walk using wpAny_loadPart' hl, wpAny_load hl; exact ⟨_, rfl, h⟩
theorem bool_ne_i {l C dx : Addr} {b : Bool} :
    Meets (Builtin.«int.__ne__» ⟨[.bool b, .ref l], []⟩) (fun _ R s => s.heap.get? l = some (PySem.W.instObj C dx) ∧ R (.ok (.ret .notImplemented)) s) :=
  .of_wp fun prog w A R s h => by obtain ⟨hp, g, d, tk, os⟩ := s; obtain ⟨hl, h⟩ := h; unfold PySem.W.instObj at hl; wp_walk using wpAny_loadPart' hl, wpAny_load hl; exact ⟨_, rfl, h⟩
theorem str_ne_i {l C dx : Addr} {b : Str} {u : Tok} :
    Meets (Builtin.«str.__ne__» ⟨[.str b u, .ref l], []⟩) (fun _ R s => s.heap.get? l = some (PySem.W.instObj C dx) ∧ R (.ok (.ret .notImplemented)) s) :=
  .of_wp fun prog w A R s h => by obtain ⟨hp, g, d, tk, os⟩ := s; obtain ⟨hl, h⟩ := h; unfold PySem.W.instObj at hl; wp_walk using wpAny_loadPart' hl, wpAny_load hl; exact ⟨_, rfl, h⟩
theorem none_ne_i {l C dx : Addr}  :
    Meets (Builtin.«NoneType.__ne__» ⟨[.none, .ref l], []⟩) (fun _ R s => s.heap.get? l = some (PySem.W.instObj C dx) ∧ R (.ok (.ret .notImplemented)) s) :=
  .of_wp fun prog w A R s h => by obtain ⟨hp, g, d, tk, os⟩ := s; obtain ⟨hl, h⟩ := h; unfold PySem.W.instObj at hl; wp_walk using wpAny_loadPart' hl, wpAny_load hl; exact ⟨_, rfl, h⟩
theorem list_eq_i {prog : Program} {w : World} {l b : Addr} :
    MeetsIn prog w (Builtin.«list.__eq__» ⟨[.ref l, .ref b], []⟩) (fun A R s => (∀ (A : Around) (Q : Bool → Shared → Prop) (E : Value → Shared → Prop), Q false s → wpAny (model prog w) A (isInstance (.ref b) (.type "list")) Q E s) ∧ R (.ok (.ret .notImplemented)) s) :=
  .of_wp fun A R s h => by obtain ⟨hp, g, d, tk, os⟩ := s; obtain ⟨hi, h⟩ := h; wp_walk using hi; exact ⟨_, rfl, h⟩
theorem list_ne_i {prog : Program} {w : World} {l b : Addr} :
    MeetsIn prog w (Builtin.«list.__ne__» ⟨[.ref l, .ref b], []⟩) (fun A R s => (∀ (A : Around) (Q : Bool → Shared → Prop) (E : Value → Shared → Prop), Q false s → wpAny (model prog w) A (isInstance (.ref b) (.type "list")) Q E s) ∧ R (.ok (.ret .notImplemented)) s) :=
  .of_wp fun A R s h => by obtain ⟨hp, g, d, tk, os⟩ := s; obtain ⟨hi, h⟩ := h; wp_walk using hi; exact ⟨_, rfl, h⟩
theorem tuple_eq_i {prog : Program} {w : World} {l b : Addr} :
    MeetsIn prog w (Builtin.«tuple.__eq__» ⟨[.ref l, .ref b], []⟩) (fun A R s => (∀ (A : Around) (Q : Bool → Shared → Prop) (E : Value → Shared → Prop), Q false s → wpAny (model prog w) A (isInstance (.ref b) (.type "tuple")) Q E s) ∧ R (.ok (.ret .notImplemented)) s) :=
  .of_wp fun A R s h => by obtain ⟨hp, g, d, tk, os⟩ := s; obtain ⟨hi, h⟩ := h; wp_walk using hi; exact ⟨_, rfl, h⟩
theorem tuple_ne_i {prog : Program} {w : World} {l b : Addr} :
    MeetsIn prog w (Builtin.«tuple.__ne__» ⟨[.ref l, .ref b], []⟩) (fun A R s => (∀ (A : Around) (Q : Bool → Shared → Prop) (E : Value → Shared → Prop), Q false s → wpAny (model prog w) A (isInstance (.ref b) (.type "tuple")) Q E s) ∧ R (.ok (.ret .notImplemented)) s) :=
  .of_wp fun A R s h => by obtain ⟨hp, g, d, tk, os⟩ := s; obtain ⟨hi, h⟩ := h; wp_walk using hi; exact ⟨_, rfl, h⟩
theorem dict_eq_i {prog : Program} {w : World} {l b : Addr} :
    MeetsIn prog w (Builtin.«dict.__eq__» ⟨[.ref l, .ref b], []⟩) (fun A R s => (∀ (A : Around) (Q : Bool → Shared → Prop) (E : Value → Shared → Prop), Q false s → wpAny (model prog w) A (isInstance (.ref b) (.type "dict")) Q E s) ∧ R (.ok (.ret .notImplemented)) s) :=
  .of_wp fun A R s h => by obtain ⟨hp, g, d, tk, os⟩ := s; obtain ⟨hi, h⟩ := h; wp_walk using hi; exact ⟨_, rfl, h⟩
theorem dict_ne_i {prog : Program} {w : World} {l b : Addr} :
    MeetsIn prog w (Builtin.«dict.__ne__» ⟨[.ref l, .ref b], []⟩) (fun A R s => (∀ (A : Around) (Q : Bool → Shared → Prop) (E : Value → Shared → Prop), Q false s → wpAny (model prog w) A (isInstance (.ref b) (.type "dict")) Q E s) ∧ R (.ok (.ret .notImplemented)) s) :=
  .of_wp fun A R s h => by obtain ⟨hp, g, d, tk, os⟩ := s; obtain ⟨hi, h⟩ := h; wp_walk using hi; exact ⟨_, rfl, h⟩
section
variable {prog : Program} {w : World} {A : Around} {E : Value → Shared → Prop} {s : Shared} {K : PySem.W.Frag} {x C f L : Addr} {h₀ : Heap} {m : Str → Option Value} {ox : Obj} {od : Option Obj} {a : Value} {T id : String}
theorem refl_eq {Q : Value → Shared → Prop} (hu : A.units < cLine) (F : Fr h₀ L s.heap m) (X₀ : K.In h₀) (I : PySem.W.InstAt s.heap x ox C od) (ha : s.TypeIs a T) (hsub : PySem.W.subIn K (.ref C) (.type T) = some false) (h1 : Slot T (cmpInfo .Eq).2.1 id)
    (hc : ∀ Q' : Value → Shared → Prop, Q' .notImplemented s → wpAny (model prog w) A (call (.builtin id) [a, .ref x]) Q' E s)
    (hs : PySem.W.findIn K (.ref C) "__eq__" = some (some (.ref f))) (hf : PySem.W.isFn K (.ref f) = true)
    (h : wpAny (model prog w) A (call (.ref f) [.ref x, a]) (PySem.W.CmpBack Q) E s) : wpAny (model prog w) A (richCompare .Eq a (.ref x)) Q E s := by
  have X := X₀.keeps F.keep
  have one : wpAny (model prog w) A (tryCompare (.ref x) (cmpInfo .Eq).2.2 a) (fun r s' => ∃ v, r = some v ∧ Q v s') E s := by
    unfold tryCompare
    refine wpAny_bind (PySem.W.ifBound_K X I hs hf (wpAny_mono h (fun v s' hv => ?_) fun _ _ e => e))
    cases v <;> first | exact hv.elim | exact wpAny_pure ⟨_, rfl, hv⟩
  unfold richCompare
  simp only [ha.oneThing_none]
  refine wpAny_holding (wpAny_bind (wpAny_cRoomFor hu ?_))
  refine wpAny_bind (wpAny_typeOf ha (wpAny_bind (I.type.here ?_)))
  have hne : (Value.type T != Value.ref C) = true := rfl
  simp only [hne, if_true]
  refine wpAny_bind ((PySem.W.looks_subIn X hsub).here ?_)
  simp only [Bool.false_eq_true, if_false, Bool.not_false, if_true]
  refine wpAny_bind (m := tryCompare a _ (.ref x)) (wpAny_tryCompare_declines ha h1 (hc _ ⟨rfl, ?_⟩))
  refine wpAny_bind (m := tryCompare (.ref x) _ a) (wpAny_mono one (fun r s' z => ?_) fun _ _ e => e)
  obtain ⟨v, rfl, hq⟩ := z
  exact wpAny_pure hq
theorem refl_ne {Q : Value → Shared → Prop} (hu : A.in1.units < cLine) (hu0 : A.units < cLine) (F : Fr h₀ L s.heap m) (X₀ : K.In h₀) (I : PySem.W.InstAt s.heap x ox C od) (ha : s.TypeIs a T) (hsub : PySem.W.subIn K (.ref C) (.type T) = some false) (h1 : Slot T (cmpInfo .NotEq).2.1 id)
    (hc : ∀ Q' : Value → Shared → Prop, Q' .notImplemented s → wpAny (model prog w) A (call (.builtin id) [a, .ref x]) Q' E s)
    (hne : PySem.W.findIn K (.ref C) "__ne__" = some (some (.builtin "object.__ne__"))) (hi : PySem.W.subIn K (.ref C) (.type "object") = some true)
    (hs : PySem.W.findIn K (.ref C) "__eq__" = some (some (.ref f))) (hf : PySem.W.isFn K (.ref f) = true)
    (h : wpAny (model prog w) A.in1 (call (.ref f) [.ref x, a]) (fun v s' => ∃ r, v = .bool r ∧ Q (.bool (!r)) s') E s) : wpAny (model prog w) A (richCompare .NotEq a (.ref x)) Q E s := by
  have X := X₀.keeps F.keep
  have one : wpAny (model prog w) A (tryCompare (.ref x) "__ne__" a) (fun r s' => ∃ v, r = some v ∧ Q v s') E s := by
    unfold tryCompare
    refine wpAny_bind ?_
    simp only [callSpecialIfBound?, bindSpecialIfBound?]
    refine wpAny_holding (wpAny_bind (wpAny_bind (wpAny_bind (I.type.here ((PySem.W.looks_findIn X hne).here ?_)))))
    simp only [slot_ne.bind]
    refine wpAny_bind (wpAny_askSetting (wpAny_ite ?_))
    have fin : ∀ {Q' : Option Value → Shared → Prop}, (∀ r s', Q (.bool (!r)) s' → Q' (some (.bool (!r))) s') → wpAny (model prog w) A (call (.builtin "object.__ne__") ([.ref x] ++ [a]) >>= fun v => pure (some v)) Q' E s := fun hq =>
      wpAny_bind (wpAny_mono (ne_call (Q := fun v s' => ∃ r, v = .bool (!r) ∧ Q (.bool (!r)) s') hu X I hi hs hf (wpAny_mono h (fun v s' ⟨r, e, z⟩ => ⟨r, e, r, rfl, z⟩) fun _ _ e => e)) (fun v s' ⟨r, e, z⟩ => by subst e; exact wpAny_pure (hq r s' z)) fun _ _ h' => h')
    have fin2 := fin (Q' := fun a s' => wpAny (model prog w) A (match a with | some .notImplemented | none => pure none | some v => pure (some v)) (fun r s' => ∃ v, r = some v ∧ Q v s') E s') fun r s' z => wpAny_pure ⟨_, rfl, z⟩
    split
    · exact wpAny_bind (wpAny_pure (wpAny_pure fin2))
    · exact wpAny_tryCatch (wpAny_bind (wpAny_pure (wpAny_pure fin2)))
  unfold richCompare
  simp only [ha.oneThing_none]
  refine wpAny_holding (wpAny_bind (wpAny_cRoomFor hu0 ?_))
  refine wpAny_bind (wpAny_typeOf ha (wpAny_bind (I.type.here ?_)))
  have hne2 : (Value.type T != Value.ref C) = true := rfl
  simp only [hne2, if_true]
  refine wpAny_bind ((PySem.W.looks_subIn X hsub).here ?_)
  simp only [Bool.false_eq_true, if_false, Bool.not_false, if_true]
  refine wpAny_bind (m := tryCompare a _ (.ref x)) (wpAny_tryCompare_declines ha h1 (hc _ ⟨rfl, ?_⟩))
  refine wpAny_bind (m := tryCompare (.ref x) _ a) (wpAny_mono one (fun r s' z => ?_) fun _ _ e => e)
  obtain ⟨v, rfl, hq⟩ := z
  exact wpAny_pure hq
end
theorem eq_ni {X : Cx} {pins : List (Addr × Obj)} {σ : L2.St} {H : Hp} {s : Shared} {v : V} {u : Value} {T : String} {x C dx : Addr} {od : Option Obj} {ox : Obj} (I : Inv X pins σ H s) (rx : RelV v u) (t : TyB X.K H v T) (hb : T ≠ "bytes") (hx : s.heap.get? x = some (PySem.W.instObj C dx))
    (J : PySem.W.InstAt s.heap x ox C od) (hsub : PySem.W.subIn X.K (.ref C) (.type T) = some false) :
    ∃ id : String, Slot T (cmpInfo .Eq).2.1 id ∧ ∀ (A : Around) (E : Value → Shared → Prop) (Q' : Value → Shared → Prop), Q' .notImplemented s → wpAny (model X.prog X.w) A (call (.builtin id) [u, .ref x]) Q' E s := by
  have hT := t.is I rx
  have hi : ∀ (A : Around) (Q : Bool → Shared → Prop) (E : Value → Shared → Prop), Q false s → wpAny (model X.prog X.w) A (isInstance (.ref x) (.type T)) Q E s := fun A Q E q => (show PySem.W.Looks (model X.prog X.w) s.heap (isInstance (.ref x) (.type T)) false from J.type.andThen (PySem.W.looks_subIn I.kIn hsub)).here q
  cases t with
  | non => cases (show u = Value.none from rx); exact ⟨_, F.slot_NoneType_eq, fun A E Q' hq => call_meets F.slot_NoneType_eq hT F.entry_NoneType_eq (F.args_NoneType_eq_2 _ _) none_eq_i ⟨hx, hq⟩⟩
  | bl b => cases (show u = Value.bool b from rx); exact ⟨_, F.slot_bool_eq, fun A E Q' hq => call_meets F.slot_bool_eq hT F.entry_int_eq (F.args_int_eq_2 _ _) bool_eq_i ⟨hx, hq⟩⟩
  | int i => obtain ⟨k, rfl⟩ := (show ∃ t, u = Value.int i t from rx); exact ⟨_, F.slot_int_eq, fun A E Q' hq => call_meets F.slot_int_eq hT F.entry_int_eq (F.args_int_eq_2 _ _) int_eq_i ⟨hx, hq⟩⟩
  | str y => obtain ⟨k, rfl⟩ := (show ∃ t, u = Value.str y t from rx); exact ⟨_, F.slot_str_eq, fun A E Q' hq => call_meets F.slot_str_eq hT F.entry_str_eq (F.args_str_eq_2 _ _) str_eq_i ⟨hx, hq⟩⟩
  | byt b => exact absurd rfl hb
  | lst h => cases rx; exact ⟨_, F.slot_list_eq, fun A E Q' hq => call_meetsIn F.slot_list_eq hT F.entry_list_eq (F.args_list_eq_2 _ _) list_eq_i ⟨hi, hq⟩⟩
  | tup h => cases rx; exact ⟨_, F.slot_tuple_eq, fun A E Q' hq => call_meetsIn F.slot_tuple_eq hT F.entry_tuple_eq (F.args_tuple_eq_2 _ _) tuple_eq_i ⟨hi, hq⟩⟩
  | dK h => cases rx; exact ⟨_, F.slot_dict_eq, fun A E Q' hq => call_meetsIn F.slot_dict_eq hT F.entry_dict_eq (F.args_dict_eq_2 _ _) dict_eq_i ⟨hi, hq⟩⟩
theorem ne_ni {X : Cx} {pins : List (Addr × Obj)} {σ : L2.St} {H : Hp} {s : Shared} {v : V} {u : Value} {T : String} {x C dx : Addr} {od : Option Obj} {ox : Obj} (I : Inv X pins σ H s) (rx : RelV v u) (t : TyB X.K H v T) (hb : T ≠ "bytes") (hx : s.heap.get? x = some (PySem.W.instObj C dx))
    (J : PySem.W.InstAt s.heap x ox C od) (hsub : PySem.W.subIn X.K (.ref C) (.type T) = some false) :
    ∃ id : String, Slot T (cmpInfo .NotEq).2.1 id ∧ ∀ (A : Around) (E : Value → Shared → Prop) (Q' : Value → Shared → Prop), Q' .notImplemented s → wpAny (model X.prog X.w) A (call (.builtin id) [u, .ref x]) Q' E s := by
  have hT := t.is I rx
  have hi : ∀ (A : Around) (Q : Bool → Shared → Prop) (E : Value → Shared → Prop), Q false s → wpAny (model X.prog X.w) A (isInstance (.ref x) (.type T)) Q E s := fun A Q E q => (show PySem.W.Looks (model X.prog X.w) s.heap (isInstance (.ref x) (.type T)) false from J.type.andThen (PySem.W.looks_subIn I.kIn hsub)).here q
  cases t with
  | non => cases (show u = Value.none from rx); exact ⟨_, F.slot_NoneType_ne, fun A E Q' hq => call_meets F.slot_NoneType_ne hT F.entry_NoneType_ne (F.args_NoneType_ne_2 _ _) none_ne_i ⟨hx, hq⟩⟩
  | bl b => cases (show u = Value.bool b from rx); exact ⟨_, F.slot_bool_ne, fun A E Q' hq => call_meets F.slot_bool_ne hT F.entry_int_ne (F.args_int_ne_2 _ _) bool_ne_i ⟨hx, hq⟩⟩
  | int i => obtain ⟨k, rfl⟩ := (show ∃ t, u = Value.int i t from rx); exact ⟨_, F.slot_int_ne, fun A E Q' hq => call_meets F.slot_int_ne hT F.entry_int_ne (F.args_int_ne_2 _ _) int_ne_i ⟨hx, hq⟩⟩
  | str y => obtain ⟨k, rfl⟩ := (show ∃ t, u = Value.str y t from rx); exact ⟨_, F.slot_str_ne, fun A E Q' hq => call_meets F.slot_str_ne hT F.entry_str_ne (F.args_str_ne_2 _ _) str_ne_i ⟨hx, hq⟩⟩
  | byt b => exact absurd rfl hb
  | lst h => cases rx; exact ⟨_, F.slot_list_ne, fun A E Q' hq => call_meetsIn F.slot_list_ne hT F.entry_list_ne (F.args_list_ne_2 _ _) list_ne_i ⟨hi, hq⟩⟩
  | tup h => cases rx; exact ⟨_, F.slot_tuple_ne, fun A E Q' hq => call_meetsIn F.slot_tuple_ne hT F.entry_tuple_ne (F.args_tuple_ne_2 _ _) tuple_ne_i ⟨hi, hq⟩⟩
  | dK h => cases rx; exact ⟨_, F.slot_dict_ne, fun A E Q' hq => call_meetsIn F.slot_dict_ne hT F.entry_dict_ne (F.args_dict_ne_2 _ _) dict_ne_i ⟨hi, hq⟩⟩
end DL
set_option maxRecDepth 100000
set_option maxHeartbeats 4000000
namespace DL
open PySem PySem.Spec PyProof.Rows L2
theorem SD.tyB {K : PySem.W.Frag} {H0 H : Hp} {M : Mem} (S : SD K H0 H M) {v : V} {d : D} {t : String} (h : Dn K H0 v d) (e : tyD M d = some t) : TyB K H v t := by
  cases h with
  | non => cases e; exact .non
  | bl b => cases e; exact .bl b
  | int b => cases e; exact .int b
  | str b => cases e; exact .str b
  | ty n => cases e
  | lst q r => cases e; exact .lst (SqL.of (S.ex _ _ q))
  | lsf q r => cases e; exact .lst (S.ex.sqL q)
  | tup q r => cases e; exact .tup (S.ex.sqT q)
  | dic q r => cases e; exact .dK (S.ex _ _ q)
  | ins q r => cases e
  | cel a =>
    have e' : (match M a with | some (.ls _) => some "list" | some (.dc _) => some "dict" | _ => none) = some t := e
    split at e'
    · rename_i xs hm
      cases e'
      obtain ⟨_, vs, e1, r⟩ := S.cell a xs hm
      exact .lst (SqL.of e1)
    · rename_i kvs hm
      cases e'
      obtain ⟨_, rs, hr, _⟩ := S.dict hm
      exact .dK hr
    · cases e'
/-- what == and != with others ask of the class -/
structure EqT (K : PySem.W.Frag) (C : Addr) : Prop where
  no1 : ∀ t : String, t ∈ ["NoneType", "bool", "int", "str", "list", "tuple", "dict"] → PySem.W.subIn K (.type t) (.ref C) = some false
  no2 : ∀ t : String, t ∈ ["NoneType", "bool", "int", "str", "list", "tuple", "dict"] → PySem.W.subIn K (.ref C) (.type t) = some false
theorem no_bytes {t : String} (h : t ∈ ["NoneType", "bool", "int", "str", "list", "tuple", "dict"]) : t ≠ "bytes" := fun e => by subst e; revert h; decide
/-- o == p: both of the class, or one a plain thing -/
def rdEqT (C : Addr) (sd : SpD) : RD2 := fun x y M q => ((∃ fs, fsOf M C x = some fs) ∧ (∃ t, tyD M y = some t) ∧ sd [x, y] M (fun v M1 => ∃ b, v = .bl b ∧ q v M1) noX) ∨ ((∃ t, tyD M x = some t) ∧ (∃ gs, fsOf M C y = some gs) ∧ sd [y, x] M (fun v M1 => ∃ b, v = .bl b ∧ q v M1) noX) ∨ rdEqO C sd x y M q
def rdNeT (C : Addr) (sd : SpD) : RD2 := fun x y M q => ((∃ fs, fsOf M C x = some fs) ∧ (∃ t, tyD M y = some t) ∧ sd [x, y] M (fun v M1 => ∃ b, v = .bl b ∧ q (.bl (!b)) M1) noX) ∨ ((∃ t, tyD M x = some t) ∧ (∃ gs, fsOf M C y = some gs) ∧ sd [y, x] M (fun v M1 => ∃ b, v = .bl b ∧ q (.bl (!b)) M1) noX) ∨ rdNeO C sd x y M q
theorem looks_ty {M : Model} {s : Shared} {u : Value} {T : String} (h : s.TypeIs u T) : PySem.W.Looks M s.heap (typeOf u) (.type T) := by
  intro A Q E s1 kp hq
  refine wpAny_typeOf ?_ hq
  cases u with
  | ref a => obtain ⟨o, h1, h2⟩ := h; exact ⟨o, kp _ _ h1, h2⟩
  | _ => exact h
section
variable {X : Cx} {W : WX}
theorem opd_eqT {k : Nat} {C : Addr} {sd : SpD} (F : Mok X.prog X.w X.K X.mg X.base C "__eq__" k 2 sd) (T : EqT X.K C) (hr : Room k X.A) : OpD X (compareOp .Eq) (rdEqT C sd) := by
  obtain ⟨r3, o3, z3⟩ := opd_eqO F hr
  obtain ⟨c, f, fd, ps, hm, hfn, hb, F⟩ := F
  refine ⟨fun x y H Q => (∃ a dx fs t, x = .ref a ∧ H a = some (.ins C dx fs) ∧ TyB X.K H y t ∧ t ∈ ["NoneType", "bool", "int", "str", "list", "tuple", "dict"] ∧ spOf X.K 2 sd [x, y] H (fun v H' => ∃ b, v = .bl b ∧ Q v H') E0) ∨
      (∃ a dx fs t, y = .ref a ∧ H a = some (.ins C dx fs) ∧ TyB X.K H x t ∧ t ∈ ["NoneType", "bool", "int", "str", "list", "tuple", "dict"] ∧ spOf X.K 2 sd [y, x] H (fun v H' => ∃ b, v = .bl b ∧ Q v H') E0) ∨ r3 x y H Q, fun pins s σ H x y v u Q I rx ry h => ?_, fun H0 H M x y dx dy q Q S hx hy w k => ?_⟩
  · rcases h with ⟨a, dx, fs, t, rfl, ea, ht, hin, h⟩ | ⟨a, dx, fs, t, rfl, ea, ht, hin, h⟩ | h
    · obtain rfl : v = Value.ref a := rx
      obtain ⟨mA, J, _⟩ := ins_get I.hok ea
      obtain ⟨od, J, _⟩ := J.look
      obtain ⟨m, hF⟩ := I.fr
      refine PySem.W.cmp_K (op := .Eq) (tb := .type t) (by have := hr.un; omega) hF I.ok.mod.kin J (looks_ty (ht.is I ry)) (by unfold PySem.W.notFirst; rw [T.no1 t hin]; simp) hm.at_ hm.fn (wpAny_mono (run_own F hr hb rfl I (.cons (show RelV (.ref a) (.ref a) from rfl) (.cons ry .nil)) h) (fun r s' ⟨v', H', I', rv, b, ev, q⟩ => ?_) fun _ _ z => z)
      subst ev
      cases rv
      exact ⟨.bl b, H', I', rfl, q⟩
    · obtain rfl : u = Value.ref a := ry
      obtain ⟨mA, J0, _⟩ := ins_get I.hok ea
      obtain ⟨od, J, _⟩ := J0.look
      obtain ⟨m, hF⟩ := I.fr
      obtain ⟨id, sl, hc⟩ := eq_ni I rx ht (no_bytes hin) J0.obj J (T.no2 t hin)
      refine refl_eq (by have := hr.un; omega) hF I.ok.mod.kin J (ht.is I rx) (T.no2 t hin) sl (fun Q' hq => hc _ _ Q' hq) hm.at_ hm.fn (wpAny_mono (run_own F hr hb rfl I (.cons (show RelV (.ref a) (.ref a) from rfl) (.cons rx .nil)) h) (fun r s' ⟨v', H', I', rv, b, ev, q⟩ => ?_) fun _ _ z => z)
      subst ev
      cases rv
      exact ⟨.bl b, H', I', rfl, q⟩
    · exact o3 pins s σ H x y v u Q I rx ry h
  · rcases w with ⟨⟨fs, ef⟩, ⟨t, et⟩, w⟩ | ⟨⟨t, et⟩, ⟨fs, ef⟩, w⟩ | w
    · obtain ⟨a, dd, fvs, rfl, q1, r⟩ := S.obj hx ef
      exact .inl ⟨a, dd, fvs, t, rfl, q1, S.tyB hy et, tyD_in et, [dx, dy], M, _, noX, H0, rfl, .cons hx (.cons hy .nil), S, w, fun v d H0' H' M' e S' rv ⟨b, ed, z⟩ => by subst ed; exact ⟨b, rv.inv_bl, k _ _ H0' H' M' e S' rv z⟩, kx0⟩
    · obtain ⟨a, dd, fvs, rfl, q1, r⟩ := S.obj hy ef
      exact .inr (.inl ⟨a, dd, fvs, t, rfl, q1, S.tyB hx et, tyD_in et, [dy, dx], M, _, noX, H0, rfl, .cons hy (.cons hx .nil), S, w, fun v d H0' H' M' e S' rv ⟨b, ed, z⟩ => by subst ed; exact ⟨b, rv.inv_bl, k _ _ H0' H' M' e S' rv z⟩, kx0⟩)
    · exact .inr (.inr (z3 H0 H M x y dx dy q Q S hx hy w k))
theorem opd_neT {k : Nat} {C : Addr} {sd : SpD} (F : Mok X.prog X.w X.K X.mg X.base C "__eq__" k 2 sd) (hne : NeI X.K C) (T : EqT X.K C) (hr : Room (k + 1) X.A) : OpD X (compareOp .NotEq) (rdNeT C sd) := by
  obtain ⟨r3, o3, z3⟩ := opd_neO F hne hr
  obtain ⟨c, f, fd, ps, hm, hfn, hb, F⟩ := F
  refine ⟨fun x y H Q => (∃ a dx fs t, x = .ref a ∧ H a = some (.ins C dx fs) ∧ TyB X.K H y t ∧ t ∈ ["NoneType", "bool", "int", "str", "list", "tuple", "dict"] ∧ spOf X.K 2 sd [x, y] H (fun v H' => ∃ b, v = .bl b ∧ Q (.bl (!b)) H') E0) ∨
      (∃ a dx fs t, y = .ref a ∧ H a = some (.ins C dx fs) ∧ TyB X.K H x t ∧ t ∈ ["NoneType", "bool", "int", "str", "list", "tuple", "dict"] ∧ spOf X.K 2 sd [y, x] H (fun v H' => ∃ b, v = .bl b ∧ Q (.bl (!b)) H') E0) ∨ r3 x y H Q, fun pins s σ H x y v u Q I rx ry h => ?_, fun H0 H M x y dx dy q Q S hx hy w k => ?_⟩
  · rcases h with ⟨a, dx, fs, t, rfl, ea, ht, hin, h⟩ | ⟨a, dx, fs, t, rfl, ea, ht, hin, h⟩ | h
    · obtain rfl : v = Value.ref a := rx
      obtain ⟨mA, J, _⟩ := ins_get I.hok ea
      obtain ⟨od, J, _⟩ := J.look
      obtain ⟨m, hF⟩ := I.fr
      have h1 := hr.in1.un
      have h0 := hr.un
      refine ne_K (tb := .type t) (by omega) (by omega) hF I.ok.mod.kin J (looks_ty (ht.is I ry)) (by unfold PySem.W.notFirst; rw [T.no1 t hin]; simp) hne.1 hne.2 hm.at_ hm.fn (wpAny_mono (run_own F hr.in1 hb rfl I (.cons (show RelV (.ref a) (.ref a) from rfl) (.cons ry .nil)) h) (fun r s' ⟨v', H', I', rv, b, ev, q⟩ => ?_) fun _ _ z => z)
      subst ev
      cases rv
      exact ⟨b, rfl, .bl (!b), H', I', rfl, q⟩
    · obtain rfl : u = Value.ref a := ry
      obtain ⟨mA, J0, _⟩ := ins_get I.hok ea
      obtain ⟨od, J, _⟩ := J0.look
      obtain ⟨m, hF⟩ := I.fr
      have h1 := hr.in1.un
      have h0 := hr.un
      obtain ⟨id, sl, hc⟩ := ne_ni I rx ht (no_bytes hin) J0.obj J (T.no2 t hin)
      refine refl_ne (by omega) (by omega) hF I.ok.mod.kin J (ht.is I rx) (T.no2 t hin) sl (fun Q' hq => hc _ _ Q' hq) hne.1 hne.2 hm.at_ hm.fn (wpAny_mono (run_own F hr.in1 hb rfl I (.cons (show RelV (.ref a) (.ref a) from rfl) (.cons rx .nil)) h) (fun r s' ⟨v', H', I', rv, b, ev, q⟩ => ?_) fun _ _ z => z)
      subst ev
      cases rv
      exact ⟨b, rfl, .bl (!b), H', I', rfl, q⟩
    · exact o3 pins s σ H x y v u Q I rx ry h
  · rcases w with ⟨⟨fs, ef⟩, ⟨t, et⟩, w⟩ | ⟨⟨t, et⟩, ⟨fs, ef⟩, w⟩ | w
    · obtain ⟨a, dd, fvs, rfl, q1, r⟩ := S.obj hx ef
      exact .inl ⟨a, dd, fvs, t, rfl, q1, S.tyB hy et, tyD_in et, [dx, dy], M, _, noX, H0, rfl, .cons hx (.cons hy .nil), S, w, fun v d H0' H' M' e S' rv ⟨b, ed, z⟩ => by subst ed; exact ⟨b, rv.inv_bl, k _ _ H0' H' M' e S' (.bl _) z⟩, kx0⟩
    · obtain ⟨a, dd, fvs, rfl, q1, r⟩ := S.obj hy ef
      exact .inr (.inl ⟨a, dd, fvs, t, rfl, q1, S.tyB hx et, tyD_in et, [dy, dx], M, _, noX, H0, rfl, .cons hy (.cons hx .nil), S, w, fun v d H0' H' M' e S' rv ⟨b, ed, z⟩ => by subst ed; exact ⟨b, rv.inv_bl, k _ _ H0' H' M' e S' (.bl _) z⟩, kx0⟩)
    · exact .inr (.inr (z3 H0 H M x y dx dy q Q S hx hy w k))
end
end DL
set_option maxRecDepth 100000
set_option maxHeartbeats 4000000
namespace DL
open PySem PySem.Spec PyProof.Rows L2
section
variable {X : Cx} {W : WX}
/-- {k: v} -/
@[reducible] def dDic1 (dk dv : DE) : DE := fun env M q E => ∀ p, M p = none → dk env (mset M p (.dc [])) (fun x M1 => dv env M1 (fun y M2 => ∃ k, keyD x = some k ∧ M2 p = some (.dc []) ∧ q (.cel p) (mset M2 p (.dc [(k, y)]))) E) E
theorem pd_dic1 {ke ve : Expr} {dk dv : DE} {pos : Pos} (hk : PD X W ke dk) (hv : PD X W ve dv) : PD X W (.Dict [some ke] [ve] pos) (dDic1 dk dv) :=
  peImp (pe_disp (pps_cons hk hv pps_nil) rfl rfl (by simp) (by simp)) fun σ H Q ⟨env, M, q, E, H0, so, S, h, k, kx⟩ => fun p hp => by
    have n0 := (S.fresh hp).1
    have S1 : SD X.K H0 (upd H p (.dK [])) (mset M p (.dc [])) := S.put (x := .dc []) n0 fun _ e => ⟨[], e, .nil⟩
    refine goE so S1 (h p (S.fresh hp).2) kx fun x dx H1 H' M1 e1 so1 S2 rx w kx1 => goE so1 S2 w kx1 fun y dy H2 H'' M2 e2 so2 S3 ry ⟨kk, ek, em, w2⟩ kx2 => ?_
    obtain ⟨n2, rs, hr, kv⟩ := S3.dict em
    cases kv
    refine ⟨hr, [(kk, y)], ?_, by simp, ?_⟩
    · rw [keyD_dn (rx.mono e2) ek]; rfl
    · exact k _ _ H2 _ _ (e1.trans e2) (S3.dput (s := [(kk, dy)]) (r := [(kk, y)]) n2 (.cons ry .nil)) (.cel p) w2
end
end DL
set_option maxRecDepth 100000
namespace L08
open PySem PySem.Spec PyProof.Rows L2 DL R
def sd_Ring___eq__ (C : Addr) : SpD := fun ds M q _ => (∃ (size : Int) (r : Rule) (hs : List Host) (size' : Int) (r' : Rule) (hs' : List Host), ds = [ringD C size r hs, ringD C size' r' hs'] ∧ RuleOk r ∧ RuleOk r' ∧ CrewOk size hs ∧ CrewOk size' hs' ∧ q (.bl (decide (size = size' ∧ r = r' ∧ hs = hs'))) M) ∨
  ∃ (size : Int) (r : Rule) (hs : List Host) (d : D) (t : String), ds = [ringD C size r hs, d] ∧ tyD M d = some t ∧ q (.bl false) M
def sd_pair_right (C : Addr) : SpD := fun ds M q _ => ∃ (size : Int) (r : Rule) (hs : List Host) (d : D) (b : Bool), ds = [ringD C size r hs, d, .bl b] ∧ RuleOk r ∧ CrewOk size hs ∧ ((∃ (size' : Int) (r' : Rule) (hs' : List Host), d = ringD C size' r' hs' ∧ RuleOk r' ∧ CrewOk size' hs' ∧ b = decide (size = size' ∧ r = r' ∧ hs = hs')) ∨ ∃ t, tyD M d = some t ∧ b = false) ∧ q (.bl true) M
def sd_value (C : Addr) : SpD := fun ds M q _ => ∃ (k : Addr) (g : Int), ds = [.cel k] ∧ Kg M k g ∧ g < 1099511627776 ∧ ∀ d M', (∃ t, tyD M' d = some t) → KeptB k M M' → Kg M' k (g + 1) → q d M'
def sd_other_crew (C : Addr) : SpD := fun ds M q _ => ∃ (k : Addr) (g size : Int) (hs : List Host), ds = [.cel k, .int size, crewD hs] ∧ 1 ≤ size ∧ size ≤ 1000000000000000000 ∧ CrewOk size hs ∧ Kg M k g ∧ g + 10 < 1099511627776 ∧ ∀ hs' M', CrewOk size hs' → KeptB k M M' → Kg M' k (g + 2) → q (crewD hs') M'
def sd_other (C : Addr) : SpD := fun ds M q _ => ∃ (k : Addr) (g size : Int) (r : Rule) (hs : List Host), ds = [.cel k, .lst (frameL size r hs)] ∧ 1 ≤ size ∧ size ≤ 1000000000000000000 ∧ RuleOk r ∧ CrewOk size hs ∧ Kg M k g ∧ g + 30000 < 1099511627776 ∧
  ∀ size' r' hs' M', 1 ≤ size' → size' ≤ 1000000000000000000 → RuleOk r' → CrewOk size' hs' → KeptB k M M' → Kg M' k (g + 20010) → q (.lst (frameL size' r' hs')) M'
def sd_right (C : Addr) : SpD := fun ds M q _ => ∃ (k : Addr), ds = [.cel k] ∧ Kg M k 0 ∧ ∀ M', KeptB k M M' → q (.bl true) M'
def sd_law (C : Addr) : SpD := fun ds M q _ => ∃ (ns : List Int), ds = [.lsf (ns.map D.int)] ∧ ns.length ≤ 63 ∧ (∀ n ∈ ns, Builtin.Int.intBits n ≤ 1048576) ∧ ∀ M', q (.bl true) M'
end L08
set_option maxRecDepth 100000
namespace L08
open PySem PySem.Spec PyProof.Rows L2 DL R
abbrev N_Ring___eq__ : List Str := ["self", "other"]
def db_Ring___eq__ (C : Addr) : DS :=
    (dRet (dAndV (dIsiC C (dVar 1)) (dAndV (dOp rdEq (dFld C "_points" (dVar 0)) (dFld C "_points" (dVar 1))) (dAndV (dOp rdEq (dFld C "_factor" (dVar 0)) (dFld C "_factor" (dVar 1))) (dAndV (dOp rdEq (dFld C "_spread" (dVar 0)) (dFld C "_spread" (dVar 1))) (dAndV (dOp rdEq (dFld C "_write" (dVar 0)) (dFld C "_write" (dVar 1))) (dAndV (dOp rdEq (dFld C "_read_number" (dVar 0)) (dFld C "_read_number" (dVar 1))) (dAndV (dOp rdEq (dFld C "_pending" (dVar 0)) (dFld C "_pending" (dVar 1))) (dOp rdEq (dFld C "_hosts" (dVar 0)) (dFld C "_hosts" (dVar 1)))))))))))
abbrev N_other_crew : List Str := ["_law_keg", "_law_size", "_law_crew", "_law_at", "_law_way", "_law_tag", "_law_bay", "_law_spots", "_law_taken", "_law_each", "_law_wishes_here", "_law_fresh", "_law_less", "_law_spot"]
def db_other_crew (C : Addr) : DS :=
    (dSeq (dPar2 3 4 (dCons (dCall 2 (sd_dip C) (dCons (dVar 0) (dCons (dCB rdLen (dCons (dVar 2) dNil)) dNil))) (dCons (dCall 2 (sd_dip C) (dCons (dVar 0) (dCons (dC (.int 8)) dNil))) dNil)))
    (dSeq (dAsg (dOp rdIx (dVar 2) (dVar 3)) (gdTup 3 (gdCons (gdName 5) (gdCons (gdName 6) (gdCons (gdName 7) gdNil)))))
    (dSeq (dSet 8 (dLst dNil))
    (dSeq (dFor (dIter (dVar 2)) (gdName 9) (dSet 8 (dOp rdAdd (dVar 8) (dCB rdList (dCons (dOp rdIx (dVar 9) (dC (.int 2))) dNil)))))
    (dSeq (dSet 10 (dLst (dCons (dC (.int 0)) (dCons (dOp rdSub (dVar 1) (dC (.int 1))) (dCons (dOp rdDiv (dVar 1) (dC (.int 2))) (dCons (dOp rdAdd (dOp rdIx (dVar 7) (dC (.int 0))) (dC (.int 1))) (dCons (dOp rdSub (dOp rdIx (dVar 7) (dUn rdNeg (dC (.int 1)))) (dC (.int 1))) dNil)))))))
    (dSeq (dSet 11 (dLc (dIter (dVar 10)) (gdName 13) (dAnd (dTst (dChn rdLe rdLt (dC (.int 0)) (dVar 13) (dVar 1))) (dTst (dOp (rdIn true) (dVar 13) (dVar 8)))) (dVar 13) [13]))
    (dSeq (dIfS (dTst (dOp rdEq (dVar 4) (dC (.int 0)))) (dRet (dOp rdAdd (dSl rdSl (dVar 2) (dPart (dVar 3)) dNo) (dSl rdSl (dVar 2) dNo (dPart (dVar 3))))) dNext)
    (dSeq (dIfS (dTst (dOp rdEq (dVar 4) (dC (.int 1)))) (dRet (dRevT (dVar 2))) dNext)
    (dSeq (dIfS (dAnd (dTst (dOp rdEq (dVar 4) (dC (.int 2)))) (dTst (dOp rdGt (dCB rdLen (dCons (dVar 2) dNil)) (dC (.int 1))))) (dRet (dOp rdAdd (dSl rdSl (dVar 2) dNo (dPart (dVar 3))) (dSl rdSl (dVar 2) (dPart (dOp rdAdd (dVar 3) (dC (.int 1)))) dNo))) dNext)
    (dSeq (dIfS (dTst (dOp rdEq (dVar 4) (dC (.int 3)))) (dRet (dOp rdAdd (dOp rdAdd (dSl rdSl (dVar 2) dNo (dPart (dVar 3))) (dTup (dCons (dTup (dCons (dVar 5) (dCons (dOp rdAdd (dSl rdSl (dVar 6) dNo (dPart (dC (.int 7)))) (dC (.str "z"))) (dCons (dVar 7) dNil)))) dNil))) (dSl rdSl (dVar 2) (dPart (dOp rdAdd (dVar 3) (dC (.int 1)))) dNo))) dNext)
    (dSeq (dIfS (dAnd (dTst (dOp rdEq (dVar 4) (dC (.int 4)))) (dTst (dOp (rdIn true) (dOp rdAdd (dSl rdSl (dVar 5) dNo (dPart (dC (.int 7)))) (dC (.str "z"))) (dLc (dIter (dVar 2)) (gdName 9) dYes (dOp rdIx (dVar 9) (dC (.int 0))) [9])))) (dRet (dOp rdAdd (dOp rdAdd (dSl rdSl (dVar 2) dNo (dPart (dVar 3))) (dTup (dCons (dTup (dCons (dOp rdAdd (dSl rdSl (dVar 5) dNo (dPart (dC (.int 7)))) (dC (.str "z"))) (dCons (dVar 6) (dCons (dVar 7) dNil)))) dNil))) (dSl rdSl (dVar 2) (dPart (dOp rdAdd (dVar 3) (dC (.int 1)))) dNo))) dNext)
    (dSeq (dIfS (dOr (dTst (dOp rdEq (dVar 11) (dLst dNil))) (dTst (dOp rdEq (dCB rdLen (dCons (dVar 7) dNil)) (dC (.int 16))))) (dSeq (dSet 12 (dIf (dTst (dOp rdGt (dCB rdLen (dCons (dVar 7) dNil)) (dC (.int 1)))) (dSl rdSl (dVar 7) dNo (dPart (dUn rdNeg (dC (.int 1))))) (dVar 7)))
    (dRet (dOp rdAdd (dOp rdAdd (dSl rdSl (dVar 2) dNo (dPart (dVar 3))) (dTup (dCons (dTup (dCons (dVar 5) (dCons (dVar 6) (dCons (dVar 12) dNil)))) dNil))) (dSl rdSl (dVar 2) (dPart (dOp rdAdd (dVar 3) (dC (.int 1)))) dNo)))) dNext)
    (dSeq (dIfS (dTst (dOp rdEq (dVar 4) (dC (.int 5)))) (dRet (dOp rdAdd (dOp rdAdd (dSl rdSl (dVar 2) dNo (dPart (dVar 3))) (dTup (dCons (dTup (dCons (dVar 5) (dCons (dVar 6) (dCons (dCB rdTuple (dCons (dCB rdSortIT (dCons (dOp rdAdd (dVar 7) (dTup (dCons (dOp rdIx (dVar 11) (dC (.int 0))) dNil))) dNil)) dNil)) dNil)))) dNil))) (dSl rdSl (dVar 2) (dPart (dOp rdAdd (dVar 3) (dC (.int 1)))) dNo))) dNext)
    (dRet (dOp rdAdd (dOp rdAdd (dSl rdSl (dVar 2) dNo (dPart (dVar 3))) (dTup (dCons (dTup (dCons (dVar 5) (dCons (dVar 6) (dCons (dCB rdTuple (dCons (dCB rdSortIT (dCons (dOp rdAdd (dSl rdSl (dVar 7) (dPart (dC (.int 1))) dNo) (dTup (dCons (dOp rdIx (dVar 11) (dUn rdNeg (dC (.int 1)))) dNil))) dNil)) dNil)) dNil)))) dNil))) (dSl rdSl (dVar 2) (dPart (dOp rdAdd (dVar 3) (dC (.int 1)))) dNo))))))))))))))))
abbrev N_value : List Str := ["_law_keg", "_law_menu"]
def db_value (C : Addr) : DS :=
    (dSeq (dSet 1 (dLst (dCons (dC .non) (dCons (dC (.bl true)) (dCons (dC (.bl false)) (dCons (dC (.int 0)) (dCons (dC (.int 1)) (dCons (dUn rdNeg (dC (.int 1))) (dCons (dC (.int 2)) (dCons (dOp rdPow (dC (.int 10)) (dC (.int 39))) (dCons (dC (.str "")) (dCons (dC (.str "a")) (dCons (dC (.str "hosts")) (dCons (dC (.str "5")) (dCons (dTup dNil) (dCons (dTup (dCons (dC (.int 0)) dNil)) (dCons (dLst dNil) (dCons (dLst (dCons (dC (.int 1)) dNil)) (dCons dDicC (dCons (dDic1 (dC (.str "a")) (dC (.int 1))) (dCons (dTup (dCons (dC (.str "a")) (dCons (dC .non) dNil))) dNil)))))))))))))))))))))
    (dRet (dCall 2 (sd_of C) (dCons (dVar 0) (dCons (dOp rdAdd (dVar 1) (dLst (dCons (dTup (dCons (dC (.str "a")) (dCons (dC (.str "r")) (dCons (dTup (dCons (dC (.int 0)) dNil)) dNil)))) (dCons (dTup (dCons (dTup (dCons (dC (.str "a")) (dCons (dC (.str "r")) (dCons (dTup (dCons (dC (.int 0)) dNil)) dNil)))) dNil)) (dCons (dLst (dCons (dC (.str "a")) (dCons (dC (.str "r")) (dCons (dLst (dCons (dC (.int 0)) dNil)) dNil)))) (dCons (dC (.str "ring 1 1 hosts 1 1 plain")) (dCons (dC (.str "a b")) dNil))))))) dNil)))))
abbrev N_pair_right : List Str := ["_law_mine", "_law_mate", "_law_due", "_law_told"]
def db_pair_right (C : Addr) : DS :=
    (dSeq (dSet 3 (dLst (dCons (dOp (rdEqT C (sd_Ring___eq__ C)) (dVar 0) (dVar 1)) (dCons (dOp (rdEqT C (sd_Ring___eq__ C)) (dVar 1) (dVar 0)) (dCons (dOp (rdNeT C (sd_Ring___eq__ C)) (dVar 0) (dVar 1)) (dCons (dOp (rdNeT C (sd_Ring___eq__ C)) (dVar 1) (dVar 0)) dNil))))))
    (dRet (dOp rdEq (dCB rdRepr (dCons (dVar 3) dNil)) (dCB rdRepr (dCons (dLst (dCons (dVar 2) (dCons (dVar 2) (dCons (dNotV (dVar 2)) (dCons (dNotV (dVar 2)) dNil))))) dNil)))))
abbrev N_other : List Str := ["_law_keg", "_law_frame", "_law_size", "_law_wide", "_law_word", "_law_puts", "_law_gets", "_law_mode", "_law_crew", "_law_way"]
def db_other (C : Addr) : DS :=
    (dSeq (dAsg (dVar 1) (gdLst 7 (gdCons (gdName 2) (gdCons (gdName 3) (gdCons (gdName 4) (gdCons (gdName 5) (gdCons (gdName 6) (gdCons (gdName 7) (gdCons (gdName 8) gdNil)))))))))
    (dSeq (dSet 9 (dCall 2 (sd_dip C) (dCons (dVar 0) (dCons (dC (.int 12)) dNil))))
    (dSeq (dIfS (dTst (dOp rdEq (dVar 9) (dC (.int 0)))) (dRet (dCall 4 (sd_build C) (dCons (dVar 0) (dCons (dVar 2) (dCons (dC (.int 3)) (dCons (dC (.int 2)) dNil)))))) dNext)
    (dSeq (dIfS (dTst (dOp rdEq (dVar 9) (dC (.int 1)))) (dRet (dOp rdAdd (dLst (dCons (dCB rdMin2 (dCons (dOp rdAdd (dVar 2) (dC (.int 1))) (dCons (dOp rdPow (dC (.int 10)) (dC (.int 18))) dNil))) dNil)) (dSl rdSl (dVar 1) (dPart (dC (.int 1))) dNo))) dNext)
    (dSeq (dIfS (dTst (dOp rdEq (dVar 9) (dC (.int 2)))) (dRet (dOp rdAdd (dLst (dCons (dVar 2) (dCons (dCB rdMin2 (dCons (dOp rdAdd (dVar 3) (dC (.int 1))) (dCons (dC (.int 5)) dNil))) dNil))) (dSl rdSl (dVar 1) (dPart (dC (.int 2))) dNo))) dNext)
    (dSeq (dIfS (dTst (dOp rdEq (dVar 9) (dC (.int 3)))) (dRet (dOp rdAdd (dOp rdAdd (dSl rdSl (dVar 1) dNo (dPart (dC (.int 2)))) (dLst (dCons (dIf (dTst (dOp rdEq (dVar 4) (dC (.str "racks")))) (dC (.str "hosts")) (dC (.str "racks"))) dNil))) (dSl rdSl (dVar 1) (dPart (dC (.int 3))) dNo))) dNext)
    (dSeq (dIfS (dTst (dOp rdEq (dVar 9) (dC (.int 4)))) (dRet (dOp rdAdd (dOp rdAdd (dSl rdSl (dVar 1) dNo (dPart (dC (.int 3)))) (dLst (dCons (dOp rdAdd (dOp rdMod (dCB rdInt (dCons (dVar 5) dNil)) (dVar 3)) (dC (.int 1))) dNil))) (dSl rdSl (dVar 1) (dPart (dC (.int 4))) dNo))) dNext)
    (dSeq (dIfS (dTst (dOp rdEq (dVar 9) (dC (.int 5)))) (dRet (dOp rdAdd (dOp rdAdd (dSl rdSl (dVar 1) dNo (dPart (dC (.int 4)))) (dLst (dCons (dOp rdAdd (dOp rdMod (dCB rdInt (dCons (dVar 6) dNil)) (dVar 3)) (dC (.int 1))) dNil))) (dSl rdSl (dVar 1) (dPart (dC (.int 5))) dNo))) dNext)
    (dSeq (dIfS (dTst (dOp rdEq (dVar 9) (dC (.int 6)))) (dRet (dOp rdAdd (dSl rdSl (dVar 1) dNo (dPart (dC (.int 5)))) (dLst (dCons (dIf (dTst (dOp rdEq (dVar 7) (dC (.str "with")))) (dC (.str "plain")) (dC (.str "with"))) (dCons (dVar 8) dNil))))) dNext)
    (dRet (dIf (dTst (dOp rdEq (dVar 9) (dC (.int 7)))) (dVar 1) (dOp rdAdd (dSl rdSl (dVar 1) dNo (dPart (dC (.int 6)))) (dLst (dCons (dCall 3 (sd_other_crew C) (dCons (dVar 0) (dCons (dVar 2) (dCons (dVar 8) dNil)))) dNil))))))))))))))
abbrev N_right : List Str := ["_law_keg", "_law_frame", "_law_mine", "_law_sheet_here", "_law_turn", "_law_other_one", "_law_mate", "_law_thing"]
def db_right (C : Addr) : DS :=
    (dSeq (dSet 1 (dCall 4 (sd_build C) (dCons (dVar 0) (dCons (dCall 1 (sd_width C) (dCons (dVar 0) dNil)) (dCons (dCall 2 (sd_of C) (dCons (dVar 0) (dCons (dLst (dCons (dC (.int 2)) (dCons (dC (.int 5)) (dCons (dC (.int 12)) dNil)))) dNil))) (dCons (dC (.int 4)) dNil))))))
    (dSeq (dPar2 2 3 (dCons (dCall 2 (sd_made C) (dCons (dVar 0) (dCons (dVar 1) dNil))) (dCons (dCall 1 (sd_sheet C) (dCons (dVar 1) dNil)) dNil)))
    (dSeq (dFor (dRng1 (dCons (dC (.int 5)) dNil)) (gdName 4) (dSeq (dSet 5 (dCall 2 (sd_other C) (dCons (dVar 0) (dCons (dVar 1) dNil))))
    (dSeq (dSet 6 (dCall 2 (sd_made C) (dCons (dVar 0) (dCons (dVar 5) dNil))))
    (dIfS (dOr (dNot (dTru (dCall 3 (sd_pair_right C) (dCons (dVar 2) (dCons (dVar 6) (dCons (dOp rdEq (dCall 1 (sd_sheet C) (dCons (dVar 5) dNil)) (dVar 3)) dNil)))))) (dTst (dOp rdNe (dCB (rdStrO C (sd_Ring___str__ C)) (dCons (dVar 2) dNil)) (dVar 3)))) (dRet (dC (.bl false))) dNext))))
    (dSeq (dFor (dIter (dLst (dCons (dVar 3) (dCons (dVar 1) (dCons (dCB rdTuple (dCons (dVar 1) dNil)) (dCons (dOp rdIx (dVar 1) (dC (.int 6))) (dCons (dCB rdLen (dCons (dOp rdIx (dVar 1) (dC (.int 6))) dNil)) (dCons (dC .non) (dCons (dC (.bl true)) (dCons (dCall 1 (sd_value C) (dCons (dVar 0) dNil)) dNil)))))))))) (gdName 7) (dIfS (dNot (dTru (dCall 3 (sd_pair_right C) (dCons (dVar 2) (dCons (dVar 7) (dCons (dC (.bl false)) dNil)))))) (dRet (dC (.bl false))) dNext))
    (dRet (dC (.bl true)))))))
abbrev N_law : List Str := ["_law_script", "_law_turn"]
def db_law (C : Addr) : DS :=
    (dRet (dCB rdAll (dCons (dLc (dRng1 (dCons (dCB rdMax2 (dCons (dC (.int 2)) (dCons (dCB rdMin2 (dCons (dCB rdLen (dCons (dVar 0) dNil)) (dCons (dC (.int 5)) dNil))) dNil))) dNil)) (gdName 1) dYes (dCall 1 (sd_right C) (dCons (dCall 2 (sd_filled C) (dCons (dVar 0) (dCons (dVar 1) dNil))) dNil)) [1]) dNil)))
end L08
set_option maxRecDepth 100000
set_option maxHeartbeats 4000000
namespace L08
open PySem PySem.Spec PyProof.Rows L2 DL R
/-- what the names of the module stand for -/
structure Tx (K : PySem.W.Frag) (mg : Str → Option Value) (C : Addr) : Prop where
  abs : mg "abs" = none
  all : mg "all" = none
  any : mg "any" = none
  bool : mg "bool" = none
  divmod : mg "divmod" = none
  enumerate : mg "enumerate" = none
  int : mg "int" = none
  isinstance : mg "isinstance" = none
  len : mg "len" = none
  list : mg "list" = none
  max : mg "max" = none
  min : mg "min" = none
  range : mg "range" = none
  repr : mg "repr" = none
  sorted : mg "sorted" = none
  str : mg "str" = none
  tuple : mg "tuple" = none
  zip : mg "zip" = none
  c_DIGITS : ∃ t, mg "DIGITS" = some (.str "0123456789" t)
  c_LETTERS : ∃ t, mg "LETTERS" = some (.str "abcdefghijklmnopqrstuvwxyz" t)
  c_MOST_DIGITS : ∃ t, mg "MOST_DIGITS" = some (.int 19 t)
  c_MOST_FACTOR : ∃ t, mg "MOST_FACTOR" = some (.int 5 t)
  c_MOST_HOSTS : ∃ t, mg "MOST_HOSTS" = some (.int 12 t)
  c_MOST_MARKS : ∃ t, mg "MOST_MARKS" = some (.int 16 t)
  c_MOST_POINTS : ∃ t, mg "MOST_POINTS" = some (.int 1000000000000000000 t)
  c_MOST_SIGNS : ∃ t, mg "MOST_SIGNS" = some (.int 8 t)
  c_PENDINGS : ∃ a, mg "PENDINGS" = some (.ref a) ∧ ∀ H, SqT K H a [V.str "plain", V.str "with"]
  c_SPREADS : ∃ a, mg "SPREADS" = some (.ref a) ∧ ∀ H, SqT K H a [V.str "hosts", V.str "racks"]
  e_BadValue : ∃ a, mg "BadValue" = some (.ref a)
  isC : OwnI K C
  g_Ring : mg "Ring" = some (.ref C)
  neI : NeI K C
  eqT : EqT K C
  cRing : Cls K C
  na : ∀ f : Str, f ∈ (["_points", "_factor", "_spread", "_write", "_read_number", "_pending", "_hosts", "__bool__"] : List Str) → NoAttr K C f
theorem pd_cint {X : Cx} {W : WX} {x : Str} {i : Int} {pos : Pos} (h : ∃ t, X.mg x = some (.int i t)) (hg : Gl X x := by rfl) (hd : (x == ("__debug__" : Str)) = false := by decide) : PD X W (.Name x pos) (dC (.int i)) := by
  obtain ⟨t, h⟩ := h
  exact pd_of_tC (v := .int i) (pe_glob hg h ⟨t, rfl⟩ hd) fun _ => .int i
theorem pd_cstr {X : Cx} {W : WX} {x i : Str} {pos : Pos} (h : ∃ t, X.mg x = some (.str i t)) (hg : Gl X x := by rfl) (hd : (x == ("__debug__" : Str)) = false := by decide) : PD X W (.Name x pos) (dC (.str i)) := by
  obtain ⟨t, h⟩ := h
  exact pd_of_tC (v := .str i) (pe_glob hg h ⟨t, rfl⟩ hd) fun _ => .str i
theorem pd_ctup {X : Cx} {W : WX} {x : Str} {i j : Str} {pos : Pos} (h : ∃ a, X.mg x = some (.ref a) ∧ ∀ H, SqT X.K H a [V.str i, V.str j]) (hg : Gl X x := by rfl) (hd : (x == ("__debug__" : Str)) = false := by decide) : PD X W (.Name x pos) (dC (.tup [.str i, .str j])) := by
  obtain ⟨a, h, hs⟩ := h
  exact pd_of_tC (v := .ref a) (pe_glob hg h rfl hd) fun H => .tup (hs H) (.cons (.str i) (.cons (.str j) .nil))
theorem hu2_of {A : Around} {k : Nat} (hr : Room k A) : A.units + 200 < cLine := by have := hr.un; omega
abbrev P_filled : List Str := ["_law_script", "_law_turn"]
theorem sc_filled : FnScope N_filled P_filled (defScope s_filled) := ⟨rfl, rfl, rfl, by decide +kernel, rfl, by decide +kernel, by decide +kernel⟩
theorem ok_filled {P : Program} {w : World} {K : PySem.W.Frag} {mg : Str → Option Value} {base : Heap} {C f : Addr} {fd : FuncData} (T : Tx K mg C) 
    (F : FunD K "_law_filled" "_law_filled" (defArgs s_filled) (defBody s_filled) (defScope s_filled) [] [] f fd) (hk : Keeps N_filled 2 (sd_filled C) (db_filled C)) : FnOk P w K mg base (L2.CX P w) 1 f fd P_filled (spOf K 2 (sd_filled C)) := 
  okD F sc_filled rfl (fun cdv A fr s H E hr => (bd_cons (sd_set 2 sc_filled.nd (pd_if (td_cmp opd_lt (vr 1) (pd_callB (cd_len) (by rfl) T.len (by decide +kernel) (ad_cons (vr 0) ad_nil)) (nomark _)) (pd_ix ixd (vr 0) (vr 1) (fun _ _ => rfl)) pd_int))
      (bd_cons (sd_set 3 sc_filled.nd (pd_op opd_add pd_int (pd_op opd_mul pd_int (vr 1))))
      (bd_cons (sd_for poF rfl (id_seq (pd_slice sld (vr 0) od_no (od_some pd_int))) (gd_name (i := 4) sc_filled.nd) (bd_one (sd_set 3 sc_filled.nd (pd_op opd_mod (pd_callTy (cd_int) (by rfl) T.int (by decide +kernel) (ad_cons (pd_op opd_add (pd_op opd_add (pd_op opd_mul (vr 3) pd_int) (pd_op opd_mul (vr 4) pd_int)) pd_int) ad_nil)) pd_int))))
      (bd_one (sd_ret (pd_lstC (ad_cons (pd_if (td_w (wd_or (td_cmp opd_lt (vr 2) pd_int (nomark _)) (wd_or1 (td_cmp opd_ge (vr 2) (pd_op opd_pow pd_int pd_int) (nomark _))))) (pd_callB (cd_abs) (by rfl) T.abs (by decide +kernel) (ad_cons (vr 2) ad_nil)) pd_int) (ad_cons (pd_op opd_mod (pd_callTy (cd_int) (by rfl) T.int (by decide +kernel) (ad_cons (pd_op opd_add (pd_op opd_add (pd_op opd_mul (vr 3) pd_int) (pd_op opd_mul (vr 2) (vr 2))) (pd_op opd_mul pd_int (vr 1))) ad_nil)) pd_int) (ad_cons pd_int ad_nil)))))))))) hk
abbrev P_dip : List Str := ["_law_keg", "_law_many"]
theorem sc_dip : FnScope N_dip P_dip (defScope s_dip) := ⟨rfl, rfl, rfl, by decide +kernel, rfl, by decide +kernel, by decide +kernel⟩
theorem ok_dip {P : Program} {w : World} {K : PySem.W.Frag} {mg : Str → Option Value} {base : Heap} {C f : Addr} {fd : FuncData} (T : Tx K mg C) 
    (F : FunD K "_law_dip" "_law_dip" (defArgs s_dip) (defBody s_dip) (defScope s_dip) [] [] f fd) (hk : Keeps N_dip 2 (sd_dip C) (db_dip C)) : FnOk P w K mg base (L2.CX P w) 1 f fd P_dip (spOf K 2 (sd_dip C)) := 
  okD F sc_dip rfl (fun cdv A fr s H E hr => (bd_cons (sd_if (td_cmp opd_gt (pd_ix ixd (vr 0) pd_int (fun _ _ => rfl)) pd_int (nomark _)) (bd_cons (sd_asg (pd_callB (cd_divmod) (by rfl) T.divmod (by decide +kernel) (ad_cons (pd_ix ixd (vr 0) pd_int (fun _ _ => rfl)) (ad_cons (vr 1) ad_nil))) (gd_tup (n := 2) rfl (gds_cons (gd_sub (vr 0) pd_int) (gds_cons (gd_name (i := 2) sc_dip.nd) gds_nil))))
      (bd_one (sd_ret (vr 2)))) bd_nil)
      (bd_cons (sd_asg (pd_op opd_add (pd_ix ixd (vr 0) pd_int (fun _ _ => rfl)) pd_int) (gd_sub (vr 0) pd_int))
      (bd_cons (sd_set 3 sc_dip.nd (pd_op opd_mod (pd_callTy (cd_int) (by rfl) T.int (by decide +kernel) (ad_cons (pd_op opd_add (pd_op opd_add (pd_op opd_mul (pd_ix ixd (vr 0) pd_int (fun _ _ => rfl)) (pd_op opd_add pd_int (pd_op opd_mul pd_int (pd_ix ixd (vr 0) pd_int (fun _ _ => rfl))))) (pd_op opd_mul pd_int (pd_ix ixd (vr 0) pd_int (fun _ _ => rfl)))) pd_int) ad_nil)) pd_int))
      (bd_cons (sd_asg (pd_op opd_mod (pd_callTy (cd_int) (by rfl) T.int (by decide +kernel) (ad_cons (pd_op opd_add (pd_op opd_mul (vr 3) pd_int) (pd_op opd_mul (pd_ix ixd (vr 0) pd_int (fun _ _ => rfl)) (pd_ix ixd (vr 0) pd_int (fun _ _ => rfl)))) ad_nil)) pd_int) (gd_sub (vr 0) pd_int))
      (bd_one (sd_ret (pd_op opd_mod (pd_callTy (cd_int) (by rfl) T.int (by decide +kernel) (ad_cons (pd_op opd_div (pd_ix ixd (vr 0) pd_int (fun _ _ => rfl)) pd_int) ad_nil)) (vr 1))))))))) hk
abbrev P_free : List Str := ["_law_size", "_law_taken", "_law_wish"]
theorem sc_free : FnScope N_free P_free (defScope s_free) := ⟨rfl, rfl, rfl, by decide +kernel, rfl, by decide +kernel, by decide +kernel⟩
theorem ok_free {P : Program} {w : World} {K : PySem.W.Frag} {mg : Str → Option Value} {base : Heap} {C f : Addr} {fd : FuncData} (T : Tx K mg C) 
    (F : FunD K "_law_free" "_law_free" (defArgs s_free) (defBody s_free) (defScope s_free) [] [] f fd) (hk : Keeps N_free 3 (sd_free C) (db_free C)) : FnOk P w K mg base (L2.CX P w) 1 f fd P_free (spOf K 3 (sd_free C)) := 
  okD F sc_free rfl (fun cdv A fr s H E hr => (bd_cons (sd_for poF rfl (id_rng1 (by rfl) T.range (ad_cons (pd_op opd_add (pd_callB (cd_len) (by rfl) T.len (by decide +kernel) (ad_cons (vr 1) ad_nil)) pd_int) ad_nil)) (gd_name (i := 3) sc_free.nd) (bd_one (sd_if (td_cmp opd_ni (pd_op opd_mod (pd_callTy (cd_int) (by rfl) T.int (by decide +kernel) (ad_cons (pd_op opd_add (vr 2) (vr 3)) ad_nil)) (vr 0)) (vr 1) (by rfl)) (bd_one (sd_ret (pd_op opd_mod (pd_callTy (cd_int) (by rfl) T.int (by decide +kernel) (ad_cons (pd_op opd_add (vr 2) (vr 3)) ad_nil)) (vr 0)))) bd_nil)))
      (bd_one (sd_ret (vr 2))))) hk
abbrev P_sheet : List Str := ["_law_frame"]
theorem sc_sheet : FnScope N_sheet P_sheet (defScope s_sheet) := ⟨rfl, rfl, rfl, by decide +kernel, rfl, by decide +kernel, by decide +kernel⟩
theorem ok_sheet {P : Program} {w : World} {K : PySem.W.Frag} {mg : Str → Option Value} {base : Heap} {C f : Addr} {fd : FuncData} (T : Tx K mg C) 
    (F : FunD K "_law_sheet" "_law_sheet" (defArgs s_sheet) (defBody s_sheet) (defScope s_sheet) [] [] f fd) (hk : Keeps N_sheet 1 (sd_sheet C) (db_sheet C)) : FnOk P w K mg base (L2.CX P w) 1 f fd P_sheet (spOf K 1 (sd_sheet C)) := 
  okD F sc_sheet rfl (fun cdv A fr s H E hr => (bd_cons (sd_asg (vr 0) (gd_lst (n := 7) rfl (gds_cons (gd_name (i := 1) sc_sheet.nd) (gds_cons (gd_name (i := 2) sc_sheet.nd) (gds_cons (gd_name (i := 3) sc_sheet.nd) (gds_cons (gd_name (i := 4) sc_sheet.nd) (gds_cons (gd_name (i := 5) sc_sheet.nd) (gds_cons (gd_name (i := 6) sc_sheet.nd) (gds_cons (gd_name (i := 7) sc_sheet.nd) gds_nil)))))))))
      (bd_cons (sd_set 8 sc_sheet.nd (pd_lstC (ad_cons (pd_join pd_str (pd_lst (ad_cons pd_str (ad_cons (pd_callTy (cd_strI) (by rfl) T.str (by decide +kernel) (ad_cons (vr 1) ad_nil)) (ad_cons (pd_callTy (cd_strI) (by rfl) T.str (by decide +kernel) (ad_cons (vr 2) ad_nil)) (ad_cons (vr 3) (ad_cons (pd_callTy (cd_strI) (by rfl) T.str (by decide +kernel) (ad_cons (vr 4) ad_nil)) (ad_cons (pd_callTy (cd_strI) (by rfl) T.str (by decide +kernel) (ad_cons (vr 5) ad_nil)) (ad_cons (vr 6) ad_nil))))))))) ad_nil)))
      (bd_cons (sd_for poF rfl (id_seq (vr 7)) (gd_tup (n := 3) rfl (gds_cons (gd_name (i := 9) sc_sheet.nd) (gds_cons (gd_name (i := 10) sc_sheet.nd) (gds_cons (gd_name (i := 11) sc_sheet.nd) gds_nil)))) (bd_one (sd_expr (pd_app (vr 8) (ad_cons (pd_join pd_str (pd_op opd_add (pd_lst (ad_cons pd_str (ad_cons (vr 9) (ad_cons (vr 10) ad_nil)))) (pd_lc (own := [("_law_spot", 12)]) rfl sc_sheet.nd (id_seq (vr 11)) (blkOk_by (N := N_sheet) (sc := (defScope s_sheet)) (by decide +kernel)) (fun _ _ _ _ _ => (gw_name (i := 12) sc_sheet.nd)) (fun _ _ _ _ _ => tsd_nil) (fun _ _ _ _ _ => (pd_callTy (cd_strI) (by rfl) T.str (by decide +kernel) (ad_cons (vr 12) ad_nil)))))) ad_nil)))))
      (bd_one (sd_ret (pd_join pd_str (vr 8)))))))) hk
abbrev P_is_ascending : List Str := ["row"]
theorem sc_is_ascending : FnScope N_is_ascending P_is_ascending (defScope s_is_ascending) := ⟨rfl, rfl, rfl, by decide +kernel, rfl, by decide +kernel, by decide +kernel⟩
theorem ok_is_ascending {P : Program} {w : World} {K : PySem.W.Frag} {mg : Str → Option Value} {base : Heap} {C f : Addr} {fd : FuncData} (T : Tx K mg C) 
    (F : FunD K "is_ascending" "is_ascending" (defArgs s_is_ascending) (defBody s_is_ascending) (defScope s_is_ascending) [] [] f fd) (hk : Keeps N_is_ascending 1 (sd_is_ascending C) (db_is_ascending C)) : FnOk P w K mg base (L2.CX P w) 1 f fd P_is_ascending (spOf K 1 (sd_is_ascending C)) := 
  okD F sc_is_ascending rfl (fun cdv A fr s H E hr => (bd_one (sd_ret (pd_callB (cd_all rfl) (by rfl) T.all (by decide +kernel) (ad_cons (pd_lc (own := [("one", 1), ("other", 2)]) rfl sc_is_ascending.nd (id_zip (by rfl) T.zip (ad_cons (vr 0) (ad_cons (pd_slice sld (vr 0) (od_some pd_int) od_no) ad_nil))) (blkOk_by (N := N_is_ascending) (sc := (defScope s_is_ascending)) (by decide +kernel)) (fun _ _ _ _ _ => (gw_tup (n := 2) rfl (gws_cons (gw_name (i := 1) sc_is_ascending.nd) (gws_cons (gw_name (i := 2) sc_is_ascending.nd) gws_nil)))) (fun _ _ _ _ _ => tsd_nil) (fun _ _ _ _ _ => (pd_cmp opd_lt (vr 1) (vr 2) (nomark _)))) ad_nil))))) hk
abbrev P_is_whole : List Str := ["value"]
theorem sc_is_whole : FnScope N_is_whole P_is_whole (defScope s_is_whole) := ⟨rfl, rfl, rfl, by decide +kernel, rfl, by decide +kernel, by decide +kernel⟩
theorem ok_is_whole {P : Program} {w : World} {K : PySem.W.Frag} {mg : Str → Option Value} {base : Heap} {C f : Addr} {fd : FuncData} (T : Tx K mg C) 
    (F : FunD K "is_whole" "is_whole" (defArgs s_is_whole) (defBody s_is_whole) (defScope s_is_whole) [] [] f fd) (hk : Keeps N_is_whole 1 (sd_is_whole C) (db_is_whole C)) : FnOk P w K mg base (L2.CX P w) 1 f fd P_is_whole (spOf K 1 (sd_is_whole C)) := 
  okD F sc_is_whole rfl (fun cdv A fr s H E hr => (bd_one (sd_ret (pd_and (pd_isi (vr 0) T.isinstance T.int (by decide +kernel)) (pd_one (pd_not (pd_isi (vr 0) T.isinstance T.bool (by decide +kernel)))))))) hk
abbrev P_is_name : List Str := ["value"]
theorem sc_is_name : FnScope N_is_name P_is_name (defScope s_is_name) := ⟨rfl, rfl, rfl, by decide +kernel, rfl, by decide +kernel, by decide +kernel⟩
theorem ok_is_name {P : Program} {w : World} {K : PySem.W.Frag} {mg : Str → Option Value} {base : Heap} {C f : Addr} {fd : FuncData} (T : Tx K mg C) 
    (F : FunD K "is_name" "is_name" (defArgs s_is_name) (defBody s_is_name) (defScope s_is_name) [] [] f fd) (hk : Keeps N_is_name 1 (sd_is_name C) (db_is_name C)) : FnOk P w K mg base (L2.CX P w) 1 f fd P_is_name (spOf K 1 (sd_is_name C)) := 
  okD F sc_is_name rfl (fun cdv A fr s H E hr => (bd_cons (sd_if (td_w (wd_or (td_not (td_tru (pd_isi (vr 0) T.isinstance T.str (by decide +kernel)))) (wd_or1 (td_not (td_chn opd_le opd_le pd_int (pd_callB (cd_len) (by rfl) T.len (by decide +kernel) (ad_cons (vr 0) ad_nil)) (pd_cint T.c_MOST_SIGNS)))))) (bd_one (sd_ret pd_bl)) bd_nil)
      (bd_one (sd_ret (pd_and (pd_cmp opd_in (pd_ix ixd (vr 0) pd_int (fun _ _ => rfl)) (pd_cstr T.c_LETTERS) (by rfl)) (pd_one (pd_callB (cd_all rfl) (by rfl) T.all (by decide +kernel) (ad_cons (pd_lc (own := [("sign", 1)]) rfl sc_is_name.nd (id_str (vr 0)) (blkOk_by (N := N_is_name) (sc := (defScope s_is_name)) (by decide +kernel)) (fun _ _ _ _ _ => (gw_name (i := 1) sc_is_name.nd)) (fun _ _ _ _ _ => tsd_nil) (fun _ _ _ _ _ => (pd_cmp opd_in (vr 1) (pd_op opd_add (pd_cstr T.c_LETTERS) (pd_cstr T.c_DIGITS)) (by rfl)))) ad_nil)))))))) hk
abbrev P_is_word_of : List Str := ["value", "words"]
theorem sc_is_word_of : FnScope N_is_word_of P_is_word_of (defScope s_is_word_of) := ⟨rfl, rfl, rfl, by decide +kernel, rfl, by decide +kernel, by decide +kernel⟩
theorem ok_is_word_of {P : Program} {w : World} {K : PySem.W.Frag} {mg : Str → Option Value} {base : Heap} {C f : Addr} {fd : FuncData} (T : Tx K mg C) 
    (F : FunD K "is_word_of" "is_word_of" (defArgs s_is_word_of) (defBody s_is_word_of) (defScope s_is_word_of) [] [] f fd) (hk : Keeps N_is_word_of 2 (sd_is_word_of C) (db_is_word_of C)) : FnOk P w K mg base (L2.CX P w) 1 f fd P_is_word_of (spOf K 2 (sd_is_word_of C)) := 
  okD F sc_is_word_of rfl (fun cdv A fr s H E hr => (bd_one (sd_ret (pd_and (pd_isi (vr 0) T.isinstance T.str (by decide +kernel)) (pd_one (pd_cmp opd_in (vr 0) (vr 1) (by rfl))))))) hk
abbrev P_is_written_number : List Str := ["word"]
theorem sc_is_written_number : FnScope N_is_written_number P_is_written_number (defScope s_is_written_number) := ⟨rfl, rfl, rfl, by decide +kernel, rfl, by decide +kernel, by decide +kernel⟩
theorem ok_is_written_number {P : Program} {w : World} {K : PySem.W.Frag} {mg : Str → Option Value} {base : Heap} {C f : Addr} {fd : FuncData} (T : Tx K mg C) 
    (F : FunD K "is_written_number" "is_written_number" (defArgs s_is_written_number) (defBody s_is_written_number) (defScope s_is_written_number) [] [] f fd) (hk : Keeps N_is_written_number 1 (sd_is_written_number C) (db_is_written_number C)) : FnOk P w K mg base (L2.CX P w) 1 f fd P_is_written_number (spOf K 1 (sd_is_written_number C)) := 
  okD F sc_is_written_number rfl (fun cdv A fr s H E hr => (bd_cons (sd_if (td_not (td_chn opd_le opd_le pd_int (pd_callB (cd_len) (by rfl) T.len (by decide +kernel) (ad_cons (vr 0) ad_nil)) (pd_cint T.c_MOST_DIGITS))) (bd_one (sd_ret pd_bl)) bd_nil)
      (bd_one (sd_ret (pd_and (pd_callB (cd_all rfl) (by rfl) T.all (by decide +kernel) (ad_cons (pd_lc (own := [("sign", 1)]) rfl sc_is_written_number.nd (id_str (vr 0)) (blkOk_by (N := N_is_written_number) (sc := (defScope s_is_written_number)) (by decide +kernel)) (fun _ _ _ _ _ => (gw_name (i := 1) sc_is_written_number.nd)) (fun _ _ _ _ _ => tsd_nil) (fun _ _ _ _ _ => (pd_cmp opd_in (vr 1) (pd_cstr T.c_DIGITS) (by rfl)))) ad_nil)) (pd_one (pd_or (pd_cmp (opd_eq hr.units) (vr 0) pd_str (nomark _)) (pd_one (pd_cmp (opd_ne hr.units) (pd_ix ixd (vr 0) pd_int (fun _ _ => rfl)) pd_str (nomark _)))))))))) hk
abbrev P_Ring___eq__ : List Str := ["self", "other"]
theorem sc_Ring___eq__ : FnScope N_Ring___eq__ P_Ring___eq__ (defScope s_Ring___eq__) := ⟨rfl, rfl, rfl, by decide +kernel, rfl, by decide +kernel, by decide +kernel⟩
theorem ok_Ring___eq__ {P : Program} {w : World} {K : PySem.W.Frag} {mg : Str → Option Value} {base : Heap} {C f : Addr} {fd : FuncData} (T : Tx K mg C) 
    (F : FunD K "__eq__" "Ring.__eq__" (defArgs s_Ring___eq__) (defBody s_Ring___eq__) (defScope s_Ring___eq__) [] [] f fd) (hk : Keeps N_Ring___eq__ 2 (sd_Ring___eq__ C) (db_Ring___eq__ C)) : FnOk P w K mg base (L2.CX P w) 1 f fd P_Ring___eq__ (spOf K 2 (sd_Ring___eq__ C)) := 
  okD F sc_Ring___eq__ rfl (fun cdv A fr s H E hr => (bd_one (sd_ret (pd_and (pd_isiC (vr 1) T.isC T.isinstance T.g_Ring) (pd_and (pd_cmp (opd_eq hr.units) (pd_fld (vr 0) T.cRing (T.na "_points" (by decide))) (pd_fld (vr 1) T.cRing (T.na "_points" (by decide))) (nomark _)) (pd_and (pd_cmp (opd_eq hr.units) (pd_fld (vr 0) T.cRing (T.na "_factor" (by decide))) (pd_fld (vr 1) T.cRing (T.na "_factor" (by decide))) (nomark _)) (pd_and (pd_cmp (opd_eq hr.units) (pd_fld (vr 0) T.cRing (T.na "_spread" (by decide))) (pd_fld (vr 1) T.cRing (T.na "_spread" (by decide))) (nomark _)) (pd_and (pd_cmp (opd_eq hr.units) (pd_fld (vr 0) T.cRing (T.na "_write" (by decide))) (pd_fld (vr 1) T.cRing (T.na "_write" (by decide))) (nomark _)) (pd_and (pd_cmp (opd_eq hr.units) (pd_fld (vr 0) T.cRing (T.na "_read_number" (by decide))) (pd_fld (vr 1) T.cRing (T.na "_read_number" (by decide))) (nomark _)) (pd_and (pd_cmp (opd_eq hr.units) (pd_fld (vr 0) T.cRing (T.na "_pending" (by decide))) (pd_fld (vr 1) T.cRing (T.na "_pending" (by decide))) (nomark _)) (pd_one (pd_cmp (opd_eq hr.units) (pd_fld (vr 0) T.cRing (T.na "_hosts" (by decide))) (pd_fld (vr 1) T.cRing (T.na "_hosts" (by decide))) (nomark _))))))))))))) hk
abbrev P_host_row : List Str := ["host"]
theorem sc_host_row : FnScope N_host_row P_host_row (defScope s_host_row) := ⟨rfl, rfl, rfl, by decide +kernel, rfl, by decide +kernel, by decide +kernel⟩
theorem ok_host_row {P : Program} {w : World} {K : PySem.W.Frag} {mg : Str → Option Value} {base : Heap} {C f : Addr} {fd : FuncData} (T : Tx K mg C) 
    (F : FunD K "host_row" "host_row" (defArgs s_host_row) (defBody s_host_row) (defScope s_host_row) [] [] f fd) (hk : Keeps N_host_row 1 (sd_host_row C) (db_host_row C)) : FnOk P w K mg base (L2.CX P w) 1 f fd P_host_row (spOf K 1 (sd_host_row C)) := 
  okD F sc_host_row rfl (fun cdv A fr s H E hr => (bd_cons (sd_asg (vr 0) (gd_tup (n := 3) rfl (gds_cons (gd_name (i := 1) sc_host_row.nd) (gds_cons (gd_name (i := 2) sc_host_row.nd) (gds_cons (gd_name (i := 3) sc_host_row.nd) gds_nil)))))
      (bd_one (sd_ret (pd_join pd_str (pd_op opd_add (pd_lst (ad_cons pd_str (ad_cons (vr 1) (ad_cons (vr 2) ad_nil)))) (pd_lc (own := [("mark", 4)]) rfl sc_host_row.nd (id_seq (vr 3)) (blkOk_by (N := N_host_row) (sc := (defScope s_host_row)) (by decide +kernel)) (fun _ _ _ _ _ => (gw_name (i := 4) sc_host_row.nd)) (fun _ _ _ _ _ => tsd_nil) (fun _ _ _ _ _ => (pd_callTy (cd_strI) (by rfl) T.str (by decide +kernel) (ad_cons (vr 4) ad_nil)))))))))) hk
abbrev P_Ring__first_row : List Str := ["self"]
theorem sc_Ring__first_row : FnScope N_Ring__first_row P_Ring__first_row (defScope s_Ring__first_row) := ⟨rfl, rfl, rfl, by decide +kernel, rfl, by decide +kernel, by decide +kernel⟩
theorem ok_Ring__first_row {P : Program} {w : World} {K : PySem.W.Frag} {mg : Str → Option Value} {base : Heap} {C f : Addr} {fd : FuncData} (T : Tx K mg C) 
    (F : FunD K "_first_row" "Ring._first_row" (defArgs s_Ring__first_row) (defBody s_Ring__first_row) (defScope s_Ring__first_row) [] [] f fd) (hk : Keeps N_Ring__first_row 1 (sd_Ring__first_row C) (db_Ring__first_row C)) : FnOk P w K mg base (L2.CX P w) 1 f fd P_Ring__first_row (spOf K 1 (sd_Ring__first_row C)) := 
  okD F sc_Ring__first_row rfl (fun cdv A fr s H E hr => (bd_cons (sd_set 1 sc_Ring__first_row.nd (pd_joined (.cons (pd_fmt (pd_fld (vr 0) T.cRing (T.na "_factor" (by decide)))) (.cons pd_str (.cons (pd_fmt (pd_fld (vr 0) T.cRing (T.na "_spread" (by decide)))) (.cons pd_str (.cons (pd_fmt (pd_fld (vr 0) T.cRing (T.na "_write" (by decide)))) (.cons pd_str (.cons (pd_fmt (pd_fld (vr 0) T.cRing (T.na "_read_number" (by decide)))) (.cons pd_str (.cons (pd_fmt (pd_fld (vr 0) T.cRing (T.na "_pending" (by decide)))) .nil)))))))))))
      (bd_one (sd_ret (pd_joined (.cons pd_str (.cons (pd_fmt (pd_fld (vr 0) T.cRing (T.na "_points" (by decide)))) (.cons pd_str (.cons (pd_fmt (vr 1)) .nil))))))))) hk
abbrev P_of : List Str := ["_law_keg", "_law_things"]
theorem sc_of : FnScope N_of P_of (defScope s_of) := ⟨rfl, rfl, rfl, by decide +kernel, rfl, by decide +kernel, by decide +kernel⟩
theorem ok_of {P : Program} {w : World} {K : PySem.W.Frag} {mg : Str → Option Value} {base : Heap} {C f : Addr} {fd : FuncData} (T : Tx K mg C) (F_dip : Fok P w K mg base "_law_dip" 1 2 (sd_dip C))
    (F : FunD K "_law_of" "_law_of" (defArgs s_of) (defBody s_of) (defScope s_of) [] [] f fd) (hk : Keeps N_of 2 (sd_of C) (db_of C)) : FnOk P w K mg base (L2.CX P w) 2 f fd P_of (spOf K 2 (sd_of C)) := 
  okD F sc_of rfl (fun cdv A fr s H E hr => (bd_one (sd_ret (pd_ix ixd (vr 1) (pd_fn F_dip (hr.mono (by decide)) tkF (ad_cons (vr 0) (ad_cons (pd_callB (cd_len) (by rfl) T.len (by decide +kernel) (ad_cons (vr 1) ad_nil)) ad_nil))) (fun _ _ => rfl))))) hk
abbrev P_vast : List Str := ["_law_keg", "_law_many"]
theorem sc_vast : FnScope N_vast P_vast (defScope s_vast) := ⟨rfl, rfl, rfl, by decide +kernel, rfl, by decide +kernel, by decide +kernel⟩
theorem ok_vast {P : Program} {w : World} {K : PySem.W.Frag} {mg : Str → Option Value} {base : Heap} {C f : Addr} {fd : FuncData} (T : Tx K mg C) (F_dip : Fok P w K mg base "_law_dip" 1 2 (sd_dip C))
    (F : FunD K "_law_vast" "_law_vast" (defArgs s_vast) (defBody s_vast) (defScope s_vast) [] [] f fd) (hk : Keeps N_vast 2 (sd_vast C) (db_vast C)) : FnOk P w K mg base (L2.CX P w) 2 f fd P_vast (spOf K 2 (sd_vast C)) := 
  okD F sc_vast rfl (fun cdv A fr s H E hr => (bd_cons (sd_set 2 sc_vast.nd pd_int)
      (bd_cons (sd_for poF rfl (id_rng1 (by rfl) T.range (ad_cons pd_int ad_nil)) (gd_name (i := 3) sc_vast.nd) (bd_one (sd_set 2 sc_vast.nd (pd_op opd_add (pd_op opd_mul (vr 2) pd_int) (pd_fn F_dip (hr.mono (by decide)) tkF (ad_cons (vr 0) (ad_cons pd_int ad_nil)))))))
      (bd_one (sd_ret (pd_op opd_mod (pd_callTy (cd_int) (by rfl) T.int (by decide +kernel) (ad_cons (vr 2) ad_nil)) (vr 1))))))) hk
abbrev P_is_from_to : List Str := ["value", "least", "most"]
theorem sc_is_from_to : FnScope N_is_from_to P_is_from_to (defScope s_is_from_to) := ⟨rfl, rfl, rfl, by decide +kernel, rfl, by decide +kernel, by decide +kernel⟩
theorem ok_is_from_to {P : Program} {w : World} {K : PySem.W.Frag} {mg : Str → Option Value} {base : Heap} {C f : Addr} {fd : FuncData} (T : Tx K mg C) (F_is_whole : Fok P w K mg base "is_whole" 1 1 (sd_is_whole C))
    (F : FunD K "is_from_to" "is_from_to" (defArgs s_is_from_to) (defBody s_is_from_to) (defScope s_is_from_to) [] [] f fd) (hk : Keeps N_is_from_to 3 (sd_is_from_to C) (db_is_from_to C)) : FnOk P w K mg base (L2.CX P w) 2 f fd P_is_from_to (spOf K 3 (sd_is_from_to C)) := 
  okD F sc_is_from_to rfl (fun cdv A fr s H E hr => (bd_one (sd_ret (pd_and (pd_fn F_is_whole (hr.mono (by decide)) tkF (ad_cons (vr 0) ad_nil)) (pd_one (pd_chn opd_le opd_le (vr 1) (vr 0) (vr 2))))))) hk
abbrev P_is_free_name : List Str := ["value", "hosts"]
theorem sc_is_free_name : FnScope N_is_free_name P_is_free_name (defScope s_is_free_name) := ⟨rfl, rfl, rfl, by decide +kernel, rfl, by decide +kernel, by decide +kernel⟩
theorem ok_is_free_name {P : Program} {w : World} {K : PySem.W.Frag} {mg : Str → Option Value} {base : Heap} {C f : Addr} {fd : FuncData} (T : Tx K mg C) (F_is_name : Fok P w K mg base "is_name" 1 1 (sd_is_name C))
    (F : FunD K "is_free_name" "is_free_name" (defArgs s_is_free_name) (defBody s_is_free_name) (defScope s_is_free_name) [] [] f fd) (hk : Keeps N_is_free_name 2 (sd_is_free_name C) (db_is_free_name C)) : FnOk P w K mg base (L2.CX P w) 2 f fd P_is_free_name (spOf K 2 (sd_is_free_name C)) := 
  okD F sc_is_free_name rfl (fun cdv A fr s H E hr => (bd_one (sd_ret (pd_and (pd_fn F_is_name (hr.mono (by decide)) tkF (ad_cons (vr 0) ad_nil)) (pd_one (pd_not (pd_callB (cd_any rfl) (by rfl) T.any (by decide +kernel) (ad_cons (pd_lc (own := [("host", 2)]) rfl sc_is_free_name.nd (id_seq (vr 1)) (blkOk_by (N := N_is_free_name) (sc := (defScope s_is_free_name)) (by decide +kernel)) (fun _ _ _ _ _ => (gw_name (i := 2) sc_is_free_name.nd)) (fun _ _ _ _ _ => tsd_nil) (fun _ _ _ _ _ => (pd_cmp (opd_eq hr.units) (vr 0) (pd_ix ixd (vr 2) pd_int (fun _ _ => rfl)) (nomark _)))) ad_nil)))))))) hk
abbrev P_written_number : List Str := ["word"]
theorem sc_written_number : FnScope N_written_number P_written_number (defScope s_written_number) := ⟨rfl, rfl, rfl, by decide +kernel, rfl, by decide +kernel, by decide +kernel⟩
theorem ok_written_number {P : Program} {w : World} {K : PySem.W.Frag} {mg : Str → Option Value} {base : Heap} {C f : Addr} {fd : FuncData} (T : Tx K mg C) (F_is_written_number : Fok P w K mg base "is_written_number" 1 1 (sd_is_written_number C))
    (F : FunD K "written_number" "written_number" (defArgs s_written_number) (defBody s_written_number) (defScope s_written_number) [] [] f fd) (hk : Keeps N_written_number 1 (sd_written_number C) (db_written_number C)) : FnOk P w K mg base (L2.CX P w) 2 f fd P_written_number (spOf K 1 (sd_written_number C)) := 
  okD F sc_written_number rfl (fun cdv A fr s H E hr => (bd_cons (sd_if (td_not (td_tru (pd_fn F_is_written_number (hr.mono (by decide)) tkF (ad_cons (vr 0) ad_nil)))) (bd_one (sd_ret pd_non)) bd_nil)
      (bd_one (sd_ret (pd_callTy (cd_intS) (by rfl) T.int (by decide +kernel) (ad_cons (vr 0) ad_nil)))))) hk
abbrev P_other_crew : List Str := ["_law_keg", "_law_size", "_law_crew"]
theorem sc_other_crew : FnScope N_other_crew P_other_crew (defScope s_other_crew) := ⟨rfl, rfl, rfl, by decide +kernel, rfl, by decide +kernel, by decide +kernel⟩
theorem ok_other_crew {P : Program} {w : World} {K : PySem.W.Frag} {mg : Str → Option Value} {base : Heap} {C f : Addr} {fd : FuncData} (T : Tx K mg C) (F_dip : Fok P w K mg base "_law_dip" 1 2 (sd_dip C))
    (F : FunD K "_law_other_crew" "_law_other_crew" (defArgs s_other_crew) (defBody s_other_crew) (defScope s_other_crew) [] [] f fd) (hk : Keeps N_other_crew 3 (sd_other_crew C) (db_other_crew C)) : FnOk P w K mg base (L2.CX P w) 2 f fd P_other_crew (spOf K 3 (sd_other_crew C)) := 
  okD F sc_other_crew rfl (fun cdv A fr s H E hr => (bd_cons (sd_par2 3 4 rfl sc_other_crew.nd (ad_cons (pd_fn F_dip (hr.mono (by decide)) tkF (ad_cons (vr 0) (ad_cons (pd_callB (cd_len) (by rfl) T.len (by decide +kernel) (ad_cons (vr 2) ad_nil)) ad_nil))) (ad_cons (pd_fn F_dip (hr.mono (by decide)) tkF (ad_cons (vr 0) (ad_cons pd_int ad_nil))) ad_nil)))
      (bd_cons (sd_asg (pd_ix ixd (vr 2) (vr 3) (fun _ _ => rfl)) (gd_tup (n := 3) rfl (gds_cons (gd_name (i := 5) sc_other_crew.nd) (gds_cons (gd_name (i := 6) sc_other_crew.nd) (gds_cons (gd_name (i := 7) sc_other_crew.nd) gds_nil)))))
      (bd_cons (sd_set 8 sc_other_crew.nd (pd_lst ad_nil))
      (bd_cons (sd_for poF rfl (id_seq (vr 2)) (gd_name (i := 9) sc_other_crew.nd) (bd_one (sd_set 8 sc_other_crew.nd (pd_op opd_add (vr 8) (pd_callTy (cd_list) (by rfl) T.list (by decide +kernel) (ad_cons (pd_ix ixd (vr 9) pd_int (fun _ _ => rfl)) ad_nil))))))
      (bd_cons (sd_set 10 sc_other_crew.nd (pd_lst (ad_cons pd_int (ad_cons (pd_op opd_sub (vr 1) pd_int) (ad_cons (pd_op opd_div (vr 1) pd_int) (ad_cons (pd_op opd_add (pd_ix ixd (vr 7) pd_int (fun _ _ => rfl)) pd_int) (ad_cons (pd_op opd_sub (pd_ix ixd (vr 7) (pd_un und_neg pd_int) (fun _ _ => rfl)) pd_int) ad_nil)))))))
      (bd_cons (sd_setLc 11 (own := [("_law_spot", 13)]) rfl sc_other_crew.nd (sw_true rfl rfl rfl (by decide +kernel)) (id_seq (vr 10)) (blkOk_by (N := N_other_crew) (sc := (defScope s_other_crew)) (by decide +kernel)) (fun _ _ _ _ _ => (gw_name (i := 13) sc_other_crew.nd)) (fun _ _ _ _ _ => (tsd_one (td_w (wd_and (td_chn opd_le opd_lt pd_int (vr 13) (vr 1)) (wd_and1 (td_cmp opd_ni (vr 13) (vr 8) (by rfl))))))) (fun _ _ _ _ _ => (vr 13)))
      (bd_cons (sd_if (td_cmp (opd_eq hr.units) (vr 4) pd_int (nomark _)) (bd_one (sd_ret (pd_op opd_add (pd_slice sld (vr 2) (od_some (vr 3)) od_no) (pd_slice sld (vr 2) od_no (od_some (vr 3)))))) bd_nil)
      (bd_cons (sd_if (td_cmp (opd_eq hr.units) (vr 4) pd_int (nomark _)) (bd_one (sd_ret (pd_revT (vr 2)))) bd_nil)
      (bd_cons (sd_if (td_w (wd_and (td_cmp (opd_eq hr.units) (vr 4) pd_int (nomark _)) (wd_and1 (td_cmp opd_gt (pd_callB (cd_len) (by rfl) T.len (by decide +kernel) (ad_cons (vr 2) ad_nil)) pd_int (nomark _))))) (bd_one (sd_ret (pd_op opd_add (pd_slice sld (vr 2) od_no (od_some (vr 3))) (pd_slice sld (vr 2) (od_some (pd_op opd_add (vr 3) pd_int)) od_no)))) bd_nil)
      (bd_cons (sd_if (td_cmp (opd_eq hr.units) (vr 4) pd_int (nomark _)) (bd_one (sd_ret (pd_op opd_add (pd_op opd_add (pd_slice sld (vr 2) od_no (od_some (vr 3))) (pd_tup (ad_cons (pd_tup (ad_cons (vr 5) (ad_cons (pd_op opd_add (pd_slice sld (vr 6) od_no (od_some pd_int)) pd_str) (ad_cons (vr 7) ad_nil)))) ad_nil))) (pd_slice sld (vr 2) (od_some (pd_op opd_add (vr 3) pd_int)) od_no)))) bd_nil)
      (bd_cons (sd_if (td_w (wd_and (td_cmp (opd_eq hr.units) (vr 4) pd_int (nomark _)) (wd_and1 (td_cmp opd_ni (pd_op opd_add (pd_slice sld (vr 5) od_no (od_some pd_int)) pd_str) (pd_lc (own := [("_law_each", 9)]) rfl sc_other_crew.nd (id_seq (vr 2)) (blkOk_by (N := N_other_crew) (sc := (defScope s_other_crew)) (by decide +kernel)) (fun _ _ _ _ _ => (gw_name (i := 9) sc_other_crew.nd)) (fun _ _ _ _ _ => tsd_nil) (fun _ _ _ _ _ => (pd_ix ixd (vr 9) pd_int (fun _ _ => rfl)))) (by rfl))))) (bd_one (sd_ret (pd_op opd_add (pd_op opd_add (pd_slice sld (vr 2) od_no (od_some (vr 3))) (pd_tup (ad_cons (pd_tup (ad_cons (pd_op opd_add (pd_slice sld (vr 5) od_no (od_some pd_int)) pd_str) (ad_cons (vr 6) (ad_cons (vr 7) ad_nil)))) ad_nil))) (pd_slice sld (vr 2) (od_some (pd_op opd_add (vr 3) pd_int)) od_no)))) bd_nil)
      (bd_cons (sd_if (td_w (wd_or (td_cmp (opd_eq hr.units) (vr 11) (pd_lst ad_nil) (nomark _)) (wd_or1 (td_cmp (opd_eq hr.units) (pd_callB (cd_len) (by rfl) T.len (by decide +kernel) (ad_cons (vr 7) ad_nil)) pd_int (nomark _))))) (bd_cons (sd_set 12 sc_other_crew.nd (pd_if (td_cmp opd_gt (pd_callB (cd_len) (by rfl) T.len (by decide +kernel) (ad_cons (vr 7) ad_nil)) pd_int (nomark _)) (pd_slice sld (vr 7) od_no (od_some (pd_un und_neg pd_int))) (vr 7)))
      (bd_one (sd_ret (pd_op opd_add (pd_op opd_add (pd_slice sld (vr 2) od_no (od_some (vr 3))) (pd_tup (ad_cons (pd_tup (ad_cons (vr 5) (ad_cons (vr 6) (ad_cons (vr 12) ad_nil)))) ad_nil))) (pd_slice sld (vr 2) (od_some (pd_op opd_add (vr 3) pd_int)) od_no))))) bd_nil)
      (bd_cons (sd_if (td_cmp (opd_eq hr.units) (vr 4) pd_int (nomark _)) (bd_one (sd_ret (pd_op opd_add (pd_op opd_add (pd_slice sld (vr 2) od_no (od_some (vr 3))) (pd_tup (ad_cons (pd_tup (ad_cons (vr 5) (ad_cons (vr 6) (ad_cons (pd_callTy (cd_tuple) (by rfl) T.tuple (by decide +kernel) (ad_cons (pd_callB (cd_sortIT) (by rfl) T.sorted (by decide +kernel) (ad_cons (pd_op opd_add (vr 7) (pd_tup (ad_cons (pd_ix ixd (vr 11) pd_int (fun _ _ => rfl)) ad_nil))) ad_nil)) ad_nil)) ad_nil)))) ad_nil))) (pd_slice sld (vr 2) (od_some (pd_op opd_add (vr 3) pd_int)) od_no)))) bd_nil)
      (bd_one (sd_ret (pd_op opd_add (pd_op opd_add (pd_slice sld (vr 2) od_no (od_some (vr 3))) (pd_tup (ad_cons (pd_tup (ad_cons (vr 5) (ad_cons (vr 6) (ad_cons (pd_callTy (cd_tuple) (by rfl) T.tuple (by decide +kernel) (ad_cons (pd_callB (cd_sortIT) (by rfl) T.sorted (by decide +kernel) (ad_cons (pd_op opd_add (pd_slice sld (vr 7) (od_some pd_int) od_no) (pd_tup (ad_cons (pd_ix ixd (vr 11) (pd_un und_neg pd_int) (fun _ _ => rfl)) ad_nil))) ad_nil)) ad_nil)) ad_nil)))) ad_nil))) (pd_slice sld (vr 2) (od_some (pd_op opd_add (vr 3) pd_int)) od_no)))))))))))))))))) hk
abbrev P_Ring___str__ : List Str := ["self"]
theorem sc_Ring___str__ : FnScope N_Ring___str__ P_Ring___str__ (defScope s_Ring___str__) := ⟨rfl, rfl, rfl, by decide +kernel, rfl, by decide +kernel, by decide +kernel⟩
theorem ok_Ring___str__ {P : Program} {w : World} {K : PySem.W.Frag} {mg : Str → Option Value} {base : Heap} {C f : Addr} {fd : FuncData} (T : Tx K mg C) (F_Ring__first_row : Mok P w K mg base C "_first_row" 1 1 (sd_Ring__first_row C)) (F_host_row : Fok P w K mg base "host_row" 1 1 (sd_host_row C))
    (F : FunD K "__str__" "Ring.__str__" (defArgs s_Ring___str__) (defBody s_Ring___str__) (defScope s_Ring___str__) [] [] f fd) (hk : Keeps N_Ring___str__ 1 (sd_Ring___str__ C) (db_Ring___str__ C)) : FnOk P w K mg base (L2.CX P w) 2 f fd P_Ring___str__ (spOf K 1 (sd_Ring___str__ C)) := 
  okD F sc_Ring___str__ rfl (fun cdv A fr s H E hr => (bd_one (sd_ret (pd_join pd_str (pd_op opd_add (pd_lst (ad_cons (pd_meth0 F_Ring__first_row (hr.mono (by decide)) tkF (vr 0)) ad_nil)) (pd_lc (own := [("host", 1)]) rfl sc_Ring___str__.nd (id_seq (pd_fld (vr 0) T.cRing (T.na "_hosts" (by decide)))) (blkOk_by (N := N_Ring___str__) (sc := (defScope s_Ring___str__)) (by decide +kernel)) (fun _ _ _ _ _ => (gw_name (i := 1) sc_Ring___str__.nd)) (fun _ _ _ _ _ => tsd_nil) (fun _ _ _ _ _ => (pd_fn F_host_row (hr.mono (by decide)) takes0 (ad_cons (vr 1) ad_nil))))))))) hk
abbrev P_place : List Str := ["_law_keg", "_law_size", "_law_taken"]
theorem sc_place : FnScope N_place P_place (defScope s_place) := ⟨rfl, rfl, rfl, by decide +kernel, rfl, by decide +kernel, by decide +kernel⟩
theorem ok_place {P : Program} {w : World} {K : PySem.W.Frag} {mg : Str → Option Value} {base : Heap} {C f : Addr} {fd : FuncData} (T : Tx K mg C) (F_dip : Fok P w K mg base "_law_dip" 1 2 (sd_dip C)) (F_of : Fok P w K mg base "_law_of" 2 2 (sd_of C)) (F_vast : Fok P w K mg base "_law_vast" 2 2 (sd_vast C))
    (F : FunD K "_law_place" "_law_place" (defArgs s_place) (defBody s_place) (defScope s_place) [] [] f fd) (hk : Keeps N_place 3 (sd_place C) (db_place C)) : FnOk P w K mg base (L2.CX P w) 3 f fd P_place (spOf K 3 (sd_place C)) := 
  okD F sc_place rfl (fun cdv A fr s H E hr => (bd_cons (sd_set 3 sc_place.nd (pd_fn F_dip (hr.mono (by decide)) tkF (ad_cons (vr 0) (ad_cons pd_int ad_nil))))
      (bd_cons (sd_if (td_cmp (opd_eq hr.units) (vr 3) pd_int (nomark _)) (bd_one (sd_ret (pd_ix ixd (pd_lst (ad_cons pd_int (ad_cons (pd_op opd_sub (vr 1) pd_int) ad_nil))) (pd_fn F_dip (hr.mono (by decide)) tkF (ad_cons (vr 0) (ad_cons pd_int ad_nil))) (fun _ _ => rfl)))) bd_nil)
      (bd_cons (sd_if (td_w (wd_and (td_cmp opd_lt (vr 3) pd_int (nomark _)) (wd_and1 (td_cmp (opd_ne hr.units) (vr 2) (pd_lst ad_nil) (nomark _))))) (bd_one (sd_ret (pd_op opd_mod (pd_callTy (cd_int) (by rfl) T.int (by decide +kernel) (ad_cons (pd_op opd_sub (pd_op opd_add (pd_fn F_of (hr.mono (by decide)) tkF (ad_cons (vr 0) (ad_cons (vr 2) ad_nil))) (pd_fn F_dip (hr.mono (by decide)) tkF (ad_cons (vr 0) (ad_cons pd_int ad_nil)))) pd_int) ad_nil)) (vr 1)))) bd_nil)
      (bd_one (sd_ret (pd_if (td_cmp opd_lt (vr 1) pd_int (nomark _)) (pd_fn F_dip (hr.mono (by decide)) tkF (ad_cons (vr 0) (ad_cons (vr 1) ad_nil))) (pd_fn F_vast (hr.mono (by decide)) tkF (ad_cons (vr 0) (ad_cons (vr 1) ad_nil)))))))))) hk
abbrev P_title : List Str := ["_law_keg"]
theorem sc_title : FnScope N_title P_title (defScope s_title) := ⟨rfl, rfl, rfl, by decide +kernel, rfl, by decide +kernel, by decide +kernel⟩
theorem ok_title {P : Program} {w : World} {K : PySem.W.Frag} {mg : Str → Option Value} {base : Heap} {C f : Addr} {fd : FuncData} (T : Tx K mg C) (F_dip : Fok P w K mg base "_law_dip" 1 2 (sd_dip C)) (F_of : Fok P w K mg base "_law_of" 2 2 (sd_of C))
    (F : FunD K "_law_title" "_law_title" (defArgs s_title) (defBody s_title) (defScope s_title) [] [] f fd) (hk : Keeps N_title 1 (sd_title C) (db_title C)) : FnOk P w K mg base (L2.CX P w) 3 f fd P_title (spOf K 1 (sd_title C)) := 
  okD F sc_title rfl (fun cdv A fr s H E hr => (bd_cons (sd_set 1 sc_title.nd pd_str)
      (bd_cons (sd_if (td_cmp (opd_eq hr.units) (pd_fn F_dip (hr.mono (by decide)) tkF (ad_cons (vr 0) (ad_cons pd_int ad_nil))) pd_int (nomark _)) (bd_one (sd_ret (pd_fn F_of (hr.mono (by decide)) tkF (ad_cons (vr 0) (ad_cons (pd_lst (ad_cons pd_str (ad_cons pd_str (ad_cons pd_str (ad_cons pd_str (ad_cons pd_str (ad_cons pd_str (ad_cons pd_str (ad_cons pd_str (ad_cons pd_str ad_nil)))))))))) ad_nil))))) bd_nil)
      (bd_cons (sd_set 2 sc_title.nd (pd_ix ixd (vr 1) (pd_fn F_dip (hr.mono (by decide)) tkF (ad_cons (vr 0) (ad_cons pd_int ad_nil))) (fun _ _ => rfl)))
      (bd_cons (sd_for poF rfl (id_rng1 (by rfl) T.range (ad_cons (pd_fn F_of (hr.mono (by decide)) tkF (ad_cons (vr 0) (ad_cons (pd_lst (ad_cons pd_int (ad_cons pd_int (ad_cons pd_int (ad_cons pd_int (ad_cons pd_int (ad_cons pd_int ad_nil))))))) ad_nil))) ad_nil)) (gd_name (i := 3) sc_title.nd) (bd_one (sd_set 2 sc_title.nd (pd_op opd_add (vr 2) (pd_ix ixd (pd_op opd_add (vr 1) pd_str) (pd_fn F_dip (hr.mono (by decide)) tkF (ad_cons (vr 0) (ad_cons pd_int ad_nil))) (fun _ _ => rfl))))))
      (bd_one (sd_ret (vr 2)))))))) hk
abbrev P_rule : List Str := ["_law_keg"]
theorem sc_rule : FnScope N_rule P_rule (defScope s_rule) := ⟨rfl, rfl, rfl, by decide +kernel, rfl, by decide +kernel, by decide +kernel⟩
theorem ok_rule {P : Program} {w : World} {K : PySem.W.Frag} {mg : Str → Option Value} {base : Heap} {C f : Addr} {fd : FuncData} (T : Tx K mg C) (F_dip : Fok P w K mg base "_law_dip" 1 2 (sd_dip C)) (F_of : Fok P w K mg base "_law_of" 2 2 (sd_of C))
    (F : FunD K "_law_rule" "_law_rule" (defArgs s_rule) (defBody s_rule) (defScope s_rule) [] [] f fd) (hk : Keeps N_rule 1 (sd_rule C) (db_rule C)) : FnOk P w K mg base (L2.CX P w) 3 f fd P_rule (spOf K 1 (sd_rule C)) := 
  okD F sc_rule rfl (fun cdv A fr s H E hr => (bd_cons (sd_set 1 sc_rule.nd (pd_op opd_add pd_int (pd_fn F_dip (hr.mono (by decide)) tkF (ad_cons (vr 0) (ad_cons pd_int ad_nil)))))
      (bd_cons (sd_set 2 sc_rule.nd (pd_lst (ad_cons (vr 1) (ad_cons (pd_fn F_of (hr.mono (by decide)) tkF (ad_cons (vr 0) (ad_cons (pd_lst (ad_cons pd_str (ad_cons pd_str ad_nil))) ad_nil))) ad_nil))))
      (bd_one (sd_ret (pd_op opd_add (vr 2) (pd_lst (ad_cons (pd_op opd_add pd_int (pd_fn F_dip (hr.mono (by decide)) tkF (ad_cons (vr 0) (ad_cons (vr 1) ad_nil)))) (ad_cons (pd_op opd_add pd_int (pd_fn F_dip (hr.mono (by decide)) tkF (ad_cons (vr 0) (ad_cons (vr 1) ad_nil)))) (ad_cons (pd_fn F_of (hr.mono (by decide)) tkF (ad_cons (vr 0) (ad_cons (pd_lst (ad_cons pd_str (ad_cons pd_str ad_nil))) ad_nil))) ad_nil)))))))))) hk
abbrev P_are_free_marks : List Str := ["value", "points", "hosts"]
theorem sc_are_free_marks : FnScope N_are_free_marks P_are_free_marks (defScope s_are_free_marks) := ⟨rfl, rfl, rfl, by decide +kernel, rfl, by decide +kernel, by decide +kernel⟩
theorem ok_are_free_marks {P : Program} {w : World} {K : PySem.W.Frag} {mg : Str → Option Value} {base : Heap} {C f : Addr} {fd : FuncData} (T : Tx K mg C) (F_is_ascending : Fok P w K mg base "is_ascending" 1 1 (sd_is_ascending C)) (F_is_from_to : Fok P w K mg base "is_from_to" 2 3 (sd_is_from_to C))
    (F : FunD K "are_free_marks" "are_free_marks" (defArgs s_are_free_marks) (defBody s_are_free_marks) (defScope s_are_free_marks) [] [] f fd) (hk : Keeps N_are_free_marks 3 (sd_are_free_marks C) (db_are_free_marks C)) : FnOk P w K mg base (L2.CX P w) 3 f fd P_are_free_marks (spOf K 3 (sd_are_free_marks C)) := 
  okD F sc_are_free_marks rfl (fun cdv A fr s H E hr => (bd_cons (sd_if (td_w (wd_or (td_not (td_tru (pd_isi (vr 0) T.isinstance T.tuple (by decide +kernel)))) (wd_or1 (td_not (td_chn opd_le opd_le pd_int (pd_callB (cd_len) (by rfl) T.len (by decide +kernel) (ad_cons (vr 0) ad_nil)) (pd_cint T.c_MOST_MARKS)))))) (bd_one (sd_ret pd_bl)) bd_nil)
      (bd_cons (sd_if (td_w (wd_or (td_not (td_tru (pd_callB (cd_all rfl) (by rfl) T.all (by decide +kernel) (ad_cons (pd_lc (own := [("mark", 3)]) rfl sc_are_free_marks.nd (id_seq (vr 0)) (blkOk_by (N := N_are_free_marks) (sc := (defScope s_are_free_marks)) (by decide +kernel)) (fun _ _ _ _ _ => (gw_name (i := 3) sc_are_free_marks.nd)) (fun _ _ _ _ _ => tsd_nil) (fun _ _ _ _ _ => (pd_fn F_is_from_to (hr.mono (by decide)) takes0 (ad_cons (vr 3) (ad_cons pd_int (ad_cons (pd_op opd_sub (vr 1) pd_int) ad_nil)))))) ad_nil)))) (wd_or1 (td_not (td_tru (pd_fn F_is_ascending (hr.mono (by decide)) tkF (ad_cons (vr 0) ad_nil))))))) (bd_one (sd_ret pd_bl)) bd_nil)
      (bd_one (sd_ret (pd_not (pd_callB (cd_any rfl) (by rfl) T.any (by decide +kernel) (ad_cons (pd_lc2 (own := [("host", 4), ("mark", 3)]) (vs1 := [3]) rfl sc_are_free_marks.nd (id_seq (vr 2)) (blkOk_by (N := N_are_free_marks) (sc := (defScope s_are_free_marks)) (by decide +kernel)) (by decide) (fun _ _ _ _ _ => (gw_name (i := 4) sc_are_free_marks.nd)) (fun _ _ _ _ _ => tsd_nil) (fun _ _ _ _ _ => (id_seq (vr 0))) (fun _ _ _ _ _ => (gw_name (i := 3) sc_are_free_marks.nd)) (fun _ _ _ _ _ => tsd_nil) (fun _ _ _ _ _ => (pd_cmp opd_in (vr 3) (pd_ix ixd (vr 4) pd_int (fun _ _ => rfl)) (by rfl)))) ad_nil)))))))) hk
abbrev P_written_host : List Str := ["row"]
theorem sc_written_host : FnScope N_written_host P_written_host (defScope s_written_host) := ⟨rfl, rfl, rfl, by decide +kernel, rfl, by decide +kernel, by decide +kernel⟩
theorem ok_written_host {P : Program} {w : World} {K : PySem.W.Frag} {mg : Str → Option Value} {base : Heap} {C f : Addr} {fd : FuncData} (T : Tx K mg C) (F_written_number : Fok P w K mg base "written_number" 2 1 (sd_written_number C))
    (F : FunD K "written_host" "written_host" (defArgs s_written_host) (defBody s_written_host) (defScope s_written_host) [] [] f fd) (hk : Keeps N_written_host 1 (sd_written_host C) (db_written_host C)) : FnOk P w K mg base (L2.CX P w) 3 f fd P_written_host (spOf K 1 (sd_written_host C)) := 
  okD F sc_written_host rfl (fun cdv A fr s H E hr => (bd_cons (sd_set 1 sc_written_host.nd (pd_split (vr 0) pd_str))
      (bd_cons (sd_if (td_w (wd_or (td_cmp (opd_ne hr.units) (pd_ix ixd (vr 1) pd_int (fun _ _ => rfl)) pd_str (nomark _)) (wd_or1 (td_cmp opd_lt (pd_callB (cd_len) (by rfl) T.len (by decide +kernel) (ad_cons (vr 1) ad_nil)) pd_int (nomark _))))) (bd_one (sd_ret pd_non)) bd_nil)
      (bd_one (sd_ret (pd_tup (ad_cons (pd_ix ixd (vr 1) pd_int (fun _ _ => rfl)) (ad_cons (pd_ix ixd (vr 1) pd_int (fun _ _ => rfl)) (ad_cons (pd_callTy (cd_tuple) (by rfl) T.tuple (by decide +kernel) (ad_cons (pd_lc (own := [("word", 2)]) rfl sc_written_host.nd (id_seq (pd_slice sld (vr 1) (od_some pd_int) od_no)) (blkOk_by (N := N_written_host) (sc := (defScope s_written_host)) (by decide +kernel)) (fun _ _ _ _ _ => (gw_name (i := 2) sc_written_host.nd)) (fun _ _ _ _ _ => tsd_nil) (fun _ _ _ _ _ => (pd_fn F_written_number (hr.mono (by decide)) takes0 (ad_cons (vr 2) ad_nil)))) ad_nil)) ad_nil))))))))) hk
abbrev P_value : List Str := ["_law_keg"]
theorem sc_value : FnScope N_value P_value (defScope s_value) := ⟨rfl, rfl, rfl, by decide +kernel, rfl, by decide +kernel, by decide +kernel⟩
theorem ok_value {P : Program} {w : World} {K : PySem.W.Frag} {mg : Str → Option Value} {base : Heap} {C f : Addr} {fd : FuncData} (T : Tx K mg C) (F_of : Fok P w K mg base "_law_of" 2 2 (sd_of C))
    (F : FunD K "_law_value" "_law_value" (defArgs s_value) (defBody s_value) (defScope s_value) [] [] f fd) (hk : Keeps N_value 1 (sd_value C) (db_value C)) : FnOk P w K mg base (L2.CX P w) 3 f fd P_value (spOf K 1 (sd_value C)) := 
  okD F sc_value rfl (fun cdv A fr s H E hr => (bd_cons (sd_set 1 sc_value.nd (pd_lst (ad_cons pd_non (ad_cons pd_bl (ad_cons pd_bl (ad_cons pd_int (ad_cons pd_int (ad_cons (pd_un und_neg pd_int) (ad_cons pd_int (ad_cons (pd_op opd_pow pd_int pd_int) (ad_cons pd_str (ad_cons pd_str (ad_cons pd_str (ad_cons pd_str (ad_cons (pd_tup ad_nil) (ad_cons (pd_tup (ad_cons pd_int ad_nil)) (ad_cons (pd_lst ad_nil) (ad_cons (pd_lst (ad_cons pd_int ad_nil)) (ad_cons pd_dicC (ad_cons (pd_dic1 pd_str pd_int) (ad_cons (pd_tup (ad_cons pd_str (ad_cons pd_non ad_nil))) ad_nil)))))))))))))))))))))
      (bd_one (sd_ret (pd_fn F_of (hr.mono (by decide)) tkF (ad_cons (vr 0) (ad_cons (pd_op opd_add (vr 1) (pd_lst (ad_cons (pd_tup (ad_cons pd_str (ad_cons pd_str (ad_cons (pd_tup (ad_cons pd_int ad_nil)) ad_nil)))) (ad_cons (pd_tup (ad_cons (pd_tup (ad_cons pd_str (ad_cons pd_str (ad_cons (pd_tup (ad_cons pd_int ad_nil)) ad_nil)))) ad_nil)) (ad_cons (pd_lst (ad_cons pd_str (ad_cons pd_str (ad_cons (pd_lst (ad_cons pd_int ad_nil)) ad_nil)))) (ad_cons pd_str (ad_cons pd_str ad_nil))))))) ad_nil))))))) hk
abbrev P_width : List Str := ["_law_keg"]
theorem sc_width : FnScope N_width P_width (defScope s_width) := ⟨rfl, rfl, rfl, by decide +kernel, rfl, by decide +kernel, by decide +kernel⟩
theorem ok_width {P : Program} {w : World} {K : PySem.W.Frag} {mg : Str → Option Value} {base : Heap} {C f : Addr} {fd : FuncData} (T : Tx K mg C) (F_dip : Fok P w K mg base "_law_dip" 1 2 (sd_dip C)) (F_vast : Fok P w K mg base "_law_vast" 2 2 (sd_vast C))
    (F : FunD K "_law_width" "_law_width" (defArgs s_width) (defBody s_width) (defScope s_width) [] [] f fd) (hk : Keeps N_width 1 (sd_width C) (db_width C)) : FnOk P w K mg base (L2.CX P w) 3 f fd P_width (spOf K 1 (sd_width C)) := 
  okD F sc_width rfl (fun cdv A fr s H E hr => (bd_cons (sd_set 1 sc_width.nd (pd_fn F_dip (hr.mono (by decide)) tkF (ad_cons (vr 0) (ad_cons pd_int ad_nil))))
      (bd_cons (sd_if (td_cmp opd_lt (vr 1) pd_int (nomark _)) (bd_one (sd_ret (pd_op opd_add pd_int (pd_fn F_dip (hr.mono (by decide)) tkF (ad_cons (vr 0) (ad_cons pd_int ad_nil)))))) bd_nil)
      (bd_cons (sd_if (td_cmp opd_lt (vr 1) pd_int (nomark _)) (bd_one (sd_ret (pd_ix ixd (pd_lst (ad_cons (pd_op opd_pow pd_int pd_int) (ad_cons (pd_op opd_sub (pd_op opd_pow pd_int pd_int) pd_int) ad_nil))) (pd_op opd_sub (vr 1) pd_int) (fun _ _ => rfl)))) bd_nil)
      (bd_one (sd_ret (pd_if (td_cmp (opd_eq hr.units) (vr 1) pd_int (nomark _)) (pd_op opd_add pd_int (pd_fn F_dip (hr.mono (by decide)) tkF (ad_cons (vr 0) (ad_cons (pd_op opd_pow pd_int pd_int) ad_nil)))) (pd_op opd_add pd_int (pd_fn F_vast (hr.mono (by decide)) tkF (ad_cons (vr 0) (ad_cons (pd_op opd_pow pd_int pd_int) ad_nil))))))))))) hk
abbrev P_titles : List Str := ["_law_keg", "_law_many"]
theorem sc_titles : FnScope N_titles P_titles (defScope s_titles) := ⟨rfl, rfl, rfl, by decide +kernel, rfl, by decide +kernel, by decide +kernel⟩
theorem ok_titles {P : Program} {w : World} {K : PySem.W.Frag} {mg : Str → Option Value} {base : Heap} {C f : Addr} {fd : FuncData} (T : Tx K mg C) (F_dip : Fok P w K mg base "_law_dip" 1 2 (sd_dip C)) (F_title : Fok P w K mg base "_law_title" 3 1 (sd_title C))
    (F : FunD K "_law_titles" "_law_titles" (defArgs s_titles) (defBody s_titles) (defScope s_titles) [] [] f fd) (hk : Keeps N_titles 2 (sd_titles C) (db_titles C)) : FnOk P w K mg base (L2.CX P w) 4 f fd P_titles (spOf K 2 (sd_titles C)) := 
  okD F sc_titles rfl (fun cdv A fr s H E hr => (bd_cons (sd_asg (pd_tup (ad_cons (pd_lst (ad_cons pd_str (ad_cons pd_str (ad_cons pd_str (ad_cons pd_str (ad_cons pd_str (ad_cons pd_str (ad_cons pd_str (ad_cons pd_str (ad_cons pd_str (ad_cons pd_str (ad_cons pd_str (ad_cons pd_str ad_nil))))))))))))) (ad_cons (pd_lstC ad_nil) ad_nil))) (gd_tup (n := 2) rfl (gds_cons (gd_name (i := 2) sc_titles.nd) (gds_cons (gd_name (i := 3) sc_titles.nd) gds_nil))))
      (bd_cons (sd_for poF rfl (id_rng1 (by rfl) T.range (ad_cons (vr 1) ad_nil)) (gd_name (i := 4) sc_titles.nd) (bd_cons (sd_set 5 sc_titles.nd (pd_fn F_title (hr.mono (by decide)) tkF (ad_cons (vr 0) ad_nil)))
      (bd_cons (sd_if (td_w (wd_and (td_cmp (opd_ne hr.units) (vr 3) (pd_lst ad_nil) (nomark _)) (wd_and1 (td_cmp (opd_eq hr.units) (pd_fn F_dip (hr.mono (by decide)) tkF (ad_cons (vr 0) (ad_cons pd_int ad_nil))) pd_int (nomark _))))) (bd_one (sd_set 5 sc_titles.nd (pd_op opd_add (pd_slice sld (pd_ix ixd (vr 3) pd_int (fun _ _ => rfl)) od_no (od_some pd_int)) (pd_ix ixd pd_str (vr 4) (fun _ _ => rfl))))) bd_nil)
      (bd_one (sd_expr (pd_app (vr 3) (ad_cons (pd_ix ixd (pd_lc (own := [("_law_each", 6)]) rfl sc_titles.nd (id_seq (pd_op opd_add (pd_lst (ad_cons (vr 5) ad_nil)) (vr 2))) (blkOk_by (N := N_titles) (sc := (defScope s_titles)) (by decide +kernel)) (fun _ _ _ _ _ => (gw_name (i := 6) sc_titles.nd)) (fun _ _ _ _ _ => (tsd_one (td_cmp opd_ni (vr 6) (vr 3) (by rfl)))) (fun _ _ _ _ _ => (vr 6))) pd_int (fun _ _ => rfl)) ad_nil)))))))
      (bd_one (sd_retF (vr 3)))))) hk
abbrev P_is_next_host : List Str := ["value", "points", "hosts"]
theorem sc_is_next_host : FnScope N_is_next_host P_is_next_host (defScope s_is_next_host) := ⟨rfl, rfl, rfl, by decide +kernel, rfl, by decide +kernel, by decide +kernel⟩
theorem ok_is_next_host {P : Program} {w : World} {K : PySem.W.Frag} {mg : Str → Option Value} {base : Heap} {C f : Addr} {fd : FuncData} (T : Tx K mg C) (F_are_free_marks : Fok P w K mg base "are_free_marks" 3 3 (sd_are_free_marks C)) (F_is_free_name : Fok P w K mg base "is_free_name" 2 2 (sd_is_free_name C)) (F_is_name : Fok P w K mg base "is_name" 1 1 (sd_is_name C))
    (F : FunD K "is_next_host" "is_next_host" (defArgs s_is_next_host) (defBody s_is_next_host) (defScope s_is_next_host) [] [] f fd) (hk : Keeps N_is_next_host 3 (sd_is_next_host C) (db_is_next_host C)) : FnOk P w K mg base (L2.CX P w) 4 f fd P_is_next_host (spOf K 3 (sd_is_next_host C)) := 
  okD F sc_is_next_host rfl (fun cdv A fr s H E hr => (bd_cons (sd_if (td_w (wd_or (td_not (td_tru (pd_isi (vr 0) T.isinstance T.tuple (by decide +kernel)))) (wd_or1 (td_cmp (opd_ne hr.units) (pd_callB (cd_len) (by rfl) T.len (by decide +kernel) (ad_cons (vr 0) ad_nil)) pd_int (nomark _))))) (bd_one (sd_ret pd_bl)) bd_nil)
      (bd_cons (sd_asg (vr 0) (gd_tup (n := 3) rfl (gds_cons (gd_name (i := 3) sc_is_next_host.nd) (gds_cons (gd_name (i := 4) sc_is_next_host.nd) (gds_cons (gd_name (i := 5) sc_is_next_host.nd) gds_nil)))))
      (bd_one (sd_ret (pd_and (pd_fn F_is_free_name (hr.mono (by decide)) tkF (ad_cons (vr 3) (ad_cons (vr 2) ad_nil))) (pd_and (pd_fn F_is_name (hr.mono (by decide)) tkF (ad_cons (vr 4) ad_nil)) (pd_one (pd_fn F_are_free_marks (hr.mono (by decide)) tkF (ad_cons (vr 5) (ad_cons (vr 1) (ad_cons (vr 2) ad_nil)))))))))))) hk
abbrev P_pair_right : List Str := ["_law_mine", "_law_mate", "_law_due"]
theorem sc_pair_right : FnScope N_pair_right P_pair_right (defScope s_pair_right) := ⟨rfl, rfl, rfl, by decide +kernel, rfl, by decide +kernel, by decide +kernel⟩
theorem ok_pair_right {P : Program} {w : World} {K : PySem.W.Frag} {mg : Str → Option Value} {base : Heap} {C f : Addr} {fd : FuncData} (T : Tx K mg C) (F_Ring___eq__ : Mok P w K mg base C "__eq__" 1 2 (sd_Ring___eq__ C))
    (F : FunD K "_law_pair_right" "_law_pair_right" (defArgs s_pair_right) (defBody s_pair_right) (defScope s_pair_right) [] [] f fd) (hk : Keeps N_pair_right 3 (sd_pair_right C) (db_pair_right C)) : FnG P w K mg base 4 f fd P_pair_right (spOf K 3 (sd_pair_right C)) := 
  okG F sc_pair_right rfl (fun cdv A fr s H E hr hg => (bd_cons (sd_set 3 sc_pair_right.nd (pd_lst (ad_cons (pd_cmp (opd_eqT F_Ring___eq__ T.eqT (hr.mono (by decide))) (vr 0) (vr 1) (nomark _)) (ad_cons (pd_cmp (opd_eqT F_Ring___eq__ T.eqT (hr.mono (by decide))) (vr 1) (vr 0) (nomark _)) (ad_cons (pd_cmp (opd_neT F_Ring___eq__ T.neI T.eqT (hr.mono (by decide))) (vr 0) (vr 1) (nomark _)) (ad_cons (pd_cmp (opd_neT F_Ring___eq__ T.neI T.eqT (hr.mono (by decide))) (vr 1) (vr 0) (nomark _)) ad_nil))))))
      (bd_one (sd_ret (pd_cmp (opd_eq hr.units) (pd_callB (cd_repr hg (hu2_of hr)) (by rfl) T.repr (by decide +kernel) (ad_cons (vr 3) ad_nil)) (pd_callB (cd_repr hg (hu2_of hr)) (by rfl) T.repr (by decide +kernel) (ad_cons (pd_lst (ad_cons (vr 2) (ad_cons (vr 2) (ad_cons (pd_not (vr 2)) (ad_cons (pd_not (vr 2)) ad_nil))))) ad_nil)) (nomark _)))))) hk
abbrev P_yards : List Str := ["_law_keg", "_law_many"]
theorem sc_yards : FnScope N_yards P_yards (defScope s_yards) := ⟨rfl, rfl, rfl, by decide +kernel, rfl, by decide +kernel, by decide +kernel⟩
theorem ok_yards {P : Program} {w : World} {K : PySem.W.Frag} {mg : Str → Option Value} {base : Heap} {C f : Addr} {fd : FuncData} (T : Tx K mg C) (F_dip : Fok P w K mg base "_law_dip" 1 2 (sd_dip C)) (F_of : Fok P w K mg base "_law_of" 2 2 (sd_of C)) (F_titles : Fok P w K mg base "_law_titles" 4 2 (sd_titles C))
    (F : FunD K "_law_yards" "_law_yards" (defArgs s_yards) (defBody s_yards) (defScope s_yards) [] [] f fd) (hk : Keeps N_yards 2 (sd_yards C) (db_yards C)) : FnOk P w K mg base (L2.CX P w) 5 f fd P_yards (spOf K 2 (sd_yards C)) := 
  okD F sc_yards rfl (fun cdv A fr s H E hr => (bd_cons (sd_set 2 sc_yards.nd (pd_fn F_titles (hr.mono (by decide)) tkF (ad_cons (vr 0) (ad_cons (pd_op opd_add pd_int (pd_fn F_dip (hr.mono (by decide)) tkF (ad_cons (vr 0) (ad_cons pd_int ad_nil)))) ad_nil))))
      (bd_one (sd_ret (pd_lc (own := [("_law_turn", 3)]) rfl sc_yards.nd (id_rng1 (by rfl) T.range (ad_cons (vr 1) ad_nil)) (blkOk_by (N := N_yards) (sc := (defScope s_yards)) (by decide +kernel)) (fun _ _ _ _ _ => (gw_name (i := 3) sc_yards.nd)) (fun _ _ _ _ _ => tsd_nil) (fun _ _ _ _ _ => (pd_fn F_of (hr.mono (by decide)) takes0 (ad_cons (vr 0) (ad_cons (vr 2) ad_nil))))))))) hk
abbrev P_check_hosts : List Str := ["points", "hosts"]
theorem sc_check_hosts : FnScope N_check_hosts P_check_hosts (defScope s_check_hosts) := ⟨rfl, rfl, rfl, by decide +kernel, rfl, by decide +kernel, by decide +kernel⟩
theorem ok_check_hosts {P : Program} {w : World} {K : PySem.W.Frag} {mg : Str → Option Value} {base : Heap} {C f : Addr} {fd : FuncData} (T : Tx K mg C) (F_is_next_host : Fok P w K mg base "is_next_host" 4 3 (sd_is_next_host C))
    (F : FunD K "check_hosts" "check_hosts" (defArgs s_check_hosts) (defBody s_check_hosts) (defScope s_check_hosts) [] [] f fd) (hk : Keeps N_check_hosts 2 (sd_check_hosts C) (db_check_hosts C)) : FnOk P w K mg base (L2.CX P w) 5 f fd P_check_hosts (spOf K 2 (sd_check_hosts C)) := 
  okD F sc_check_hosts rfl (fun cdv A fr s H E hr => (bd_cons (sd_if (td_w (wd_or (td_not (td_tru (pd_isi (vr 1) T.isinstance T.tuple (by decide +kernel)))) (wd_or1 (td_cmp (opd_eq hr.units) (pd_callB (cd_len) (by rfl) T.len (by decide +kernel) (ad_cons (vr 1) ad_nil)) pd_int (nomark _))))) (bd_one sd_never) bd_nil)
      (bd_one (sd_for poF rfl (id_enum (by rfl) T.enumerate (ad_cons (vr 1) ad_nil)) (gd_tup (n := 2) rfl (gds_cons (gd_name (i := 2) sc_check_hosts.nd) (gds_cons (gd_name (i := 3) sc_check_hosts.nd) gds_nil))) (bd_one (sd_if (td_w (wd_or (td_cmp (opd_eq hr.units) (vr 2) (pd_cint T.c_MOST_HOSTS) (nomark _)) (wd_or1 (td_not (td_tru (pd_fn F_is_next_host (hr.mono (by decide)) tkF (ad_cons (vr 3) (ad_cons (vr 0) (ad_cons (pd_slice sld (vr 1) od_no (od_some (vr 2))) ad_nil))))))))) (bd_one sd_never) bd_nil)))))) hk
abbrev P_band : List Str := ["_law_keg", "_law_size", "_law_most", "_law_each"]
theorem sc_band : FnScope N_band P_band (defScope s_band) := ⟨rfl, rfl, rfl, by decide +kernel, rfl, by decide +kernel, by decide +kernel⟩
theorem ok_band {P : Program} {w : World} {K : PySem.W.Frag} {mg : Str → Option Value} {base : Heap} {C f : Addr} {fd : FuncData} (T : Tx K mg C) (F_dip : Fok P w K mg base "_law_dip" 1 2 (sd_dip C)) (F_free : Fok P w K mg base "_law_free" 1 3 (sd_free C)) (F_place : Fok P w K mg base "_law_place" 3 3 (sd_place C)) (F_titles : Fok P w K mg base "_law_titles" 4 2 (sd_titles C)) (F_yards : Fok P w K mg base "_law_yards" 5 2 (sd_yards C))
    (F : FunD K "_law_band" "_law_band" (defArgs s_band) (defBody s_band) (defScope s_band) [] [] f fd) (hk : Keeps N_band 4 (sd_band C) (db_band C)) : FnOk P w K mg base (L2.CX P w) 6 f fd P_band (spOf K 4 (sd_band C)) := 
  okD F sc_band rfl (fun cdv A fr s H E hr => (bd_cons (sd_par3 4 5 6 rfl sc_band.nd (ad_cons (pd_callB (cd_min2 rfl) (by rfl) T.min (by decide +kernel) (ad_cons (pd_op opd_add pd_int (pd_fn F_dip (hr.mono (by decide)) tkF (ad_cons (vr 0) (ad_cons (vr 2) ad_nil)))) (ad_cons (vr 1) ad_nil))) (ad_cons (pd_lstC ad_nil) (ad_cons (pd_lstC ad_nil) ad_nil))))
      (bd_cons (sd_par2 7 8 rfl sc_band.nd (ad_cons (pd_fn F_titles (hr.mono (by decide)) tkF (ad_cons (vr 0) (ad_cons (vr 4) ad_nil))) (ad_cons (pd_fn F_yards (hr.mono (by decide)) tkF (ad_cons (vr 0) (ad_cons (vr 4) ad_nil))) ad_nil)))
      (bd_cons (sd_for poF rfl (id_rng1 (by rfl) T.range (ad_cons (vr 4) ad_nil)) (gd_name (i := 9) sc_band.nd) (bd_cons (sd_par2 10 11 rfl sc_band.nd (ad_cons (pd_lstC ad_nil) (ad_cons (pd_op opd_sub (pd_op opd_sub (vr 1) (pd_callB (cd_len) (by rfl) T.len (by decide +kernel) (ad_cons (vr 5) ad_nil))) (pd_op opd_sub (pd_op opd_sub (vr 4) pd_int) (vr 9))) ad_nil)))
      (bd_cons (sd_for poF rfl (id_rng1 (by rfl) T.range (ad_cons (pd_callB (cd_min2 rfl) (by rfl) T.min (by decide +kernel) (ad_cons (pd_op opd_add pd_int (pd_fn F_dip (hr.mono (by decide)) tkF (ad_cons (vr 0) (ad_cons (vr 3) ad_nil)))) (ad_cons (vr 11) ad_nil))) ad_nil)) (gd_name (i := 12) sc_band.nd) (bd_cons (sd_set 13 sc_band.nd (pd_fn F_free (hr.mono (by decide)) tkF (ad_cons (vr 1) (ad_cons (vr 5) (ad_cons (pd_fn F_place (hr.mono (by decide)) tkF (ad_cons (vr 0) (ad_cons (vr 1) (ad_cons (vr 5) ad_nil)))) ad_nil)))))
      (bd_cons (sd_expr (pd_app (vr 10) (ad_cons (vr 13) ad_nil)))
      (bd_one (sd_expr (pd_app (vr 5) (ad_cons (vr 13) ad_nil)))))))
      (bd_one (sd_expr (pd_app (vr 6) (ad_cons (pd_tup (ad_cons (pd_ix ixd (vr 7) (vr 9) (fun _ _ => rfl)) (ad_cons (pd_ix ixd (vr 8) (vr 9) (fun _ _ => rfl)) (ad_cons (pd_callTy (cd_tuple) (by rfl) T.tuple (by decide +kernel) (ad_cons (pd_callB (cd_sortI) (by rfl) T.sorted (by decide +kernel) (ad_cons (vr 10) ad_nil)) ad_nil)) ad_nil)))) ad_nil)))))))
      (bd_one (sd_ret (pd_callTy (cd_tuple) (by rfl) T.tuple (by decide +kernel) (ad_cons (vr 6) ad_nil)))))))) hk
abbrev P_Ring___init__ : List Str := ["self", "points", "factor", "spread", "write", "read", "pending", "hosts"]
theorem sc_Ring___init__ : FnScope N_Ring___init__ P_Ring___init__ (defScope s_Ring___init__) := ⟨rfl, rfl, rfl, by decide +kernel, rfl, by decide +kernel, by decide +kernel⟩
theorem ok_Ring___init__ {P : Program} {w : World} {K : PySem.W.Frag} {mg : Str → Option Value} {base : Heap} {C f : Addr} {fd : FuncData} (T : Tx K mg C) (F_check_hosts : Fok P w K mg base "check_hosts" 5 2 (sd_check_hosts C)) (F_is_from_to : Fok P w K mg base "is_from_to" 2 3 (sd_is_from_to C)) (F_is_word_of : Fok P w K mg base "is_word_of" 1 2 (sd_is_word_of C))
    (F : FunD K "__init__" "Ring.__init__" (defArgs s_Ring___init__) (defBody s_Ring___init__) (defScope s_Ring___init__) [] [] f fd) (hk : Keeps N_Ring___init__ 8 (sd_Ring___init__ C) (db_Ring___init__ C)) : FnOk P w K mg base (L2.CX P w) 6 f fd P_Ring___init__ (spOf K 8 (sd_Ring___init__ C)) := 
  okD F sc_Ring___init__ rfl (fun cdv A fr s H E hr => (bd_cons (sd_if (td_not (td_tru (pd_fn F_is_from_to (hr.mono (by decide)) tkF (ad_cons (vr 1) (ad_cons pd_int (ad_cons (pd_cint T.c_MOST_POINTS) ad_nil)))))) (bd_one sd_never) bd_nil)
      (bd_cons (sd_if (td_not (td_tru (pd_fn F_is_from_to (hr.mono (by decide)) tkF (ad_cons (vr 2) (ad_cons pd_int (ad_cons (pd_cint T.c_MOST_FACTOR) ad_nil)))))) (bd_one sd_never) bd_nil)
      (bd_cons (sd_if (td_not (td_tru (pd_fn F_is_word_of (hr.mono (by decide)) tkF (ad_cons (vr 3) (ad_cons (pd_ctup T.c_SPREADS) ad_nil))))) (bd_one sd_never) bd_nil)
      (bd_cons (sd_if (td_not (td_tru (pd_fn F_is_from_to (hr.mono (by decide)) tkF (ad_cons (vr 4) (ad_cons pd_int (ad_cons (vr 2) ad_nil)))))) (bd_one sd_never) bd_nil)
      (bd_cons (sd_if (td_not (td_tru (pd_fn F_is_from_to (hr.mono (by decide)) tkF (ad_cons (vr 5) (ad_cons pd_int (ad_cons (vr 2) ad_nil)))))) (bd_one sd_never) bd_nil)
      (bd_cons (sd_if (td_not (td_tru (pd_fn F_is_word_of (hr.mono (by decide)) tkF (ad_cons (vr 6) (ad_cons (pd_ctup T.c_PENDINGS) ad_nil))))) (bd_one sd_never) bd_nil)
      (bd_cons (sd_expr (pd_fn F_check_hosts (hr.mono (by decide)) tkF (ad_cons (vr 1) (ad_cons (vr 7) ad_nil))))
      (bd_cons (sd_fset (vr 0) T.cRing (T.na "_points" (by decide)) (vr 1))
      (bd_cons (sd_fset (vr 0) T.cRing (T.na "_factor" (by decide)) (vr 2))
      (bd_cons (sd_fset (vr 0) T.cRing (T.na "_spread" (by decide)) (vr 3))
      (bd_cons (sd_fset (vr 0) T.cRing (T.na "_write" (by decide)) (vr 4))
      (bd_cons (sd_fset (vr 0) T.cRing (T.na "_read_number" (by decide)) (vr 5))
      (bd_cons (sd_fset (vr 0) T.cRing (T.na "_pending" (by decide)) (vr 6))
      (bd_one (sd_fset (vr 0) T.cRing (T.na "_hosts" (by decide)) (vr 7))))))))))))))))) hk
abbrev P_build : List Str := ["_law_keg", "_law_size", "_law_most", "_law_each"]
theorem sc_build : FnScope N_build P_build (defScope s_build) := ⟨rfl, rfl, rfl, by decide +kernel, rfl, by decide +kernel, by decide +kernel⟩
theorem ok_build {P : Program} {w : World} {K : PySem.W.Frag} {mg : Str → Option Value} {base : Heap} {C f : Addr} {fd : FuncData} (T : Tx K mg C) (F_band : Fok P w K mg base "_law_band" 6 4 (sd_band C)) (F_rule : Fok P w K mg base "_law_rule" 3 1 (sd_rule C))
    (F : FunD K "_law_build" "_law_build" (defArgs s_build) (defBody s_build) (defScope s_build) [] [] f fd) (hk : Keeps N_build 4 (sd_build C) (db_build C)) : FnOk P w K mg base (L2.CX P w) 7 f fd P_build (spOf K 4 (sd_build C)) := 
  okD F sc_build rfl (fun cdv A fr s H E hr => (bd_one (sd_ret (pd_op opd_add (pd_op opd_add (pd_lst (ad_cons (vr 1) ad_nil)) (pd_fn F_rule (hr.mono (by decide)) tkF (ad_cons (vr 0) ad_nil))) (pd_lst (ad_cons (pd_fn F_band (hr.mono (by decide)) tkF (ad_cons (vr 0) (ad_cons (vr 1) (ad_cons (vr 2) (ad_cons (vr 3) ad_nil))))) ad_nil)))))) hk
abbrev P_Ring_read : List Str := ["cls", "text"]
theorem sc_Ring_read : FnScope N_Ring_read P_Ring_read (defScope s_Ring_read) := ⟨rfl, rfl, rfl, by decide +kernel, rfl, by decide +kernel, by decide +kernel⟩
theorem ok_Ring_read {P : Program} {w : World} {K : PySem.W.Frag} {mg : Str → Option Value} {base : Heap} {C f : Addr} {fd : FuncData} (T : Tx K mg C) (F_Ring : Kok P w K mg base "Ring" C 6 8 (sd_Ring___init__ C)) (F_written_host : Fok P w K mg base "written_host" 3 1 (sd_written_host C)) (F_written_number : Fok P w K mg base "written_number" 2 1 (sd_written_number C))
    (F : FunD K "read" "Ring.read" (defArgs s_Ring_read) (defBody s_Ring_read) (defScope s_Ring_read) [] [] f fd) (hk : Keeps N_Ring_read 2 (sd_Ring_read C) (db_Ring_read C)) : FnOk P w K mg base (L2.CX P w) 8 f fd P_Ring_read (spOf K 2 (sd_Ring_read C)) := by
  obtain ⟨ax, ex⟩ := T.e_BadValue
  exact 
  okD F sc_Ring_read rfl (fun cdv A fr s H E hr => (bd_cons (sd_if (td_not (td_tru (pd_isi (vr 1) T.isinstance T.str (by decide +kernel)))) (bd_one sd_never) bd_nil)
      (bd_cons (sd_set 2 sc_Ring_read.nd (pd_split (vr 1) pd_str))
      (bd_cons (sd_set 3 sc_Ring_read.nd (pd_split (pd_ix ixd (vr 2) pd_int (fun _ _ => rfl)) pd_str))
      (bd_cons (sd_if (td_w (wd_or (td_cmp (opd_ne hr.units) (pd_ix ixd (vr 3) pd_int (fun _ _ => rfl)) pd_str (nomark _)) (wd_or1 (td_cmp (opd_ne hr.units) (pd_callB (cd_len) (by rfl) T.len (by decide +kernel) (ad_cons (vr 3) ad_nil)) pd_int (nomark _))))) (bd_one sd_never) bd_nil)
      (bd_cons (sd_asg (pd_lc (own := [("k", 9)]) rfl sc_Ring_read.nd (id_seq (pd_tup (ad_cons pd_int (ad_cons pd_int (ad_cons pd_int (ad_cons pd_int ad_nil)))))) (blkOk_by (N := N_Ring_read) (sc := (defScope s_Ring_read)) (by decide +kernel)) (fun _ _ _ _ _ => (gw_name (i := 9) sc_Ring_read.nd)) (fun _ _ _ _ _ => tsd_nil) (fun _ _ _ _ _ => (pd_fn F_written_number (hr.mono (by decide)) takes0 (ad_cons (pd_ix ixd (vr 3) (vr 9) (fun _ _ => rfl)) ad_nil)))) (gd_lst (n := 4) rfl (gds_cons (gd_name (i := 4) sc_Ring_read.nd) (gds_cons (gd_name (i := 5) sc_Ring_read.nd) (gds_cons (gd_name (i := 6) sc_Ring_read.nd) (gds_cons (gd_name (i := 7) sc_Ring_read.nd) gds_nil))))))
      (bd_cons (sd_set 8 sc_Ring_read.nd (pd_callTy (cd_tuple) (by rfl) T.tuple (by decide +kernel) (ad_cons (pd_lc (own := [("row", 10)]) rfl sc_Ring_read.nd (id_seq (pd_slice sld (vr 2) (od_some pd_int) od_no)) (blkOk_by (N := N_Ring_read) (sc := (defScope s_Ring_read)) (by decide +kernel)) (fun _ _ _ _ _ => (gw_name (i := 10) sc_Ring_read.nd)) (fun _ _ _ _ _ => tsd_nil) (fun _ _ _ _ _ => (pd_fn F_written_host (hr.mono (by decide)) takes0 (ad_cons (vr 10) ad_nil)))) ad_nil)))
      (bd_one (sd_tryN (c := .ref ax) ⟨by rfl, by decide, .inl ex⟩ tkF (fun _ _ _ tk' po' => (bd_one (sd_ret (pd_makeL (i := 0) F_Ring (hr.mono (by decide)) tk' (ad_cons (vr 4) (ad_cons (vr 5) (ad_cons (pd_ix ixd (vr 3) pd_int (fun _ _ => rfl)) (ad_cons (vr 6) (ad_cons (vr 7) (ad_cons (pd_ix ixd (vr 3) pd_int (fun _ _ => rfl)) (ad_cons (vr 8) ad_nil)))))))))))))))))))) hk
abbrev P_other : List Str := ["_law_keg", "_law_frame"]
theorem sc_other : FnScope N_other P_other (defScope s_other) := ⟨rfl, rfl, rfl, by decide +kernel, rfl, by decide +kernel, by decide +kernel⟩
theorem ok_other {P : Program} {w : World} {K : PySem.W.Frag} {mg : Str → Option Value} {base : Heap} {C f : Addr} {fd : FuncData} (T : Tx K mg C) (F_build : Fok P w K mg base "_law_build" 7 4 (sd_build C)) (F_dip : Fok P w K mg base "_law_dip" 1 2 (sd_dip C)) (F_other_crew : Fok P w K mg base "_law_other_crew" 2 3 (sd_other_crew C))
    (F : FunD K "_law_other" "_law_other" (defArgs s_other) (defBody s_other) (defScope s_other) [] [] f fd) (hk : Keeps N_other 2 (sd_other C) (db_other C)) : FnOk P w K mg base (L2.CX P w) 8 f fd P_other (spOf K 2 (sd_other C)) := 
  okD F sc_other rfl (fun cdv A fr s H E hr => (bd_cons (sd_asg (vr 1) (gd_lst (n := 7) rfl (gds_cons (gd_name (i := 2) sc_other.nd) (gds_cons (gd_name (i := 3) sc_other.nd) (gds_cons (gd_name (i := 4) sc_other.nd) (gds_cons (gd_name (i := 5) sc_other.nd) (gds_cons (gd_name (i := 6) sc_other.nd) (gds_cons (gd_name (i := 7) sc_other.nd) (gds_cons (gd_name (i := 8) sc_other.nd) gds_nil)))))))))
      (bd_cons (sd_set 9 sc_other.nd (pd_fn F_dip (hr.mono (by decide)) tkF (ad_cons (vr 0) (ad_cons pd_int ad_nil))))
      (bd_cons (sd_if (td_cmp (opd_eq hr.units) (vr 9) pd_int (nomark _)) (bd_one (sd_ret (pd_fn F_build (hr.mono (by decide)) tkF (ad_cons (vr 0) (ad_cons (vr 2) (ad_cons pd_int (ad_cons pd_int ad_nil))))))) bd_nil)
      (bd_cons (sd_if (td_cmp (opd_eq hr.units) (vr 9) pd_int (nomark _)) (bd_one (sd_ret (pd_op opd_add (pd_lst (ad_cons (pd_callB (cd_min2 rfl) (by rfl) T.min (by decide +kernel) (ad_cons (pd_op opd_add (vr 2) pd_int) (ad_cons (pd_op opd_pow pd_int pd_int) ad_nil))) ad_nil)) (pd_slice sld (vr 1) (od_some pd_int) od_no)))) bd_nil)
      (bd_cons (sd_if (td_cmp (opd_eq hr.units) (vr 9) pd_int (nomark _)) (bd_one (sd_ret (pd_op opd_add (pd_lst (ad_cons (vr 2) (ad_cons (pd_callB (cd_min2 rfl) (by rfl) T.min (by decide +kernel) (ad_cons (pd_op opd_add (vr 3) pd_int) (ad_cons pd_int ad_nil))) ad_nil))) (pd_slice sld (vr 1) (od_some pd_int) od_no)))) bd_nil)
      (bd_cons (sd_if (td_cmp (opd_eq hr.units) (vr 9) pd_int (nomark _)) (bd_one (sd_ret (pd_op opd_add (pd_op opd_add (pd_slice sld (vr 1) od_no (od_some pd_int)) (pd_lst (ad_cons (pd_if (td_cmp (opd_eq hr.units) (vr 4) pd_str (nomark _)) pd_str pd_str) ad_nil))) (pd_slice sld (vr 1) (od_some pd_int) od_no)))) bd_nil)
      (bd_cons (sd_if (td_cmp (opd_eq hr.units) (vr 9) pd_int (nomark _)) (bd_one (sd_ret (pd_op opd_add (pd_op opd_add (pd_slice sld (vr 1) od_no (od_some pd_int)) (pd_lst (ad_cons (pd_op opd_add (pd_op opd_mod (pd_callTy (cd_int) (by rfl) T.int (by decide +kernel) (ad_cons (vr 5) ad_nil)) (vr 3)) pd_int) ad_nil))) (pd_slice sld (vr 1) (od_some pd_int) od_no)))) bd_nil)
      (bd_cons (sd_if (td_cmp (opd_eq hr.units) (vr 9) pd_int (nomark _)) (bd_one (sd_ret (pd_op opd_add (pd_op opd_add (pd_slice sld (vr 1) od_no (od_some pd_int)) (pd_lst (ad_cons (pd_op opd_add (pd_op opd_mod (pd_callTy (cd_int) (by rfl) T.int (by decide +kernel) (ad_cons (vr 6) ad_nil)) (vr 3)) pd_int) ad_nil))) (pd_slice sld (vr 1) (od_some pd_int) od_no)))) bd_nil)
      (bd_cons (sd_if (td_cmp (opd_eq hr.units) (vr 9) pd_int (nomark _)) (bd_one (sd_ret (pd_op opd_add (pd_slice sld (vr 1) od_no (od_some pd_int)) (pd_lst (ad_cons (pd_if (td_cmp (opd_eq hr.units) (vr 7) pd_str (nomark _)) pd_str pd_str) (ad_cons (vr 8) ad_nil)))))) bd_nil)
      (bd_one (sd_ret (pd_if (td_cmp (opd_eq hr.units) (vr 9) pd_int (nomark _)) (vr 1) (pd_op opd_add (pd_slice sld (vr 1) od_no (od_some pd_int)) (pd_lst (ad_cons (pd_fn F_other_crew (hr.mono (by decide)) tkF (ad_cons (vr 0) (ad_cons (vr 2) (ad_cons (vr 8) ad_nil)))) ad_nil)))))))))))))))) hk
abbrev P_made : List Str := ["_law_keg", "_law_frame"]
theorem sc_made : FnScope N_made P_made (defScope s_made) := ⟨rfl, rfl, rfl, by decide +kernel, rfl, by decide +kernel, by decide +kernel⟩
theorem ok_made {P : Program} {w : World} {K : PySem.W.Frag} {mg : Str → Option Value} {base : Heap} {C f : Addr} {fd : FuncData} (T : Tx K mg C) (F_Ring : Kok P w K mg base "Ring" C 6 8 (sd_Ring___init__ C)) (FP_Ring : KokP P w K mg base "Ring" C 6 8 ["hosts", "pending", "read", "write", "spread", "factor", "points"] [6, 5, 4, 3, 2, 1, 0] (sd_Ring___init__ C)) (C_Ring_read : Cok P w K mg base "Ring" C "read" 8 2 (sd_Ring_read C)) (F_dip : Fok P w K mg base "_law_dip" 1 2 (sd_dip C)) (F_sheet : Fok P w K mg base "_law_sheet" 1 1 (sd_sheet C))
    (F : FunD K "_law_made" "_law_made" (defArgs s_made) (defBody s_made) (defScope s_made) [] [] f fd) (hk : Keeps N_made 2 (sd_made C) (db_made C)) : FnOk P w K mg base (L2.CX P w) 9 f fd P_made (spOf K 2 (sd_made C)) := 
  okD F sc_made rfl (fun cdv A fr s H E hr => (bd_cons (sd_set 2 sc_made.nd (pd_fn F_dip (hr.mono (by decide)) tkF (ad_cons (vr 0) (ad_cons pd_int ad_nil))))
      (bd_cons (sd_asg (vr 1) (gd_lst (n := 7) rfl (gds_cons (gd_name (i := 3) sc_made.nd) (gds_cons (gd_name (i := 4) sc_made.nd) (gds_cons (gd_name (i := 5) sc_made.nd) (gds_cons (gd_name (i := 6) sc_made.nd) (gds_cons (gd_name (i := 7) sc_made.nd) (gds_cons (gd_name (i := 8) sc_made.nd) (gds_cons (gd_name (i := 9) sc_made.nd) gds_nil)))))))))
      (bd_cons (sd_if (td_cmp (opd_eq hr.units) (vr 2) pd_int (nomark _)) (bd_one (sd_ret (pd_make F_Ring (hr.mono (by decide)) tkF (ad_cons (vr 3) (ad_cons (vr 4) (ad_cons (vr 5) (ad_cons (vr 6) (ad_cons (vr 7) (ad_cons (vr 8) (ad_cons (vr 9) ad_nil)))))))))) bd_nil)
      (bd_cons (sd_if (td_cmp (opd_eq hr.units) (vr 2) pd_int (nomark _)) (bd_one (sd_ret (pd_makeP (ks := ["hosts", "pending", "read", "write", "spread", "factor", "points"]) (pm := [6, 5, 4, 3, 2, 1, 0]) FP_Ring (hr.mono (by decide)) tkF (kd_cons (vr 9) (kd_cons (vr 8) (kd_cons (vr 7) (kd_cons (vr 6) (kd_cons (vr 5) (kd_cons (vr 4) (kd_cons (vr 3) kd_nil)))))))))) bd_nil)
      (bd_one (sd_ret (pd_cmeth C_Ring_read (hr.mono (by decide)) tkF (ad_cons (pd_fn F_sheet (hr.mono (by decide)) tkF (ad_cons (vr 1) ad_nil)) ad_nil))))))))) hk
abbrev P_right : List Str := ["_law_keg"]
theorem sc_right : FnScope N_right P_right (defScope s_right) := ⟨rfl, rfl, rfl, by decide +kernel, rfl, by decide +kernel, by decide +kernel⟩
theorem ok_right {P : Program} {w : World} {K : PySem.W.Frag} {mg : Str → Option Value} {base : Heap} {C f : Addr} {fd : FuncData} (T : Tx K mg C) (F_Ring___str__ : Mok P w K mg base C "__str__" 2 1 (sd_Ring___str__ C)) (F_build : Fok P w K mg base "_law_build" 7 4 (sd_build C)) (F_made : Fok P w K mg base "_law_made" 9 2 (sd_made C)) (F_of : Fok P w K mg base "_law_of" 2 2 (sd_of C)) (F_other : Fok P w K mg base "_law_other" 8 2 (sd_other C)) (F_pair_right : Fgd P w K mg base "_law_pair_right" 4 3 (sd_pair_right C)) (F_sheet : Fok P w K mg base "_law_sheet" 1 1 (sd_sheet C)) (F_value : Fok P w K mg base "_law_value" 3 1 (sd_value C)) (F_width : Fok P w K mg base "_law_width" 3 1 (sd_width C))
    (F : FunD K "_law_right" "_law_right" (defArgs s_right) (defBody s_right) (defScope s_right) [] [] f fd) (hk : Keeps N_right 1 (sd_right C) (db_right C)) : FnG P w K mg base 10 f fd P_right (spOf K 1 (sd_right C)) := 
  okG F sc_right rfl (fun cdv A fr s H E hr hg => (bd_cons (sd_set 1 sc_right.nd (pd_fn F_build (hr.mono (by decide)) tkF (ad_cons (vr 0) (ad_cons (pd_fn F_width (hr.mono (by decide)) tkF (ad_cons (vr 0) ad_nil)) (ad_cons (pd_fn F_of (hr.mono (by decide)) tkF (ad_cons (vr 0) (ad_cons (pd_lst (ad_cons pd_int (ad_cons pd_int (ad_cons pd_int ad_nil)))) ad_nil))) (ad_cons pd_int ad_nil))))))
      (bd_cons (sd_par2 2 3 rfl sc_right.nd (ad_cons (pd_fn F_made (hr.mono (by decide)) tkF (ad_cons (vr 0) (ad_cons (vr 1) ad_nil))) (ad_cons (pd_fn F_sheet (hr.mono (by decide)) tkF (ad_cons (vr 1) ad_nil)) ad_nil)))
      (bd_cons (sd_for poF rfl (id_rng1 (by rfl) T.range (ad_cons pd_int ad_nil)) (gd_name (i := 4) sc_right.nd) (bd_cons (sd_set 5 sc_right.nd (pd_fn F_other (hr.mono (by decide)) tkF (ad_cons (vr 0) (ad_cons (vr 1) ad_nil))))
      (bd_cons (sd_set 6 sc_right.nd (pd_fn F_made (hr.mono (by decide)) tkF (ad_cons (vr 0) (ad_cons (vr 5) ad_nil))))
      (bd_one (sd_if (td_w (wd_or (td_not (td_tru (pd_fg F_pair_right (hr.mono (by decide)) hg tkF (ad_cons (vr 2) (ad_cons (vr 6) (ad_cons (pd_cmp (opd_eq hr.units) (pd_fn F_sheet (hr.mono (by decide)) tkF (ad_cons (vr 5) ad_nil)) (vr 3) (nomark _)) ad_nil)))))) (wd_or1 (td_cmp (opd_ne hr.units) (pd_callTy (cd_strO F_Ring___str__ (hr.mono (by decide))) (by rfl) T.str (by decide +kernel) (ad_cons (vr 2) ad_nil)) (vr 3) (nomark _))))) (bd_one (sd_ret pd_bl)) bd_nil)))))
      (bd_cons (sd_for poF rfl (id_seq (pd_lst (ad_cons (vr 3) (ad_cons (vr 1) (ad_cons (pd_callTy (cd_tuple) (by rfl) T.tuple (by decide +kernel) (ad_cons (vr 1) ad_nil)) (ad_cons (pd_ix ixd (vr 1) pd_int (fun _ _ => rfl)) (ad_cons (pd_callB (cd_len) (by rfl) T.len (by decide +kernel) (ad_cons (pd_ix ixd (vr 1) pd_int (fun _ _ => rfl)) ad_nil)) (ad_cons pd_non (ad_cons pd_bl (ad_cons (pd_fn F_value (hr.mono (by decide)) tkF (ad_cons (vr 0) ad_nil)) ad_nil)))))))))) (gd_name (i := 7) sc_right.nd) (bd_one (sd_if (td_not (td_tru (pd_fg F_pair_right (hr.mono (by decide)) hg tkF (ad_cons (vr 2) (ad_cons (vr 7) (ad_cons pd_bl ad_nil)))))) (bd_one (sd_ret pd_bl)) bd_nil)))
      (bd_one (sd_ret pd_bl))))))) hk
abbrev P_law : List Str := ["_law_script"]
theorem sc_law : FnScope N_law P_law (defScope s_law) := ⟨rfl, rfl, rfl, by decide +kernel, rfl, by decide +kernel, by decide +kernel⟩
theorem ok_law {P : Program} {w : World} {K : PySem.W.Frag} {mg : Str → Option Value} {base : Heap} {C f : Addr} {fd : FuncData} (T : Tx K mg C) (F_filled : Fok P w K mg base "_law_filled" 1 2 (sd_filled C)) (F_right : Fgd P w K mg base "_law_right" 10 1 (sd_right C))
    (F : FunD K "law" "law" (defArgs s_law) (defBody s_law) (defScope s_law) [] [] f fd) (hk : Keeps N_law 1 (sd_law C) (db_law C)) : FnG P w K mg base 11 f fd P_law (spOf K 1 (sd_law C)) := 
  okG F sc_law rfl (fun cdv A fr s H E hr hg => (bd_one (sd_ret (pd_callB (cd_all rfl) (by rfl) T.all (by decide +kernel) (ad_cons (pd_lc (own := [("_law_turn", 1)]) rfl sc_law.nd (id_rng1 (by rfl) T.range (ad_cons (pd_callB (cd_max2 rfl) (by rfl) T.max (by decide +kernel) (ad_cons pd_int (ad_cons (pd_callB (cd_min2 rfl) (by rfl) T.min (by decide +kernel) (ad_cons (pd_callB (cd_len) (by rfl) T.len (by decide +kernel) (ad_cons (vr 0) ad_nil)) (ad_cons pd_int ad_nil))) ad_nil))) ad_nil)) (blkOk_by (N := N_law) (sc := (defScope s_law)) (by decide +kernel)) (fun _ _ _ _ _ => (gw_name (i := 1) sc_law.nd)) (fun _ _ _ _ _ => tsd_nil) (fun _ _ _ _ _ => (pd_fg F_right (hr.mono (by decide)) hg takes0 (ad_cons (pd_fn F_filled (hr.mono (by decide)) takes0 (ad_cons (vr 0) (ad_cons (vr 1) ad_nil))) ad_nil)))) ad_nil))))) hk
end L08
namespace DLH
open PySem PySem.W PySem.Calls PyProof.Rows He He5
theorem isB_ok {K : Frag} {x : PySem.Str} (cl : L2.Cls K (ga K x)) (h : isB K x = true) : DL.OwnI K (ga K x) := by
  obtain ⟨h1, h⟩ := ba h
  obtain ⟨h2, h⟩ := ba h
  obtain ⟨h3, h⟩ := ba h
  obtain ⟨h4, h5⟩ := ba h
  exact ⟨cl, eqO_ok h1, eqO_ok h2, of_decide_eq_true h3, of_decide_eq_true h4, fun t ht => of_decide_eq_true (List.all_eq_true.mp h5 t ht)⟩
theorem neB_ok {K : Frag} {x : PySem.Str} (h : neB K x = true) : DL.NeI K (ga K x) := by
  obtain ⟨h1, h2⟩ := ba h
  exact ⟨eqO_ok h1, of_decide_eq_true h2⟩
end DLH
set_option maxRecDepth 100000
set_option maxHeartbeats 1000000
namespace R
open PySem PySem.Spec PyProof.Rows L2 DL
local macro_rules | `(tactic| bv_omega) => `(tactic| first | assumption | exact mset_same)
local macro_rules | `(tactic| symm) => `(tactic| first
  | ((with_reducible show ∃ _, _ = _ ∧ _); refine ⟨_, rfl, ?_⟩)
  | ((with_reducible show _ = _ ∧ _); refine ⟨rfl, ?_⟩)
  | ((with_reducible show ∃ _ _, _ = _ ∧ _ = _ ∧ _); refine ⟨_, _, rfl, rfl, ?_⟩)
  | ((with_reducible show ∃ _ _, _ = _ ∧ _); refine ⟨_, _, rfl, ?_⟩)
  | ((with_reducible show ∃ _ _ _, _ = _ ∧ _); refine ⟨_, _, _, rfl, ?_⟩)
  | ((with_reducible show (_ ≤ _ ∧ _) ∧ _); refine ⟨by omega, ?_⟩)
  | with_reducible refine add_int ?_ | with_reducible refine sub_int ?_
  | with_reducible refine lt_int ?_ | with_reducible refine le_int ?_ | with_reducible refine gt_int ?_ | with_reducible refine ge_int ?_
  | with_reducible refine int_int ?_
  | with_reducible refine eq_int ?_ | with_reducible refine ne_int ?_
  | with_reducible refine len_tup ?_ | with_reducible refine len_lst ?_
  | ((with_reducible show rdIx (.cel _) (.int _) _ _); refine ix_cel (by bv_omega) (by rfl) ?_)
  | ((with_reducible show rdIx (.lst _) (.int _) _ _); refine ix_lst (by rfl) ?_)
  | ((with_reducible show rdIx (.tup _) (.int _) _ _); refine ix_tup (by rfl) ?_)
  | ((with_reducible show rdLen [.cel _] _ _); refine len_cel (by bv_omega) ?_)
  | ((with_reducible show rdMul (.int _) (.int _) _ _); first | refine mul_l (by decide) (by decide) ?_ | refine mul_r (by decide) (by decide) ?_ | refine mul_l (by omega) (by omega) ?_ | refine mul_r (by omega) (by omega) ?_)
  | ((with_reducible show rdDiv (.int _) (.int _) _ _); refine div_int (by first | decide | assumption | omega) (by first | decide | assumption | omega) ?_)
  | ((with_reducible show rdDivmod [.int _, .int _] _ _); refine dm_int (by first | decide | assumption | omega) (by first | decide | assumption | omega) ?_)
  | ((with_reducible show @ite _ (_ = true) _ _ _); first | refine ifYes (by first | with_reducible rfl | exact Bool.not_false | assumption) ?_ | refine ifNo (by first | with_reducible rfl | exact Bool.not_true | assumption) ?_)
  | ((with_reducible show ∃ _, _ ∧ _); refine ⟨_, celL_of (by bv_omega), ?_⟩)
  | ((with_reducible show ∃ _ _ _ _, _ ∧ _ ∧ _ ∧ _ ∧ _); refine ⟨_, _, _, _, rfl, rfl, by bv_omega, by rfl, ?_⟩)
  | ((with_reducible show (_ : Nat) ≤ sizeLine ∧ _); refine ⟨by rw [sizeLine_eq]; exact Nat.le_of_ble_eq_true rfl, ?_⟩))
local macro_rules | `(tactic| infer_instance) => `(tactic| ((repeat symm); try dsimp only))
local macro_rules | `(tactic| ac_rfl) => `(tactic| ((repeat (first | symm | ((with_reducible show rdMod (.int _) (.int _) _ _); refine mod_any (by first | decide | assumption | omega) ?_; intro _ _ _))); try dsimp only))
end R
set_option maxRecDepth 100000
set_option maxHeartbeats 1000000
namespace R
open PySem PySem.Spec PyProof.Rows L2 DL
local macro_rules | `(tactic| bv_omega) => `(tactic| first | assumption | exact mset_same)
local macro_rules | `(tactic| symm) => `(tactic| first
  | ((with_reducible show ∃ _, _ = _ ∧ _); refine ⟨_, rfl, ?_⟩)
  | ((with_reducible show _ = _ ∧ _); refine ⟨rfl, ?_⟩)
  | ((with_reducible show ∃ _ _, _ = _ ∧ _ = _ ∧ _); refine ⟨_, _, rfl, rfl, ?_⟩)
  | ((with_reducible show ∃ _ _, _ = _ ∧ _); refine ⟨_, _, rfl, ?_⟩)
  | ((with_reducible show ∃ _ _ _, _ = _ ∧ _); refine ⟨_, _, _, rfl, ?_⟩)
  | ((with_reducible show (_ ≤ _ ∧ _) ∧ _); refine ⟨by omega, ?_⟩)
  | with_reducible refine add_int ?_ | with_reducible refine sub_int ?_
  | with_reducible refine lt_int ?_ | with_reducible refine le_int ?_ | with_reducible refine gt_int ?_ | with_reducible refine ge_int ?_
  | with_reducible refine int_int ?_
  | with_reducible refine eq_int ?_ | with_reducible refine ne_int ?_
  | with_reducible refine len_tup ?_ | with_reducible refine len_lst ?_
  | ((with_reducible show rdIx (.cel _) (.int _) _ _); refine ix_cel (by bv_omega) (by rfl) ?_)
  | ((with_reducible show rdIx (.lst _) (.int _) _ _); refine ix_lst (by rfl) ?_)
  | ((with_reducible show rdIx (.tup _) (.int _) _ _); refine ix_tup (by rfl) ?_)
  | ((with_reducible show rdLen [.cel _] _ _); refine len_cel (by bv_omega) ?_)
  | ((with_reducible show rdMul (.int _) (.int _) _ _); first | refine mul_l (by decide) (by decide) ?_ | refine mul_r (by decide) (by decide) ?_ | refine mul_l (by omega) (by omega) ?_ | refine mul_r (by omega) (by omega) ?_)
  | ((with_reducible show rdDiv (.int _) (.int _) _ _); refine div_int (by first | decide | assumption | omega) (by first | decide | assumption | omega) ?_)
  | ((with_reducible show rdDivmod [.int _, .int _] _ _); refine dm_int (by first | decide | assumption | omega) (by first | decide | assumption | omega) ?_)
  | ((with_reducible show @ite _ (_ = true) _ _ _); first | refine ifYes (by first | with_reducible rfl | exact Bool.not_false | assumption) ?_ | refine ifNo (by first | with_reducible rfl | exact Bool.not_true | assumption) ?_)
  | ((with_reducible show ∃ _, _ ∧ _); refine ⟨_, celL_of (by bv_omega), ?_⟩)
  | ((with_reducible show ∃ _ _ _ _, _ ∧ _ ∧ _ ∧ _ ∧ _); refine ⟨_, _, _, _, rfl, rfl, by bv_omega, by rfl, ?_⟩)
  | ((with_reducible show (_ : Nat) ≤ sizeLine ∧ _); refine ⟨by rw [sizeLine_eq]; exact Nat.le_of_ble_eq_true rfl, ?_⟩))
local macro_rules | `(tactic| infer_instance) => `(tactic| ((repeat symm); try dsimp only))
local macro_rules | `(tactic| ac_rfl) => `(tactic| ((repeat (first | symm | ((with_reducible show rdMod (.int _) (.int _) _ _); refine mod_any (by first | decide | assumption | omega) ?_; intro _ _ _))); try dsimp only))
end R
set_option maxRecDepth 100000
set_option maxHeartbeats 4000000
namespace DL
open PySem PySem.Spec PyProof.Rows L2
section
variable {α : Type} {ok : Mem → Prop} {g : GD} {body : DS} {d : EndD}
theorem for_map (emb : α → D) {xs : List α} (I : Nat → EnvD → Mem → Prop) (h0 : ∀ env M, I xs.length env M → ok M ∧ d.nx env M)
    (hs : ∀ i x env M, xs[i]? = some x → I i env M → ∀ nx : EnvD → Mem → Prop, (∀ env' M', I (i + 1) env' M' → nx env' M') → ok M ∧ g (emb x) env M (fun env' M' => body { d with nx := nx, ct := nx, bk := d.nx } env' M') d.ex) (env : EnvD) (M : Mem) (h : I 0 env M) : forW ok g body d (xs.map emb) env M := by
  refine for_lst I (by rw [List.length_map]; exact h0) (fun i x env M hx hI nx hn => ?_) env M h
  rw [List.getElem?_map] at hx
  obtain ⟨y, hy, rfl⟩ := omap hx
  exact hs i y env M hy hI nx hn
end
section
variable {α β : Type} {ok : Mem → Prop} {g : GD} {t : DT} {de : DE} {env : EnvD} {q : QD} {c : Addr} {M : Mem}
theorem lc_map (emb : α → D) (p : α → Bool) (f : α → D) {xs : List α} (hc : M c = none) (hn : xs.length ≤ sizeLine) (hok : ∀ acc, ok (mset M c (.ls acc)))
    (hs : ∀ x, x ∈ xs → ∀ (acc : List D), acc.length < sizeLine → ∀ nx : Mem → Prop, (p x = true → nx (mset M c (.ls (acc ++ [f x])))) → (p x = false → nx (mset M c (.ls acc))) →
      g (emb x) env (mset M c (.ls acc)) (fun env' M' => t env' M' (fun b M2 => if b = true then de env' M2 (fun y M3 => ∃ ys, M3 c = some (.ls ys) ∧ ys.length < sizeLine ∧ nx (mset M3 c (.ls (ys ++ [y])))) noX else nx M2) noX) (fun _ => noX))
    (hq : q (.lst ((xs.filter p).map f)) M) : lcW ok g t de env q c (xs.map emb) (mset M c (.ls [])) := by
  refine lc_lst (fun i M' => M' = mset M c (.ls (((xs.take i).filter p).map f))) (fun M' e => ?_) (fun i x M' hx e nx hnx => ?_) _ (by rw [List.take_zero]; rfl)
  · subst e
    rw [List.length_map, List.take_length]
    refine ⟨hok _, _, mset_same, ?_⟩
    rw [mdel_mset hc]; exact hq
  · subst e
    rw [List.getElem?_map] at hx
    obtain ⟨y, hy, rfl⟩ := omap hx
    have hi := (List.getElem?_eq_some_iff.mp hy).1
    have e1 : xs.take (i + 1) = xs.take i ++ [y] := by rw [List.take_add_one, hy]; rfl
    refine ⟨hok _, hs y (List.mem_of_getElem? hy) _ ?_ nx (fun hp => ?_) fun hp => ?_⟩
    · rw [List.length_map]
      have h1 := List.length_filter_le p (xs.take i)
      rw [List.length_take] at h1
      omega
    · refine hnx _ ?_
      rw [e1, List.filter_append, List.map_append, List.filter_cons, if_pos hp]; rfl
    · refine hnx _ ?_
      rw [e1, List.filter_append, List.map_append, List.filter_cons, if_neg (by rw [hp]; exact Bool.false_ne_true), List.filter_nil, List.map_nil, List.append_nil]
/-- no test -/
theorem lc_all (emb : α → D) (f : α → D) {xs : List α} (hc : M c = none) (hn : xs.length ≤ sizeLine) (hok : ∀ acc, ok (mset M c (.ls acc)))
    (hs : ∀ x, x ∈ xs → ∀ (acc : List D), acc.length < sizeLine → ∀ nx : Mem → Prop, nx (mset M c (.ls (acc ++ [f x]))) →
      g (emb x) env (mset M c (.ls acc)) (fun env' M' => t env' M' (fun b M2 => if b = true then de env' M2 (fun y M3 => ∃ ys, M3 c = some (.ls ys) ∧ ys.length < sizeLine ∧ nx (mset M3 c (.ls (ys ++ [y])))) noX else nx M2) noX) (fun _ => noX))
    (hq : q (.lst (xs.map f)) M) : lcW ok g t de env q c (xs.map emb) (mset M c (.ls [])) :=
  lc_map emb (fun _ => true) f hc hn hok (fun x hx acc hz nx h1 _ => hs x hx acc hz nx (h1 rfl)) (by rw [List.filter_eq_self.mpr fun _ _ => rfl]; exact hq)
end
end DL
set_option maxRecDepth 100000
set_option maxHeartbeats 1000000
namespace R
open PySem PySem.Spec PyProof.Rows L2 DL
local macro_rules | `(tactic| bv_omega) => `(tactic| first | assumption | exact mset_same)
local macro_rules | `(tactic| symm) => `(tactic| first
  | ((with_reducible show ∃ _, _ = _ ∧ _); refine ⟨_, rfl, ?_⟩)
  | ((with_reducible show _ = _ ∧ _); refine ⟨rfl, ?_⟩)
  | ((with_reducible show ∃ _ _, _ = _ ∧ _ = _ ∧ _); refine ⟨_, _, rfl, rfl, ?_⟩)
  | ((with_reducible show ∃ _ _, _ = _ ∧ _); refine ⟨_, _, rfl, ?_⟩)
  | ((with_reducible show ∃ _ _ _, _ = _ ∧ _); refine ⟨_, _, _, rfl, ?_⟩)
  | ((with_reducible show (_ ≤ _ ∧ _) ∧ _); refine ⟨by omega, ?_⟩)
  | with_reducible refine add_int ?_ | with_reducible refine sub_int ?_
  | with_reducible refine lt_int ?_ | with_reducible refine le_int ?_ | with_reducible refine gt_int ?_ | with_reducible refine ge_int ?_
  | with_reducible refine int_int ?_
  | with_reducible refine eq_int ?_ | with_reducible refine ne_int ?_
  | with_reducible refine len_tup ?_ | with_reducible refine len_lst ?_
  | ((with_reducible show rdIx (.cel _) (.int _) _ _); refine ix_cel (by bv_omega) (by rfl) ?_)
  | ((with_reducible show rdIx (.lst _) (.int _) _ _); refine ix_lst (by rfl) ?_)
  | ((with_reducible show rdIx (.tup _) (.int _) _ _); refine ix_tup (by rfl) ?_)
  | ((with_reducible show rdLen [.cel _] _ _); refine len_cel (by bv_omega) ?_)
  | ((with_reducible show rdMul (.int _) (.int _) _ _); first | refine mul_l (by decide) (by decide) ?_ | refine mul_r (by decide) (by decide) ?_ | refine mul_l (by omega) (by omega) ?_ | refine mul_r (by omega) (by omega) ?_)
  | ((with_reducible show rdDiv (.int _) (.int _) _ _); refine div_int (by first | decide | assumption | omega) (by first | decide | assumption | omega) ?_)
  | ((with_reducible show rdDivmod [.int _, .int _] _ _); refine dm_int (by first | decide | assumption | omega) (by first | decide | assumption | omega) ?_)
  | ((with_reducible show @ite _ (_ = true) _ _ _); first | refine ifYes (by first | with_reducible rfl | exact Bool.not_false | assumption) ?_ | refine ifNo (by first | with_reducible rfl | exact Bool.not_true | assumption) ?_)
  | ((with_reducible show ∃ _, _ ∧ _); refine ⟨_, celL_of (by bv_omega), ?_⟩)
  | ((with_reducible show ∃ _ _ _ _, _ ∧ _ ∧ _ ∧ _ ∧ _); refine ⟨_, _, _, _, rfl, rfl, by bv_omega, by rfl, ?_⟩)
  | ((with_reducible show (_ : Nat) ≤ sizeLine ∧ _); refine ⟨by rw [sizeLine_eq]; exact Nat.le_of_ble_eq_true rfl, ?_⟩))
local macro_rules | `(tactic| infer_instance) => `(tactic| ((repeat symm); try dsimp only))
local macro_rules | `(tactic| ac_rfl) => `(tactic| ((repeat (first | symm | ((with_reducible show rdMod (.int _) (.int _) _ _); refine mod_any (by first | decide | assumption | omega) ?_; intro _ _ _))); try dsimp only))
end R
set_option maxRecDepth 100000
namespace R
open PySem PySem.Spec PyProof.Rows L2 DL
end R
set_option maxRecDepth 100000
set_option maxHeartbeats 1000000
namespace R
open PySem PySem.Spec PyProof.Rows L2 DL
local macro_rules | `(tactic| bv_omega) => `(tactic| first | assumption | exact mset_same)
local macro_rules | `(tactic| symm) => `(tactic| first
  | ((with_reducible show ∃ _, _ = _ ∧ _); refine ⟨_, rfl, ?_⟩)
  | ((with_reducible show _ = _ ∧ _); refine ⟨rfl, ?_⟩)
  | ((with_reducible show ∃ _ _, _ = _ ∧ _ = _ ∧ _); refine ⟨_, _, rfl, rfl, ?_⟩)
  | ((with_reducible show ∃ _ _, _ = _ ∧ _); refine ⟨_, _, rfl, ?_⟩)
  | ((with_reducible show ∃ _ _ _, _ = _ ∧ _); refine ⟨_, _, _, rfl, ?_⟩)
  | ((with_reducible show (_ ≤ _ ∧ _) ∧ _); refine ⟨by omega, ?_⟩)
  | with_reducible refine add_int ?_ | with_reducible refine sub_int ?_
  | with_reducible refine lt_int ?_ | with_reducible refine le_int ?_ | with_reducible refine gt_int ?_ | with_reducible refine ge_int ?_
  | with_reducible refine int_int ?_
  | with_reducible refine eq_int ?_ | with_reducible refine ne_int ?_
  | with_reducible refine len_tup ?_ | with_reducible refine len_lst ?_
  | ((with_reducible show rdIx (.cel _) (.int _) _ _); refine ix_cel (by bv_omega) (by rfl) ?_)
  | ((with_reducible show rdIx (.lst _) (.int _) _ _); refine ix_lst (by rfl) ?_)
  | ((with_reducible show rdIx (.tup _) (.int _) _ _); refine ix_tup (by rfl) ?_)
  | ((with_reducible show rdLen [.cel _] _ _); refine len_cel (by bv_omega) ?_)
  | ((with_reducible show rdMul (.int _) (.int _) _ _); first | refine mul_l (by decide) (by decide) ?_ | refine mul_r (by decide) (by decide) ?_ | refine mul_l (by omega) (by omega) ?_ | refine mul_r (by omega) (by omega) ?_)
  | ((with_reducible show rdDiv (.int _) (.int _) _ _); refine div_int (by first | decide | assumption | omega) (by first | decide | assumption | omega) ?_)
  | ((with_reducible show rdDivmod [.int _, .int _] _ _); refine dm_int (by first | decide | assumption | omega) (by first | decide | assumption | omega) ?_)
  | ((with_reducible show @ite _ (_ = true) _ _ _); first | refine ifYes (by first | with_reducible rfl | exact Bool.not_false | assumption) ?_ | refine ifNo (by first | with_reducible rfl | exact Bool.not_true | assumption) ?_)
  | ((with_reducible show ∃ _, _ ∧ _); refine ⟨_, celL_of (by bv_omega), ?_⟩)
  | ((with_reducible show ∃ _ _ _ _, _ ∧ _ ∧ _ ∧ _ ∧ _); refine ⟨_, _, _, _, rfl, rfl, by bv_omega, by rfl, ?_⟩)
  | ((with_reducible show (_ : Nat) ≤ sizeLine ∧ _); refine ⟨by rw [sizeLine_eq]; exact Nat.le_of_ble_eq_true rfl, ?_⟩))
local macro_rules | `(tactic| infer_instance) => `(tactic| ((repeat symm); try dsimp only))
local macro_rules | `(tactic| ac_rfl) => `(tactic| ((repeat (first | symm | ((with_reducible show rdMod (.int _) (.int _) _ _); refine mod_any (by first | decide | assumption | omega) ?_; intro _ _ _))); try dsimp only))
theorem cut_last {α : Type} (xs : List α) (h : xs ≠ []) : DL.cutD xs (some (-1)) none = xs.drop (xs.length - 1) ∧ DL.cutD xs none (some (-1)) = xs.dropLast := by
  have hl : 1 ≤ xs.length := by cases xs with | nil => exact absurd rfl h | cons a r => simp
  have h1 : ∀ d, HT.sIx xs.length d (some (-1)) = xs.length - 1 := fun d => by
    have := HT.clip_eq (-1) xs.length d
    rw [if_pos (by decide)] at this
    omega
  unfold DL.cutD
  rw [h1, h1, HT.sIx_none, HT.sIx_none]
  refine ⟨?_, ?_⟩
  · rw [List.take_of_length_le (by rw [List.length_drop]; omega)]
  · rw [List.drop_zero, Nat.sub_zero, List.dropLast_eq_take]
theorem neg_int {i : Int} {M : Mem} {q : QD} (w : q (.int (-i)) M) : rdNeg (.int i) M q := w
end R
set_option maxRecDepth 100000
set_option maxHeartbeats 1000000
namespace R
open PySem PySem.Spec PyProof.Rows L2 DL
local macro_rules | `(tactic| bv_omega) => `(tactic| first | assumption | exact mset_same)
local macro_rules | `(tactic| symm) => `(tactic| first
  | ((with_reducible show ∃ _, _ = _ ∧ _); refine ⟨_, rfl, ?_⟩)
  | ((with_reducible show _ = _ ∧ _); refine ⟨rfl, ?_⟩)
  | ((with_reducible show ∃ _ _, _ = _ ∧ _ = _ ∧ _); refine ⟨_, _, rfl, rfl, ?_⟩)
  | ((with_reducible show ∃ _ _, _ = _ ∧ _); refine ⟨_, _, rfl, ?_⟩)
  | ((with_reducible show ∃ _ _ _, _ = _ ∧ _); refine ⟨_, _, _, rfl, ?_⟩)
  | ((with_reducible show (_ ≤ _ ∧ _) ∧ _); refine ⟨by omega, ?_⟩)
  | with_reducible refine add_int ?_ | with_reducible refine sub_int ?_
  | with_reducible refine lt_int ?_ | with_reducible refine le_int ?_ | with_reducible refine gt_int ?_ | with_reducible refine ge_int ?_
  | with_reducible refine int_int ?_
  | with_reducible refine eq_int ?_ | with_reducible refine ne_int ?_
  | with_reducible refine len_tup ?_ | with_reducible refine len_lst ?_
  | ((with_reducible show rdIx (.cel _) (.int _) _ _); refine ix_cel (by bv_omega) (by rfl) ?_)
  | ((with_reducible show rdIx (.lst _) (.int _) _ _); refine ix_lst (by rfl) ?_)
  | ((with_reducible show rdIx (.tup _) (.int _) _ _); refine ix_tup (by rfl) ?_)
  | ((with_reducible show rdLen [.cel _] _ _); refine len_cel (by bv_omega) ?_)
  | ((with_reducible show rdMul (.int _) (.int _) _ _); first | refine mul_l (by decide) (by decide) ?_ | refine mul_r (by decide) (by decide) ?_ | refine mul_l (by omega) (by omega) ?_ | refine mul_r (by omega) (by omega) ?_)
  | ((with_reducible show rdDiv (.int _) (.int _) _ _); refine div_int (by first | decide | assumption | omega) (by first | decide | assumption | omega) ?_)
  | ((with_reducible show rdDivmod [.int _, .int _] _ _); refine dm_int (by first | decide | assumption | omega) (by first | decide | assumption | omega) ?_)
  | ((with_reducible show @ite _ (_ = true) _ _ _); first | refine ifYes (by first | with_reducible rfl | exact Bool.not_false | assumption) ?_ | refine ifNo (by first | with_reducible rfl | exact Bool.not_true | assumption) ?_)
  | ((with_reducible show ∃ _, _ ∧ _); refine ⟨_, celL_of (by bv_omega), ?_⟩)
  | ((with_reducible show ∃ _ _ _ _, _ ∧ _ ∧ _ ∧ _ ∧ _); refine ⟨_, _, _, _, rfl, rfl, by bv_omega, by rfl, ?_⟩)
  | ((with_reducible show (_ : Nat) ≤ sizeLine ∧ _); refine ⟨by rw [sizeLine_eq]; exact Nat.le_of_ble_eq_true rfl, ?_⟩))
local macro_rules | `(tactic| infer_instance) => `(tactic| ((repeat symm); try dsimp only))
local macro_rules | `(tactic| ac_rfl) => `(tactic| ((repeat (first | symm | ((with_reducible show rdMod (.int _) (.int _) _ _); refine mod_any (by first | decide | assumption | omega) ?_; intro _ _ _))); try dsimp only))
end R
set_option maxRecDepth 100000
set_option maxHeartbeats 1000000
namespace R
open PySem PySem.Spec PyProof.Rows L2 DL
local macro_rules | `(tactic| bv_omega) => `(tactic| first | assumption | exact mset_same)
local macro_rules | `(tactic| symm) => `(tactic| first
  | ((with_reducible show ∃ _, _ = _ ∧ _); refine ⟨_, rfl, ?_⟩)
  | ((with_reducible show _ = _ ∧ _); refine ⟨rfl, ?_⟩)
  | ((with_reducible show ∃ _ _, _ = _ ∧ _ = _ ∧ _); refine ⟨_, _, rfl, rfl, ?_⟩)
  | ((with_reducible show ∃ _ _, _ = _ ∧ _); refine ⟨_, _, rfl, ?_⟩)
  | ((with_reducible show ∃ _ _ _, _ = _ ∧ _); refine ⟨_, _, _, rfl, ?_⟩)
  | ((with_reducible show (_ ≤ _ ∧ _) ∧ _); refine ⟨by omega, ?_⟩)
  | with_reducible refine add_int ?_ | with_reducible refine sub_int ?_
  | with_reducible refine lt_int ?_ | with_reducible refine le_int ?_ | with_reducible refine gt_int ?_ | with_reducible refine ge_int ?_
  | with_reducible refine int_int ?_
  | with_reducible refine eq_int ?_ | with_reducible refine ne_int ?_
  | with_reducible refine len_tup ?_ | with_reducible refine len_lst ?_
  | ((with_reducible show rdIx (.cel _) (.int _) _ _); refine ix_cel (by bv_omega) (by rfl) ?_)
  | ((with_reducible show rdIx (.lst _) (.int _) _ _); refine ix_lst (by rfl) ?_)
  | ((with_reducible show rdIx (.tup _) (.int _) _ _); refine ix_tup (by rfl) ?_)
  | ((with_reducible show rdLen [.cel _] _ _); refine len_cel (by bv_omega) ?_)
  | ((with_reducible show rdMul (.int _) (.int _) _ _); first | refine mul_l (by decide) (by decide) ?_ | refine mul_r (by decide) (by decide) ?_ | refine mul_l (by omega) (by omega) ?_ | refine mul_r (by omega) (by omega) ?_)
  | ((with_reducible show rdDiv (.int _) (.int _) _ _); refine div_int (by first | decide | assumption | omega) (by first | decide | assumption | omega) ?_)
  | ((with_reducible show rdDivmod [.int _, .int _] _ _); refine dm_int (by first | decide | assumption | omega) (by first | decide | assumption | omega) ?_)
  | ((with_reducible show @ite _ (_ = true) _ _ _); first | refine ifYes (by first | with_reducible rfl | exact Bool.not_false | assumption) ?_ | refine ifNo (by first | with_reducible rfl | exact Bool.not_true | assumption) ?_)
  | ((with_reducible show ∃ _, _ ∧ _); refine ⟨_, celL_of (by bv_omega), ?_⟩)
  | ((with_reducible show ∃ _ _ _ _, _ ∧ _ ∧ _ ∧ _ ∧ _); refine ⟨_, _, _, _, rfl, rfl, by bv_omega, by rfl, ?_⟩)
  | ((with_reducible show (_ : Nat) ≤ sizeLine ∧ _); refine ⟨by rw [sizeLine_eq]; exact Nat.le_of_ble_eq_true rfl, ?_⟩))
local macro_rules | `(tactic| infer_instance) => `(tactic| ((repeat symm); try dsimp only))
local macro_rules | `(tactic| ac_rfl) => `(tactic| ((repeat (first | symm | ((with_reducible show rdMod (.int _) (.int _) _ _); refine mod_any (by first | decide | assumption | omega) ?_; intro _ _ _))); try dsimp only))
end R
set_option maxRecDepth 100000
set_option maxHeartbeats 1000000
namespace R
open PySem PySem.Spec PyProof.Rows L2 DL
local macro_rules | `(tactic| bv_omega) => `(tactic| first | assumption | exact mset_same)
local macro_rules | `(tactic| symm) => `(tactic| first
  | ((with_reducible show ∃ _, _ = _ ∧ _); refine ⟨_, rfl, ?_⟩)
  | ((with_reducible show _ = _ ∧ _); refine ⟨rfl, ?_⟩)
  | ((with_reducible show ∃ _ _, _ = _ ∧ _ = _ ∧ _); refine ⟨_, _, rfl, rfl, ?_⟩)
  | ((with_reducible show ∃ _ _, _ = _ ∧ _); refine ⟨_, _, rfl, ?_⟩)
  | ((with_reducible show ∃ _ _ _, _ = _ ∧ _); refine ⟨_, _, _, rfl, ?_⟩)
  | ((with_reducible show (_ ≤ _ ∧ _) ∧ _); refine ⟨by omega, ?_⟩)
  | with_reducible refine add_int ?_ | with_reducible refine sub_int ?_
  | with_reducible refine lt_int ?_ | with_reducible refine le_int ?_ | with_reducible refine gt_int ?_ | with_reducible refine ge_int ?_
  | with_reducible refine int_int ?_
  | with_reducible refine eq_int ?_ | with_reducible refine ne_int ?_
  | with_reducible refine len_tup ?_ | with_reducible refine len_lst ?_
  | ((with_reducible show rdIx (.cel _) (.int _) _ _); refine ix_cel (by bv_omega) (by rfl) ?_)
  | ((with_reducible show rdIx (.lst _) (.int _) _ _); refine ix_lst (by rfl) ?_)
  | ((with_reducible show rdIx (.tup _) (.int _) _ _); refine ix_tup (by rfl) ?_)
  | ((with_reducible show rdLen [.cel _] _ _); refine len_cel (by bv_omega) ?_)
  | ((with_reducible show rdMul (.int _) (.int _) _ _); first | refine mul_l (by decide) (by decide) ?_ | refine mul_r (by decide) (by decide) ?_ | refine mul_l (by omega) (by omega) ?_ | refine mul_r (by omega) (by omega) ?_)
  | ((with_reducible show rdDiv (.int _) (.int _) _ _); refine div_int (by first | decide | assumption | omega) (by first | decide | assumption | omega) ?_)
  | ((with_reducible show rdDivmod [.int _, .int _] _ _); refine dm_int (by first | decide | assumption | omega) (by first | decide | assumption | omega) ?_)
  | ((with_reducible show @ite _ (_ = true) _ _ _); first | refine ifYes (by first | with_reducible rfl | exact Bool.not_false | assumption) ?_ | refine ifNo (by first | with_reducible rfl | exact Bool.not_true | assumption) ?_)
  | ((with_reducible show ∃ _, _ ∧ _); refine ⟨_, celL_of (by bv_omega), ?_⟩)
  | ((with_reducible show ∃ _ _ _ _, _ ∧ _ ∧ _ ∧ _ ∧ _); refine ⟨_, _, _, _, rfl, rfl, by bv_omega, by rfl, ?_⟩)
  | ((with_reducible show (_ : Nat) ≤ sizeLine ∧ _); refine ⟨by rw [sizeLine_eq]; exact Nat.le_of_ble_eq_true rfl, ?_⟩))
local macro_rules | `(tactic| infer_instance) => `(tactic| ((repeat symm); try dsimp only))
local macro_rules | `(tactic| ac_rfl) => `(tactic| ((repeat (first | symm | ((with_reducible show rdMod (.int _) (.int _) _ _); refine mod_any (by first | decide | assumption | omega) ?_; intro _ _ _))); try dsimp only))
end R
set_option maxRecDepth 100000
namespace R
open PySem PySem.Spec PyProof.Rows L2 DL
end R
set_option maxRecDepth 100000
set_option maxHeartbeats 1000000
namespace R
open PySem PySem.Spec PyProof.Rows L2 DL
local macro_rules | `(tactic| bv_omega) => `(tactic| first | assumption | exact mset_same)
local macro_rules | `(tactic| symm) => `(tactic| first
  | ((with_reducible show ∃ _, _ = _ ∧ _); refine ⟨_, rfl, ?_⟩)
  | ((with_reducible show _ = _ ∧ _); refine ⟨rfl, ?_⟩)
  | ((with_reducible show ∃ _ _, _ = _ ∧ _ = _ ∧ _); refine ⟨_, _, rfl, rfl, ?_⟩)
  | ((with_reducible show ∃ _ _, _ = _ ∧ _); refine ⟨_, _, rfl, ?_⟩)
  | ((with_reducible show ∃ _ _ _, _ = _ ∧ _); refine ⟨_, _, _, rfl, ?_⟩)
  | ((with_reducible show (_ ≤ _ ∧ _) ∧ _); refine ⟨by omega, ?_⟩)
  | with_reducible refine add_int ?_ | with_reducible refine sub_int ?_
  | with_reducible refine lt_int ?_ | with_reducible refine le_int ?_ | with_reducible refine gt_int ?_ | with_reducible refine ge_int ?_
  | with_reducible refine int_int ?_
  | with_reducible refine eq_int ?_ | with_reducible refine ne_int ?_
  | with_reducible refine len_tup ?_ | with_reducible refine len_lst ?_
  | ((with_reducible show rdIx (.cel _) (.int _) _ _); refine ix_cel (by bv_omega) (by rfl) ?_)
  | ((with_reducible show rdIx (.lst _) (.int _) _ _); refine ix_lst (by rfl) ?_)
  | ((with_reducible show rdIx (.tup _) (.int _) _ _); refine ix_tup (by rfl) ?_)
  | ((with_reducible show rdLen [.cel _] _ _); refine len_cel (by bv_omega) ?_)
  | ((with_reducible show rdMul (.int _) (.int _) _ _); first | refine mul_l (by decide) (by decide) ?_ | refine mul_r (by decide) (by decide) ?_ | refine mul_l (by omega) (by omega) ?_ | refine mul_r (by omega) (by omega) ?_)
  | ((with_reducible show rdDiv (.int _) (.int _) _ _); refine div_int (by first | decide | assumption | omega) (by first | decide | assumption | omega) ?_)
  | ((with_reducible show rdDivmod [.int _, .int _] _ _); refine dm_int (by first | decide | assumption | omega) (by first | decide | assumption | omega) ?_)
  | ((with_reducible show @ite _ (_ = true) _ _ _); first | refine ifYes (by first | with_reducible rfl | exact Bool.not_false | assumption) ?_ | refine ifNo (by first | with_reducible rfl | exact Bool.not_true | assumption) ?_)
  | ((with_reducible show ∃ _, _ ∧ _); refine ⟨_, celL_of (by bv_omega), ?_⟩)
  | ((with_reducible show ∃ _ _ _ _, _ ∧ _ ∧ _ ∧ _ ∧ _); refine ⟨_, _, _, _, rfl, rfl, by bv_omega, by rfl, ?_⟩)
  | ((with_reducible show (_ : Nat) ≤ sizeLine ∧ _); refine ⟨by rw [sizeLine_eq]; exact Nat.le_of_ble_eq_true rfl, ?_⟩))
local macro_rules | `(tactic| infer_instance) => `(tactic| ((repeat symm); try dsimp only))
local macro_rules | `(tactic| ac_rfl) => `(tactic| ((repeat (first | symm | ((with_reducible show rdMod (.int _) (.int _) _ _); refine mod_any (by first | decide | assumption | omega) ?_; intro _ _ _))); try dsimp only))
/-- small data that may be shown -/
structure Sh (n : Nat) (k : Nat) (p : PyData) : Prop where
  s : p.showable = true
  d : p.hasDict = false
  dp : p.depth ≤ k
  len : p.shown.length ≤ n
theorem Sh.ok {n k : Nat} {p : PyData} (h : Sh n k p) (hn : n ≤ 16777216) (hk : k ≤ 100) : showOk p := ⟨h.s, h.d, by have := h.dp; omega, by have := h.len; rw [sizeLine_eq]; omega⟩
theorem Sh.int {i : Int} (h0 : 0 ≤ i) (h1 : i < 10 ^ 19) : Sh 20 0 (.int i) := ⟨by simp [PyData.showable, log_ok h0 h1], by simp [PyData.hasDict], by simp [PyData.depth], by have := num_len h0 h1; rw [PyData.shown_int]; show (numS i).length ≤ 20; omega⟩
theorem Sh.str {x : Str} (h : nameB x = true) : Sh 82 0 (.str x) := ⟨by simp [PyData.showable], by simp [PyData.hasDict], by simp [PyData.depth], by rw [PyData.shown_str]; exact name_repr h⟩
theorem showAll {n k : Nat} : ∀ {l : List PyData}, (∀ p ∈ l, Sh n k p) → PyData.showableAll l = true ∧ PyData.hasDictAll l = false ∧ PyData.depthAll l ≤ k ∧ ∀ x ∈ PyData.shownAll l, x.length ≤ n
  | [], _ => ⟨by simp [PyData.showableAll], by simp [PyData.hasDictAll], by simp [PyData.depthAll], fun x hx => by simp [PyData.shownAll] at hx⟩
  | p :: l, h => by
    obtain ⟨h1, h2, h3, h4⟩ := showAll fun q hq => h q (List.mem_cons_of_mem _ hq)
    have hp := h p (by simp)
    refine ⟨by simp [PyData.showableAll, h1, hp.s], by simp [PyData.hasDictAll, h2, hp.d], ?_, fun x hx => ?_⟩
    · have := hp.dp
      simp only [PyData.depthAll]
      omega
    · rw [PyData.shownAll] at hx
      rcases List.mem_cons.mp hx with rfl | hx
      · exact hp.len
      · exact h4 x hx
theorem Sh.tuple {n k m : Nat} {l : List PyData} (h : ∀ p ∈ l, Sh n k p) (hm : l.length ≤ m) : Sh (3 + (n + 2) * m) (k + 1) (.tuple l) := by
  obtain ⟨h1, h2, h3, h4⟩ := showAll h
  refine ⟨by simp [PyData.showable, h1], by simp [PyData.hasDict, h2], by simp only [PyData.depth]; omega, ?_⟩
  have e : (PyData.tuple l).shown = tupleText (PyData.shownAll l) := by simp only [PyData.shown]
  rw [e]
  have a := tup_le (PyData.shownAll l)
  have b := piledN h4
  rw [shownAll_len] at b
  have c : (n + 2) * l.length ≤ (n + 2) * m := Nat.mul_le_mul_left _ hm
  omega
theorem Sh.list {n k m : Nat} {l : List PyData} (h : ∀ p ∈ l, Sh n k p) (hm : l.length ≤ m) : Sh (3 + (n + 2) * m) (k + 1) (.list l) := by
  obtain ⟨h1, h2, h3, h4⟩ := showAll h
  refine ⟨by simp [PyData.showable, h1], by simp [PyData.hasDict, h2], by simp only [PyData.depth]; omega, ?_⟩
  have e : (PyData.list l).shown = ("[" : Str) ++ Str.join ", " (PyData.shownAll l) ++ "]" := by
    simp only [PyData.shown]
    exact listText_eq_join _
  rw [e]
  have a := lst_le (PyData.shownAll l)
  have b := piledN h4
  rw [shownAll_len] at b
  have c : (n + 2) * l.length ≤ (n + 2) * m := Nat.mul_le_mul_left _ hm
  omega
theorem Sh.mono {n n' k k' : Nat} {p : PyData} (h : Sh n k p) (hn : n ≤ n') (hk : k ≤ k') : Sh n' k' p := ⟨h.s, h.d, by have := h.dp; omega, by have := h.len; omega⟩
/-- what is shown alike is alike -/
theorem ne_same {x : Str} {M : Mem} {q : QD} (w : q (.bl false) M) : rdNe (.str x) (.str x) M q := ne_strA (by rw [decide_eq_true rfl]; exact w)
end R
set_option maxRecDepth 100000
set_option maxHeartbeats 1000000
namespace R
open PySem PySem.Spec PyProof.Rows L2 DL
local macro_rules | `(tactic| bv_omega) => `(tactic| first | assumption | exact mset_same)
local macro_rules | `(tactic| symm) => `(tactic| first
  | ((with_reducible show ∃ _, _ = _ ∧ _); refine ⟨_, rfl, ?_⟩)
  | ((with_reducible show _ = _ ∧ _); refine ⟨rfl, ?_⟩)
  | ((with_reducible show ∃ _ _, _ = _ ∧ _ = _ ∧ _); refine ⟨_, _, rfl, rfl, ?_⟩)
  | ((with_reducible show ∃ _ _, _ = _ ∧ _); refine ⟨_, _, rfl, ?_⟩)
  | ((with_reducible show ∃ _ _ _, _ = _ ∧ _); refine ⟨_, _, _, rfl, ?_⟩)
  | ((with_reducible show (_ ≤ _ ∧ _) ∧ _); refine ⟨by omega, ?_⟩)
  | with_reducible refine add_int ?_ | with_reducible refine sub_int ?_
  | with_reducible refine lt_int ?_ | with_reducible refine le_int ?_ | with_reducible refine gt_int ?_ | with_reducible refine ge_int ?_
  | with_reducible refine int_int ?_
  | with_reducible refine eq_int ?_ | with_reducible refine ne_int ?_
  | with_reducible refine len_tup ?_ | with_reducible refine len_lst ?_
  | ((with_reducible show rdIx (.cel _) (.int _) _ _); refine ix_cel (by bv_omega) (by rfl) ?_)
  | ((with_reducible show rdIx (.lst _) (.int _) _ _); refine ix_lst (by rfl) ?_)
  | ((with_reducible show rdIx (.tup _) (.int _) _ _); refine ix_tup (by rfl) ?_)
  | ((with_reducible show rdLen [.cel _] _ _); refine len_cel (by bv_omega) ?_)
  | ((with_reducible show rdMul (.int _) (.int _) _ _); first | refine mul_l (by decide) (by decide) ?_ | refine mul_r (by decide) (by decide) ?_ | refine mul_l (by omega) (by omega) ?_ | refine mul_r (by omega) (by omega) ?_)
  | ((with_reducible show rdDiv (.int _) (.int _) _ _); refine div_int (by first | decide | assumption | omega) (by first | decide | assumption | omega) ?_)
  | ((with_reducible show rdDivmod [.int _, .int _] _ _); refine dm_int (by first | decide | assumption | omega) (by first | decide | assumption | omega) ?_)
  | ((with_reducible show @ite _ (_ = true) _ _ _); first | refine ifYes (by first | with_reducible rfl | exact Bool.not_false | assumption) ?_ | refine ifNo (by first | with_reducible rfl | exact Bool.not_true | assumption) ?_)
  | ((with_reducible show ∃ _, _ ∧ _); refine ⟨_, celL_of (by bv_omega), ?_⟩)
  | ((with_reducible show ∃ _ _ _ _, _ ∧ _ ∧ _ ∧ _ ∧ _); refine ⟨_, _, _, _, rfl, rfl, by bv_omega, by rfl, ?_⟩)
  | ((with_reducible show (_ : Nat) ≤ sizeLine ∧ _); refine ⟨by rw [sizeLine_eq]; exact Nat.le_of_ble_eq_true rfl, ?_⟩))
local macro_rules | `(tactic| infer_instance) => `(tactic| ((repeat symm); try dsimp only))
local macro_rules | `(tactic| ac_rfl) => `(tactic| ((repeat (first | symm | ((with_reducible show rdMod (.int _) (.int _) _ _); refine mod_any (by first | decide | assumption | omega) ?_; intro _ _ _))); try dsimp only))
end R
set_option maxRecDepth 100000
namespace R
open PySem PySem.Spec PyProof.Rows L2 DL
end R
set_option maxRecDepth 100000
set_option maxHeartbeats 1000000
namespace R
open PySem PySem.Spec PyProof.Rows L2 DL
local macro_rules | `(tactic| bv_omega) => `(tactic| first | assumption | exact mset_same)
local macro_rules | `(tactic| symm) => `(tactic| first
  | ((with_reducible show ∃ _, _ = _ ∧ _); refine ⟨_, rfl, ?_⟩)
  | ((with_reducible show _ = _ ∧ _); refine ⟨rfl, ?_⟩)
  | ((with_reducible show ∃ _ _, _ = _ ∧ _ = _ ∧ _); refine ⟨_, _, rfl, rfl, ?_⟩)
  | ((with_reducible show ∃ _ _, _ = _ ∧ _); refine ⟨_, _, rfl, ?_⟩)
  | ((with_reducible show ∃ _ _ _, _ = _ ∧ _); refine ⟨_, _, _, rfl, ?_⟩)
  | ((with_reducible show (_ ≤ _ ∧ _) ∧ _); refine ⟨by omega, ?_⟩)
  | with_reducible refine add_int ?_ | with_reducible refine sub_int ?_
  | with_reducible refine lt_int ?_ | with_reducible refine le_int ?_ | with_reducible refine gt_int ?_ | with_reducible refine ge_int ?_
  | with_reducible refine int_int ?_
  | with_reducible refine eq_int ?_ | with_reducible refine ne_int ?_
  | with_reducible refine len_tup ?_ | with_reducible refine len_lst ?_
  | ((with_reducible show rdIx (.cel _) (.int _) _ _); refine ix_cel (by bv_omega) (by rfl) ?_)
  | ((with_reducible show rdIx (.lst _) (.int _) _ _); refine ix_lst (by rfl) ?_)
  | ((with_reducible show rdIx (.tup _) (.int _) _ _); refine ix_tup (by rfl) ?_)
  | ((with_reducible show rdLen [.cel _] _ _); refine len_cel (by bv_omega) ?_)
  | ((with_reducible show rdMul (.int _) (.int _) _ _); first | refine mul_l (by decide) (by decide) ?_ | refine mul_r (by decide) (by decide) ?_ | refine mul_l (by omega) (by omega) ?_ | refine mul_r (by omega) (by omega) ?_)
  | ((with_reducible show rdDiv (.int _) (.int _) _ _); refine div_int (by first | decide | assumption | omega) (by first | decide | assumption | omega) ?_)
  | ((with_reducible show rdDivmod [.int _, .int _] _ _); refine dm_int (by first | decide | assumption | omega) (by first | decide | assumption | omega) ?_)
  | ((with_reducible show @ite _ (_ = true) _ _ _); first | refine ifYes (by first | with_reducible rfl | exact Bool.not_false | assumption) ?_ | refine ifNo (by first | with_reducible rfl | exact Bool.not_true | assumption) ?_)
  | ((with_reducible show ∃ _, _ ∧ _); refine ⟨_, celL_of (by bv_omega), ?_⟩)
  | ((with_reducible show ∃ _ _ _ _, _ ∧ _ ∧ _ ∧ _ ∧ _); refine ⟨_, _, _, _, rfl, rfl, by bv_omega, by rfl, ?_⟩)
  | ((with_reducible show (_ : Nat) ≤ sizeLine ∧ _); refine ⟨by rw [sizeLine_eq]; exact Nat.le_of_ble_eq_true rfl, ?_⟩))
local macro_rules | `(tactic| infer_instance) => `(tactic| ((repeat symm); try dsimp only))
local macro_rules | `(tactic| ac_rfl) => `(tactic| ((repeat (first | symm | ((with_reducible show rdMod (.int _) (.int _) _ _); refine mod_any (by first | decide | assumption | omega) ?_; intro _ _ _))); try dsimp only))
end R
set_option maxRecDepth 100000
set_option maxHeartbeats 1000000
namespace R
open PySem PySem.Spec PyProof.Rows L2 DL
local macro_rules | `(tactic| bv_omega) => `(tactic| first | assumption | exact mset_same)
local macro_rules | `(tactic| symm) => `(tactic| first
  | ((with_reducible show ∃ _, _ = _ ∧ _); refine ⟨_, rfl, ?_⟩)
  | ((with_reducible show _ = _ ∧ _); refine ⟨rfl, ?_⟩)
  | ((with_reducible show ∃ _ _, _ = _ ∧ _ = _ ∧ _); refine ⟨_, _, rfl, rfl, ?_⟩)
  | ((with_reducible show ∃ _ _, _ = _ ∧ _); refine ⟨_, _, rfl, ?_⟩)
  | ((with_reducible show ∃ _ _ _, _ = _ ∧ _); refine ⟨_, _, _, rfl, ?_⟩)
  | ((with_reducible show (_ ≤ _ ∧ _) ∧ _); refine ⟨by omega, ?_⟩)
  | with_reducible refine add_int ?_ | with_reducible refine sub_int ?_
  | with_reducible refine lt_int ?_ | with_reducible refine le_int ?_ | with_reducible refine gt_int ?_ | with_reducible refine ge_int ?_
  | with_reducible refine int_int ?_
  | with_reducible refine eq_int ?_ | with_reducible refine ne_int ?_
  | with_reducible refine len_tup ?_ | with_reducible refine len_lst ?_
  | ((with_reducible show rdIx (.cel _) (.int _) _ _); refine ix_cel (by bv_omega) (by rfl) ?_)
  | ((with_reducible show rdIx (.lst _) (.int _) _ _); refine ix_lst (by rfl) ?_)
  | ((with_reducible show rdIx (.tup _) (.int _) _ _); refine ix_tup (by rfl) ?_)
  | ((with_reducible show rdLen [.cel _] _ _); refine len_cel (by bv_omega) ?_)
  | ((with_reducible show rdMul (.int _) (.int _) _ _); first | refine mul_l (by decide) (by decide) ?_ | refine mul_r (by decide) (by decide) ?_ | refine mul_l (by omega) (by omega) ?_ | refine mul_r (by omega) (by omega) ?_)
  | ((with_reducible show rdDiv (.int _) (.int _) _ _); refine div_int (by first | decide | assumption | omega) (by first | decide | assumption | omega) ?_)
  | ((with_reducible show rdDivmod [.int _, .int _] _ _); refine dm_int (by first | decide | assumption | omega) (by first | decide | assumption | omega) ?_)
  | ((with_reducible show @ite _ (_ = true) _ _ _); first | refine ifYes (by first | with_reducible rfl | exact Bool.not_false | assumption) ?_ | refine ifNo (by first | with_reducible rfl | exact Bool.not_true | assumption) ?_)
  | ((with_reducible show ∃ _, _ ∧ _); refine ⟨_, celL_of (by bv_omega), ?_⟩)
  | ((with_reducible show ∃ _ _ _ _, _ ∧ _ ∧ _ ∧ _ ∧ _); refine ⟨_, _, _, _, rfl, rfl, by bv_omega, by rfl, ?_⟩)
  | ((with_reducible show (_ : Nat) ≤ sizeLine ∧ _); refine ⟨by rw [sizeLine_eq]; exact Nat.le_of_ble_eq_true rfl, ?_⟩))
local macro_rules | `(tactic| infer_instance) => `(tactic| ((repeat symm); try dsimp only))
local macro_rules | `(tactic| ac_rfl) => `(tactic| ((repeat (first | symm | ((with_reducible show rdMod (.int _) (.int _) _ _); refine mod_any (by first | decide | assumption | omega) ?_; intro _ _ _))); try dsimp only))
def Lt (x : Str) : Prop := ∀ c ∈ x.cps.toList, c < 1114112
theorem Lt.ok {x : Str} (h : Lt x) : PyData.strOk x = true := strOk_nat (List.all_eq_true.mpr fun c hc => decide_eq_true (h c hc))
theorem Lt.app {a b : Str} (h : Lt a) (h' : Lt b) : Lt (a ++ b) := fun c hc => by
  rcases mem_cps_append.mp hc with hc | hc
  · exact h c hc
  · exact h' c hc
end R
set_option maxRecDepth 100000
set_option maxHeartbeats 1000000
namespace R
open PySem PySem.Spec PyProof.Rows L2 DL
local macro_rules | `(tactic| bv_omega) => `(tactic| first | assumption | exact mset_same)
local macro_rules | `(tactic| symm) => `(tactic| first
  | ((with_reducible show ∃ _, _ = _ ∧ _); refine ⟨_, rfl, ?_⟩)
  | ((with_reducible show _ = _ ∧ _); refine ⟨rfl, ?_⟩)
  | ((with_reducible show ∃ _ _, _ = _ ∧ _ = _ ∧ _); refine ⟨_, _, rfl, rfl, ?_⟩)
  | ((with_reducible show ∃ _ _, _ = _ ∧ _); refine ⟨_, _, rfl, ?_⟩)
  | ((with_reducible show ∃ _ _ _, _ = _ ∧ _); refine ⟨_, _, _, rfl, ?_⟩)
  | ((with_reducible show (_ ≤ _ ∧ _) ∧ _); refine ⟨by omega, ?_⟩)
  | with_reducible refine add_int ?_ | with_reducible refine sub_int ?_
  | with_reducible refine lt_int ?_ | with_reducible refine le_int ?_ | with_reducible refine gt_int ?_ | with_reducible refine ge_int ?_
  | with_reducible refine int_int ?_
  | with_reducible refine eq_int ?_ | with_reducible refine ne_int ?_
  | with_reducible refine len_tup ?_ | with_reducible refine len_lst ?_
  | ((with_reducible show rdIx (.cel _) (.int _) _ _); refine ix_cel (by bv_omega) (by rfl) ?_)
  | ((with_reducible show rdIx (.lst _) (.int _) _ _); refine ix_lst (by rfl) ?_)
  | ((with_reducible show rdIx (.tup _) (.int _) _ _); refine ix_tup (by rfl) ?_)
  | ((with_reducible show rdLen [.cel _] _ _); refine len_cel (by bv_omega) ?_)
  | ((with_reducible show rdMul (.int _) (.int _) _ _); first | refine mul_l (by decide) (by decide) ?_ | refine mul_r (by decide) (by decide) ?_ | refine mul_l (by omega) (by omega) ?_ | refine mul_r (by omega) (by omega) ?_)
  | ((with_reducible show rdDiv (.int _) (.int _) _ _); refine div_int (by first | decide | assumption | omega) (by first | decide | assumption | omega) ?_)
  | ((with_reducible show rdDivmod [.int _, .int _] _ _); refine dm_int (by first | decide | assumption | omega) (by first | decide | assumption | omega) ?_)
  | ((with_reducible show @ite _ (_ = true) _ _ _); first | refine ifYes (by first | with_reducible rfl | exact Bool.not_false | assumption) ?_ | refine ifNo (by first | with_reducible rfl | exact Bool.not_true | assumption) ?_)
  | ((with_reducible show ∃ _, _ ∧ _); refine ⟨_, celL_of (by bv_omega), ?_⟩)
  | ((with_reducible show ∃ _ _ _ _, _ ∧ _ ∧ _ ∧ _ ∧ _); refine ⟨_, _, _, _, rfl, rfl, by bv_omega, by rfl, ?_⟩)
  | ((with_reducible show (_ : Nat) ≤ sizeLine ∧ _); refine ⟨by rw [sizeLine_eq]; exact Nat.le_of_ble_eq_true rfl, ?_⟩))
local macro_rules | `(tactic| infer_instance) => `(tactic| ((repeat symm); try dsimp only))
local macro_rules | `(tactic| ac_rfl) => `(tactic| ((repeat (first | symm | ((with_reducible show rdMod (.int _) (.int _) _ _); refine mod_any (by first | decide | assumption | omega) ?_; intro _ _ _))); try dsimp only))
end R
set_option maxRecDepth 100000
namespace R
open PySem PySem.Spec PyProof.Rows L2 DL
end R
set_option maxRecDepth 100000
set_option maxHeartbeats 1000000
namespace R
open PySem PySem.Spec PyProof.Rows L2 DL
local macro_rules | `(tactic| bv_omega) => `(tactic| first | assumption | exact mset_same)
local macro_rules | `(tactic| symm) => `(tactic| first
  | ((with_reducible show ∃ _, _ = _ ∧ _); refine ⟨_, rfl, ?_⟩)
  | ((with_reducible show _ = _ ∧ _); refine ⟨rfl, ?_⟩)
  | ((with_reducible show ∃ _ _, _ = _ ∧ _ = _ ∧ _); refine ⟨_, _, rfl, rfl, ?_⟩)
  | ((with_reducible show ∃ _ _, _ = _ ∧ _); refine ⟨_, _, rfl, ?_⟩)
  | ((with_reducible show ∃ _ _ _, _ = _ ∧ _); refine ⟨_, _, _, rfl, ?_⟩)
  | ((with_reducible show (_ ≤ _ ∧ _) ∧ _); refine ⟨by omega, ?_⟩)
  | with_reducible refine add_int ?_ | with_reducible refine sub_int ?_
  | with_reducible refine lt_int ?_ | with_reducible refine le_int ?_ | with_reducible refine gt_int ?_ | with_reducible refine ge_int ?_
  | with_reducible refine int_int ?_
  | with_reducible refine eq_int ?_ | with_reducible refine ne_int ?_
  | with_reducible refine len_tup ?_ | with_reducible refine len_lst ?_
  | ((with_reducible show rdIx (.cel _) (.int _) _ _); refine ix_cel (by bv_omega) (by rfl) ?_)
  | ((with_reducible show rdIx (.lst _) (.int _) _ _); refine ix_lst (by rfl) ?_)
  | ((with_reducible show rdIx (.tup _) (.int _) _ _); refine ix_tup (by rfl) ?_)
  | ((with_reducible show rdLen [.cel _] _ _); refine len_cel (by bv_omega) ?_)
  | ((with_reducible show rdMul (.int _) (.int _) _ _); first | refine mul_l (by decide) (by decide) ?_ | refine mul_r (by decide) (by decide) ?_ | refine mul_l (by omega) (by omega) ?_ | refine mul_r (by omega) (by omega) ?_)
  | ((with_reducible show rdDiv (.int _) (.int _) _ _); refine div_int (by first | decide | assumption | omega) (by first | decide | assumption | omega) ?_)
  | ((with_reducible show rdDivmod [.int _, .int _] _ _); refine dm_int (by first | decide | assumption | omega) (by first | decide | assumption | omega) ?_)
  | ((with_reducible show @ite _ (_ = true) _ _ _); first | refine ifYes (by first | with_reducible rfl | exact Bool.not_false | assumption) ?_ | refine ifNo (by first | with_reducible rfl | exact Bool.not_true | assumption) ?_)
  | ((with_reducible show ∃ _, _ ∧ _); refine ⟨_, celL_of (by bv_omega), ?_⟩)
  | ((with_reducible show ∃ _ _ _ _, _ ∧ _ ∧ _ ∧ _ ∧ _); refine ⟨_, _, _, _, rfl, rfl, by bv_omega, by rfl, ?_⟩)
  | ((with_reducible show (_ : Nat) ≤ sizeLine ∧ _); refine ⟨by rw [sizeLine_eq]; exact Nat.le_of_ble_eq_true rfl, ?_⟩))
local macro_rules | `(tactic| infer_instance) => `(tactic| ((repeat symm); try dsimp only))
local macro_rules | `(tactic| ac_rfl) => `(tactic| ((repeat (first | symm | ((with_reducible show rdMod (.int _) (.int _) _ _); refine mod_any (by first | decide | assumption | omega) ?_; intro _ _ _))); try dsimp only))
end R
set_option maxRecDepth 100000
set_option maxHeartbeats 1000000
namespace R
open PySem PySem.Spec PyProof.Rows L2 DL
local macro_rules | `(tactic| bv_omega) => `(tactic| first | assumption | exact mset_same)
local macro_rules | `(tactic| symm) => `(tactic| first
  | ((with_reducible show ∃ _, _ = _ ∧ _); refine ⟨_, rfl, ?_⟩)
  | ((with_reducible show _ = _ ∧ _); refine ⟨rfl, ?_⟩)
  | ((with_reducible show ∃ _ _, _ = _ ∧ _ = _ ∧ _); refine ⟨_, _, rfl, rfl, ?_⟩)
  | ((with_reducible show ∃ _ _, _ = _ ∧ _); refine ⟨_, _, rfl, ?_⟩)
  | ((with_reducible show ∃ _ _ _, _ = _ ∧ _); refine ⟨_, _, _, rfl, ?_⟩)
  | ((with_reducible show (_ ≤ _ ∧ _) ∧ _); refine ⟨by omega, ?_⟩)
  | with_reducible refine add_int ?_ | with_reducible refine sub_int ?_
  | with_reducible refine lt_int ?_ | with_reducible refine le_int ?_ | with_reducible refine gt_int ?_ | with_reducible refine ge_int ?_
  | with_reducible refine int_int ?_
  | with_reducible refine eq_int ?_ | with_reducible refine ne_int ?_
  | with_reducible refine len_tup ?_ | with_reducible refine len_lst ?_
  | ((with_reducible show rdIx (.cel _) (.int _) _ _); refine ix_cel (by bv_omega) (by rfl) ?_)
  | ((with_reducible show rdIx (.lst _) (.int _) _ _); refine ix_lst (by rfl) ?_)
  | ((with_reducible show rdIx (.tup _) (.int _) _ _); refine ix_tup (by rfl) ?_)
  | ((with_reducible show rdLen [.cel _] _ _); refine len_cel (by bv_omega) ?_)
  | ((with_reducible show rdMul (.int _) (.int _) _ _); first | refine mul_l (by decide) (by decide) ?_ | refine mul_r (by decide) (by decide) ?_ | refine mul_l (by omega) (by omega) ?_ | refine mul_r (by omega) (by omega) ?_)
  | ((with_reducible show rdDiv (.int _) (.int _) _ _); refine div_int (by first | decide | assumption | omega) (by first | decide | assumption | omega) ?_)
  | ((with_reducible show rdDivmod [.int _, .int _] _ _); refine dm_int (by first | decide | assumption | omega) (by first | decide | assumption | omega) ?_)
  | ((with_reducible show @ite _ (_ = true) _ _ _); first | refine ifYes (by first | with_reducible rfl | exact Bool.not_false | assumption) ?_ | refine ifNo (by first | with_reducible rfl | exact Bool.not_true | assumption) ?_)
  | ((with_reducible show ∃ _, _ ∧ _); refine ⟨_, celL_of (by bv_omega), ?_⟩)
  | ((with_reducible show ∃ _ _ _ _, _ ∧ _ ∧ _ ∧ _ ∧ _); refine ⟨_, _, _, _, rfl, rfl, by bv_omega, by rfl, ?_⟩)
  | ((with_reducible show (_ : Nat) ≤ sizeLine ∧ _); refine ⟨by rw [sizeLine_eq]; exact Nat.le_of_ble_eq_true rfl, ?_⟩))
local macro_rules | `(tactic| infer_instance) => `(tactic| ((repeat symm); try dsimp only))
local macro_rules | `(tactic| ac_rfl) => `(tactic| ((repeat (first | symm | ((with_reducible show rdMod (.int _) (.int _) _ _); refine mod_any (by first | decide | assumption | omega) ?_; intro _ _ _))); try dsimp only))
end R
set_option maxRecDepth 100000
set_option maxHeartbeats 1000000
namespace R
open PySem PySem.Spec PyProof.Rows L2 DL
local macro_rules | `(tactic| bv_omega) => `(tactic| first | assumption | exact mset_same)
local macro_rules | `(tactic| symm) => `(tactic| first
  | ((with_reducible show ∃ _, _ = _ ∧ _); refine ⟨_, rfl, ?_⟩)
  | ((with_reducible show _ = _ ∧ _); refine ⟨rfl, ?_⟩)
  | ((with_reducible show ∃ _ _, _ = _ ∧ _ = _ ∧ _); refine ⟨_, _, rfl, rfl, ?_⟩)
  | ((with_reducible show ∃ _ _, _ = _ ∧ _); refine ⟨_, _, rfl, ?_⟩)
  | ((with_reducible show ∃ _ _ _, _ = _ ∧ _); refine ⟨_, _, _, rfl, ?_⟩)
  | ((with_reducible show (_ ≤ _ ∧ _) ∧ _); refine ⟨by omega, ?_⟩)
  | with_reducible refine add_int ?_ | with_reducible refine sub_int ?_
  | with_reducible refine lt_int ?_ | with_reducible refine le_int ?_ | with_reducible refine gt_int ?_ | with_reducible refine ge_int ?_
  | with_reducible refine int_int ?_
  | with_reducible refine eq_int ?_ | with_reducible refine ne_int ?_
  | with_reducible refine len_tup ?_ | with_reducible refine len_lst ?_
  | ((with_reducible show rdIx (.cel _) (.int _) _ _); refine ix_cel (by bv_omega) (by rfl) ?_)
  | ((with_reducible show rdIx (.lst _) (.int _) _ _); refine ix_lst (by rfl) ?_)
  | ((with_reducible show rdIx (.tup _) (.int _) _ _); refine ix_tup (by rfl) ?_)
  | ((with_reducible show rdLen [.cel _] _ _); refine len_cel (by bv_omega) ?_)
  | ((with_reducible show rdMul (.int _) (.int _) _ _); first | refine mul_l (by decide) (by decide) ?_ | refine mul_r (by decide) (by decide) ?_ | refine mul_l (by omega) (by omega) ?_ | refine mul_r (by omega) (by omega) ?_)
  | ((with_reducible show rdDiv (.int _) (.int _) _ _); refine div_int (by first | decide | assumption | omega) (by first | decide | assumption | omega) ?_)
  | ((with_reducible show rdDivmod [.int _, .int _] _ _); refine dm_int (by first | decide | assumption | omega) (by first | decide | assumption | omega) ?_)
  | ((with_reducible show @ite _ (_ = true) _ _ _); first | refine ifYes (by first | with_reducible rfl | exact Bool.not_false | assumption) ?_ | refine ifNo (by first | with_reducible rfl | exact Bool.not_true | assumption) ?_)
  | ((with_reducible show ∃ _, _ ∧ _); refine ⟨_, celL_of (by bv_omega), ?_⟩)
  | ((with_reducible show ∃ _ _ _ _, _ ∧ _ ∧ _ ∧ _ ∧ _); refine ⟨_, _, _, _, rfl, rfl, by bv_omega, by rfl, ?_⟩)
  | ((with_reducible show (_ : Nat) ≤ sizeLine ∧ _); refine ⟨by rw [sizeLine_eq]; exact Nat.le_of_ble_eq_true rfl, ?_⟩))
local macro_rules | `(tactic| infer_instance) => `(tactic| ((repeat symm); try dsimp only))
local macro_rules | `(tactic| ac_rfl) => `(tactic| ((repeat (first | symm | ((with_reducible show rdMod (.int _) (.int _) _ _); refine mod_any (by first | decide | assumption | omega) ?_; intro _ _ _))); try dsimp only))
def abcf : List Str := ["a", "b", "c", "d", "e", "f"]
end R
set_option maxRecDepth 100000
namespace R
open PySem PySem.Spec PyProof.Rows L2 DL
end R
set_option maxRecDepth 100000
set_option maxHeartbeats 1000000
namespace R
open PySem PySem.Spec PyProof.Rows L2 DL
local macro_rules | `(tactic| bv_omega) => `(tactic| first | assumption | exact mset_same)
local macro_rules | `(tactic| symm) => `(tactic| first
  | ((with_reducible show ∃ _, _ = _ ∧ _); refine ⟨_, rfl, ?_⟩)
  | ((with_reducible show _ = _ ∧ _); refine ⟨rfl, ?_⟩)
  | ((with_reducible show ∃ _ _, _ = _ ∧ _ = _ ∧ _); refine ⟨_, _, rfl, rfl, ?_⟩)
  | ((with_reducible show ∃ _ _, _ = _ ∧ _); refine ⟨_, _, rfl, ?_⟩)
  | ((with_reducible show ∃ _ _ _, _ = _ ∧ _); refine ⟨_, _, _, rfl, ?_⟩)
  | ((with_reducible show (_ ≤ _ ∧ _) ∧ _); refine ⟨by omega, ?_⟩)
  | with_reducible refine add_int ?_ | with_reducible refine sub_int ?_
  | with_reducible refine lt_int ?_ | with_reducible refine le_int ?_ | with_reducible refine gt_int ?_ | with_reducible refine ge_int ?_
  | with_reducible refine int_int ?_
  | with_reducible refine eq_int ?_ | with_reducible refine ne_int ?_
  | with_reducible refine len_tup ?_ | with_reducible refine len_lst ?_
  | ((with_reducible show rdIx (.cel _) (.int _) _ _); refine ix_cel (by bv_omega) (by rfl) ?_)
  | ((with_reducible show rdIx (.lst _) (.int _) _ _); refine ix_lst (by rfl) ?_)
  | ((with_reducible show rdIx (.tup _) (.int _) _ _); refine ix_tup (by rfl) ?_)
  | ((with_reducible show rdLen [.cel _] _ _); refine len_cel (by bv_omega) ?_)
  | ((with_reducible show rdMul (.int _) (.int _) _ _); first | refine mul_l (by decide) (by decide) ?_ | refine mul_r (by decide) (by decide) ?_ | refine mul_l (by omega) (by omega) ?_ | refine mul_r (by omega) (by omega) ?_)
  | ((with_reducible show rdDiv (.int _) (.int _) _ _); refine div_int (by first | decide | assumption | omega) (by first | decide | assumption | omega) ?_)
  | ((with_reducible show rdDivmod [.int _, .int _] _ _); refine dm_int (by first | decide | assumption | omega) (by first | decide | assumption | omega) ?_)
  | ((with_reducible show @ite _ (_ = true) _ _ _); first | refine ifYes (by first | with_reducible rfl | exact Bool.not_false | assumption) ?_ | refine ifNo (by first | with_reducible rfl | exact Bool.not_true | assumption) ?_)
  | ((with_reducible show ∃ _, _ ∧ _); refine ⟨_, celL_of (by bv_omega), ?_⟩)
  | ((with_reducible show ∃ _ _ _ _, _ ∧ _ ∧ _ ∧ _ ∧ _); refine ⟨_, _, _, _, rfl, rfl, by bv_omega, by rfl, ?_⟩)
  | ((with_reducible show (_ : Nat) ≤ sizeLine ∧ _); refine ⟨by rw [sizeLine_eq]; exact Nat.le_of_ble_eq_true rfl, ?_⟩))
local macro_rules | `(tactic| infer_instance) => `(tactic| ((repeat symm); try dsimp only))
local macro_rules | `(tactic| ac_rfl) => `(tactic| ((repeat (first | symm | ((with_reducible show rdMod (.int _) (.int _) _ _); refine mod_any (by first | decide | assumption | omega) ?_; intro _ _ _))); try dsimp only))
theorem eq_nil {M : Mem} {q : QD} {d : D} {p : List PyData} (e : pyOf M d = some (.list p)) (hs : SeqAt.shaped (.list p) = true) (w : q (.bl p.isEmpty) M) : rdEq d (.lst []) M q := by
  refine .inl ⟨.list p, .list [], e, rfl, hs, shL0, ?_⟩
  have : PyData.eqv (.list p) (.list []) = p.isEmpty := by
    cases p <;> simp [PyData.eqv, PyData.eqvAll]
  rw [this]; exact w
structure Vast (size : Int) (n : Nat) (hs : List Host) : Prop where
  few : hs.length ≤ n
  names : ∀ h ∈ hs, h.name ∈ abcf.take n
  each : ∀ h ∈ hs, HostT size h
  apart : hs.Pairwise Apart
  marks : ∀ h ∈ hs, h.marks.length ≤ 4 ∧ h.rack ∈ (["r1", "r2", "r3"] : List Str)
theorem Vast.more {size : Int} {n : Nat} {hs : List Host} (G : Vast size n hs) : Vast size (n + 1) hs :=
  ⟨Nat.le_succ_of_le G.few, fun h hh => by rw [List.take_add_one]; exact List.mem_append_left _ (G.names h hh), G.each, G.apart, G.marks⟩
end R
set_option maxRecDepth 100000
set_option maxHeartbeats 1000000
namespace R
open PySem PySem.Spec PyProof.Rows L2 DL
local macro_rules | `(tactic| bv_omega) => `(tactic| first | assumption | exact mset_same)
local macro_rules | `(tactic| symm) => `(tactic| first
  | ((with_reducible show ∃ _, _ = _ ∧ _); refine ⟨_, rfl, ?_⟩)
  | ((with_reducible show _ = _ ∧ _); refine ⟨rfl, ?_⟩)
  | ((with_reducible show ∃ _ _, _ = _ ∧ _ = _ ∧ _); refine ⟨_, _, rfl, rfl, ?_⟩)
  | ((with_reducible show ∃ _ _, _ = _ ∧ _); refine ⟨_, _, rfl, ?_⟩)
  | ((with_reducible show ∃ _ _ _, _ = _ ∧ _); refine ⟨_, _, _, rfl, ?_⟩)
  | ((with_reducible show (_ ≤ _ ∧ _) ∧ _); refine ⟨by omega, ?_⟩)
  | with_reducible refine add_int ?_ | with_reducible refine sub_int ?_
  | with_reducible refine lt_int ?_ | with_reducible refine le_int ?_ | with_reducible refine gt_int ?_ | with_reducible refine ge_int ?_
  | with_reducible refine int_int ?_
  | with_reducible refine eq_int ?_ | with_reducible refine ne_int ?_
  | with_reducible refine len_tup ?_ | with_reducible refine len_lst ?_
  | ((with_reducible show rdIx (.cel _) (.int _) _ _); refine ix_cel (by bv_omega) (by rfl) ?_)
  | ((with_reducible show rdIx (.lst _) (.int _) _ _); refine ix_lst (by rfl) ?_)
  | ((with_reducible show rdIx (.tup _) (.int _) _ _); refine ix_tup (by rfl) ?_)
  | ((with_reducible show rdLen [.cel _] _ _); refine len_cel (by bv_omega) ?_)
  | ((with_reducible show rdMul (.int _) (.int _) _ _); first | refine mul_l (by decide) (by decide) ?_ | refine mul_r (by decide) (by decide) ?_ | refine mul_l (by omega) (by omega) ?_ | refine mul_r (by omega) (by omega) ?_)
  | ((with_reducible show rdDiv (.int _) (.int _) _ _); refine div_int (by first | decide | assumption | omega) (by first | decide | assumption | omega) ?_)
  | ((with_reducible show rdDivmod [.int _, .int _] _ _); refine dm_int (by first | decide | assumption | omega) (by first | decide | assumption | omega) ?_)
  | ((with_reducible show @ite _ (_ = true) _ _ _); first | refine ifYes (by first | with_reducible rfl | exact Bool.not_false | assumption) ?_ | refine ifNo (by first | with_reducible rfl | exact Bool.not_true | assumption) ?_)
  | ((with_reducible show ∃ _, _ ∧ _); refine ⟨_, celL_of (by bv_omega), ?_⟩)
  | ((with_reducible show ∃ _ _ _ _, _ ∧ _ ∧ _ ∧ _ ∧ _); refine ⟨_, _, _, _, rfl, rfl, by bv_omega, by rfl, ?_⟩)
  | ((with_reducible show (_ : Nat) ≤ sizeLine ∧ _); refine ⟨by rw [sizeLine_eq]; exact Nat.le_of_ble_eq_true rfl, ?_⟩))
local macro_rules | `(tactic| infer_instance) => `(tactic| ((repeat symm); try dsimp only))
local macro_rules | `(tactic| ac_rfl) => `(tactic| ((repeat (first | symm | ((with_reducible show rdMod (.int _) (.int _) _ _); refine mod_any (by first | decide | assumption | omega) ?_; intro _ _ _))); try dsimp only))
end R
set_option maxRecDepth 100000
namespace R
open PySem PySem.Spec PyProof.Rows L2 DL
end R
set_option maxRecDepth 100000
set_option maxHeartbeats 1000000
namespace R
open PySem PySem.Spec PyProof.Rows L2 DL
local macro_rules | `(tactic| bv_omega) => `(tactic| first | assumption | exact mset_same)
local macro_rules | `(tactic| symm) => `(tactic| first
  | ((with_reducible show ∃ _, _ = _ ∧ _); refine ⟨_, rfl, ?_⟩)
  | ((with_reducible show _ = _ ∧ _); refine ⟨rfl, ?_⟩)
  | ((with_reducible show ∃ _ _, _ = _ ∧ _ = _ ∧ _); refine ⟨_, _, rfl, rfl, ?_⟩)
  | ((with_reducible show ∃ _ _, _ = _ ∧ _); refine ⟨_, _, rfl, ?_⟩)
  | ((with_reducible show ∃ _ _ _, _ = _ ∧ _); refine ⟨_, _, _, rfl, ?_⟩)
  | ((with_reducible show (_ ≤ _ ∧ _) ∧ _); refine ⟨by omega, ?_⟩)
  | with_reducible refine add_int ?_ | with_reducible refine sub_int ?_
  | with_reducible refine lt_int ?_ | with_reducible refine le_int ?_ | with_reducible refine gt_int ?_ | with_reducible refine ge_int ?_
  | with_reducible refine int_int ?_
  | with_reducible refine eq_int ?_ | with_reducible refine ne_int ?_
  | with_reducible refine len_tup ?_ | with_reducible refine len_lst ?_
  | ((with_reducible show rdIx (.cel _) (.int _) _ _); refine ix_cel (by bv_omega) (by rfl) ?_)
  | ((with_reducible show rdIx (.lst _) (.int _) _ _); refine ix_lst (by rfl) ?_)
  | ((with_reducible show rdIx (.tup _) (.int _) _ _); refine ix_tup (by rfl) ?_)
  | ((with_reducible show rdLen [.cel _] _ _); refine len_cel (by bv_omega) ?_)
  | ((with_reducible show rdMul (.int _) (.int _) _ _); first | refine mul_l (by decide) (by decide) ?_ | refine mul_r (by decide) (by decide) ?_ | refine mul_l (by omega) (by omega) ?_ | refine mul_r (by omega) (by omega) ?_)
  | ((with_reducible show rdDiv (.int _) (.int _) _ _); refine div_int (by first | decide | assumption | omega) (by first | decide | assumption | omega) ?_)
  | ((with_reducible show rdDivmod [.int _, .int _] _ _); refine dm_int (by first | decide | assumption | omega) (by first | decide | assumption | omega) ?_)
  | ((with_reducible show @ite _ (_ = true) _ _ _); first | refine ifYes (by first | with_reducible rfl | exact Bool.not_false | assumption) ?_ | refine ifNo (by first | with_reducible rfl | exact Bool.not_true | assumption) ?_)
  | ((with_reducible show ∃ _, _ ∧ _); refine ⟨_, celL_of (by bv_omega), ?_⟩)
  | ((with_reducible show ∃ _ _ _ _, _ ∧ _ ∧ _ ∧ _ ∧ _); refine ⟨_, _, _, _, rfl, rfl, by bv_omega, by rfl, ?_⟩)
  | ((with_reducible show (_ : Nat) ≤ sizeLine ∧ _); refine ⟨by rw [sizeLine_eq]; exact Nat.le_of_ble_eq_true rfl, ?_⟩))
local macro_rules | `(tactic| infer_instance) => `(tactic| ((repeat symm); try dsimp only))
local macro_rules | `(tactic| ac_rfl) => `(tactic| ((repeat (first | symm | ((with_reducible show rdMod (.int _) (.int _) _ _); refine mod_any (by first | decide | assumption | omega) ?_; intro _ _ _))); try dsimp only))
end R
set_option maxRecDepth 100000
set_option maxHeartbeats 1000000
namespace R
open PySem PySem.Spec PyProof.Rows L2 DL
local macro_rules | `(tactic| bv_omega) => `(tactic| first | assumption | exact mset_same)
local macro_rules | `(tactic| symm) => `(tactic| first
  | ((with_reducible show ∃ _, _ = _ ∧ _); refine ⟨_, rfl, ?_⟩)
  | ((with_reducible show _ = _ ∧ _); refine ⟨rfl, ?_⟩)
  | ((with_reducible show ∃ _ _, _ = _ ∧ _ = _ ∧ _); refine ⟨_, _, rfl, rfl, ?_⟩)
  | ((with_reducible show ∃ _ _, _ = _ ∧ _); refine ⟨_, _, rfl, ?_⟩)
  | ((with_reducible show ∃ _ _ _, _ = _ ∧ _); refine ⟨_, _, _, rfl, ?_⟩)
  | ((with_reducible show (_ ≤ _ ∧ _) ∧ _); refine ⟨by omega, ?_⟩)
  | with_reducible refine add_int ?_ | with_reducible refine sub_int ?_
  | with_reducible refine lt_int ?_ | with_reducible refine le_int ?_ | with_reducible refine gt_int ?_ | with_reducible refine ge_int ?_
  | with_reducible refine int_int ?_
  | with_reducible refine eq_int ?_ | with_reducible refine ne_int ?_
  | with_reducible refine len_tup ?_ | with_reducible refine len_lst ?_
  | ((with_reducible show rdIx (.cel _) (.int _) _ _); refine ix_cel (by bv_omega) (by rfl) ?_)
  | ((with_reducible show rdIx (.lst _) (.int _) _ _); refine ix_lst (by rfl) ?_)
  | ((with_reducible show rdIx (.tup _) (.int _) _ _); refine ix_tup (by rfl) ?_)
  | ((with_reducible show rdLen [.cel _] _ _); refine len_cel (by bv_omega) ?_)
  | ((with_reducible show rdMul (.int _) (.int _) _ _); first | refine mul_l (by decide) (by decide) ?_ | refine mul_r (by decide) (by decide) ?_ | refine mul_l (by omega) (by omega) ?_ | refine mul_r (by omega) (by omega) ?_)
  | ((with_reducible show rdDiv (.int _) (.int _) _ _); refine div_int (by first | decide | assumption | omega) (by first | decide | assumption | omega) ?_)
  | ((with_reducible show rdDivmod [.int _, .int _] _ _); refine dm_int (by first | decide | assumption | omega) (by first | decide | assumption | omega) ?_)
  | ((with_reducible show @ite _ (_ = true) _ _ _); first | refine ifYes (by first | with_reducible rfl | exact Bool.not_false | assumption) ?_ | refine ifNo (by first | with_reducible rfl | exact Bool.not_true | assumption) ?_)
  | ((with_reducible show ∃ _, _ ∧ _); refine ⟨_, celL_of (by bv_omega), ?_⟩)
  | ((with_reducible show ∃ _ _ _ _, _ ∧ _ ∧ _ ∧ _ ∧ _); refine ⟨_, _, _, _, rfl, rfl, by bv_omega, by rfl, ?_⟩)
  | ((with_reducible show (_ : Nat) ≤ sizeLine ∧ _); refine ⟨by rw [sizeLine_eq]; exact Nat.le_of_ble_eq_true rfl, ?_⟩))
local macro_rules | `(tactic| infer_instance) => `(tactic| ((repeat symm); try dsimp only))
local macro_rules | `(tactic| ac_rfl) => `(tactic| ((repeat (first | symm | ((with_reducible show rdMod (.int _) (.int _) _ _); refine mod_any (by first | decide | assumption | omega) ?_; intro _ _ _))); try dsimp only))
end R
set_option maxRecDepth 100000
set_option maxHeartbeats 1000000
namespace R
open PySem PySem.Spec PyProof.Rows L2 DL
local macro_rules | `(tactic| bv_omega) => `(tactic| first | assumption | exact mset_same)
local macro_rules | `(tactic| symm) => `(tactic| first
  | ((with_reducible show ∃ _, _ = _ ∧ _); refine ⟨_, rfl, ?_⟩)
  | ((with_reducible show _ = _ ∧ _); refine ⟨rfl, ?_⟩)
  | ((with_reducible show ∃ _ _, _ = _ ∧ _ = _ ∧ _); refine ⟨_, _, rfl, rfl, ?_⟩)
  | ((with_reducible show ∃ _ _, _ = _ ∧ _); refine ⟨_, _, rfl, ?_⟩)
  | ((with_reducible show ∃ _ _ _, _ = _ ∧ _); refine ⟨_, _, _, rfl, ?_⟩)
  | ((with_reducible show (_ ≤ _ ∧ _) ∧ _); refine ⟨by omega, ?_⟩)
  | with_reducible refine add_int ?_ | with_reducible refine sub_int ?_
  | with_reducible refine lt_int ?_ | with_reducible refine le_int ?_ | with_reducible refine gt_int ?_ | with_reducible refine ge_int ?_
  | with_reducible refine int_int ?_
  | with_reducible refine eq_int ?_ | with_reducible refine ne_int ?_
  | with_reducible refine len_tup ?_ | with_reducible refine len_lst ?_
  | ((with_reducible show rdIx (.cel _) (.int _) _ _); refine ix_cel (by bv_omega) (by rfl) ?_)
  | ((with_reducible show rdIx (.lst _) (.int _) _ _); refine ix_lst (by rfl) ?_)
  | ((with_reducible show rdIx (.tup _) (.int _) _ _); refine ix_tup (by rfl) ?_)
  | ((with_reducible show rdLen [.cel _] _ _); refine len_cel (by bv_omega) ?_)
  | ((with_reducible show rdMul (.int _) (.int _) _ _); first | refine mul_l (by decide) (by decide) ?_ | refine mul_r (by decide) (by decide) ?_ | refine mul_l (by omega) (by omega) ?_ | refine mul_r (by omega) (by omega) ?_)
  | ((with_reducible show rdDiv (.int _) (.int _) _ _); refine div_int (by first | decide | assumption | omega) (by first | decide | assumption | omega) ?_)
  | ((with_reducible show rdDivmod [.int _, .int _] _ _); refine dm_int (by first | decide | assumption | omega) (by first | decide | assumption | omega) ?_)
  | ((with_reducible show @ite _ (_ = true) _ _ _); first | refine ifYes (by first | with_reducible rfl | exact Bool.not_false | assumption) ?_ | refine ifNo (by first | with_reducible rfl | exact Bool.not_true | assumption) ?_)
  | ((with_reducible show ∃ _, _ ∧ _); refine ⟨_, celL_of (by bv_omega), ?_⟩)
  | ((with_reducible show ∃ _ _ _ _, _ ∧ _ ∧ _ ∧ _ ∧ _); refine ⟨_, _, _, _, rfl, rfl, by bv_omega, by rfl, ?_⟩)
  | ((with_reducible show (_ : Nat) ≤ sizeLine ∧ _); refine ⟨by rw [sizeLine_eq]; exact Nat.le_of_ble_eq_true rfl, ?_⟩))
local macro_rules | `(tactic| infer_instance) => `(tactic| ((repeat symm); try dsimp only))
local macro_rules | `(tactic| ac_rfl) => `(tactic| ((repeat (first | symm | ((with_reducible show rdMod (.int _) (.int _) _ _); refine mod_any (by first | decide | assumption | omega) ?_; intro _ _ _))); try dsimp only))
end R
set_option maxRecDepth 100000
set_option maxHeartbeats 1000000
namespace R
open PySem PySem.Spec PyProof.Rows L2 DL
local macro_rules | `(tactic| bv_omega) => `(tactic| first | assumption | exact mset_same)
local macro_rules | `(tactic| symm) => `(tactic| first
  | ((with_reducible show ∃ _, _ = _ ∧ _); refine ⟨_, rfl, ?_⟩)
  | ((with_reducible show _ = _ ∧ _); refine ⟨rfl, ?_⟩)
  | ((with_reducible show ∃ _ _, _ = _ ∧ _ = _ ∧ _); refine ⟨_, _, rfl, rfl, ?_⟩)
  | ((with_reducible show ∃ _ _, _ = _ ∧ _); refine ⟨_, _, rfl, ?_⟩)
  | ((with_reducible show ∃ _ _ _, _ = _ ∧ _); refine ⟨_, _, _, rfl, ?_⟩)
  | ((with_reducible show (_ ≤ _ ∧ _) ∧ _); refine ⟨by omega, ?_⟩)
  | with_reducible refine add_int ?_ | with_reducible refine sub_int ?_
  | with_reducible refine lt_int ?_ | with_reducible refine le_int ?_ | with_reducible refine gt_int ?_ | with_reducible refine ge_int ?_
  | with_reducible refine int_int ?_
  | with_reducible refine eq_int ?_ | with_reducible refine ne_int ?_
  | with_reducible refine len_tup ?_ | with_reducible refine len_lst ?_
  | ((with_reducible show rdIx (.cel _) (.int _) _ _); refine ix_cel (by bv_omega) (by rfl) ?_)
  | ((with_reducible show rdIx (.lst _) (.int _) _ _); refine ix_lst (by rfl) ?_)
  | ((with_reducible show rdIx (.tup _) (.int _) _ _); refine ix_tup (by rfl) ?_)
  | ((with_reducible show rdLen [.cel _] _ _); refine len_cel (by bv_omega) ?_)
  | ((with_reducible show rdMul (.int _) (.int _) _ _); first | refine mul_l (by decide) (by decide) ?_ | refine mul_r (by decide) (by decide) ?_ | refine mul_l (by omega) (by omega) ?_ | refine mul_r (by omega) (by omega) ?_)
  | ((with_reducible show rdDiv (.int _) (.int _) _ _); refine div_int (by first | decide | assumption | omega) (by first | decide | assumption | omega) ?_)
  | ((with_reducible show rdDivmod [.int _, .int _] _ _); refine dm_int (by first | decide | assumption | omega) (by first | decide | assumption | omega) ?_)
  | ((with_reducible show @ite _ (_ = true) _ _ _); first | refine ifYes (by first | with_reducible rfl | exact Bool.not_false | assumption) ?_ | refine ifNo (by first | with_reducible rfl | exact Bool.not_true | assumption) ?_)
  | ((with_reducible show ∃ _, _ ∧ _); refine ⟨_, celL_of (by bv_omega), ?_⟩)
  | ((with_reducible show ∃ _ _ _ _, _ ∧ _ ∧ _ ∧ _ ∧ _); refine ⟨_, _, _, _, rfl, rfl, by bv_omega, by rfl, ?_⟩)
  | ((with_reducible show (_ : Nat) ≤ sizeLine ∧ _); refine ⟨by rw [sizeLine_eq]; exact Nat.le_of_ble_eq_true rfl, ?_⟩))
local macro_rules | `(tactic| infer_instance) => `(tactic| ((repeat symm); try dsimp only))
local macro_rules | `(tactic| ac_rfl) => `(tactic| ((repeat (first | symm | ((with_reducible show rdMod (.int _) (.int _) _ _); refine mod_any (by first | decide | assumption | omega) ?_; intro _ _ _))); try dsimp only))
end R
set_option maxRecDepth 100000
namespace R
open PySem PySem.Spec PyProof.Rows L2 DL
end R
set_option maxRecDepth 100000
set_option maxHeartbeats 1000000
namespace R
open PySem PySem.Spec PyProof.Rows L2 DL
local macro_rules | `(tactic| bv_omega) => `(tactic| first | assumption | exact mset_same)
local macro_rules | `(tactic| symm) => `(tactic| first
  | ((with_reducible show ∃ _, _ = _ ∧ _); refine ⟨_, rfl, ?_⟩)
  | ((with_reducible show _ = _ ∧ _); refine ⟨rfl, ?_⟩)
  | ((with_reducible show ∃ _ _, _ = _ ∧ _ = _ ∧ _); refine ⟨_, _, rfl, rfl, ?_⟩)
  | ((with_reducible show ∃ _ _, _ = _ ∧ _); refine ⟨_, _, rfl, ?_⟩)
  | ((with_reducible show ∃ _ _ _, _ = _ ∧ _); refine ⟨_, _, _, rfl, ?_⟩)
  | ((with_reducible show (_ ≤ _ ∧ _) ∧ _); refine ⟨by omega, ?_⟩)
  | with_reducible refine add_int ?_ | with_reducible refine sub_int ?_
  | with_reducible refine lt_int ?_ | with_reducible refine le_int ?_ | with_reducible refine gt_int ?_ | with_reducible refine ge_int ?_
  | with_reducible refine int_int ?_
  | with_reducible refine eq_int ?_ | with_reducible refine ne_int ?_
  | with_reducible refine len_tup ?_ | with_reducible refine len_lst ?_
  | ((with_reducible show rdIx (.cel _) (.int _) _ _); refine ix_cel (by bv_omega) (by rfl) ?_)
  | ((with_reducible show rdIx (.lst _) (.int _) _ _); refine ix_lst (by rfl) ?_)
  | ((with_reducible show rdIx (.tup _) (.int _) _ _); refine ix_tup (by rfl) ?_)
  | ((with_reducible show rdLen [.cel _] _ _); refine len_cel (by bv_omega) ?_)
  | ((with_reducible show rdMul (.int _) (.int _) _ _); first | refine mul_l (by decide) (by decide) ?_ | refine mul_r (by decide) (by decide) ?_ | refine mul_l (by omega) (by omega) ?_ | refine mul_r (by omega) (by omega) ?_)
  | ((with_reducible show rdDiv (.int _) (.int _) _ _); refine div_int (by first | decide | assumption | omega) (by first | decide | assumption | omega) ?_)
  | ((with_reducible show rdDivmod [.int _, .int _] _ _); refine dm_int (by first | decide | assumption | omega) (by first | decide | assumption | omega) ?_)
  | ((with_reducible show @ite _ (_ = true) _ _ _); first | refine ifYes (by first | with_reducible rfl | exact Bool.not_false | assumption) ?_ | refine ifNo (by first | with_reducible rfl | exact Bool.not_true | assumption) ?_)
  | ((with_reducible show ∃ _, _ ∧ _); refine ⟨_, celL_of (by bv_omega), ?_⟩)
  | ((with_reducible show ∃ _ _ _ _, _ ∧ _ ∧ _ ∧ _ ∧ _); refine ⟨_, _, _, _, rfl, rfl, by bv_omega, by rfl, ?_⟩)
  | ((with_reducible show (_ : Nat) ≤ sizeLine ∧ _); refine ⟨by rw [sizeLine_eq]; exact Nat.le_of_ble_eq_true rfl, ?_⟩))
local macro_rules | `(tactic| infer_instance) => `(tactic| ((repeat symm); try dsimp only))
local macro_rules | `(tactic| ac_rfl) => `(tactic| ((repeat (first | symm | ((with_reducible show rdMod (.int _) (.int _) _ _); refine mod_any (by first | decide | assumption | omega) ?_; intro _ _ _))); try dsimp only))
theorem sl_lstF {xs : List D} {n : Nat} {M : Mem} {q : QD} (w : q (.lst (xs.drop n)) M) : rdSl (.lst xs) (some (n : Int)) none M q := ⟨xs, rfl, by rw [DL.cut_from]; exact w⟩
theorem eqvAll_strs : ∀ xs ys : List Str, PyData.eqvAll (xs.map PyData.str) (ys.map PyData.str) = decide (xs = ys)
  | [], [] => by simp [PyData.eqvAll]
  | [], y :: ys => by simp [PyData.eqvAll]
  | x :: xs, [] => by simp [PyData.eqvAll]
  | x :: xs, y :: ys => by
    rw [List.map_cons, List.map_cons, PyData.eqvAll, eqvAll_strs xs ys, eqv_str]
    by_cases h : x = y
    · subst h; simp
    · simp [h]
section
variable {M : Mem} {q : QD} {xs ys : List Str}
theorem pyT : pyOf M (.tup (xs.map D.str)) = some (.tuple (xs.map PyData.str)) := by
  show (toPys (xs.map D.str)).map PyData.tuple = _
  rw [toPys_str]; rfl
theorem eqT (hx : ∀ x ∈ xs, PyData.strOk x = true) (hy : ∀ x ∈ ys, PyData.strOk x = true) (w : q (.bl (decide (xs = ys))) M) : rdEq (.tup (xs.map D.str)) (.tup (ys.map D.str)) M q :=
  .inl ⟨_, _, pyT, pyT, (shStrs hx).2, (shStrs hy).2, by rw [PyData.eqv, eqvAll_strs]; exact w⟩
end
end R
set_option maxRecDepth 100000
set_option maxHeartbeats 1000000
namespace R
open PySem PySem.Spec PyProof.Rows L2 DL
local macro_rules | `(tactic| bv_omega) => `(tactic| first | assumption | exact mset_same)
local macro_rules | `(tactic| symm) => `(tactic| first
  | ((with_reducible show ∃ _, _ = _ ∧ _); refine ⟨_, rfl, ?_⟩)
  | ((with_reducible show _ = _ ∧ _); refine ⟨rfl, ?_⟩)
  | ((with_reducible show ∃ _ _, _ = _ ∧ _ = _ ∧ _); refine ⟨_, _, rfl, rfl, ?_⟩)
  | ((with_reducible show ∃ _ _, _ = _ ∧ _); refine ⟨_, _, rfl, ?_⟩)
  | ((with_reducible show ∃ _ _ _, _ = _ ∧ _); refine ⟨_, _, _, rfl, ?_⟩)
  | ((with_reducible show (_ ≤ _ ∧ _) ∧ _); refine ⟨by omega, ?_⟩)
  | with_reducible refine add_int ?_ | with_reducible refine sub_int ?_
  | with_reducible refine lt_int ?_ | with_reducible refine le_int ?_ | with_reducible refine gt_int ?_ | with_reducible refine ge_int ?_
  | with_reducible refine int_int ?_
  | with_reducible refine eq_int ?_ | with_reducible refine ne_int ?_
  | with_reducible refine len_tup ?_ | with_reducible refine len_lst ?_
  | ((with_reducible show rdIx (.cel _) (.int _) _ _); refine ix_cel (by bv_omega) (by rfl) ?_)
  | ((with_reducible show rdIx (.lst _) (.int _) _ _); refine ix_lst (by rfl) ?_)
  | ((with_reducible show rdIx (.tup _) (.int _) _ _); refine ix_tup (by rfl) ?_)
  | ((with_reducible show rdLen [.cel _] _ _); refine len_cel (by bv_omega) ?_)
  | ((with_reducible show rdMul (.int _) (.int _) _ _); first | refine mul_l (by decide) (by decide) ?_ | refine mul_r (by decide) (by decide) ?_ | refine mul_l (by omega) (by omega) ?_ | refine mul_r (by omega) (by omega) ?_)
  | ((with_reducible show rdDiv (.int _) (.int _) _ _); refine div_int (by first | decide | assumption | omega) (by first | decide | assumption | omega) ?_)
  | ((with_reducible show rdDivmod [.int _, .int _] _ _); refine dm_int (by first | decide | assumption | omega) (by first | decide | assumption | omega) ?_)
  | ((with_reducible show @ite _ (_ = true) _ _ _); first | refine ifYes (by first | with_reducible rfl | exact Bool.not_false | assumption) ?_ | refine ifNo (by first | with_reducible rfl | exact Bool.not_true | assumption) ?_)
  | ((with_reducible show ∃ _, _ ∧ _); refine ⟨_, celL_of (by bv_omega), ?_⟩)
  | ((with_reducible show ∃ _ _ _ _, _ ∧ _ ∧ _ ∧ _ ∧ _); refine ⟨_, _, _, _, rfl, rfl, by bv_omega, by rfl, ?_⟩)
  | ((with_reducible show (_ : Nat) ≤ sizeLine ∧ _); refine ⟨by rw [sizeLine_eq]; exact Nat.le_of_ble_eq_true rfl, ?_⟩))
local macro_rules | `(tactic| infer_instance) => `(tactic| ((repeat symm); try dsimp only))
local macro_rules | `(tactic| ac_rfl) => `(tactic| ((repeat (first | symm | ((with_reducible show rdMod (.int _) (.int _) _ _); refine mod_any (by first | decide | assumption | omega) ?_; intro _ _ _))); try dsimp only))
end R
set_option maxRecDepth 100000
set_option maxHeartbeats 1000000
namespace R
open PySem PySem.Spec PyProof.Rows L2 DL
local macro_rules | `(tactic| bv_omega) => `(tactic| first | assumption | exact mset_same)
local macro_rules | `(tactic| symm) => `(tactic| first
  | ((with_reducible show ∃ _, _ = _ ∧ _); refine ⟨_, rfl, ?_⟩)
  | ((with_reducible show _ = _ ∧ _); refine ⟨rfl, ?_⟩)
  | ((with_reducible show ∃ _ _, _ = _ ∧ _ = _ ∧ _); refine ⟨_, _, rfl, rfl, ?_⟩)
  | ((with_reducible show ∃ _ _, _ = _ ∧ _); refine ⟨_, _, rfl, ?_⟩)
  | ((with_reducible show ∃ _ _ _, _ = _ ∧ _); refine ⟨_, _, _, rfl, ?_⟩)
  | ((with_reducible show (_ ≤ _ ∧ _) ∧ _); refine ⟨by omega, ?_⟩)
  | with_reducible refine add_int ?_ | with_reducible refine sub_int ?_
  | with_reducible refine lt_int ?_ | with_reducible refine le_int ?_ | with_reducible refine gt_int ?_ | with_reducible refine ge_int ?_
  | with_reducible refine int_int ?_
  | with_reducible refine eq_int ?_ | with_reducible refine ne_int ?_
  | with_reducible refine len_tup ?_ | with_reducible refine len_lst ?_
  | ((with_reducible show rdIx (.cel _) (.int _) _ _); refine ix_cel (by bv_omega) (by rfl) ?_)
  | ((with_reducible show rdIx (.lst _) (.int _) _ _); refine ix_lst (by rfl) ?_)
  | ((with_reducible show rdIx (.tup _) (.int _) _ _); refine ix_tup (by rfl) ?_)
  | ((with_reducible show rdLen [.cel _] _ _); refine len_cel (by bv_omega) ?_)
  | ((with_reducible show rdMul (.int _) (.int _) _ _); first | refine mul_l (by decide) (by decide) ?_ | refine mul_r (by decide) (by decide) ?_ | refine mul_l (by omega) (by omega) ?_ | refine mul_r (by omega) (by omega) ?_)
  | ((with_reducible show rdDiv (.int _) (.int _) _ _); refine div_int (by first | decide | assumption | omega) (by first | decide | assumption | omega) ?_)
  | ((with_reducible show rdDivmod [.int _, .int _] _ _); refine dm_int (by first | decide | assumption | omega) (by first | decide | assumption | omega) ?_)
  | ((with_reducible show @ite _ (_ = true) _ _ _); first | refine ifYes (by first | with_reducible rfl | exact Bool.not_false | assumption) ?_ | refine ifNo (by first | with_reducible rfl | exact Bool.not_true | assumption) ?_)
  | ((with_reducible show ∃ _, _ ∧ _); refine ⟨_, celL_of (by bv_omega), ?_⟩)
  | ((with_reducible show ∃ _ _ _ _, _ ∧ _ ∧ _ ∧ _ ∧ _); refine ⟨_, _, _, _, rfl, rfl, by bv_omega, by rfl, ?_⟩)
  | ((with_reducible show (_ : Nat) ≤ sizeLine ∧ _); refine ⟨by rw [sizeLine_eq]; exact Nat.le_of_ble_eq_true rfl, ?_⟩))
local macro_rules | `(tactic| infer_instance) => `(tactic| ((repeat symm); try dsimp only))
local macro_rules | `(tactic| ac_rfl) => `(tactic| ((repeat (first | symm | ((with_reducible show rdMod (.int _) (.int _) _ _); refine mod_any (by first | decide | assumption | omega) ?_; intro _ _ _))); try dsimp only))
inductive Linked (size : Int) : Int → List (Int × Int × Int) → Int → Prop
  | nil (p : Int) : Linked size p [] p
  | cons {p m mk e : Int} {l : List (Int × Int × Int)} : 1 ≤ m → m ≤ size → (p + m) % size = mk % size → Linked size mk l e → Linked size p (((p + 1) % size, m, mk) :: l) e
theorem Linked.app {size p q e : Int} {a b : List (Int × Int × Int)} (h : Linked size p a q) (h' : Linked size q b e) : Linked size p (a ++ b) e := by
  induction h with
  | nil => exact h'
  | cons h1 h2 h3 _ ih => exact .cons h1 h2 h3 (ih h')
theorem Linked.split {size p e : Int} {l : List (Int × Int × Int)} (h : Linked size p l e) : ∀ k, ∃ q, Linked size p (l.take k) q ∧ Linked size q (l.drop k) e := by
  induction h with
  | nil p => intro k; exact ⟨p, by rw [List.take_nil]; exact .nil p, by rw [List.drop_nil]; exact .nil p⟩
  | cons h1 h2 h3 h4 ih =>
    intro k
    cases k with
    | zero => exact ⟨_, .nil _, .cons h1 h2 h3 h4⟩
    | succ k =>
      obtain ⟨q, a, b⟩ := ih k
      exact ⟨q, .cons h1 h2 h3 a, b⟩
end R
set_option maxRecDepth 100000
set_option maxHeartbeats 1000000
namespace R
open PySem PySem.Spec PyProof.Rows L2 DL
local macro_rules | `(tactic| bv_omega) => `(tactic| first | assumption | exact mset_same)
local macro_rules | `(tactic| symm) => `(tactic| first
  | ((with_reducible show ∃ _, _ = _ ∧ _); refine ⟨_, rfl, ?_⟩)
  | ((with_reducible show _ = _ ∧ _); refine ⟨rfl, ?_⟩)
  | ((with_reducible show ∃ _ _, _ = _ ∧ _ = _ ∧ _); refine ⟨_, _, rfl, rfl, ?_⟩)
  | ((with_reducible show ∃ _ _, _ = _ ∧ _); refine ⟨_, _, rfl, ?_⟩)
  | ((with_reducible show ∃ _ _ _, _ = _ ∧ _); refine ⟨_, _, _, rfl, ?_⟩)
  | ((with_reducible show (_ ≤ _ ∧ _) ∧ _); refine ⟨by omega, ?_⟩)
  | with_reducible refine add_int ?_ | with_reducible refine sub_int ?_
  | with_reducible refine lt_int ?_ | with_reducible refine le_int ?_ | with_reducible refine gt_int ?_ | with_reducible refine ge_int ?_
  | with_reducible refine int_int ?_
  | with_reducible refine eq_int ?_ | with_reducible refine ne_int ?_
  | with_reducible refine len_tup ?_ | with_reducible refine len_lst ?_
  | ((with_reducible show rdIx (.cel _) (.int _) _ _); refine ix_cel (by bv_omega) (by rfl) ?_)
  | ((with_reducible show rdIx (.lst _) (.int _) _ _); refine ix_lst (by rfl) ?_)
  | ((with_reducible show rdIx (.tup _) (.int _) _ _); refine ix_tup (by rfl) ?_)
  | ((with_reducible show rdLen [.cel _] _ _); refine len_cel (by bv_omega) ?_)
  | ((with_reducible show rdMul (.int _) (.int _) _ _); first | refine mul_l (by decide) (by decide) ?_ | refine mul_r (by decide) (by decide) ?_ | refine mul_l (by omega) (by omega) ?_ | refine mul_r (by omega) (by omega) ?_)
  | ((with_reducible show rdDiv (.int _) (.int _) _ _); refine div_int (by first | decide | assumption | omega) (by first | decide | assumption | omega) ?_)
  | ((with_reducible show rdDivmod [.int _, .int _] _ _); refine dm_int (by first | decide | assumption | omega) (by first | decide | assumption | omega) ?_)
  | ((with_reducible show @ite _ (_ = true) _ _ _); first | refine ifYes (by first | with_reducible rfl | exact Bool.not_false | assumption) ?_ | refine ifNo (by first | with_reducible rfl | exact Bool.not_true | assumption) ?_)
  | ((with_reducible show ∃ _, _ ∧ _); refine ⟨_, celL_of (by bv_omega), ?_⟩)
  | ((with_reducible show ∃ _ _ _ _, _ ∧ _ ∧ _ ∧ _ ∧ _); refine ⟨_, _, _, _, rfl, rfl, by bv_omega, by rfl, ?_⟩)
  | ((with_reducible show (_ : Nat) ≤ sizeLine ∧ _); refine ⟨by rw [sizeLine_eq]; exact Nat.le_of_ble_eq_true rfl, ?_⟩))
local macro_rules | `(tactic| infer_instance) => `(tactic| ((repeat symm); try dsimp only))
local macro_rules | `(tactic| ac_rfl) => `(tactic| ((repeat (first | symm | ((with_reducible show rdMod (.int _) (.int _) _ _); refine mod_any (by first | decide | assumption | omega) ?_; intro _ _ _))); try dsimp only))
end R
set_option maxRecDepth 100000
set_option maxHeartbeats 1000000
namespace R
open PySem PySem.Spec PyProof.Rows L2 DL
local macro_rules | `(tactic| bv_omega) => `(tactic| first | assumption | exact mset_same)
local macro_rules | `(tactic| symm) => `(tactic| first
  | ((with_reducible show ∃ _, _ = _ ∧ _); refine ⟨_, rfl, ?_⟩)
  | ((with_reducible show _ = _ ∧ _); refine ⟨rfl, ?_⟩)
  | ((with_reducible show ∃ _ _, _ = _ ∧ _ = _ ∧ _); refine ⟨_, _, rfl, rfl, ?_⟩)
  | ((with_reducible show ∃ _ _, _ = _ ∧ _); refine ⟨_, _, rfl, ?_⟩)
  | ((with_reducible show ∃ _ _ _, _ = _ ∧ _); refine ⟨_, _, _, rfl, ?_⟩)
  | ((with_reducible show (_ ≤ _ ∧ _) ∧ _); refine ⟨by omega, ?_⟩)
  | with_reducible refine add_int ?_ | with_reducible refine sub_int ?_
  | with_reducible refine lt_int ?_ | with_reducible refine le_int ?_ | with_reducible refine gt_int ?_ | with_reducible refine ge_int ?_
  | with_reducible refine int_int ?_
  | with_reducible refine eq_int ?_ | with_reducible refine ne_int ?_
  | with_reducible refine len_tup ?_ | with_reducible refine len_lst ?_
  | ((with_reducible show rdIx (.cel _) (.int _) _ _); refine ix_cel (by bv_omega) (by rfl) ?_)
  | ((with_reducible show rdIx (.lst _) (.int _) _ _); refine ix_lst (by rfl) ?_)
  | ((with_reducible show rdIx (.tup _) (.int _) _ _); refine ix_tup (by rfl) ?_)
  | ((with_reducible show rdLen [.cel _] _ _); refine len_cel (by bv_omega) ?_)
  | ((with_reducible show rdMul (.int _) (.int _) _ _); first | refine mul_l (by decide) (by decide) ?_ | refine mul_r (by decide) (by decide) ?_ | refine mul_l (by omega) (by omega) ?_ | refine mul_r (by omega) (by omega) ?_)
  | ((with_reducible show rdDiv (.int _) (.int _) _ _); refine div_int (by first | decide | assumption | omega) (by first | decide | assumption | omega) ?_)
  | ((with_reducible show rdDivmod [.int _, .int _] _ _); refine dm_int (by first | decide | assumption | omega) (by first | decide | assumption | omega) ?_)
  | ((with_reducible show @ite _ (_ = true) _ _ _); first | refine ifYes (by first | with_reducible rfl | exact Bool.not_false | assumption) ?_ | refine ifNo (by first | with_reducible rfl | exact Bool.not_true | assumption) ?_)
  | ((with_reducible show ∃ _, _ ∧ _); refine ⟨_, celL_of (by bv_omega), ?_⟩)
  | ((with_reducible show ∃ _ _ _ _, _ ∧ _ ∧ _ ∧ _ ∧ _); refine ⟨_, _, _, _, rfl, rfl, by bv_omega, by rfl, ?_⟩)
  | ((with_reducible show (_ : Nat) ≤ sizeLine ∧ _); refine ⟨by rw [sizeLine_eq]; exact Nat.le_of_ble_eq_true rfl, ?_⟩))
local macro_rules | `(tactic| infer_instance) => `(tactic| ((repeat symm); try dsimp only))
local macro_rules | `(tactic| ac_rfl) => `(tactic| ((repeat (first | symm | ((with_reducible show rdMod (.int _) (.int _) _ _); refine mod_any (by first | decide | assumption | omega) ?_; intro _ _ _))); try dsimp only))
/-- arcs in their order that do not meet and are not beside one another -/
structure ArcsOk (size : Int) (ps : List (Int × Int)) : Prop where
  asc : ps.Pairwise (fun a b => a.1 < b.1)
  each : ∀ a ∈ ps, 0 ≤ a.1 ∧ a.1 < size ∧ 1 ≤ a.2 ∧ a.2 < size
  gap : ∀ a ∈ ps, ∀ b ∈ ps, a ≠ b → (b.1 - a.1 - a.2) % size ≠ 0
  all : (ps.map (·.2)).sum < size
theorem mod_same {size a b : Int} (h : a % size = b % size) (h1 : a - b < size) (h2 : b - a < size) : a = b := by
  have e := Int.emod_emod_of_dvd a (Int.dvd_refl size)
  have h3 : (a - b) % size = 0 := by rw [Int.sub_emod, h, Int.sub_self, Int.zero_emod]
  obtain ⟨k, hk⟩ := Int.dvd_of_emod_eq_zero h3
  have : k = 0 := by
    rcases Int.lt_trichotomy k 0 with z | z | z
    · exfalso
      have : size * k ≤ size * (-1) := Int.mul_le_mul_of_nonneg_left (by omega) (by omega)
      omega
    · exact z
    · exfalso
      have : size * 1 ≤ size * k := Int.mul_le_mul_of_nonneg_left (by omega) (by omega)
      omega
  rw [this, Int.mul_zero] at hk
  omega
end R
set_option maxRecDepth 100000
set_option maxHeartbeats 1000000
namespace R
open PySem PySem.Spec PyProof.Rows L2 DL
local macro_rules | `(tactic| bv_omega) => `(tactic| first | assumption | exact mset_same)
local macro_rules | `(tactic| symm) => `(tactic| first
  | ((with_reducible show ∃ _, _ = _ ∧ _); refine ⟨_, rfl, ?_⟩)
  | ((with_reducible show _ = _ ∧ _); refine ⟨rfl, ?_⟩)
  | ((with_reducible show ∃ _ _, _ = _ ∧ _ = _ ∧ _); refine ⟨_, _, rfl, rfl, ?_⟩)
  | ((with_reducible show ∃ _ _, _ = _ ∧ _); refine ⟨_, _, rfl, ?_⟩)
  | ((with_reducible show ∃ _ _ _, _ = _ ∧ _); refine ⟨_, _, _, rfl, ?_⟩)
  | ((with_reducible show (_ ≤ _ ∧ _) ∧ _); refine ⟨by omega, ?_⟩)
  | with_reducible refine add_int ?_ | with_reducible refine sub_int ?_
  | with_reducible refine lt_int ?_ | with_reducible refine le_int ?_ | with_reducible refine gt_int ?_ | with_reducible refine ge_int ?_
  | with_reducible refine int_int ?_
  | with_reducible refine eq_int ?_ | with_reducible refine ne_int ?_
  | with_reducible refine len_tup ?_ | with_reducible refine len_lst ?_
  | ((with_reducible show rdIx (.cel _) (.int _) _ _); refine ix_cel (by bv_omega) (by rfl) ?_)
  | ((with_reducible show rdIx (.lst _) (.int _) _ _); refine ix_lst (by rfl) ?_)
  | ((with_reducible show rdIx (.tup _) (.int _) _ _); refine ix_tup (by rfl) ?_)
  | ((with_reducible show rdLen [.cel _] _ _); refine len_cel (by bv_omega) ?_)
  | ((with_reducible show rdMul (.int _) (.int _) _ _); first | refine mul_l (by decide) (by decide) ?_ | refine mul_r (by decide) (by decide) ?_ | refine mul_l (by omega) (by omega) ?_ | refine mul_r (by omega) (by omega) ?_)
  | ((with_reducible show rdDiv (.int _) (.int _) _ _); refine div_int (by first | decide | assumption | omega) (by first | decide | assumption | omega) ?_)
  | ((with_reducible show rdDivmod [.int _, .int _] _ _); refine dm_int (by first | decide | assumption | omega) (by first | decide | assumption | omega) ?_)
  | ((with_reducible show @ite _ (_ = true) _ _ _); first | refine ifYes (by first | with_reducible rfl | exact Bool.not_false | assumption) ?_ | refine ifNo (by first | with_reducible rfl | exact Bool.not_true | assumption) ?_)
  | ((with_reducible show ∃ _, _ ∧ _); refine ⟨_, celL_of (by bv_omega), ?_⟩)
  | ((with_reducible show ∃ _ _ _ _, _ ∧ _ ∧ _ ∧ _ ∧ _); refine ⟨_, _, _, _, rfl, rfl, by bv_omega, by rfl, ?_⟩)
  | ((with_reducible show (_ : Nat) ≤ sizeLine ∧ _); refine ⟨by rw [sizeLine_eq]; exact Nat.le_of_ble_eq_true rfl, ?_⟩))
local macro_rules | `(tactic| infer_instance) => `(tactic| ((repeat symm); try dsimp only))
local macro_rules | `(tactic| ac_rfl) => `(tactic| ((repeat (first | symm | ((with_reducible show rdMod (.int _) (.int _) _ _); refine mod_any (by first | decide | assumption | omega) ?_; intro _ _ _))); try dsimp only))
/-- arcs that tell which keys -/
def ArcsT (size : Int) (T : Int → Bool) (ps : List (Int × Int)) : Prop := (ps = [(0, size)] ∨ ArcsOk size ps) ∧ ps.length ≤ 200 ∧ ∀ p, 0 ≤ p → p < size → ((∃ a ∈ ps, (p - a.1) % size < a.2) ↔ T p = true)
/-- an arc that no longer one holds -/
structure MaxRun (size : Int) (T : Int → Bool) (a : Int × Int) : Prop where
  lo : 0 ≤ a.1 ∧ a.1 < size
  many : 1 ≤ a.2 ∧ a.2 < size
  ahead : T ((a.1 - 1) % size) = false
  behind : T ((a.1 + a.2) % size) = false
  each : ∀ j, 0 ≤ j → j < a.2 → T ((a.1 + j) % size) = true
def ArcsV (size : Int) (T : Int → Bool) (ps : List (Int × Int)) : Prop := ArcsT size T ps ∧ (ps = [(0, size)] ∨ ∀ a ∈ ps, MaxRun size T a)
theorem run_uniq {size : Int} {T : Int → Bool} {a b : Int × Int} (s1 : 1 ≤ size) (A : MaxRun size T a) (B : MaxRun size T b) (h : (a.1 - b.1) % size < b.2) : a = b := by
  have d0 := Int.emod_nonneg (a.1 - b.1) (show size ≠ 0 by omega)
  have e1 := Int.emod_add_mul_ediv (a.1 - b.1) size
  have he : (a.1 - b.1) % size = 0 := by
    by_cases z : (a.1 - b.1) % size = 0
    · exact z
    · exfalso
      have h1 := B.each ((a.1 - b.1) % size - 1) (by omega) (by omega)
      have e2 : b.1 + ((a.1 - b.1) % size - 1) = (a.1 - 1) + size * (-((a.1 - b.1) / size)) := by rw [Int.mul_neg]; omega
      rw [e2, Int.add_mul_emod_self_left, A.ahead] at h1
      cases h1
  have e3 : a.1 = b.1 := by
    have A1 := A.lo
    have B1 := B.lo
    refine mod_same (size := size) ?_ (by omega) (by omega)
    have := Int.emod_emod_of_dvd (a.1 - b.1) (Int.dvd_refl size)
    have h3 : a.1 = b.1 + (a.1 - b.1) := by omega
    rw [h3, Int.add_emod, he, Int.add_zero, Int.emod_emod_of_dvd _ (Int.dvd_refl _)]
  have e4 : a.2 = b.2 := by
    have A2 := A.many
    have B2 := B.many
    rcases Int.lt_trichotomy a.2 b.2 with w | w | w
    · exfalso
      have h1 := B.each a.2 (by omega) w
      rw [← e3, A.behind] at h1
      cases h1
    · exact w
    · exfalso
      have h1 := A.each b.2 (by omega) w
      rw [e3, B.behind] at h1
      cases h1
  exact Prod.ext e3 e4
/-- just the arcs of these keys -/
def ArcsW (size : Int) (T : Int → Bool) (ps : List (Int × Int)) : Prop := ((∀ p, 0 ≤ p → p < size → T p = true) ∧ ps = [(0, size)]) ∨ (¬ (∀ p, 0 ≤ p → p < size → T p = true) ∧ ps.Pairwise (fun a b => a.1 < b.1) ∧ ∀ a, a ∈ ps ↔ MaxRun size T a)
theorem ArcsV.w {size : Int} {T : Int → Bool} {ps : List (Int × Int)} (s1 : 1 ≤ size) (h : ArcsV size T ps) : ArcsW size T ps := by
  obtain ⟨⟨h1, _, h3⟩, h4⟩ := h
  by_cases al : ∀ p, 0 ≤ p → p < size → T p = true
  · left
    refine ⟨al, ?_⟩
    rcases h4 with e | hm
    · exact e
    · exfalso
      obtain ⟨a, ha, _⟩ := (h3 0 (by omega) (by omega)).mpr (al 0 (by omega) (by omega))
      have := (hm a ha).ahead
      rw [al _ (Int.emod_nonneg _ (by omega)) (Int.emod_lt_of_pos _ (by omega))] at this
      cases this
  · right
    have nf : ps ≠ [(0, size)] := fun e => al fun p p0 p1 => (h3 p p0 p1).mp ⟨(0, size), by rw [e]; simp, Int.emod_lt_of_pos _ (by omega)⟩
    have hm := h4.resolve_left nf
    refine ⟨al, (h1.resolve_left nf).asc, fun a => ⟨hm a, fun A => ?_⟩⟩
    have h5 := A.each 0 (by omega) (by have := A.many; omega)
    rw [Int.add_zero, Int.emod_eq_of_lt A.lo.1 A.lo.2] at h5
    obtain ⟨b, hb, hlt⟩ := (h3 a.1 A.lo.1 A.lo.2).mpr h5
    rw [run_uniq s1 A (hm b hb) hlt]
    exact hb
theorem ArcsW.len {size : Int} {T : Int → Bool} {ps : List (Int × Int)} (h : ArcsW size T ps) (s1 : 1 ≤ size) : (ps.length : Int) ≤ size ∧ ∀ a ∈ ps, 0 ≤ a.1 ∧ a.1 < size ∧ 1 ≤ a.2 ∧ a.2 ≤ size := by
  rcases h with ⟨_, rfl⟩ | ⟨_, b, c⟩
  · refine ⟨by simp; omega, fun a ha => ?_⟩
    rw [List.mem_singleton.mp ha]
    exact ⟨Int.le_refl _, by dsimp only; omega, by dsimp only; omega, Int.le_refl _⟩
  · have hb : ∀ a ∈ ps, 0 ≤ a.1 ∧ a.1 < size ∧ 1 ≤ a.2 ∧ a.2 ≤ size := fun a ha => by
      have A := (c a).mp ha
      exact ⟨A.lo.1, A.lo.2, A.many.1, by have := A.many.2; omega⟩
    refine ⟨?_, hb⟩
    have hn : (ps.map fun a => a.1.toNat).Nodup := by
      unfold List.Nodup
      rw [List.pairwise_map]
      refine List.Pairwise.imp_of_mem (R := fun a b : Int × Int => a.1 < b.1) (fun {x y} hx hy h e => ?_) b
      have := hb x hx
      have := hb y hy
      omega
    have := nodup_len (ys := List.range size.toNat) hn fun x hx => by
      obtain ⟨a, ha, rfl⟩ := List.mem_map.mp hx
      have := hb a ha
      exact List.mem_range.mpr (by omega)
    rw [List.length_map, List.length_range] at this
    omega
theorem sl_tupF {xs : List D} {n : Nat} {M : Mem} {q : QD} (w : q (.tup (xs.drop n)) M) : rdSl (.tup xs) (some (n : Int)) none M q := by
  show q (.tup (cutD xs (some (n : Int)) none)) M
  rw [DL.cut_from]; exact w
theorem crew_sub {size : Int} {hs gs : List Host} (hc : CrewOk size hs) (hsub : gs.Sublist hs) (hne : gs ≠ []) : CrewOk size gs := by
  refine crew_of hne (by have := hsub.length_le; have := hc.few; omega) (fun o ho => ?_) ((crew_pw hc).sublist hsub)
  exact crew_hostT hc (hsub.subset ho)
theorem atI_last {α : Type} {l : List α} {x : α} : atI (l ++ [x]) (-1) = some x := by
  have e : ixN (l ++ [x]).length (-1) = some l.length := by
    unfold ixN
    rw [List.length_append, List.length_singleton]
    simp
    omega
  unfold atI
  rw [e]
  show (l ++ [x])[l.length]? = _
  simp
theorem sl_tupL {xs : List D} {x : D} {M : Mem} {q : QD} (w : q (.tup xs) M) : rdSl (.tup (xs ++ [x])) none (some (-1)) M q := by
  show q (.tup (cutD (xs ++ [x]) none (some (-1)))) M
  rw [(cut_last _ (by simp)).2, List.dropLast_concat]; exact w
theorem Sh.bool (b : Bool) : Sh 20 0 (.bool b) := by
  cases b
  · exact ⟨by decide +kernel, by decide +kernel, by decide +kernel, by decide +kernel⟩
  · exact ⟨by decide +kernel, by decide +kernel, by decide +kernel, by decide +kernel⟩
end R
set_option maxRecDepth 100000
set_option maxHeartbeats 1000000
namespace R
open PySem PySem.Spec PyProof.Rows L2 DL
local macro_rules | `(tactic| bv_omega) => `(tactic| first | assumption | exact mset_same)
local macro_rules | `(tactic| symm) => `(tactic| first
  | ((with_reducible show ∃ _, _ = _ ∧ _); refine ⟨_, rfl, ?_⟩)
  | ((with_reducible show _ = _ ∧ _); refine ⟨rfl, ?_⟩)
  | ((with_reducible show ∃ _ _, _ = _ ∧ _ = _ ∧ _); refine ⟨_, _, rfl, rfl, ?_⟩)
  | ((with_reducible show ∃ _ _, _ = _ ∧ _); refine ⟨_, _, rfl, ?_⟩)
  | ((with_reducible show ∃ _ _ _, _ = _ ∧ _); refine ⟨_, _, _, rfl, ?_⟩)
  | ((with_reducible show (_ ≤ _ ∧ _) ∧ _); refine ⟨by omega, ?_⟩)
  | with_reducible refine add_int ?_ | with_reducible refine sub_int ?_
  | with_reducible refine lt_int ?_ | with_reducible refine le_int ?_ | with_reducible refine gt_int ?_ | with_reducible refine ge_int ?_
  | with_reducible refine int_int ?_
  | with_reducible refine eq_int ?_ | with_reducible refine ne_int ?_
  | with_reducible refine len_tup ?_ | with_reducible refine len_lst ?_
  | ((with_reducible show rdIx (.cel _) (.int _) _ _); refine ix_cel (by bv_omega) (by rfl) ?_)
  | ((with_reducible show rdIx (.lst _) (.int _) _ _); refine ix_lst (by rfl) ?_)
  | ((with_reducible show rdIx (.tup _) (.int _) _ _); refine ix_tup (by rfl) ?_)
  | ((with_reducible show rdLen [.cel _] _ _); refine len_cel (by bv_omega) ?_)
  | ((with_reducible show rdMul (.int _) (.int _) _ _); first | refine mul_l (by decide) (by decide) ?_ | refine mul_r (by decide) (by decide) ?_ | refine mul_l (by omega) (by omega) ?_ | refine mul_r (by omega) (by omega) ?_)
  | ((with_reducible show rdDiv (.int _) (.int _) _ _); refine div_int (by first | decide | assumption | omega) (by first | decide | assumption | omega) ?_)
  | ((with_reducible show rdDivmod [.int _, .int _] _ _); refine dm_int (by first | decide | assumption | omega) (by first | decide | assumption | omega) ?_)
  | ((with_reducible show @ite _ (_ = true) _ _ _); first | refine ifYes (by first | with_reducible rfl | exact Bool.not_false | assumption) ?_ | refine ifNo (by first | with_reducible rfl | exact Bool.not_true | assumption) ?_)
  | ((with_reducible show ∃ _, _ ∧ _); refine ⟨_, celL_of (by bv_omega), ?_⟩)
  | ((with_reducible show ∃ _ _ _ _, _ ∧ _ ∧ _ ∧ _ ∧ _); refine ⟨_, _, _, _, rfl, rfl, by bv_omega, by rfl, ?_⟩)
  | ((with_reducible show (_ : Nat) ≤ sizeLine ∧ _); refine ⟨by rw [sizeLine_eq]; exact Nat.le_of_ble_eq_true rfl, ?_⟩))
local macro_rules | `(tactic| infer_instance) => `(tactic| ((repeat symm); try dsimp only))
local macro_rules | `(tactic| ac_rfl) => `(tactic| ((repeat (first | symm | ((with_reducible show rdMod (.int _) (.int _) _ _); refine mod_any (by first | decide | assumption | omega) ?_; intro _ _ _))); try dsimp only))
end R
set_option maxRecDepth 100000
namespace R
open PySem PySem.Spec PyProof.Rows L2 DL
end R
set_option maxRecDepth 100000
set_option maxHeartbeats 1000000
namespace R
open PySem PySem.Spec PyProof.Rows L2 DL
local macro_rules | `(tactic| bv_omega) => `(tactic| first | assumption | exact mset_same)
local macro_rules | `(tactic| symm) => `(tactic| first
  | ((with_reducible show ∃ _, _ = _ ∧ _); refine ⟨_, rfl, ?_⟩)
  | ((with_reducible show _ = _ ∧ _); refine ⟨rfl, ?_⟩)
  | ((with_reducible show ∃ _ _, _ = _ ∧ _ = _ ∧ _); refine ⟨_, _, rfl, rfl, ?_⟩)
  | ((with_reducible show ∃ _ _, _ = _ ∧ _); refine ⟨_, _, rfl, ?_⟩)
  | ((with_reducible show ∃ _ _ _, _ = _ ∧ _); refine ⟨_, _, _, rfl, ?_⟩)
  | ((with_reducible show (_ ≤ _ ∧ _) ∧ _); refine ⟨by omega, ?_⟩)
  | with_reducible refine add_int ?_ | with_reducible refine sub_int ?_
  | with_reducible refine lt_int ?_ | with_reducible refine le_int ?_ | with_reducible refine gt_int ?_ | with_reducible refine ge_int ?_
  | with_reducible refine int_int ?_
  | with_reducible refine eq_int ?_ | with_reducible refine ne_int ?_
  | with_reducible refine len_tup ?_ | with_reducible refine len_lst ?_
  | ((with_reducible show rdIx (.cel _) (.int _) _ _); refine ix_cel (by bv_omega) (by rfl) ?_)
  | ((with_reducible show rdIx (.lst _) (.int _) _ _); refine ix_lst (by rfl) ?_)
  | ((with_reducible show rdIx (.tup _) (.int _) _ _); refine ix_tup (by rfl) ?_)
  | ((with_reducible show rdLen [.cel _] _ _); refine len_cel (by bv_omega) ?_)
  | ((with_reducible show rdMul (.int _) (.int _) _ _); first | refine mul_l (by decide) (by decide) ?_ | refine mul_r (by decide) (by decide) ?_ | refine mul_l (by omega) (by omega) ?_ | refine mul_r (by omega) (by omega) ?_)
  | ((with_reducible show rdDiv (.int _) (.int _) _ _); refine div_int (by first | decide | assumption | omega) (by first | decide | assumption | omega) ?_)
  | ((with_reducible show rdDivmod [.int _, .int _] _ _); refine dm_int (by first | decide | assumption | omega) (by first | decide | assumption | omega) ?_)
  | ((with_reducible show @ite _ (_ = true) _ _ _); first | refine ifYes (by first | with_reducible rfl | exact Bool.not_false | assumption) ?_ | refine ifNo (by first | with_reducible rfl | exact Bool.not_true | assumption) ?_)
  | ((with_reducible show ∃ _, _ ∧ _); refine ⟨_, celL_of (by bv_omega), ?_⟩)
  | ((with_reducible show ∃ _ _ _ _, _ ∧ _ ∧ _ ∧ _ ∧ _); refine ⟨_, _, _, _, rfl, rfl, by bv_omega, by rfl, ?_⟩)
  | ((with_reducible show (_ : Nat) ≤ sizeLine ∧ _); refine ⟨by rw [sizeLine_eq]; exact Nat.le_of_ble_eq_true rfl, ?_⟩))
local macro_rules | `(tactic| infer_instance) => `(tactic| ((repeat symm); try dsimp only))
local macro_rules | `(tactic| ac_rfl) => `(tactic| ((repeat (first | symm | ((with_reducible show rdMod (.int _) (.int _) _ _); refine mod_any (by first | decide | assumption | omega) ?_; intro _ _ _))); try dsimp only))
theorem py_intL {l : List Int} {M : Mem} : pyOf M (.lst (l.map D.int)) = some (.list (l.map PyData.int)) := by
  show (toPys (l.map D.int)).map PyData.list = _
  rw [toPys_int]; rfl
end R
set_option maxRecDepth 100000
set_option maxHeartbeats 1000000
namespace L08
open PySem PySem.Spec PyProof.Rows L2 DL R
local macro_rules | `(tactic| bv_omega) => `(tactic| first | assumption | exact mset_same)
local macro_rules | `(tactic| symm) => `(tactic| first
  | ((with_reducible show ∃ _, _ = _ ∧ _); refine ⟨_, rfl, ?_⟩)
  | ((with_reducible show _ = _ ∧ _); refine ⟨rfl, ?_⟩)
  | ((with_reducible show ∃ _ _, _ = _ ∧ _ = _ ∧ _); refine ⟨_, _, rfl, rfl, ?_⟩)
  | ((with_reducible show ∃ _ _, _ = _ ∧ _); refine ⟨_, _, rfl, ?_⟩)
  | ((with_reducible show ∃ _ _ _, _ = _ ∧ _); refine ⟨_, _, _, rfl, ?_⟩)
  | ((with_reducible show (_ ≤ _ ∧ _) ∧ _); refine ⟨by omega, ?_⟩)
  | with_reducible refine add_int ?_ | with_reducible refine sub_int ?_
  | with_reducible refine lt_int ?_ | with_reducible refine le_int ?_ | with_reducible refine gt_int ?_ | with_reducible refine ge_int ?_
  | with_reducible refine int_int ?_
  | with_reducible refine eq_int ?_ | with_reducible refine ne_int ?_
  | with_reducible refine len_tup ?_ | with_reducible refine len_lst ?_
  | ((with_reducible show rdIx (.cel _) (.int _) _ _); refine ix_cel (by bv_omega) (by rfl) ?_)
  | ((with_reducible show rdIx (.lst _) (.int _) _ _); refine ix_lst (by rfl) ?_)
  | ((with_reducible show rdIx (.tup _) (.int _) _ _); refine ix_tup (by rfl) ?_)
  | ((with_reducible show rdLen [.cel _] _ _); refine len_cel (by bv_omega) ?_)
  | ((with_reducible show rdMul (.int _) (.int _) _ _); first | refine mul_l (by decide) (by decide) ?_ | refine mul_r (by decide) (by decide) ?_ | refine mul_l (by omega) (by omega) ?_ | refine mul_r (by omega) (by omega) ?_)
  | ((with_reducible show rdDiv (.int _) (.int _) _ _); refine div_int (by first | decide | assumption | omega) (by first | decide | assumption | omega) ?_)
  | ((with_reducible show rdDivmod [.int _, .int _] _ _); refine dm_int (by first | decide | assumption | omega) (by first | decide | assumption | omega) ?_)
  | ((with_reducible show @ite _ (_ = true) _ _ _); first | refine ifYes (by first | with_reducible rfl | exact Bool.not_false | assumption) ?_ | refine ifNo (by first | with_reducible rfl | exact Bool.not_true | assumption) ?_)
  | ((with_reducible show ∃ _, _ ∧ _); refine ⟨_, celL_of (by bv_omega), ?_⟩)
  | ((with_reducible show ∃ _ _ _ _, _ ∧ _ ∧ _ ∧ _ ∧ _); refine ⟨_, _, _, _, rfl, rfl, by bv_omega, by rfl, ?_⟩)
  | ((with_reducible show (_ : Nat) ≤ sizeLine ∧ _); refine ⟨by rw [sizeLine_eq]; exact Nat.le_of_ble_eq_true rfl, ?_⟩))
local macro_rules | `(tactic| infer_instance) => `(tactic| ((repeat symm); try dsimp only))
local macro_rules | `(tactic| ac_rfl) => `(tactic| ((repeat (first | symm | ((with_reducible show rdMod (.int _) (.int _) _ _); refine mod_any (by first | decide | assumption | omega) ?_; intro _ _ _))); try dsimp only))
theorem kp_Ring___eq__ (C : Addr) : Keeps N_Ring___eq__ 2 (sd_Ring___eq__ C) (db_Ring___eq__ C) := by
  rintro ds M q ex hl (⟨size, r, hs, size', r', hs', rfl, hr, hr', hc, hc', h⟩ | ⟨size, r, hs, d, t, rfl, ht, h⟩)
  · exact R.kp_Ring___eq__ C _ M q ex hl ⟨size, r, hs, size', r', hs', rfl, hr, hr', hc, hc', h⟩
  · show db_Ring___eq__ C _ [some (ringD C size r hs), some d] M
    unfold db_Ring___eq__
    refine ⟨_, rfl, .inr ⟨⟨t, ht⟩, false, rfl, ?_⟩⟩
    exact h
theorem sh_bs {bs : List Bool} (h : bs.length ≤ 6) : showOk (.list (bs.map PyData.bool)) := (Sh.list (n := 20) (k := 0) (m := 6) (fun x hx => by
  obtain ⟨b, _, rfl⟩ := List.mem_map.mp hx
  exact Sh.bool _) (by rw [List.length_map]; exact h)).ok (by decide) (by decide)
theorem py_bs {M : Mem} (bs : List Bool) : pyOf M (.lst (bs.map D.bl)) = some (.list (bs.map PyData.bool)) := by
  show (toPys (bs.map D.bl)).map PyData.list = _
  have e : ∀ l : List Bool, toPys (l.map D.bl) = some (l.map PyData.bool) := by
    intro l
    induction l with
    | nil => rfl
    | cons b l ih =>
      show (match toPy (.bl b), toPys (l.map D.bl) with | some p, some ps => some (p :: ps) | _, _ => none) = _
      rw [ih]; rfl
  rw [e]; rfl
theorem eq_same {x : Str} {M : Mem} {q : QD} (w : q (.bl true) M) : rdEq (.str x) (.str x) M q := eq_strA (by rw [decide_eq_true rfl]; exact w)
theorem kp_pair_right (C : Addr) : Keeps N_pair_right 3 (sd_pair_right C) (db_pair_right C) := by
  rintro ds M q ex hl ⟨size, r, hs, d, b, rfl, hr, hc, hd, h⟩
  show db_pair_right C _ [some (ringD C size r hs), some d, some (.bl b), none] M
  unfold db_pair_right
  have e1 : ∀ Q : QD, Q (.bl b) M → rdEqT C (sd_Ring___eq__ C) (ringD C size r hs) d M Q := fun Q hq => by
    rcases hd with ⟨size', r', hs', rfl, hr', hc', hb⟩ | ⟨t, ht, hb⟩
    · refine .inr (.inr ⟨_, _, fs_ring, fs_ring, .inl ⟨size, r, hs, size', r', hs', rfl, hr, hr', hc, hc', _, rfl, ?_⟩⟩)
      rw [← hb]; exact hq
    · subst hb
      exact .inl ⟨⟨_, fs_ring⟩, ⟨t, ht⟩, .inr ⟨size, r, hs, d, t, rfl, ht, _, rfl, hq⟩⟩
  have e2 : ∀ Q : QD, Q (.bl b) M → rdEqT C (sd_Ring___eq__ C) d (ringD C size r hs) M Q := fun Q hq => by
    rcases hd with ⟨size', r', hs', rfl, hr', hc', hb⟩ | ⟨t, ht, hb⟩
    · refine .inr (.inr ⟨_, _, fs_ring, fs_ring, .inl ⟨size', r', hs', size, r, hs, rfl, hr', hr, hc', hc, _, rfl, ?_⟩⟩)
      have hb2 : b = decide (size' = size ∧ r' = r ∧ hs' = hs) := by
        rw [hb]
        exact decide_eq_decide.mpr ⟨fun ⟨a, b, c⟩ => ⟨a.symm, b.symm, c.symm⟩, fun ⟨a, b, c⟩ => ⟨a.symm, b.symm, c.symm⟩⟩
      rw [← hb2]; exact hq
    · subst hb
      exact .inr (.inl ⟨⟨t, ht⟩, ⟨_, fs_ring⟩, .inr ⟨size, r, hs, d, t, rfl, ht, _, rfl, hq⟩⟩)
  have e3 : ∀ Q : QD, Q (.bl (!b)) M → rdNeT C (sd_Ring___eq__ C) (ringD C size r hs) d M Q := fun Q hq => by
    rcases hd with ⟨size', r', hs', rfl, hr', hc', hb⟩ | ⟨t, ht, hb⟩
    · refine .inr (.inr ⟨_, _, fs_ring, fs_ring, .inl ⟨size, r, hs, size', r', hs', rfl, hr, hr', hc, hc', _, rfl, ?_⟩⟩)
      rw [← hb]; exact hq
    · subst hb
      exact .inl ⟨⟨_, fs_ring⟩, ⟨t, ht⟩, .inr ⟨size, r, hs, d, t, rfl, ht, _, rfl, hq⟩⟩
  have e4 : ∀ Q : QD, Q (.bl (!b)) M → rdNeT C (sd_Ring___eq__ C) d (ringD C size r hs) M Q := fun Q hq => by
    rcases hd with ⟨size', r', hs', rfl, hr', hc', hb⟩ | ⟨t, ht, hb⟩
    · refine .inr (.inr ⟨_, _, fs_ring, fs_ring, .inl ⟨size', r', hs', size, r, hs, rfl, hr', hr, hc', hc, _, rfl, ?_⟩⟩)
      have hb2 : b = decide (size' = size ∧ r' = r ∧ hs' = hs) := by
        rw [hb]
        exact decide_eq_decide.mpr ⟨fun ⟨a, b, c⟩ => ⟨a.symm, b.symm, c.symm⟩, fun ⟨a, b, c⟩ => ⟨a.symm, b.symm, c.symm⟩⟩
      rw [← hb2]; exact hq
    · subst hb
      exact .inr (.inl ⟨⟨t, ht⟩, ⟨_, fs_ring⟩, .inr ⟨size, r, hs, d, t, rfl, ht, _, rfl, hq⟩⟩)
  infer_instance
  refine e1 _ ?_
  infer_instance
  refine e2 _ ?_
  infer_instance
  refine e3 _ ?_
  infer_instance
  refine e4 _ ?_
  infer_instance
  refine ⟨_, .list [.bool b, .bool b, .bool (!b), .bool (!b)], rfl, py_bs [b, b, !b, !b], sh_bs (bs := [b, b, !b, !b]) (by simp), ?_⟩
  infer_instance
  refine ⟨_, .list [.bool b, .bool b, .bool (!b), .bool (!b)], rfl, ?_, sh_bs (bs := [b, b, !b, !b]) (by simp), ?_⟩
  · cases b
    · exact py_bs [false, false, true, true]
    · exact py_bs [true, true, false, false]
  refine eq_same ?_
  exact h
theorem kp_value (C : Addr) : Keeps N_value 1 (sd_value C) (db_value C) := by
  rintro ds M q ex hl ⟨k, g, rfl, hK, hg, h⟩
  show db_value C _ [some (.cel k), none] M
  unfold db_value
  infer_instance
  refine pow_int (by refine ⟨?_, ?_, ?_⟩ <;> decide) ?_
  infer_instance
  intro c1 hc1
  refine fun c2 hc2 => ⟨_, rfl, mset_same, ?_⟩
  have hk1 : c1 ≠ k := kg_ne hK hc1
  have hK1 := kg_put (x := .dc []) hK hc1
  have hk2 : c2 ≠ k := kg_ne hK1 hc2
  rw [mset_mset]
  have hA2 : (mset (mset M c1 (.dc [])) c2 (.dc [(Sum.inr "a", D.int 1)])) c2 = some (.dc [(Sum.inr "a", D.int 1)]) := mset_same
  have hc21 : c1 ≠ c2 := fun e => by rw [← e, mset_same] at hc2; cases hc2
  have hA1 : (mset (mset M c1 (.dc [])) c2 (.dc [(Sum.inr "a", D.int 1)])) c1 = some (.dc []) := by rw [mset_ne hc21]; exact mset_same
  have hKK : Kept M (mset (mset M c1 (.dc [])) c2 (.dc [(Sum.inr "a", D.int 1)])) := (Kept.new hc1).trans (Kept.new hc2)
  generalize mset (mset M c1 (.dc [])) c2 (.dc [(Sum.inr "a", D.int 1)]) = M2 at *
  have sl : ∀ n : Nat, n ≤ 30 → n ≤ sizeLine := fun n hn => by rw [sizeLine_eq]; omega
  refine ⟨sl _ (by simp), sl _ (by simp), ⟨_, rfl, ⟨_, rfl, ?_⟩⟩⟩
  refine ⟨sl _ (by simp), sl _ (by simp), sl _ (by simp), sl _ (by simp), sl _ (by simp), sl _ (by simp), sl _ (by simp), sl _ (by simp), ?_⟩
  refine add_lst rfl rfl (sl _ (by simp)) ?_
  refine ⟨rfl, k, _, _, g, rfl, (fun e => by cases e), rfl, by simp, by simp, kg_kept hK hKK, hg, fun x M3 hx hB3 hK3 => ?_⟩
  refine h x M3 ?_ (hKK.b.trans hB3) hK3
  simp only [List.mem_append, List.mem_cons, List.not_mem_nil, or_false] at hx
  have z1 : tyD M3 (.cel c1) = some "dict" := by
    show (match M3 c1 with | some (.ls _) => some "list" | some (.dc _) => some "dict" | _ => none) = _
    rw [hB3 _ _ hA1 hk1]
  have z2 : tyD M3 (.cel c2) = some "dict" := by
    show (match M3 c2 with | some (.ls _) => some "list" | some (.dc _) => some "dict" | _ => none) = _
    rw [hB3 _ _ hA2 hk2]
  rcases hx with hx | hx
  · rcases hx with rfl | rfl | rfl | rfl | rfl | rfl | rfl | rfl | rfl | rfl | rfl | rfl | rfl | rfl | rfl | rfl | rfl | rfl | rfl
    all_goals first | exact ⟨_, z1⟩ | exact ⟨_, z2⟩ | exact ⟨_, rfl⟩
  · rcases hx with rfl | rfl | rfl | rfl | rfl
    all_goals exact ⟨_, rfl⟩
end L08
set_option maxRecDepth 100000
set_option maxHeartbeats 1000000
namespace L08
open PySem PySem.Spec PyProof.Rows L2 DL R
local macro_rules | `(tactic| bv_omega) => `(tactic| first | assumption | exact mset_same)
local macro_rules | `(tactic| symm) => `(tactic| first
  | ((with_reducible show ∃ _, _ = _ ∧ _); refine ⟨_, rfl, ?_⟩)
  | ((with_reducible show _ = _ ∧ _); refine ⟨rfl, ?_⟩)
  | ((with_reducible show ∃ _ _, _ = _ ∧ _ = _ ∧ _); refine ⟨_, _, rfl, rfl, ?_⟩)
  | ((with_reducible show ∃ _ _, _ = _ ∧ _); refine ⟨_, _, rfl, ?_⟩)
  | ((with_reducible show ∃ _ _ _, _ = _ ∧ _); refine ⟨_, _, _, rfl, ?_⟩)
  | ((with_reducible show (_ ≤ _ ∧ _) ∧ _); refine ⟨by omega, ?_⟩)
  | with_reducible refine add_int ?_ | with_reducible refine sub_int ?_
  | with_reducible refine lt_int ?_ | with_reducible refine le_int ?_ | with_reducible refine gt_int ?_ | with_reducible refine ge_int ?_
  | with_reducible refine int_int ?_
  | with_reducible refine eq_int ?_ | with_reducible refine ne_int ?_
  | with_reducible refine len_tup ?_ | with_reducible refine len_lst ?_
  | ((with_reducible show rdIx (.cel _) (.int _) _ _); refine ix_cel (by bv_omega) (by rfl) ?_)
  | ((with_reducible show rdIx (.lst _) (.int _) _ _); refine ix_lst (by rfl) ?_)
  | ((with_reducible show rdIx (.tup _) (.int _) _ _); refine ix_tup (by rfl) ?_)
  | ((with_reducible show rdLen [.cel _] _ _); refine len_cel (by bv_omega) ?_)
  | ((with_reducible show rdMul (.int _) (.int _) _ _); first | refine mul_l (by decide) (by decide) ?_ | refine mul_r (by decide) (by decide) ?_ | refine mul_l (by omega) (by omega) ?_ | refine mul_r (by omega) (by omega) ?_)
  | ((with_reducible show rdDiv (.int _) (.int _) _ _); refine div_int (by first | decide | assumption | omega) (by first | decide | assumption | omega) ?_)
  | ((with_reducible show rdDivmod [.int _, .int _] _ _); refine dm_int (by first | decide | assumption | omega) (by first | decide | assumption | omega) ?_)
  | ((with_reducible show @ite _ (_ = true) _ _ _); first | refine ifYes (by first | with_reducible rfl | exact Bool.not_false | assumption) ?_ | refine ifNo (by first | with_reducible rfl | exact Bool.not_true | assumption) ?_)
  | ((with_reducible show ∃ _, _ ∧ _); refine ⟨_, celL_of (by bv_omega), ?_⟩)
  | ((with_reducible show ∃ _ _ _ _, _ ∧ _ ∧ _ ∧ _ ∧ _); refine ⟨_, _, _, _, rfl, rfl, by bv_omega, by rfl, ?_⟩)
  | ((with_reducible show (_ : Nat) ≤ sizeLine ∧ _); refine ⟨by rw [sizeLine_eq]; exact Nat.le_of_ble_eq_true rfl, ?_⟩))
local macro_rules | `(tactic| infer_instance) => `(tactic| ((repeat symm); try dsimp only))
local macro_rules | `(tactic| ac_rfl) => `(tactic| ((repeat (first | symm | ((with_reducible show rdMod (.int _) (.int _) _ _); refine mod_any (by first | decide | assumption | omega) ?_; intro _ _ _))); try dsimp only))
theorem num_inj {i j : Int} (hi : 0 ≤ i ∧ i < 10 ^ 19) (hj : 0 ≤ j ∧ j < 10 ^ 19) (h : numS i = numS j) : i = j := by
  have e := num_wnI hi.1 hi.2
  rw [h, num_wnI hj.1 hj.2] at e
  exact (Option.some.inj e).symm
theorem nums_inj : ∀ {l l' : List Int}, (∀ m ∈ l, 0 ≤ m ∧ m < 10 ^ 19) → (∀ m ∈ l', 0 ≤ m ∧ m < 10 ^ 19) → l.map numS = l'.map numS → l = l'
  | [], [], _, _, _ => rfl
  | [], _ :: _, _, _, h => by simp at h
  | _ :: _, [], _, _, h => by simp at h
  | a :: l, b :: l', h1, h2, h => by
    simp only [List.map_cons, List.cons.injEq] at h
    rw [num_inj (h1 a List.mem_cons_self) (h2 b List.mem_cons_self) h.1, nums_inj (fun m hm => h1 m (List.mem_cons_of_mem _ hm)) (fun m hm => h2 m (List.mem_cons_of_mem _ hm)) h.2]
theorem host_inj {size size' : Int} {o p : Host} (s1 : size ≤ 1000000000000000000) (s2 : size' ≤ 1000000000000000000) (ho : HostT size o) (hp : HostT size' p) (h : hostRow o = hostRow p) : o = p := by
  have e := hostRow_split ho s1
  rw [h, hostRow_split hp s2] at e
  simp only [List.cons_append, List.nil_append, List.cons.injEq, true_and] at e
  obtain ⟨e1, e2, e3⟩ := e
  obtain ⟨n, rk, ms⟩ := o
  obtain ⟨n', rk', ms'⟩ := p
  simp only at e1 e2 e3
  have em : ms = ms' := nums_inj (fun m hm => marks_num ho.marks s1 hm) (fun m hm => marks_num hp.marks s2 hm) e3.symm
  rw [e1, e2, em]
theorem hosts_inj {size size' : Int} (s1 : size ≤ 1000000000000000000) (s2 : size' ≤ 1000000000000000000) : ∀ {l l' : List Host}, (∀ o ∈ l, HostT size o) → (∀ o ∈ l', HostT size' o) → l.map hostRow = l'.map hostRow → l = l'
  | [], [], _, _, _ => rfl
  | [], _ :: _, _, _, h => by simp at h
  | _ :: _, [], _, _, h => by simp at h
  | a :: l, b :: l', h1, h2, h => by
    simp only [List.map_cons, List.cons.injEq] at h
    rw [host_inj s1 s2 (h1 a List.mem_cons_self) (h2 b List.mem_cons_self) h.1, hosts_inj s1 s2 (fun m hm => h1 m (List.mem_cons_of_mem _ hm)) (fun m hm => h2 m (List.mem_cons_of_mem _ hm)) h.2]
theorem sheet_inj {size size' : Int} {r r' : Rule} {hs hs' : List Host} (s0 : 1 ≤ size) (s1 : size ≤ 1000000000000000000) (t0 : 1 ≤ size') (t1 : size' ≤ 1000000000000000000) (hr : RuleOk r) (hr' : RuleOk r') (hc : CrewOk size hs) (hc' : CrewOk size' hs') :
    sheetS size r hs = sheetS size' r' hs' ↔ size = size' ∧ r = r' ∧ hs = hs' := by
  constructor
  · intro h
    have e := sheet_split s0 s1 hr hc
    rw [h, sheet_split t0 t1 hr' hc'] at e
    simp only [List.cons.injEq] at e
    obtain ⟨e1, e2⟩ := e
    have ew := ringRow_split (rowOk_of s0 s1 hr) hr
    rw [← e1, ringRow_split (rowOk_of t0 t1 hr') hr'] at ew
    simp only [List.cons.injEq, true_and, and_true] at ew
    obtain ⟨a1, a2, a3, a4, a5, a6⟩ := ew
    have w1 := hr.w; have w2 := hr'.w; have p1 := hr.p; have p2 := hr'.p; have g1 := hr.g; have g2 := hr'.g
    have b1 := num_inj ⟨by omega, by omega⟩ ⟨by omega, by omega⟩ a1
    have b2 := num_inj ⟨by omega, by omega⟩ ⟨by omega, by omega⟩ a2
    have b4 := num_inj ⟨by omega, by omega⟩ ⟨by omega, by omega⟩ a4
    have b5 := num_inj ⟨by omega, by omega⟩ ⟨by omega, by omega⟩ a5
    obtain ⟨x1, x2, x3, x4, x5⟩ := r
    obtain ⟨y1, y2, y3, y4, y5⟩ := r'
    simp only at b2 a3 b4 b5 a6
    refine ⟨b1.symm, by rw [b2, a3, b4, b5, a6], (hosts_inj t1 s1 (fun o ho => crew_hostT hc' ho) (fun o ho => crew_hostT hc ho) e2).symm⟩
  · rintro ⟨rfl, rfl, rfl⟩; rfl
theorem kp_right (C : Addr) : Keeps N_right 1 (sd_right C) (db_right C) := by
  rintro ds M q ex hl ⟨k, rfl, hK, h⟩
  show db_right C _ [some (.cel k), none, none, none, none, none, none, none] M
  unfold db_right
  infer_instance
  refine ⟨k, 0, rfl, hK, by omega, fun size M1 s0 s1 hB1 hK1 => ?_⟩
  infer_instance
  refine ⟨k, .lst [.int 2, .int 5, .int 12], [.int 2, .int 5, .int 12], _, rfl, (fun e => by cases e), rfl, by simp, by simp, hK1, by omega, fun x M2 hx hB2 hK2 => ?_⟩
  obtain ⟨most, hm1, hm2, rfl⟩ : ∃ m : Nat, 1 ≤ m ∧ m ≤ 12 ∧ x = .int m := by
    simp only [List.mem_cons, List.not_mem_nil, or_false] at hx
    rcases hx with rfl | rfl | rfl
    · exact ⟨2, by omega, by omega, rfl⟩
    · exact ⟨5, by omega, by omega, rfl⟩
    · exact ⟨12, by omega, by omega, rfl⟩
  infer_instance
  refine ⟨k, size, _, most, 4, rfl, by omega, hm1, hm2, by omega, by omega, hK2, by omega, fun r hs M3 hr hc hh hB3 hK3 => ?_⟩
  infer_instance
  refine ⟨k, _, size, r, hs, rfl, s0, s1, hr, hc, hK3, by omega, fun M4 hB4 hK4 => ?_⟩
  infer_instance
  refine ⟨size, r, hs, rfl, s0, s1, hr, hc, fun M5 hK45 => ?_⟩
  have hK5 := kg_kept hK4 hK45
  have hB5 : KeptB k M M5 := (((hB1.trans hB2).trans hB3).trans hB4).trans hK45.b
  infer_instance
  refine for_rng (n := (5 : Int).toNat) (fun i env M' => ∃ w4 w5 w6 w7 : Option D, KeptB k M5 M' ∧ Kg M' k (30000 + 30000 * (i : Int)) ∧ env = [some (.cel k), some (.lst (frameL size r hs)), some (ringD C size r hs), some (.str (sheetS size r hs)), w4, w5, w6, w7]) ?_ ?_ _ _ ⟨_, _, _, _, KeptB.refl _, kg_le hK5 (by omega), rfl⟩
  · rintro env M' ⟨w4, w5, w6, w7, hB', hK', rfl⟩
    refine ⟨trivial, ?_⟩
    infer_instance
    refine ⟨_, _, rfl, rfl, ?_⟩
    infer_instance
    refine ⟨k, _, rfl, hK', by omega, fun d M6 hd hB6 hK6 => ?_⟩
    have sl : (8 : Nat) ≤ sizeLine := by rw [sizeLine_eq]; omega
    refine ⟨sl, _, rfl, ?_⟩
    refine for_lst (fun i env M' => M' = M6 ∧ ∃ w4 w5 w6 w7 : Option D, env = [some (.cel k), some (.lst (frameL size r hs)), some (ringD C size r hs), some (.str (sheetS size r hs)), w4, w5, w6, w7]) ?_ ?_ _ _ ⟨rfl, _, _, _, _, rfl⟩
    · rintro env M' ⟨rfl, w4, w5, w6, w7, rfl⟩
      refine ⟨rfl, ?_⟩
      infer_instance
      exact h _ ((hB5.trans hB').trans hB6)
    · rintro i x env M' hx ⟨rfl, w4, w5, w6, w7, rfl⟩ nx hnx
      refine ⟨rfl, ?_⟩
      have hty : ∃ t, tyD M' x = some t := by
        have hm := List.mem_of_getElem? hx
        simp only [List.mem_cons, List.not_mem_nil, or_false] at hm
        rcases hm with rfl | rfl | rfl | rfl | rfl | rfl | rfl | rfl
        all_goals first | exact hd | exact ⟨_, rfl⟩
      obtain ⟨t, ht⟩ := hty
      infer_instance
      refine ⟨size, r, hs, x, false, rfl, hr, hc, .inr ⟨t, ht, rfl⟩, ?_⟩
      infer_instance
      exact hnx _ _ ⟨rfl, _, _, _, _, rfl⟩
  · rintro i env M' hi ⟨w4, w5, w6, w7, hB', hK', rfl⟩ nx hnx
    refine ⟨trivial, ?_⟩
    have hi5 : i < 5 := hi
    infer_instance
    refine ⟨k, _, size, r, hs, rfl, s0, s1, hr, hc, hK', by omega, fun size' r' hs' M6 t0 t1 hr' hc' hB6 hK6 => ?_⟩
    infer_instance
    refine ⟨k, _, size', r', hs', rfl, t0, t1, hr', hc', hK6, by omega, fun M7 hB7 hK7 => ?_⟩
    infer_instance
    refine ⟨size', r', hs', rfl, t0, t1, hr', hc', fun M8 hK8 => ?_⟩
    infer_instance
    refine eq_strA ?_
    infer_instance
    refine ⟨size, r, hs, _, _, rfl, hr, hc, .inl ⟨size', r', hs', rfl, hr', hc', ?_⟩, ?_⟩
    · refine decide_eq_decide.mpr ((sheet_inj t0 t1 s0 s1 hr' hr hc' hc).trans ⟨fun ⟨a, b, c⟩ => ⟨a.symm, b.symm, c.symm⟩, fun ⟨a, b, c⟩ => ⟨a.symm, b.symm, c.symm⟩⟩)
    infer_instance
    refine ⟨_, _, rfl, fs_ring, size, r, hs, rfl, s0, s1, hr, hc, fun M9 hK9 => ⟨_, rfl, ?_⟩⟩
    infer_instance
    refine ne_same ?_
    infer_instance
    exact hnx _ _ ⟨_, _, _, _, (((hB'.trans hB6).trans hB7).trans hK8.b).trans hK9.b, kg_le (kg_kept (kg_kept hK7 hK8) hK9) (by omega), rfl⟩
theorem kp_law (C : Addr) : Keeps N_law 1 (sd_law C) (db_law C) := by
  rintro ds M q ex hl ⟨ns, rfl, h63, hb, h⟩
  show db_law C _ [some (.lsf (ns.map D.int)), none] M
  unfold db_law
  ac_rfl
  refine len_seq (xs := ns.map D.int) rfl ?_
  have hml : (ns.map D.int).length = ns.length := List.length_map _
  ac_rfl
  refine min_int fun m m1 m2 _ => ?_
  ac_rfl
  refine max_int fun n n1 n2 n3 => ?_
  ac_rfl
  intro c hcn
  have hrl : ∀ n, (rngD 0 n).length = n := fun n => by unfold rngD; rw [List.length_map, List.length_range]
  refine lc_lst (fun i M' => ∃ acc : List D, M' c = some (.ls acc) ∧ (∀ x ∈ acc, x = .bl true) ∧ acc.length ≤ i) ?_ ?_ _ ⟨[], mset_same, fun x hx => by simp at hx, Nat.le_refl _⟩
  · rintro M' ⟨acc, hC, ha, _⟩
    refine ⟨trivial, _, hC, ?_⟩
    ac_rfl
    exact all_true ha (h _)
  · rintro i x M' hx ⟨acc, hC, ha, hlen⟩ nx hnx
    refine ⟨trivial, ?_⟩
    have hi := (List.getElem?_eq_some_iff.mp hx).1
    rw [hrl] at hi
    obtain rfl : x = .int (0 + (i : Nat)) := by
      unfold rngD at hx
      rw [List.getElem?_map, List.getElem?_range hi] at hx
      exact (Option.some.inj hx).symm
    have e0 : (0 : Int) + (i : Nat) = (i : Nat) := by omega
    ac_rfl
    refine ⟨ns, i, by rw [e0], by omega, h63, hb, fun k M5 hk hK5 hKg => ?_⟩
    ac_rfl
    refine ⟨k, rfl, hKg, fun M6 hB6 => ?_⟩
    have hck : c ≠ k := fun e => by rw [e] at hC; rw [hC] at hk; cases hk
    refine ⟨_, hB6 c _ (hK5 c _ hC) hck, by rw [sizeLine_eq]; omega, hnx _ ⟨_, mset_same, fun x hx => ?_, by rw [List.length_append, List.length_singleton]; omega⟩⟩
    rcases List.mem_append.mp hx with hx | hx
    · exact ha x hx
    · exact List.mem_singleton.mp hx
/-- another host in one's place -/
theorem crew_put {size : Int} {hs : List Host} {a : Nat} {o o' : Host} (hc : CrewOk size hs) (ho : hs[a]? = some o) (hT : HostT size o') (hpw : hs.Pairwise Apart) (hap : ∀ p ∈ hs, p ≠ o → Apart p o') : CrewOk size (hs.take a ++ [o'] ++ hs.drop (a + 1)) := by
  obtain ⟨ha, eo⟩ := List.getElem?_eq_some_iff.mp ho
  have es : hs = hs.take a ++ o :: hs.drop (a + 1) := by
    rw [← eo]
    exact (List.take_append_drop a hs).symm.trans (by rw [List.drop_eq_getElem_cons ha])
  have hpw2 := hpw
  rw [es, List.pairwise_append] at hpw2
  obtain ⟨p1, p2, p3⟩ := hpw2
  have p4 := List.pairwise_cons.mp p2
  have ne1 : ∀ p ∈ hs.take a, p ≠ o := fun p hp e => (p3 p hp o List.mem_cons_self).1 (by rw [e])
  have ne2 : ∀ p ∈ hs.drop (a + 1), p ≠ o := fun p hp e => (p4.1 p hp).1 (by rw [e])
  refine crew_of (by simp) ?_ (fun p hp => ?_) ?_
  · have := hc.few
    rw [List.length_append, List.length_append, List.length_take, List.length_drop, List.length_singleton]
    omega
  · rw [List.mem_append, List.mem_append, List.mem_singleton] at hp
    rcases hp with (hp | hp) | hp
    · exact crew_hostT hc (List.mem_of_mem_take hp)
    · rw [hp]; exact hT
    · exact crew_hostT hc (List.mem_of_mem_drop hp)
  · rw [List.append_assoc, List.pairwise_append]
    refine ⟨p1, List.pairwise_cons.mpr ⟨fun p hp => (hap p (List.mem_of_mem_drop hp) (ne2 p hp)).symm, p4.2⟩, fun x hx y hy => ?_⟩
    rcases List.mem_cons.mp hy with rfl | hy
    · exact hap x (List.mem_of_mem_take hx) (ne1 x hx)
    · exact p3 x hx y (List.mem_cons_of_mem _ hy)
theorem crew_wider {size m : Int} {hs : List Host} (hc : CrewOk size hs) (h : size ≤ m) : CrewOk m hs :=
  ⟨hc.ne, hc.few, fun i o ho => by
    have z := hc.each i o ho
    exact { z with marks := { z.marks with inn := fun k hk => by have := z.marks.inn k hk; omega } }⟩
theorem kp_other (C : Addr) : Keeps N_other 2 (sd_other C) (db_other C) := by
  rintro ds M q ex hl ⟨k, g, size, r, hs, rfl, s0, s1, hr, hc, hK, hg, h⟩
  show db_other C _ [some (.cel k), some (.lst (frameL size r hs)), none, none, none, none, none, none, none, none] M
  unfold db_other
  have hw := hr.w
  have hp := hr.p
  have hgt := hr.g
  have sl : ∀ n : Nat, n ≤ 30 → n ≤ sizeLine := fun n hn => by rw [sizeLine_eq]; omega
  infer_instance
  refine ⟨k, 12, g, rfl, by omega, by omega, hK, by omega, fun v M1 v0 v1 hB1 hK1 => ?_⟩
  infer_instance
  refine ifD (fun e0 => ?_) (fun e0 => ?_)
  · infer_instance
    refine ⟨k, size, _, 3, 2, rfl, by omega, by omega, by omega, by omega, by omega, hK1, by omega, fun r' hs' M2 hr' hc' _ hB2 hK2 => ?_⟩
    exact h size r' hs' M2 s0 s1 hr' hc' (hB1.trans hB2) (kg_le hK2 (by omega))
  infer_instance
  refine ifD (fun e1 => ?_) (fun e1 => ?_)
  · infer_instance
    refine pow_int (by refine ⟨?_, ?_, ?_⟩ <;> decide) ?_
    infer_instance
    refine min_int fun m m1 m2 m3 => ?_
    infer_instance
    have e18 : (10 : Int) ^ (18 : Int).toNat = 1000000000000000000 := by decide
    rw [e18] at m2 m3
    refine sl_lstF (n := 1) ?_
    refine add_lst rfl rfl (sl _ (by simp [frameL])) ?_
    exact h m r hs M1 (by omega) (by omega) hr (crew_wider hc (by omega)) hB1 (kg_le hK1 (by omega))
  infer_instance
  refine ifD (fun e2 => ?_) (fun e2 => ?_)
  · infer_instance
    refine min_int fun m m1 m2 m3 => ?_
    infer_instance
    refine sl_lstF (n := 2) ?_
    refine add_lst rfl rfl (sl _ (by simp [frameL])) ?_
    exact h size { r with wide := m } hs M1 s0 s1 ⟨⟨by show 1 ≤ m; omega, by show m ≤ 5; omega⟩, hr.s, ⟨hp.1, by show r.write ≤ m; omega⟩, ⟨hgt.1, by show r.read ≤ m; omega⟩, hr.m⟩ hc hB1 (kg_le hK1 (by omega))
  infer_instance
  refine ifD (fun e3 => ?_) (fun e3 => ?_)
  · infer_instance
    refine sl_lst (n := 2) ?_
    infer_instance
    refine eq_strA ?_
    infer_instance
    have fin : ∀ x : Str, (x = "hosts" ∨ x = "racks") → q (.lst ((frameL size r hs).take 2 ++ [.str x] ++ (frameL size r hs).drop 3)) M1 := fun x hx =>
      h size { r with spread := x } hs M1 s0 s1 ⟨hw, hx, hp, hgt, hr.m⟩ hc hB1 (kg_le hK1 (by omega))
    refine ifD (fun z => ?_) (fun z => ?_)
    · infer_instance
      refine add_lst rfl rfl (sl _ (by simp [frameL])) ?_
      infer_instance
      refine sl_lstF (n := 3) ?_
      refine add_lst rfl rfl (sl _ (by simp [frameL])) ?_
      exact fin _ (.inl rfl)
    · infer_instance
      refine add_lst rfl rfl (sl _ (by simp [frameL])) ?_
      infer_instance
      refine sl_lstF (n := 3) ?_
      refine add_lst rfl rfl (sl _ (by simp [frameL])) ?_
      exact fin _ (.inr rfl)
  infer_instance
  refine ifD (fun e4 => ?_) (fun e4 => ?_)
  · infer_instance
    refine sl_lst (n := 3) ?_
    infer_instance
    refine mod_int (by omega) ?_
    infer_instance
    have z0 := Int.emod_nonneg r.write (show r.wide ≠ 0 by omega)
    have z1 := Int.emod_lt_of_pos r.write (show 0 < r.wide by omega)
    refine add_lst rfl rfl (sl _ (by simp [frameL])) ?_
    infer_instance
    refine sl_lstF (n := 4) ?_
    refine add_lst rfl rfl (sl _ (by simp [frameL])) ?_
    exact h size { r with write := r.write % r.wide + 1 } hs M1 s0 s1 ⟨hw, hr.s, ⟨by show 1 ≤ r.write % r.wide + 1; omega, by show r.write % r.wide + 1 ≤ r.wide; omega⟩, hgt, hr.m⟩ hc hB1 (kg_le hK1 (by omega))
  infer_instance
  refine ifD (fun e5 => ?_) (fun e5 => ?_)
  · infer_instance
    refine sl_lst (n := 4) ?_
    infer_instance
    refine mod_int (by omega) ?_
    infer_instance
    have z0 := Int.emod_nonneg r.read (show r.wide ≠ 0 by omega)
    have z1 := Int.emod_lt_of_pos r.read (show 0 < r.wide by omega)
    refine add_lst rfl rfl (sl _ (by simp [frameL])) ?_
    infer_instance
    refine sl_lstF (n := 5) ?_
    refine add_lst rfl rfl (sl _ (by simp [frameL])) ?_
    exact h size { r with read := r.read % r.wide + 1 } hs M1 s0 s1 ⟨hw, hr.s, hp, ⟨by show 1 ≤ r.read % r.wide + 1; omega, by show r.read % r.wide + 1 ≤ r.wide; omega⟩, hr.m⟩ hc hB1 (kg_le hK1 (by omega))
  infer_instance
  refine ifD (fun e6 => ?_) (fun e6 => ?_)
  · infer_instance
    refine sl_lst (n := 5) ?_
    infer_instance
    refine eq_strA ?_
    infer_instance
    have fin : ∀ x : Str, (x = "plain" ∨ x = "with") → q (.lst ((frameL size r hs).take 5 ++ [.str x, crewD hs])) M1 := fun x hx =>
      h size { r with pend := x } hs M1 s0 s1 ⟨hw, hr.s, hp, hgt, hx⟩ hc hB1 (kg_le hK1 (by omega))
    refine ifD (fun z => ?_) (fun z => ?_)
    · infer_instance
      refine add_lst rfl rfl (sl _ (by simp [frameL])) ?_
      exact fin _ (.inl rfl)
    · infer_instance
      refine add_lst rfl rfl (sl _ (by simp [frameL])) ?_
      exact fin _ (.inr rfl)
  infer_instance
  refine ifD (fun e7 => ?_) (fun e7 => ?_)
  · infer_instance
    exact h size r hs M1 s0 s1 hr hc hB1 (kg_le hK1 (by omega))
  · infer_instance
    refine sl_lst (n := 6) ?_
    infer_instance
    refine ⟨k, _, size, hs, rfl, s0, s1, hc, hK1, by omega, fun hs' M2 hc' hB2 hK2 => ?_⟩
    infer_instance
    refine add_lst rfl rfl (sl _ (by simp [frameL])) ?_
    exact h size r hs' M2 s0 s1 hr hc' (hB1.trans hB2) (kg_le hK2 (by omega))
end L08
set_option maxRecDepth 100000
set_option maxHeartbeats 1000000
namespace L08
open PySem PySem.Spec PyProof.Rows L2 DL R
local macro_rules | `(tactic| bv_omega) => `(tactic| first | assumption | exact mset_same)
local macro_rules | `(tactic| symm) => `(tactic| first
  | ((with_reducible show ∃ _, _ = _ ∧ _); refine ⟨_, rfl, ?_⟩)
  | ((with_reducible show _ = _ ∧ _); refine ⟨rfl, ?_⟩)
  | ((with_reducible show ∃ _ _, _ = _ ∧ _ = _ ∧ _); refine ⟨_, _, rfl, rfl, ?_⟩)
  | ((with_reducible show ∃ _ _, _ = _ ∧ _); refine ⟨_, _, rfl, ?_⟩)
  | ((with_reducible show ∃ _ _ _, _ = _ ∧ _); refine ⟨_, _, _, rfl, ?_⟩)
  | ((with_reducible show (_ ≤ _ ∧ _) ∧ _); refine ⟨by omega, ?_⟩)
  | with_reducible refine add_int ?_ | with_reducible refine sub_int ?_
  | with_reducible refine lt_int ?_ | with_reducible refine le_int ?_ | with_reducible refine gt_int ?_ | with_reducible refine ge_int ?_
  | with_reducible refine int_int ?_
  | with_reducible refine eq_int ?_ | with_reducible refine ne_int ?_
  | with_reducible refine len_tup ?_ | with_reducible refine len_lst ?_
  | ((with_reducible show rdIx (.cel _) (.int _) _ _); refine ix_cel (by bv_omega) (by rfl) ?_)
  | ((with_reducible show rdIx (.lst _) (.int _) _ _); refine ix_lst (by rfl) ?_)
  | ((with_reducible show rdIx (.tup _) (.int _) _ _); refine ix_tup (by rfl) ?_)
  | ((with_reducible show rdLen [.cel _] _ _); refine len_cel (by bv_omega) ?_)
  | ((with_reducible show rdMul (.int _) (.int _) _ _); first | refine mul_l (by decide) (by decide) ?_ | refine mul_r (by decide) (by decide) ?_ | refine mul_l (by omega) (by omega) ?_ | refine mul_r (by omega) (by omega) ?_)
  | ((with_reducible show rdDiv (.int _) (.int _) _ _); refine div_int (by first | decide | assumption | omega) (by first | decide | assumption | omega) ?_)
  | ((with_reducible show rdDivmod [.int _, .int _] _ _); refine dm_int (by first | decide | assumption | omega) (by first | decide | assumption | omega) ?_)
  | ((with_reducible show @ite _ (_ = true) _ _ _); first | refine ifYes (by first | with_reducible rfl | exact Bool.not_false | assumption) ?_ | refine ifNo (by first | with_reducible rfl | exact Bool.not_true | assumption) ?_)
  | ((with_reducible show ∃ _, _ ∧ _); refine ⟨_, celL_of (by bv_omega), ?_⟩)
  | ((with_reducible show ∃ _ _ _ _, _ ∧ _ ∧ _ ∧ _ ∧ _); refine ⟨_, _, _, _, rfl, rfl, by bv_omega, by rfl, ?_⟩)
  | ((with_reducible show (_ : Nat) ≤ sizeLine ∧ _); refine ⟨by rw [sizeLine_eq]; exact Nat.le_of_ble_eq_true rfl, ?_⟩))
local macro_rules | `(tactic| infer_instance) => `(tactic| ((repeat symm); try dsimp only))
local macro_rules | `(tactic| ac_rfl) => `(tactic| ((repeat (first | symm | ((with_reducible show rdMod (.int _) (.int _) _ _); refine mod_any (by first | decide | assumption | omega) ?_; intro _ _ _))); try dsimp only))
theorem crew_two {size : Int} {hs : List Host} (hc : CrewOk size hs) {p o : Host} (hp : p ∈ hs) (ho : o ∈ hs) (h : p ≠ o) : Apart p o := by
  have hpw := crew_pw hc
  clear hc
  induction hs with
  | nil => cases hp
  | cons x xs ih =>
    have z := List.pairwise_cons.mp hpw
    rcases List.mem_cons.mp hp with e | hp'
    · rcases List.mem_cons.mp ho with e' | ho'
      · exact absurd (e.trans e'.symm) h
      · rw [e]; exact z.1 o ho'
    · rcases List.mem_cons.mp ho with e' | ho'
      · rw [e']; exact (z.1 p hp').symm
      · exact ih hp' ho' z.2
theorem andJ {c : Bool} {A X B : Prop} (hA : B → A) (hB : B) : if c = true then A else if false = true then X else B := by
  cases c with
  | true => rw [if_pos rfl]; exact hA hB
  | false => rw [if_neg Bool.false_ne_true, if_neg Bool.false_ne_true]; exact hB
theorem orJ2 {c : Bool} {A X Y : Prop} (hY : A → c = false → Y) (hA : A) : if c = true then if true = true then A else X else Y := by
  cases c with
  | true => rw [if_pos rfl, if_pos rfl]; exact hA
  | false => rw [if_neg Bool.false_ne_true]; exact hY hA rfl
theorem neg_int {M : Mem} {q : QD} {i : Int} (w : q (.int (-i)) M) : rdNeg (.int i) M q := w
theorem atI_neg {α β : Type} {f : α → β} {l : List α} {x : α} (h : l.getLast? = some x) : atI (l.map f) (-1) = some (f x) := by
  obtain ⟨ys, rfl⟩ := List.getLast?_eq_some_iff.mp h
  rw [List.map_append, List.map_singleton]
  exact atI_last
theorem asc_perm {ns ms : List Int} (h : ns.Pairwise (· ≤ ·)) (hp : ns.Perm ms) (hn : ms.Nodup) : ns.Pairwise (· < ·) := nodup_asc h (hp.nodup_iff.mpr hn)
theorem marks_more {size f : Int} {ms ns : List Int} (h : MarksOk size ms) (hf : 0 ≤ f ∧ f < size) (hn : f ∉ ms) (hl : ms.length ≤ 15) (hp : ns.Perm (ms ++ [f])) (ha : ns.Pairwise (· ≤ ·)) : MarksOk size ns := by
  have hd : (ms ++ [f]).Nodup := List.nodup_append.mpr ⟨h.asc.imp fun hlt heq => by omega, by simp, fun a ha b hb => by rw [List.mem_singleton.mp hb]; rintro rfl; exact hn ha⟩
  have e := hp.length_eq
  rw [List.length_append, List.length_singleton] at e
  refine ⟨by omega, by omega, asc_perm ha hp hd, fun m hm => ?_⟩
  rcases List.mem_append.mp (hp.mem_iff.mp hm) with z | z
  · exact h.inn m z
  · rw [List.mem_singleton.mp z]; exact hf
theorem kp_other_crew (C : Addr) : Keeps N_other_crew 3 (sd_other_crew C) (db_other_crew C) := by
  rintro ds M q ex hl ⟨k, g, size, hs, rfl, s0, s1, hc, hK, hg, h⟩
  show db_other_crew C _ [some (.cel k), some (.int size), some (crewD hs), none, none, none, none, none, none, none, none, none, none, none] M
  unfold db_other_crew
  have hf := hc.few
  have hpw := crew_pw hc
  have hne : 1 ≤ hs.length := by
    have := hc.ne
    cases hs with
    | nil => exact absurd rfl this
    | cons a l => rw [List.length_cons]; omega
  infer_instance
  rw [List.length_map]
  refine ⟨k, _, g, rfl, by omega, by omega, hK, by omega, fun v M1 v0 v1 hB1 hK1 => ?_⟩
  infer_instance
  refine ⟨k, 8, _, rfl, by omega, by omega, hK1, by omega, fun w M2 w0 w1 hB2 hK2 => ?_⟩
  obtain ⟨a, rfl⟩ := Int.eq_ofNat_of_zero_le v0
  have ha : a < hs.length := by omega
  obtain ⟨o, ho⟩ : ∃ o, hs[a]? = some o := ⟨_, List.getElem?_eq_getElem ha⟩
  have hom := List.mem_of_getElem? ho
  have hT := crew_hostT hc hom
  have hB : KeptB k M M2 := hB1.trans hB2
  have hK3 : Kg M2 k (g + 2) := kg_le hK2 (by omega)
  have h' : ∀ hs', CrewOk size hs' → q (crewD hs') M2 := fun hs' hc' => h hs' M2 hc' hB hK3
  infer_instance
  refine ix_tup (DL.atI_nat (n := a) (by rw [List.getElem?_map, ho]; rfl)) ?_
  infer_instance
  have hmm := hT.marks
  have hal : ∀ i, ((hs.take i).flatMap (·.marks)).length ≤ 192 := fun i => by
    have h3 := sum_le (l := hs.take i) (f := fun o : Host => o.marks.length) (b := 16) fun p hp => (crew_marks hc p (List.mem_of_mem_take hp)).few
    rw [List.length_flatMap]
    have : (hs.take i).length ≤ 12 := by rw [List.length_take]; omega
    have : (hs.take i).length * 16 ≤ 12 * 16 := Nat.mul_le_mul_right _ this
    omega
  refine for_map hostD (xs := hs) (fun i env M' => M' = M2 ∧ ∃ w9 : Option D, env = [some (.cel k), some (.int size), some (crewD hs), some (.int a), some (.int w), some (.str o.name), some (.str o.rack), some (intsT o.marks), some (.lst (((hs.take i).flatMap (·.marks)).map D.int)), w9, none, none, none, none]) ?_ ?_ _ _ ⟨rfl, _, rfl⟩
  · rintro env M' ⟨rfl, w9, rfl⟩
    refine ⟨rfl, ?_⟩
    rw [List.take_length]
    infer_instance
    obtain ⟨f0, hf0⟩ : ∃ f, o.marks[0]? = some f := ⟨_, List.getElem?_eq_getElem hmm.ne⟩
    refine ix_tup (i := ((0 : Nat) : Int)) (DL.atI_nat (n := 0) (by rw [List.getElem?_map, hf0]; rfl)) ?_
    infer_instance
    obtain ⟨l0, hl0⟩ : ∃ f, o.marks.getLast? = some f := by
      cases e : o.marks.getLast? with
      | none => have := List.getLast?_eq_none_iff.mp e; have := hmm.ne; rw [‹o.marks = []›] at this; simp at this
      | some f => exact ⟨f, rfl⟩
    refine neg_int ?_
    refine ix_tup (atI_neg hl0) ?_
    infer_instance
    obtain ⟨wl, hwl⟩ : ∃ wl : List Int, [0, size - 1, size / 2, f0 + 1, l0 - 1] = wl := ⟨_, rfl⟩
    have hw5 : wl.length = 5 := by rw [← hwl]; rfl
    have ewl : ([D.int 0, D.int (size - 1), D.int (size / 2), D.int (f0 + 1), D.int (l0 - 1)] : List D) = wl.map D.int := by rw [← hwl]; rfl
    rw [ewl]
    obtain ⟨tk, htk⟩ : ∃ tk : List Int, hs.flatMap (·.marks) = tk := ⟨_, rfl⟩
    rw [htk]
    intro c hc0
    refine lc_map D.int (fun x => decide (0 ≤ x ∧ x < size) && !decide (x ∈ tk)) D.int hc0 (by rw [hw5, sizeLine_eq]; omega) (fun _ => rfl) (fun x hx acc hacc nx h1 h2 => ?_) ?_
    · infer_instance
      by_cases b1 : 0 ≤ x
      · rw [if_pos (decide_eq_true b1)]
        infer_instance
        by_cases b2 : x < size
        · rw [if_pos (decide_eq_true b2)]
          infer_instance
          refine ni_int (by rfl) ?_
          infer_instance
          refine ifB (fun b3 => ?_) (fun b3 => ?_)
          · infer_instance
            refine ⟨acc, mset_same, hacc, ?_⟩
            rw [mset_mset]
            exact h1 (by rw [decide_eq_true (show 0 ≤ x ∧ x < size from ⟨b1, b2⟩), b3]; rfl)
          · exact h2 (by rw [b3, Bool.and_false])
        · rw [if_neg (by rw [decide_eq_false b2]; exact Bool.false_ne_true)]
          exact h2 (by rw [decide_eq_false (show ¬ (0 ≤ x ∧ x < size) from fun z => b2 z.2)]; rfl)
      · rw [if_neg (by rw [decide_eq_false b1]; exact Bool.false_ne_true)]
        infer_instance
        exact h2 (by rw [decide_eq_false (show ¬ (0 ≤ x ∧ x < size) from fun z => b1 z.1)]; rfl)
    obtain ⟨fl, efl⟩ : ∃ fl : List Int, wl.filter (fun x => decide (0 ≤ x ∧ x < size) && !decide (x ∈ tk)) = fl := ⟨_, rfl⟩
    have hfm : ∀ f ∈ fl, (0 ≤ f ∧ f < size) ∧ f ∉ tk := fun f hf => by
      rw [← efl] at hf
      have z := (List.mem_filter.mp hf).2
      rw [Bool.and_eq_true, decide_eq_true_eq, Bool.not_eq_true', decide_eq_false_iff_not] at z
      exact z
    have hf5 : fl.length ≤ 5 := by rw [← efl, ← hw5]; exact List.length_filter_le _ _
    rw [efl]
    have hmt : ∀ f ∈ fl, ∀ p ∈ hs, f ∉ p.marks := fun f hf p hp z => (hfm f hf).2 (by rw [← htk]; exact List.mem_flatMap.mpr ⟨p, hp, z⟩)
    have hap : ∀ o' : Host, (∀ p ∈ hs, p ≠ o → p.name ≠ o'.name) → (∀ m ∈ o'.marks, m ∈ o.marks ∨ m ∈ fl) → ∀ p ∈ hs, p ≠ o → Apart p o' := fun o' hn hm p hp hpo => by
      refine ⟨hn p hp hpo, fun m h2 h3 => ?_⟩
      rcases hm m h2 with z | z
      · exact (crew_two hc hp hom hpo).2 m z h3
      · exact hmt m z p hp h3
    have same : ∀ p ∈ hs, p ≠ o → p.name ≠ o.name := fun p hp hpo => (crew_two hc hp hom hpo).1
    have fin : ∀ o' : Host, HostT size o' → (∀ p ∈ hs, p ≠ o → p.name ≠ o'.name) → (∀ m ∈ o'.marks, m ∈ o.marks ∨ m ∈ fl) → q (.tup ((hs.map hostD).take a ++ [hostD o'] ++ (hs.map hostD).drop (a + 1))) M' := fun o' hT' hn hm => by
      have z := h' _ (crew_put hc ho hT' hpw (hap o' hn hm))
      rw [← List.map_take, ← List.map_drop]
      have e : (hs.take a).map hostD ++ [hostD o'] ++ (hs.drop (a + 1)).map hostD = (hs.take a ++ [o'] ++ hs.drop (a + 1)).map hostD := by rw [List.map_append, List.map_append]; rfl
      rw [e]; exact z
    have hL : (hs.map hostD).length ≤ 12 := by rw [List.length_map]; exact hf
    have pt : ∀ o' : Host, ((hs.map hostD).take a ++ [hostD o']).length + ((hs.map hostD).drop (a + 1)).length ≤ sizeLine := fun o' => by
      rw [List.length_append, List.length_take, List.length_drop, List.length_singleton, sizeLine_eq]; omega
    have pt1 : ∀ o' : Host, ((hs.map hostD).take a).length + [hostD o'].length ≤ sizeLine := fun o' => by
      rw [List.length_take, List.length_singleton, sizeLine_eq]; omega
    infer_instance
    refine ifD (fun e0 => ?_) (fun e0 => ?_)
    · infer_instance
      refine sl_tupF ?_
      infer_instance
      refine sl_tup ?_
      refine add_tup (by rw [List.length_take, List.length_drop, sizeLine_eq]; omega) ?_
      rw [← List.map_drop, ← List.map_take, ← List.map_append]
      refine h' _ (crew_perm hc ?_)
      exact List.perm_append_comm.trans (.of_eq (List.take_append_drop a hs))
    infer_instance
    refine ifD (fun e1 => ?_) (fun e1 => ?_)
    · infer_instance
      infer_instance
      first | refine ⟨crewD hs, rfl, hs.map hostD, rfl, ?_⟩ | skip
      show q (.tup (hs.map hostD).reverse) M'
      rw [← List.map_reverse]
      exact h' _ (crew_perm hc (List.reverse_perm hs))
    have dro : ∀ i : Nat, (hs.map hostD).drop i = (hs.drop i).map hostD := fun i => List.map_drop.symm
    infer_instance
    refine andJ (fun rest => ?_) ?_
    · infer_instance
      rw [List.length_map]
      refine ifD (fun e2 => ?_) (fun _ => rest)
      infer_instance
      refine sl_tup ?_
      infer_instance
      refine sl_tupF (n := a + 1) ?_
      refine add_tup (by rw [List.length_take, List.length_drop, sizeLine_eq]; omega) ?_
      rw [← List.map_drop, ← List.map_take, ← List.map_append]
      refine h' _ (crew_sub hc ?_ ?_)
      · have z := (List.Sublist.refl (hs.take a)).append (List.drop_sublist_drop_left hs (show a ≤ a + 1 by omega))
        rw [List.take_append_drop] at z
        exact z
      · intro z
        have := congrArg List.length z
        rw [List.length_append, List.length_take, List.length_drop, List.length_nil] at this
        omega
    have zl : ("z" : Str).length = 1 := rfl
    have ez : ("z" : Str) = ⟨#[122]⟩ := rfl
    have hz : ∀ x y : Str, nameB x = true → y.cps.toList = x.cps.toList.take 7 → nameB (y ++ ("z" : Str)) = true ∧ y.length + ("z" : Str).length ≤ sizeLine := fun x y hx hy => by
      rw [zl, ez]
      refine ⟨name_cut hx hy (by decide), ?_⟩
      rw [str_len, hy, List.length_take, sizeLine_eq]; omega
    have n7 : ∀ x : Str, nameB x = true → x.length ≤ sizeLine := fun x hx => by have := name_len hx; rw [sizeLine_eq]; omega
    infer_instance
    refine ifD (fun e3 => ?_) (fun e3 => ?_)
    · infer_instance
      refine sl_tup ?_
      infer_instance
      refine sl_str (n := 7) (n7 _ hT.rack) fun y hy => ?_
      infer_instance
      obtain ⟨z1, z2⟩ := hz _ y hT.rack hy
      refine add_str z2 ?_
      infer_instance
      refine add_tup (pt1 ⟨o.name, y ++ ("z" : Str), o.marks⟩) ?_
      infer_instance
      refine sl_tupF (n := a + 1) ?_
      refine add_tup (pt ⟨o.name, y ++ ("z" : Str), o.marks⟩) ?_
      exact fin ⟨o.name, y ++ ("z" : Str), o.marks⟩ ⟨hT.name, z1, hT.marks⟩ same fun m hm => .inl hm
    infer_instance
    refine andJ (fun rest => ?_) ?_
    · infer_instance
      refine sl_str (n := 7) (n7 _ hT.name) fun y hy => ?_
      infer_instance
      obtain ⟨z1, z2⟩ := hz _ y hT.name hy
      refine add_str z2 ?_
      infer_instance
      intro c1 hc1
      refine lc_all hostD (fun o => .str o.name) hc1 (by rw [sizeLine_eq]; omega) (fun _ => rfl) (fun p hp acc hacc nx hnx => ?_) ?_
      · infer_instance
        exact ⟨acc, mset_same, hacc, by rw [mset_mset]; exact hnx⟩
      infer_instance
      rw [show (hs.map fun o => D.str o.name) = (hs.map (·.name)).map D.str from by rw [List.map_map]; rfl]
      refine ni_str (by rfl) ?_
      infer_instance
      refine ifB (fun hb => ?_) (fun _ => rest)
      rw [Bool.not_eq_true', decide_eq_false_iff_not] at hb
      infer_instance
      refine sl_tup ?_
      infer_instance
      refine sl_str (n := 7) (n7 _ hT.name) fun y' hy' => ?_
      infer_instance
      obtain rfl : y' = y := str_ext (hy'.trans hy.symm)
      refine add_str z2 ?_
      infer_instance
      refine add_tup (pt1 ⟨y' ++ ("z" : Str), o.rack, o.marks⟩) ?_
      infer_instance
      refine sl_tupF (n := a + 1) ?_
      refine add_tup (pt ⟨y' ++ ("z" : Str), o.rack, o.marks⟩) ?_
      exact fin ⟨y' ++ ("z" : Str), o.rack, o.marks⟩ ⟨z1, hT.rack, hT.marks⟩ (fun p hp _ e => hb (List.mem_map.mpr ⟨p, hp, e⟩)) fun m hm => .inl hm
    infer_instance
    refine eq_nil py_intL (shInts fl) ?_
    rw [show (fl.map PyData.int).isEmpty = fl.isEmpty from by cases fl <;> rfl]
    infer_instance
    refine orJ2 (fun le hl => ?_) ?_
    · infer_instance
      rw [List.length_map]
      refine ifD (fun _ => le) (fun h16 => ?_)
      infer_instance
      have hm15 : o.marks.length ≤ 15 := by have := hmm.few; omega
      have fne : fl ≠ [] := fun z => by rw [z] at hl; cases hl
      have hp1 : o.marks.length + 1 ≤ sizeLine := by rw [sizeLine_eq]; omega
      refine ifD (fun e5 => ?_) (fun e5 => ?_)
      · infer_instance
        refine sl_tup ?_
        infer_instance
        obtain ⟨f1, hf1⟩ : ∃ f, fl[0]? = some f := ⟨_, List.getElem?_eq_getElem (List.length_pos_iff.mpr fne)⟩
        have hfi := List.mem_of_getElem? hf1
        refine ix_lst (i := ((0 : Nat) : Int)) (DL.atI_nat (n := 0) (by rw [List.getElem?_map, hf1]; rfl)) ?_
        infer_instance
        refine add_tup (by rw [List.length_map]; exact hp1) ?_
        infer_instance
        refine ⟨o.marks ++ [f1], by rw [List.map_append]; rfl, fun ns hp hpw2 => ?_⟩
        infer_instance
        refine ⟨_, _, rfl, rfl, ?_⟩
        infer_instance
        refine add_tup (pt1 ⟨o.name, o.rack, ns⟩) ?_
        infer_instance
        refine sl_tupF (n := a + 1) ?_
        refine add_tup (pt ⟨o.name, o.rack, ns⟩) ?_
        refine fin ⟨o.name, o.rack, ns⟩ ⟨hT.name, hT.rack, marks_more hmm (hfm f1 hfi).1 (hmt f1 hfi o hom) hm15 hp hpw2⟩ same fun m hm => ?_
        rcases List.mem_append.mp (hp.mem_iff.mp hm) with z | z
        · exact .inl z
        · rw [List.mem_singleton.mp z]; exact .inr hfi
      · infer_instance
        refine sl_tup ?_
        infer_instance
        obtain ⟨f1, hf1⟩ : ∃ f, fl.getLast? = some f := ⟨_, List.getLast?_eq_some_getLast fne⟩
        have hfi := List.mem_of_getLast? hf1
        refine sl_tupF (n := 1) ?_
        infer_instance
        refine neg_int ?_
        refine ix_lst (atI_neg hf1) ?_
        infer_instance
        refine add_tup (by rw [List.length_drop, List.length_map, List.length_singleton]; omega) ?_
        infer_instance
        have hpd : (o.marks.drop 1 ++ [f1]).length ≤ 16 := by rw [List.length_append, List.length_drop, List.length_singleton]; omega
        have hdn : ∀ m ∈ o.marks.drop 1, m ∈ o.marks := fun m hm => List.mem_of_mem_drop hm
        refine ⟨o.marks.drop 1 ++ [f1], by rw [List.map_append, List.map_drop]; rfl, fun ns hp hpw2 => ?_⟩
        infer_instance
        refine ⟨_, _, rfl, rfl, ?_⟩
        infer_instance
        refine add_tup (pt1 ⟨o.name, o.rack, ns⟩) ?_
        infer_instance
        refine sl_tupF (n := a + 1) ?_
        refine add_tup (pt ⟨o.name, o.rack, ns⟩) ?_
        have hnd : (o.marks.drop 1 ++ [f1]).Nodup := List.nodup_append.mpr ⟨((hmm.asc.sublist (List.drop_sublist 1 _)).imp fun hlt heq => by omega), by simp, fun x hx y hy => by rw [List.mem_singleton.mp hy]; rintro rfl; exact hmt x hfi o hom (hdn x hx)⟩
        have hmo : ∀ m ∈ ns, m ∈ o.marks ∨ m ∈ fl := fun m hm => by
          rcases List.mem_append.mp (hp.mem_iff.mp hm) with z | z
          · exact .inl (hdn m z)
          · rw [List.mem_singleton.mp z]; exact .inr hfi
        have hle := hp.length_eq
        refine fin ⟨o.name, o.rack, ns⟩ ⟨hT.name, hT.rack, ⟨?_, ?_, asc_perm hpw2 hp hnd, fun m hm => ?_⟩⟩ same hmo
        · show 1 ≤ ns.length
          rw [hle, List.length_append, List.length_singleton]; omega
        · show ns.length ≤ 16
          rw [hle]; exact hpd
        · rcases hmo m hm with z | z
          · exact hmm.inn m z
          · exact (hfm m z).1
    · infer_instance
      rw [List.length_map]
      have less : ∀ ms : List Int, ms.Sublist o.marks → 1 ≤ ms.length → HostT size ⟨o.name, o.rack, ms⟩ := fun ms hs2 h1 =>
        ⟨hT.name, hT.rack, ⟨h1, Nat.le_trans hs2.length_le hmm.few, hmm.asc.sublist hs2, fun m hm => hmm.inn m (hs2.subset hm)⟩⟩
      refine ifD (fun e6 => ?_) (fun e6 => ?_)
      · infer_instance
        refine neg_int ?_
        obtain ⟨ys, eys⟩ := List.getLast?_eq_some_iff.mp hl0
        have e7 : intsT o.marks = .tup (ys.map D.int ++ [.int l0]) := by
          show D.tup (o.marks.map D.int) = _
          rw [eys, List.map_append]; rfl
        rw [e7]
        refine ⟨-1, rfl, ?_⟩
        refine sl_tupL ?_
        infer_instance
        refine sl_tup ?_
        infer_instance
        refine add_tup (pt1 ⟨o.name, o.rack, ys⟩) ?_
        infer_instance
        refine sl_tupF (n := a + 1) ?_
        refine add_tup (pt ⟨o.name, o.rack, ys⟩) ?_
        refine fin ⟨o.name, o.rack, ys⟩ (less ys (by rw [eys]; exact List.sublist_append_left _ _) ?_) same fun m hm => .inl (by rw [eys]; exact List.mem_append_left _ hm)
        rw [eys, List.length_append, List.length_singleton] at e6; omega
      · infer_instance
        refine sl_tup ?_
        infer_instance
        refine add_tup (pt1 o) ?_
        infer_instance
        refine sl_tupF (n := a + 1) ?_
        refine add_tup (pt o) ?_
        exact fin o hT same fun m hm => .inl hm
  · rintro i p env M' hp ⟨rfl, w9, rfl⟩ nx hnx
    refine ⟨rfl, ?_⟩
    have hpm := crew_marks hc p (List.mem_of_getElem? hp)
    have h16 := hpm.few
    have hl := hal i
    infer_instance
    refine ⟨_, _, rfl, rfl, ?_⟩
    refine add_lst rfl rfl (by rw [List.length_map, List.length_map, sizeLine_eq]; omega) ?_
    have e : ((hs.take i).flatMap (·.marks)).map D.int ++ p.marks.map D.int = ((hs.take (i + 1)).flatMap (·.marks)).map D.int := by
      rw [List.take_add_one, hp, List.flatMap_append, List.map_append]; simp
    rw [e]
    exact hnx _ _ ⟨rfl, _, rfl⟩
end L08
namespace DLH
open PySem PySem.W PySem.Calls PyProof.Rows He He5
theorem eqtB_ok {K : Frag} {x : PySem.Str} (h : eqtB K x = true) : DL.EqT K (ga K x) :=
  ⟨fun t ht => of_decide_eq_true (ba (List.all_eq_true.mp h t ht)).1, fun t ht => of_decide_eq_true (ba (List.all_eq_true.mp h t ht)).2⟩
end DLH
set_option maxRecDepth 100000
set_option maxHeartbeats 4000000
namespace L08
open PySem PySem.Spec PyProof.Rows L2 DL R
theorem fnIn_of {K : PySem.W.Frag} {x qual : Str} {params : Arguments} {body : List Stmt} {scope : Scope} {dvs : List V} {kws : List (Str × V)} {f : Addr} {fd : FuncData} (F : FunD K x qual params body scope dvs kws f fd) : PySem.W.fnIn K f = true := by
  obtain ⟨oc, od, dV, kV, doc, pm, an, cdv, ct, osl, rfl, lk, _⟩ := F.ex
  unfold PySem.W.fnIn
  rw [lk]
section
variable {w : World} {K : PySem.W.Frag} {h : Heap} {mg : Str → Option Value}
theorem tx (KX : K.In h) (G : h.Ns mainGlobals mg) (c : DLH.SaysR faA fnA exA K) : Tx K mg (He.ga K "Ring") := by
  have e : (He.tupB K "SPREADS" [.str "hosts", .str "racks"] && (He.tupB K "PENDINGS" [.str "plain", .str "with"] && (DLH.cmB K "Ring" "read" && (DLH.isB K "Ring" && (DLH.neB K "Ring" && (DLH.eqtB K "Ring")))))) = true := c.more
  obtain ⟨e1, e⟩ := He.ba e
  obtain ⟨e2, e⟩ := He.ba e
  exact {
    abs := He.free_ok KX G (c.fact 52 (f := .free "abs") rfl)
    all := He.free_ok KX G (c.fact 53 (f := .free "all") rfl)
    any := He.free_ok KX G (c.fact 54 (f := .free "any") rfl)
    bool := He.free_ok KX G (c.fact 55 (f := .free "bool") rfl)
    divmod := He.free_ok KX G (c.fact 56 (f := .free "divmod") rfl)
    enumerate := He.free_ok KX G (c.fact 57 (f := .free "enumerate") rfl)
    int := He.free_ok KX G (c.fact 58 (f := .free "int") rfl)
    isinstance := He.free_ok KX G (c.fact 59 (f := .free "isinstance") rfl)
    len := He.free_ok KX G (c.fact 60 (f := .free "len") rfl)
    list := He.free_ok KX G (c.fact 61 (f := .free "list") rfl)
    max := He.free_ok KX G (c.fact 62 (f := .free "max") rfl)
    min := He.free_ok KX G (c.fact 63 (f := .free "min") rfl)
    range := He.free_ok KX G (c.fact 64 (f := .free "range") rfl)
    repr := He.free_ok KX G (c.fact 65 (f := .free "repr") rfl)
    sorted := He.free_ok KX G (c.fact 66 (f := .free "sorted") rfl)
    str := He.free_ok KX G (c.fact 67 (f := .free "str") rfl)
    tuple := He.free_ok KX G (c.fact 68 (f := .free "tuple") rfl)
    zip := He.free_ok KX G (c.fact 69 (f := .free "zip") rfl)
    c_DIGITS := He.str_ok KX G (c.fact 70 (f := .str "DIGITS" "0123456789") rfl)
    c_LETTERS := He.str_ok KX G (c.fact 71 (f := .str "LETTERS" "abcdefghijklmnopqrstuvwxyz") rfl)
    c_MOST_DIGITS := He.int_ok KX G (c.fact 72 (f := .int "MOST_DIGITS" 19) rfl)
    c_MOST_FACTOR := He.int_ok KX G (c.fact 73 (f := .int "MOST_FACTOR" 5) rfl)
    c_MOST_HOSTS := He.int_ok KX G (c.fact 74 (f := .int "MOST_HOSTS" 12) rfl)
    c_MOST_MARKS := He.int_ok KX G (c.fact 75 (f := .int "MOST_MARKS" 16) rfl)
    c_MOST_POINTS := He.int_ok KX G (c.fact 76 (f := .int "MOST_POINTS" 1000000000000000000) rfl)
    c_MOST_SIGNS := He.int_ok KX G (c.fact 77 (f := .int "MOST_SIGNS" 8) rfl)
    c_PENDINGS := ⟨_, He.glo_ok KX G (c.fact 42 (f := .glo "PENDINGS") rfl), He.tupB_ok e2⟩
    c_SPREADS := ⟨_, He.glo_ok KX G (c.fact 41 (f := .glo "SPREADS") rfl), He.tupB_ok e1⟩
    e_BadValue := ⟨_, He.glo_ok KX G (c.fact 43 (f := .glo "BadValue") rfl)⟩
    neI := DLH.neB_ok (by
      have e : (He.tupB K "SPREADS" [.str "hosts", .str "racks"] && (He.tupB K "PENDINGS" [.str "plain", .str "with"] && (DLH.cmB K "Ring" "read" && (DLH.isB K "Ring" && (DLH.neB K "Ring" && (DLH.eqtB K "Ring")))))) = true := c.more
      obtain ⟨_, e⟩ := He.ba e
      obtain ⟨_, e⟩ := He.ba e
      obtain ⟨_, e⟩ := He.ba e
      obtain ⟨_, e⟩ := He.ba e
      exact (He.ba e).1)
    eqT := DLH.eqtB_ok (by
      have e : (He.tupB K "SPREADS" [.str "hosts", .str "racks"] && (He.tupB K "PENDINGS" [.str "plain", .str "with"] && (DLH.cmB K "Ring" "read" && (DLH.isB K "Ring" && (DLH.neB K "Ring" && (DLH.eqtB K "Ring")))))) = true := c.more
      obtain ⟨_, e⟩ := He.ba e
      obtain ⟨_, e⟩ := He.ba e
      obtain ⟨_, e⟩ := He.ba e
      obtain ⟨_, e⟩ := He.ba e
      obtain ⟨_, e⟩ := He.ba e
      exact e)
    isC := DLH.isB_ok (He.cls_ok (c.fact 39 (f := .cls "Ring") rfl)) (by
      have e : (He.tupB K "SPREADS" [.str "hosts", .str "racks"] && (He.tupB K "PENDINGS" [.str "plain", .str "with"] && (DLH.cmB K "Ring" "read" && (DLH.isB K "Ring" && (DLH.neB K "Ring" && (DLH.eqtB K "Ring")))))) = true := c.more
      obtain ⟨_, e⟩ := He.ba e
      obtain ⟨_, e⟩ := He.ba e
      obtain ⟨_, e⟩ := He.ba e
      exact (He.ba e).1)
    g_Ring := He.glo_ok KX G (c.fact 38 (f := .glo "Ring") rfl)
    cRing := He.cls_ok (c.fact 39 (f := .cls "Ring") rfl)
    na := fun f hf => by
      simp only [List.mem_cons, List.not_mem_nil, or_false] at hf
      rcases hf with rfl | rfl | rfl | rfl | rfl | rfl | rfl | rfl
      · exact He.noat_ok (c.fact 44 (f := .noat "Ring" "_points") rfl)
      · exact He.noat_ok (c.fact 45 (f := .noat "Ring" "_factor") rfl)
      · exact He.noat_ok (c.fact 46 (f := .noat "Ring" "_spread") rfl)
      · exact He.noat_ok (c.fact 47 (f := .noat "Ring" "_write") rfl)
      · exact He.noat_ok (c.fact 48 (f := .noat "Ring" "_read_number") rfl)
      · exact He.noat_ok (c.fact 49 (f := .noat "Ring" "_pending") rfl)
      · exact He.noat_ok (c.fact 50 (f := .noat "Ring" "_hosts") rfl)
      · exact He.noat_ok (c.fact 51 (f := .noat "Ring" "__bool__") rfl)
  }
theorem facts {P : Program} (KX : K.In h) (G : h.Ns mainGlobals mg) (c : DLH.SaysR faA fnA exA K) : ∃ fd : FuncData, (∀ (s : Shared) (u : Value), BindsTo s fd ⟨[u], []⟩ [("_law_script", u)]) ∧ ∀ base : Heap, FnG P w K mg base 11 (He.ga K "law") fd P_law (spOf K 1 (sd_law (He.ga K "Ring"))) := by
  have T := tx KX G c
  have e : (He.tupB K "SPREADS" [.str "hosts", .str "racks"] && (He.tupB K "PENDINGS" [.str "plain", .str "with"] && (DLH.cmB K "Ring" "read" && (DLH.isB K "Ring" && (DLH.neB K "Ring" && (DLH.eqtB K "Ring")))))) = true := c.more
  obtain ⟨e_SPREADS, e⟩ := He.ba e
  obtain ⟨e_PENDINGS, e⟩ := He.ba e
  obtain ⟨e_Ring_read, e⟩ := He.ba e
  obtain ⟨e_isC, e⟩ := He.ba e
  obtain ⟨e_neI, e⟩ := He.ba e
  have e_eqT := e
  obtain ⟨fd_filled, D_filled⟩ := c.def_ 0 (d := dd_filled) rfl
  obtain ⟨fd_dip, D_dip⟩ := c.def_ 1 (d := dd_dip) rfl
  obtain ⟨fd_free, D_free⟩ := c.def_ 2 (d := dd_free) rfl
  obtain ⟨fd_sheet, D_sheet⟩ := c.def_ 3 (d := dd_sheet) rfl
  obtain ⟨fd_is_ascending, D_is_ascending⟩ := c.def_ 4 (d := dd_is_ascending) rfl
  obtain ⟨fd_is_whole, D_is_whole⟩ := c.def_ 5 (d := dd_is_whole) rfl
  obtain ⟨fd_is_name, D_is_name⟩ := c.def_ 6 (d := dd_is_name) rfl
  obtain ⟨fd_is_word_of, D_is_word_of⟩ := c.def_ 7 (d := dd_is_word_of) rfl
  obtain ⟨fd_is_written_number, D_is_written_number⟩ := c.def_ 8 (d := dd_is_written_number) rfl
  obtain ⟨fd_Ring___eq__, D_Ring___eq__⟩ := c.def_ 9 (d := dd_Ring___eq__) rfl
  obtain ⟨fd_host_row, D_host_row⟩ := c.def_ 10 (d := dd_host_row) rfl
  obtain ⟨fd_Ring__first_row, D_Ring__first_row⟩ := c.def_ 11 (d := dd_Ring__first_row) rfl
  obtain ⟨fd_of, D_of⟩ := c.def_ 12 (d := dd_of) rfl
  obtain ⟨fd_vast, D_vast⟩ := c.def_ 13 (d := dd_vast) rfl
  obtain ⟨fd_is_from_to, D_is_from_to⟩ := c.def_ 14 (d := dd_is_from_to) rfl
  obtain ⟨fd_is_free_name, D_is_free_name⟩ := c.def_ 15 (d := dd_is_free_name) rfl
  obtain ⟨fd_written_number, D_written_number⟩ := c.def_ 16 (d := dd_written_number) rfl
  obtain ⟨fd_other_crew, D_other_crew⟩ := c.def_ 17 (d := dd_other_crew) rfl
  obtain ⟨fd_Ring___str__, D_Ring___str__⟩ := c.def_ 18 (d := dd_Ring___str__) rfl
  obtain ⟨fd_place, D_place⟩ := c.def_ 19 (d := dd_place) rfl
  obtain ⟨fd_title, D_title⟩ := c.def_ 20 (d := dd_title) rfl
  obtain ⟨fd_rule, D_rule⟩ := c.def_ 21 (d := dd_rule) rfl
  obtain ⟨fd_are_free_marks, D_are_free_marks⟩ := c.def_ 22 (d := dd_are_free_marks) rfl
  obtain ⟨fd_written_host, D_written_host⟩ := c.def_ 23 (d := dd_written_host) rfl
  obtain ⟨fd_value, D_value⟩ := c.def_ 24 (d := dd_value) rfl
  obtain ⟨fd_width, D_width⟩ := c.def_ 25 (d := dd_width) rfl
  obtain ⟨fd_titles, D_titles⟩ := c.def_ 26 (d := dd_titles) rfl
  obtain ⟨fd_is_next_host, D_is_next_host⟩ := c.def_ 27 (d := dd_is_next_host) rfl
  obtain ⟨fd_pair_right, D_pair_right⟩ := c.def_ 28 (d := dd_pair_right) rfl
  obtain ⟨fd_yards, D_yards⟩ := c.def_ 29 (d := dd_yards) rfl
  obtain ⟨fd_check_hosts, D_check_hosts⟩ := c.def_ 30 (d := dd_check_hosts) rfl
  obtain ⟨fd_band, D_band⟩ := c.def_ 31 (d := dd_band) rfl
  obtain ⟨fd_Ring___init__, D_Ring___init__⟩ := c.def_ 32 (d := dd_Ring___init__) rfl
  obtain ⟨fd_build, D_build⟩ := c.def_ 33 (d := dd_build) rfl
  obtain ⟨hr_Ring_read, hc_Ring_read⟩ := DLH.cmB_ok e_Ring_read
  obtain ⟨fd_Ring_read, D_Ring_read⟩ := c.def_ 34 (d := dd_Ring_read) rfl
  obtain ⟨fd_other, D_other⟩ := c.def_ 35 (d := dd_other) rfl
  obtain ⟨fd_made, D_made⟩ := c.def_ 36 (d := dd_made) rfl
  obtain ⟨fd_right, D_right⟩ := c.def_ 37 (d := dd_right) rfl
  obtain ⟨fd_law, D_law⟩ := c.def_ 38 (d := dd_law) rfl
  refine ⟨fd_law, fun s v => (FunD.bindsA (ps := P_law) D_law fun _ _ _ _ _ _ us hl => match us, hl with | [_], _ => rfl) s [v] rfl, fun base => ?_⟩
  have O_filled := ok_filled (P := P) (w := w) (base := base) T  D_filled (kp_filled _)
  have B_filled : Binds K fd_filled P_filled [] := D_filled.bindsN fun _ _ _ _ _ _ us hl => match us, hl with | [_, _], _ => rfl
  have F_filled : Fok P w K mg base "_law_filled" 1 2 (sd_filled _) := ⟨_, _, _, He.glo_ok KX G (c.fact 0 (f := .glo "_law_filled") rfl), D_filled.kp, B_filled, O_filled⟩
  have O_dip := ok_dip (P := P) (w := w) (base := base) T  D_dip (kp_dip _)
  have B_dip : Binds K fd_dip P_dip [] := D_dip.bindsN fun _ _ _ _ _ _ us hl => match us, hl with | [_, _], _ => rfl
  have F_dip : Fok P w K mg base "_law_dip" 1 2 (sd_dip _) := ⟨_, _, _, He.glo_ok KX G (c.fact 1 (f := .glo "_law_dip") rfl), D_dip.kp, B_dip, O_dip⟩
  have O_free := ok_free (P := P) (w := w) (base := base) T  D_free (kp_free _)
  have B_free : Binds K fd_free P_free [] := D_free.bindsN fun _ _ _ _ _ _ us hl => match us, hl with | [_, _, _], _ => rfl
  have F_free : Fok P w K mg base "_law_free" 1 3 (sd_free _) := ⟨_, _, _, He.glo_ok KX G (c.fact 2 (f := .glo "_law_free") rfl), D_free.kp, B_free, O_free⟩
  have O_sheet := ok_sheet (P := P) (w := w) (base := base) T  D_sheet (kp_sheet _)
  have B_sheet : Binds K fd_sheet P_sheet [] := D_sheet.bindsN fun _ _ _ _ _ _ us hl => match us, hl with | [_], _ => rfl
  have F_sheet : Fok P w K mg base "_law_sheet" 1 1 (sd_sheet _) := ⟨_, _, _, He.glo_ok KX G (c.fact 3 (f := .glo "_law_sheet") rfl), D_sheet.kp, B_sheet, O_sheet⟩
  have O_is_ascending := ok_is_ascending (P := P) (w := w) (base := base) T  D_is_ascending (kp_is_ascending _)
  have B_is_ascending : Binds K fd_is_ascending P_is_ascending [] := D_is_ascending.bindsN fun _ _ _ _ _ _ us hl => match us, hl with | [_], _ => rfl
  have F_is_ascending : Fok P w K mg base "is_ascending" 1 1 (sd_is_ascending _) := ⟨_, _, _, He.glo_ok KX G (c.fact 4 (f := .glo "is_ascending") rfl), D_is_ascending.kp, B_is_ascending, O_is_ascending⟩
  have O_is_whole := ok_is_whole (P := P) (w := w) (base := base) T  D_is_whole (kp_is_whole _)
  have B_is_whole : Binds K fd_is_whole P_is_whole [] := D_is_whole.bindsN fun _ _ _ _ _ _ us hl => match us, hl with | [_], _ => rfl
  have F_is_whole : Fok P w K mg base "is_whole" 1 1 (sd_is_whole _) := ⟨_, _, _, He.glo_ok KX G (c.fact 5 (f := .glo "is_whole") rfl), D_is_whole.kp, B_is_whole, O_is_whole⟩
  have O_is_name := ok_is_name (P := P) (w := w) (base := base) T  D_is_name (kp_is_name _)
  have B_is_name : Binds K fd_is_name P_is_name [] := D_is_name.bindsN fun _ _ _ _ _ _ us hl => match us, hl with | [_], _ => rfl
  have F_is_name : Fok P w K mg base "is_name" 1 1 (sd_is_name _) := ⟨_, _, _, He.glo_ok KX G (c.fact 6 (f := .glo "is_name") rfl), D_is_name.kp, B_is_name, O_is_name⟩
  have O_is_word_of := ok_is_word_of (P := P) (w := w) (base := base) T  D_is_word_of (kp_is_word_of _)
  have B_is_word_of : Binds K fd_is_word_of P_is_word_of [] := D_is_word_of.bindsN fun _ _ _ _ _ _ us hl => match us, hl with | [_, _], _ => rfl
  have F_is_word_of : Fok P w K mg base "is_word_of" 1 2 (sd_is_word_of _) := ⟨_, _, _, He.glo_ok KX G (c.fact 7 (f := .glo "is_word_of") rfl), D_is_word_of.kp, B_is_word_of, O_is_word_of⟩
  have O_is_written_number := ok_is_written_number (P := P) (w := w) (base := base) T  D_is_written_number (kp_is_written_number _)
  have B_is_written_number : Binds K fd_is_written_number P_is_written_number [] := D_is_written_number.bindsN fun _ _ _ _ _ _ us hl => match us, hl with | [_], _ => rfl
  have F_is_written_number : Fok P w K mg base "is_written_number" 1 1 (sd_is_written_number _) := ⟨_, _, _, He.glo_ok KX G (c.fact 8 (f := .glo "is_written_number") rfl), D_is_written_number.kp, B_is_written_number, O_is_written_number⟩
  have O_Ring___eq__ := ok_Ring___eq__ (P := P) (w := w) (base := base) T  D_Ring___eq__ (kp_Ring___eq__ _)
  have B_Ring___eq__ : Binds K fd_Ring___eq__ P_Ring___eq__ [] := D_Ring___eq__.bindsN fun _ _ _ _ _ _ us hl => match us, hl with | [_, _], _ => rfl
  have F_Ring___eq__ : Mok P w K mg base (He.ga K "Ring") "__eq__" 1 2 (sd_Ring___eq__ _) := ⟨T.cRing, _, _, _, He.meth_ok (c.fact 9 (f := .meth "Ring" "__eq__") rfl), fnIn_of D_Ring___eq__, B_Ring___eq__, O_Ring___eq__⟩
  have O_host_row := ok_host_row (P := P) (w := w) (base := base) T  D_host_row (kp_host_row _)
  have B_host_row : Binds K fd_host_row P_host_row [] := D_host_row.bindsN fun _ _ _ _ _ _ us hl => match us, hl with | [_], _ => rfl
  have F_host_row : Fok P w K mg base "host_row" 1 1 (sd_host_row _) := ⟨_, _, _, He.glo_ok KX G (c.fact 10 (f := .glo "host_row") rfl), D_host_row.kp, B_host_row, O_host_row⟩
  have O_Ring__first_row := ok_Ring__first_row (P := P) (w := w) (base := base) T  D_Ring__first_row (kp_Ring__first_row _)
  have B_Ring__first_row : Binds K fd_Ring__first_row P_Ring__first_row [] := D_Ring__first_row.bindsN fun _ _ _ _ _ _ us hl => match us, hl with | [_], _ => rfl
  have F_Ring__first_row : Mok P w K mg base (He.ga K "Ring") "_first_row" 1 1 (sd_Ring__first_row _) := ⟨T.cRing, _, _, _, He.meth_ok (c.fact 11 (f := .meth "Ring" "_first_row") rfl), fnIn_of D_Ring__first_row, B_Ring__first_row, O_Ring__first_row⟩
  have O_of := ok_of (P := P) (w := w) (base := base) T F_dip D_of (kp_of _)
  have B_of : Binds K fd_of P_of [] := D_of.bindsN fun _ _ _ _ _ _ us hl => match us, hl with | [_, _], _ => rfl
  have F_of : Fok P w K mg base "_law_of" 2 2 (sd_of _) := ⟨_, _, _, He.glo_ok KX G (c.fact 12 (f := .glo "_law_of") rfl), D_of.kp, B_of, O_of⟩
  have O_vast := ok_vast (P := P) (w := w) (base := base) T F_dip D_vast (kp_vast _)
  have B_vast : Binds K fd_vast P_vast [] := D_vast.bindsN fun _ _ _ _ _ _ us hl => match us, hl with | [_, _], _ => rfl
  have F_vast : Fok P w K mg base "_law_vast" 2 2 (sd_vast _) := ⟨_, _, _, He.glo_ok KX G (c.fact 13 (f := .glo "_law_vast") rfl), D_vast.kp, B_vast, O_vast⟩
  have O_is_from_to := ok_is_from_to (P := P) (w := w) (base := base) T F_is_whole D_is_from_to (kp_is_from_to _)
  have B_is_from_to : Binds K fd_is_from_to P_is_from_to [] := D_is_from_to.bindsN fun _ _ _ _ _ _ us hl => match us, hl with | [_, _, _], _ => rfl
  have F_is_from_to : Fok P w K mg base "is_from_to" 2 3 (sd_is_from_to _) := ⟨_, _, _, He.glo_ok KX G (c.fact 14 (f := .glo "is_from_to") rfl), D_is_from_to.kp, B_is_from_to, O_is_from_to⟩
  have O_is_free_name := ok_is_free_name (P := P) (w := w) (base := base) T F_is_name D_is_free_name (kp_is_free_name _)
  have B_is_free_name : Binds K fd_is_free_name P_is_free_name [] := D_is_free_name.bindsN fun _ _ _ _ _ _ us hl => match us, hl with | [_, _], _ => rfl
  have F_is_free_name : Fok P w K mg base "is_free_name" 2 2 (sd_is_free_name _) := ⟨_, _, _, He.glo_ok KX G (c.fact 15 (f := .glo "is_free_name") rfl), D_is_free_name.kp, B_is_free_name, O_is_free_name⟩
  have O_written_number := ok_written_number (P := P) (w := w) (base := base) T F_is_written_number D_written_number (kp_written_number _)
  have B_written_number : Binds K fd_written_number P_written_number [] := D_written_number.bindsN fun _ _ _ _ _ _ us hl => match us, hl with | [_], _ => rfl
  have F_written_number : Fok P w K mg base "written_number" 2 1 (sd_written_number _) := ⟨_, _, _, He.glo_ok KX G (c.fact 16 (f := .glo "written_number") rfl), D_written_number.kp, B_written_number, O_written_number⟩
  have O_other_crew := ok_other_crew (P := P) (w := w) (base := base) T F_dip D_other_crew (kp_other_crew _)
  have B_other_crew : Binds K fd_other_crew P_other_crew [] := D_other_crew.bindsN fun _ _ _ _ _ _ us hl => match us, hl with | [_, _, _], _ => rfl
  have F_other_crew : Fok P w K mg base "_law_other_crew" 2 3 (sd_other_crew _) := ⟨_, _, _, He.glo_ok KX G (c.fact 17 (f := .glo "_law_other_crew") rfl), D_other_crew.kp, B_other_crew, O_other_crew⟩
  have O_Ring___str__ := ok_Ring___str__ (P := P) (w := w) (base := base) T F_Ring__first_row F_host_row D_Ring___str__ (kp_Ring___str__ _)
  have B_Ring___str__ : Binds K fd_Ring___str__ P_Ring___str__ [] := D_Ring___str__.bindsN fun _ _ _ _ _ _ us hl => match us, hl with | [_], _ => rfl
  have F_Ring___str__ : Mok P w K mg base (He.ga K "Ring") "__str__" 2 1 (sd_Ring___str__ _) := ⟨T.cRing, _, _, _, He.meth_ok (c.fact 18 (f := .meth "Ring" "__str__") rfl), fnIn_of D_Ring___str__, B_Ring___str__, O_Ring___str__⟩
  have O_place := ok_place (P := P) (w := w) (base := base) T F_dip F_of F_vast D_place (kp_place _)
  have B_place : Binds K fd_place P_place [] := D_place.bindsN fun _ _ _ _ _ _ us hl => match us, hl with | [_, _, _], _ => rfl
  have F_place : Fok P w K mg base "_law_place" 3 3 (sd_place _) := ⟨_, _, _, He.glo_ok KX G (c.fact 19 (f := .glo "_law_place") rfl), D_place.kp, B_place, O_place⟩
  have O_title := ok_title (P := P) (w := w) (base := base) T F_dip F_of D_title (kp_title _)
  have B_title : Binds K fd_title P_title [] := D_title.bindsN fun _ _ _ _ _ _ us hl => match us, hl with | [_], _ => rfl
  have F_title : Fok P w K mg base "_law_title" 3 1 (sd_title _) := ⟨_, _, _, He.glo_ok KX G (c.fact 20 (f := .glo "_law_title") rfl), D_title.kp, B_title, O_title⟩
  have O_rule := ok_rule (P := P) (w := w) (base := base) T F_dip F_of D_rule (kp_rule _)
  have B_rule : Binds K fd_rule P_rule [] := D_rule.bindsN fun _ _ _ _ _ _ us hl => match us, hl with | [_], _ => rfl
  have F_rule : Fok P w K mg base "_law_rule" 3 1 (sd_rule _) := ⟨_, _, _, He.glo_ok KX G (c.fact 21 (f := .glo "_law_rule") rfl), D_rule.kp, B_rule, O_rule⟩
  have O_are_free_marks := ok_are_free_marks (P := P) (w := w) (base := base) T F_is_ascending F_is_from_to D_are_free_marks (kp_are_free_marks _)
  have B_are_free_marks : Binds K fd_are_free_marks P_are_free_marks [] := D_are_free_marks.bindsN fun _ _ _ _ _ _ us hl => match us, hl with | [_, _, _], _ => rfl
  have F_are_free_marks : Fok P w K mg base "are_free_marks" 3 3 (sd_are_free_marks _) := ⟨_, _, _, He.glo_ok KX G (c.fact 22 (f := .glo "are_free_marks") rfl), D_are_free_marks.kp, B_are_free_marks, O_are_free_marks⟩
  have O_written_host := ok_written_host (P := P) (w := w) (base := base) T F_written_number D_written_host (kp_written_host _)
  have B_written_host : Binds K fd_written_host P_written_host [] := D_written_host.bindsN fun _ _ _ _ _ _ us hl => match us, hl with | [_], _ => rfl
  have F_written_host : Fok P w K mg base "written_host" 3 1 (sd_written_host _) := ⟨_, _, _, He.glo_ok KX G (c.fact 23 (f := .glo "written_host") rfl), D_written_host.kp, B_written_host, O_written_host⟩
  have O_value := ok_value (P := P) (w := w) (base := base) T F_of D_value (kp_value _)
  have B_value : Binds K fd_value P_value [] := D_value.bindsN fun _ _ _ _ _ _ us hl => match us, hl with | [_], _ => rfl
  have F_value : Fok P w K mg base "_law_value" 3 1 (sd_value _) := ⟨_, _, _, He.glo_ok KX G (c.fact 24 (f := .glo "_law_value") rfl), D_value.kp, B_value, O_value⟩
  have O_width := ok_width (P := P) (w := w) (base := base) T F_dip F_vast D_width (kp_width _)
  have B_width : Binds K fd_width P_width [] := D_width.bindsN fun _ _ _ _ _ _ us hl => match us, hl with | [_], _ => rfl
  have F_width : Fok P w K mg base "_law_width" 3 1 (sd_width _) := ⟨_, _, _, He.glo_ok KX G (c.fact 25 (f := .glo "_law_width") rfl), D_width.kp, B_width, O_width⟩
  have O_titles := ok_titles (P := P) (w := w) (base := base) T F_dip F_title D_titles (kp_titles _)
  have B_titles : Binds K fd_titles P_titles [] := D_titles.bindsN fun _ _ _ _ _ _ us hl => match us, hl with | [_, _], _ => rfl
  have F_titles : Fok P w K mg base "_law_titles" 4 2 (sd_titles _) := ⟨_, _, _, He.glo_ok KX G (c.fact 26 (f := .glo "_law_titles") rfl), D_titles.kp, B_titles, O_titles⟩
  have O_is_next_host := ok_is_next_host (P := P) (w := w) (base := base) T F_are_free_marks F_is_free_name F_is_name D_is_next_host (kp_is_next_host _)
  have B_is_next_host : Binds K fd_is_next_host P_is_next_host [] := D_is_next_host.bindsN fun _ _ _ _ _ _ us hl => match us, hl with | [_, _, _], _ => rfl
  have F_is_next_host : Fok P w K mg base "is_next_host" 4 3 (sd_is_next_host _) := ⟨_, _, _, He.glo_ok KX G (c.fact 27 (f := .glo "is_next_host") rfl), D_is_next_host.kp, B_is_next_host, O_is_next_host⟩
  have O_pair_right := ok_pair_right (P := P) (w := w) (base := base) T F_Ring___eq__ D_pair_right (kp_pair_right _)
  have B_pair_right : Binds K fd_pair_right P_pair_right [] := D_pair_right.bindsN fun _ _ _ _ _ _ us hl => match us, hl with | [_, _, _], _ => rfl
  have F_pair_right : Fgd P w K mg base "_law_pair_right" 4 3 (sd_pair_right _) := ⟨_, _, _, He.glo_ok KX G (c.fact 28 (f := .glo "_law_pair_right") rfl), D_pair_right.kp, B_pair_right, O_pair_right⟩
  have O_yards := ok_yards (P := P) (w := w) (base := base) T F_dip F_of F_titles D_yards (kp_yards _)
  have B_yards : Binds K fd_yards P_yards [] := D_yards.bindsN fun _ _ _ _ _ _ us hl => match us, hl with | [_, _], _ => rfl
  have F_yards : Fok P w K mg base "_law_yards" 5 2 (sd_yards _) := ⟨_, _, _, He.glo_ok KX G (c.fact 29 (f := .glo "_law_yards") rfl), D_yards.kp, B_yards, O_yards⟩
  have O_check_hosts := ok_check_hosts (P := P) (w := w) (base := base) T F_is_next_host D_check_hosts (kp_check_hosts _)
  have B_check_hosts : Binds K fd_check_hosts P_check_hosts [] := D_check_hosts.bindsN fun _ _ _ _ _ _ us hl => match us, hl with | [_, _], _ => rfl
  have F_check_hosts : Fok P w K mg base "check_hosts" 5 2 (sd_check_hosts _) := ⟨_, _, _, He.glo_ok KX G (c.fact 30 (f := .glo "check_hosts") rfl), D_check_hosts.kp, B_check_hosts, O_check_hosts⟩
  have O_band := ok_band (P := P) (w := w) (base := base) T F_dip F_free F_place F_titles F_yards D_band (kp_band _)
  have B_band : Binds K fd_band P_band [] := D_band.bindsN fun _ _ _ _ _ _ us hl => match us, hl with | [_, _, _, _], _ => rfl
  have F_band : Fok P w K mg base "_law_band" 6 4 (sd_band _) := ⟨_, _, _, He.glo_ok KX G (c.fact 31 (f := .glo "_law_band") rfl), D_band.kp, B_band, O_band⟩
  have O_Ring___init__ := ok_Ring___init__ (P := P) (w := w) (base := base) T F_check_hosts F_is_from_to F_is_word_of D_Ring___init__ (kp_Ring___init__ _)
  have B_Ring___init__ : Binds K fd_Ring___init__ P_Ring___init__ [] := D_Ring___init__.bindsN fun _ _ _ _ _ _ us hl => match us, hl with | [_, _, _, _, _, _, _, _], _ => rfl
  have F_Ring : Kok P w K mg base "Ring" (He.ga K "Ring") 6 8 (sd_Ring___init__ _) := ⟨_, _, _, He.glo_ok KX G (c.fact 38 (f := .glo "Ring") rfl), He.mkr_ok (c.fact 40 (f := .mkr "Ring") rfl), B_Ring___init__, O_Ring___init__⟩
  have FP_Ring : KokP P w K mg base "Ring" (He.ga K "Ring") 6 8 ["hosts", "pending", "read", "write", "spread", "factor", "points"] [6, 5, 4, 3, 2, 1, 0] (sd_Ring___init__ _) := ⟨_, _, _, He.glo_ok KX G (c.fact 38 (f := .glo "Ring") rfl), He.mkr_ok (c.fact 40 (f := .mkr "Ring") rfl), fun s us ws l1 l2 => by
    obtain ⟨oc, od, dV, kV, doc, pm, an, cdv, ct, osl, rfl, lk, hcd, hD, hK⟩ := D_Ring___init__.ex
    rcases hD with ⟨_, rfl⟩ | ⟨e, _⟩
    · exact .of_eq (match us, ws, l1, l2 with | [_], [_, _, _, _, _, _, _], _, _ => rfl)
    · exact absurd rfl e, O_Ring___init__⟩
  have O_build := ok_build (P := P) (w := w) (base := base) T F_band F_rule D_build (kp_build _)
  have B_build : Binds K fd_build P_build [] := D_build.bindsN fun _ _ _ _ _ _ us hl => match us, hl with | [_, _, _, _], _ => rfl
  have F_build : Fok P w K mg base "_law_build" 7 4 (sd_build _) := ⟨_, _, _, He.glo_ok KX G (c.fact 33 (f := .glo "_law_build") rfl), D_build.kp, B_build, O_build⟩
  have O_Ring_read := ok_Ring_read (P := P) (w := w) (base := base) T F_Ring F_written_host F_written_number D_Ring_read (kp_Ring_read _)
  have B_Ring_read : Binds K fd_Ring_read P_Ring_read [] := D_Ring_read.bindsN fun _ _ _ _ _ _ us hl => match us, hl with | [_, _], _ => rfl
  have C_Ring_read : Cok P w K mg base "Ring" (He.ga K "Ring") "read" 8 2 (sd_Ring_read _) := ⟨He.glo_ok KX G (c.fact 38 (f := .glo "Ring") rfl), _, _, _, _, _, hr_Ring_read, hc_Ring_read, B_Ring_read, O_Ring_read⟩
  have O_other := ok_other (P := P) (w := w) (base := base) T F_build F_dip F_other_crew D_other (kp_other _)
  have B_other : Binds K fd_other P_other [] := D_other.bindsN fun _ _ _ _ _ _ us hl => match us, hl with | [_, _], _ => rfl
  have F_other : Fok P w K mg base "_law_other" 8 2 (sd_other _) := ⟨_, _, _, He.glo_ok KX G (c.fact 34 (f := .glo "_law_other") rfl), D_other.kp, B_other, O_other⟩
  have O_made := ok_made (P := P) (w := w) (base := base) T F_Ring FP_Ring C_Ring_read F_dip F_sheet D_made (kp_made _)
  have B_made : Binds K fd_made P_made [] := D_made.bindsN fun _ _ _ _ _ _ us hl => match us, hl with | [_, _], _ => rfl
  have F_made : Fok P w K mg base "_law_made" 9 2 (sd_made _) := ⟨_, _, _, He.glo_ok KX G (c.fact 35 (f := .glo "_law_made") rfl), D_made.kp, B_made, O_made⟩
  have O_right := ok_right (P := P) (w := w) (base := base) T F_Ring___str__ F_build F_made F_of F_other F_pair_right F_sheet F_value F_width D_right (kp_right _)
  have B_right : Binds K fd_right P_right [] := D_right.bindsN fun _ _ _ _ _ _ us hl => match us, hl with | [_], _ => rfl
  have F_right : Fgd P w K mg base "_law_right" 10 1 (sd_right _) := ⟨_, _, _, He.glo_ok KX G (c.fact 36 (f := .glo "_law_right") rfl), D_right.kp, B_right, O_right⟩
  exact ok_law T F_filled F_right D_law (kp_law _)
end
end L08
set_option maxRecDepth 100000
set_option maxHeartbeats 4000000
namespace DL
open PySem PySem.Spec PyProof.Rows L2
section
variable {P : Program} {w : World} {K : PySem.W.Frag} {mg mb : Str → Option Value} {k : Nat} {l c : Addr} {fd : FuncData} {x : Str} {sp : Sp} {s : Shared} {us : List Value} {ns : List Int}
/-- nothing but the cell c is told of, and that is no object of the text -/
structure Lone (P : Program) (w : World) (K : PySem.W.Frag) (s : Shared) (c : Addr) (T : Hp) : Prop where
  only : Only T
  hok : HOk P w T s.heap
  one : ∀ b, T b ≠ none → b = c
  out : T c ≠ none → K.lookup c = none
theorem Lone.env {T : Hp} (L : Lone P w K s c T) (KX : K.In s.heap) (g1 : s.heap.Ns mainGlobals mg) (g2 : s.heap.Ns builtinsNs mb) (g3 : ∀ x : Str, x ≠ "__name__" → mb x = bootBuiltins x) (g4 : s.heap.NoLimit) (g5 : s.gens = #[])
    (hc : s.heap.get? c = some { cls := .type "list", data := .seq us.toArray }) : Env0 P w K mg (hidT s.heap T) callerA [] s T := by
  have free : ∀ {b : Addr} {o : Obj} {es : Array DictEntry} {n : Nat}, s.heap.get? b = some o → o.data = .dict es n → T b = none := by
    intro b o es n e d
    by_cases q : T b = none
    · exact q
    · have eb := L.one b q
      rw [eb, hc] at e
      cases e
      cases d
  have space : ∀ {b : Addr} {m : Str → Option Value}, s.heap.Ns b m → (hidT s.heap T).Ns b m := by
    rintro b m ⟨o, es, n, e, d, r⟩
    exact ⟨o, es, n, hidT_get e (free e d), d, r⟩
  have inK : K.In (hidT s.heap T) := by
    intro b o e
    refine hidT_get (KX b o e) ?_
    by_cases q : T b = none
    · exact q
    · have eb := L.one b q
      rw [eb] at q e
      rw [L.out q] at e
      cases e
  obtain ⟨mc, n1, n2⟩ := g4
  exact ⟨rfl, ⟨inK, space g1, ⟨mb, space g2, g3⟩, ⟨mc, space n1, n2⟩⟩, fun b o e => of_hidT e, Nat.le_of_eq (hidT_size _ _), trivial, fun b hb => (nomatch (show b ∈ ([] : List Addr) from hb)), L.hok, .of_eq g5⟩
theorem Lone.run {T : Hp} (L : Lone P w K s c T) (e0 : ∀ (base : Heap), FnG P w K mg base k l fd [x] sp) (ev : Env0 P w K mg (hidT s.heap T) callerA [] s T) (hr : Room k callerA) (bi : BindsTo s fd ⟨[.ref c], []⟩ [(x, .ref c)])
    (pr : sp [.ref c] T (fun v _ => v = .bl true) fun _ _ _ => False) : codeAny (model P w) callerA (.call (.ref l) ⟨[.ref c], []⟩) (fun r s' => r = .ok (.ret (.bool true)) ∧ OldK s.heap s'.heap ∧ s'.os = s.os ∧ AllBare s'.gens) s := by
  have one : Vals [V.ref c] [Value.ref c] := .cons rfl .nil
  refine codeAny_mono ((e0 _).run callerA [] s T ⟨[.ref c], []⟩ [.ref c] [.ref c] _ _ hr rfl ev bi one pr) ?_
  intro r s' z
  match r, z with
  | .error e, z =>
    obtain ⟨_, _, _, _, _, _, _, _, _, _, _, _, f⟩ := z
    exact f.elim
  | .ok .next, z => exact z.elim
  | .ok .brk, z => exact z.elim
  | .ok .cont, z => exact z.elim
  | .ok (.ret u), z =>
    obtain ⟨v, T', z1, z2, z3, z4, z5, z6⟩ := z
    have e6 : v = .bl true := z6
    subst e6
    have e5 : u = Value.bool true := z5
    subst e5
    refine ⟨rfl, OldK.of_keep ?_, z1, z2⟩
    intro b o e
    rcases L.only b with q | ⟨ob, xs, q⟩
    · exact z3.keep b o e q (fun m => nomatch (show b ∈ ([] : List Addr) from m)) (by simp)
    · obtain ⟨a1, _⟩ := L.hok b _ q
      obtain ⟨a2, _⟩ := z4 b _ (z3.frzs b ob _ q)
      rw [e] at a1
      cases a1
      exact a2
theorem end_G (KX : K.In s.heap) (g1 : s.heap.Ns mainGlobals mg) (g2 : s.heap.Ns builtinsNs mb) (g3 : ∀ x : Str, x ≠ "__name__" → mb x = bootBuiltins x) (g4 : s.heap.NoLimit) (g5 : s.gens = #[])
    (hc : s.heap.get? c = some { cls := .type "list", data := .seq us.toArray }) (hi : IntsAre us ns) (hz : ns.length ≤ sizeLine) (hr : Room k callerA) (F : ∀ base : Heap, FnG P w K mg base k l fd [x] sp) (bi : ∀ (s : Shared) (u : Value), BindsTo s fd ⟨[u], []⟩ [(x, u)])
    (pr : ∀ T : Hp, SqL K T c (ns.map V.int) → sp [.ref c] T (fun v _ => v = .bl true) fun _ _ _ => False) :
    codeAny (model P w) callerA (.call (.ref l) ⟨[.ref c], []⟩) (fun r s' => r = .ok (.ret (.bool true)) ∧ OldK s.heap s'.heap ∧ s'.os = s.os ∧ AllBare s'.gens) s := by
  have rv := vals_ints hi
  have fin : ∀ T : Hp, Lone P w K s c T → SqL K T c (ns.map V.int) → _ := fun T L q => L.run F (L.env KX g1 g2 g3 g4 g5 hc) hr (bi s (.ref c)) (pr T q)
  cases hk : K.lookup c with
  | some o =>
    have e := KX c o hk
    rw [hc] at e
    cases e
    refine fin (fun _ => none) ⟨fun _ => .inl rfl, fun b u z => (nomatch z), fun b z => absurd rfl z, fun z => absurd rfl z⟩ (.inr ⟨_, us.toArray, _, hk, rfl, rfl, rfl, ?_, by simpa using rv⟩)
    rw [List.size_toArray, hi.length]; exact hz
  | none =>
    let T : Hp := fun b => if b = c then some (.frz { cls := .type "list", data := .seq us.toArray } (.lst (ns.map V.int))) else none
    have Tc : T c = some (.frz { cls := .type "list", data := .seq us.toArray } (.lst (ns.map V.int))) := if_pos rfl
    have Tn : ∀ b, b ≠ c → T b = none := fun b hb => if_neg hb
    refine fin T ⟨fun b => ?_, fun b u z => ?_, fun b z => ?_, fun _ => hk⟩ (.inl (.inr ⟨_, Tc⟩))
    · by_cases hb : b = c
      · rw [hb]; exact .inr ⟨_, _, Tc⟩
      · exact .inl (Tn b hb)
    · by_cases hb : b = c
      · rw [hb, Tc] at z
        cases z
        rw [hb]
        exact ⟨hc, by rw [List.length_map]; exact hz, us, _, rv, hc⟩
      · rw [Tn b hb] at z; cases z
    · by_cases hb : b = c
      · exact hb
      · exact absurd (Tn b hb) z
end
end DL
set_option maxRecDepth 100000
set_option maxHeartbeats 4000000
namespace L08
open PySem PySem.Spec PyProof.Rows L2 DL R
theorem law_promise {K : PySem.W.Frag} {C : Addr} {T : Hp} {a : Addr} {ns : List Int} (hS : SqL K T a (ns.map V.int)) (h63 : ns.length ≤ 63) (hb : ∀ n ∈ ns, Builtin.Int.intBits n ≤ 1048576) : spOf K 1 (sd_law C) [.ref a] T (fun v _ => v = .bl true) fun _ _ _ => False :=
  ⟨[.lsf (ns.map D.int)], fun _ => none, fun d _ => d = .bl true, fun _ _ _ _ => False, T, rfl, .cons (.lsf hS (dn_ints ns)) .nil, ⟨Ext.refl T, fun c x e => nomatch e⟩, ⟨ns, rfl, h63, hb, fun _ => rfl⟩,
    fun v d _ _ _ _ _ r e => by subst e; exact r.inv_bl, fun _ _ _ _ _ _ _ _ _ _ z => z⟩
end L08
open PySem PySem.W PySem.Calls PyProof.Rows
theorem PySem.Challenge.cw_ringshares_k08_rings_compared_holds : PySem.Challenge.rw_ringshares_k08_rings_compared.Holds := by
  w_on; o_law
  refine HandSHeadRun.head_any (r := OpenLaw.row PySem.Challenge.rw_ringshares_k08_rings_compared) (q := view (OpenLaw.row PySem.Challenge.rw_ringshares_k08_rings_compared).prog [61]) (H := L08.hkA) (ob := L08.obA) (M := 9000) (loose := L08.nmA) (d := HandSHeadRun.topDef (OpenLaw.row PySem.Challenge.rw_ringshares_k08_rings_compared).prog 61) (kwd := []) L08.obA_eq
    (by kernel_rfl) (fun s => by kernel_rfl) L08.runA (by kernel_rfl) (by kernel_rfl) (by kernel_rfl) (by rfl) (by first | assumption | decide +kernel) (by decide +kernel) ⟨rfl, rfl, rfl, rfl, rfl, by decide +kernel⟩ ?hw ?hc
  case hw => w_witness2
  case hc =>
    refine Att.attach_callB (l := PySem.Challenge.rw_ringshares_k08_rings_compared) (n := 63) rfl (by kernel_rfl) fun w s₀ s₁ mg mb fa o pm cd doc a vs ns G Y ho hd hcd hmg hobj hints hlen hbits hg => ?_
    obtain ⟨K, KX, c⟩ := Y
    obtain ⟨fd, hbnd, F⟩ := L08.facts (P := (PySem.Challenge.rw_ringshares_k08_rings_compared).prog) KX G.T.g c
    have e1 : (HandSHeadRun.topDef (OpenLaw.row PySem.Challenge.rw_ringshares_k08_rings_compared).prog 61).name = ("law" : PySem.Str) := by kernel_rfl
    rw [e1] at hmg
    have e2 := hmg.symm.trans (He.glo_ok KX G.T.g (c.fact 37 (f := .glo "law") rfl))
    cases e2
    exact DL.end_G KX G.T.g G.T.b G.T.builtins G.T.nolimit hg hobj hints (Nat.le_trans hlen (by decide)) ⟨rfl, by decide, by decide⟩ F hbnd fun T hS => L08.law_promise hS hlen hbits
