import PyProof.Rows.All
import Wide.All
import OpenK.AllK
import Wide.FinOn
import KE.KStateDown
import KE.KNest
import KE.KNestM
import HandS.ForMost
import HandS.Exc
import HandS.More
import HandS.WordsExc
import HandS.Defaults
import HandS.Evl
import HandS.IsInst
import HandS.DictComp
import HandS.Zip
import HandS.TupAny
import HandS.Wide
import HandS.NoneIn
import HandS.Replace
import HandS.Deep
import HandS.DeepEq
import HandS.SetKeys
import HandS.SortInts
import HandS.Flow
import HandS.Style
import HandS.Walk
import HandS.Strs
import HandS.SetFor
import HandS.Head0
import HandS.Head1
import HandS.Head2
import HandS.HeadEnd
import HandS.HeadHook1
import HandS.HeadHook2
import HandS.HeadHook3
import HandS.HeadHook4
import HandS.TryOnly
import HandS.DictTup
import HandS.FStr
import HandS.ExcOwn
import HandS.RaiseMore
import PySem.Challenge.RW_joinmarks_k02_where_rows_lead
set_option Elab.async false
set_option linter.all false
set_option maxRecDepth 100000
set_option maxHeartbeats 4000000

namespace J
open PySem PySem.Spec PyProof.Rows L2
def top (i : Nat) : Stmt := PySem.Challenge.pw_joinmarks_k02_where_rows_lead.main.body.getD i (.Pass ⟨0, 0, 0, 0⟩)
abbrev s_is_number : Stmt := top 8
abbrev s_is_name : Stmt := top 9
abbrev s_is_place : Stmt := top 10
abbrev s__fits : Stmt := top 11
abbrev s_is_row : Stmt := top 12
abbrev s_has_goal : Stmt := top 13
abbrev s_refuse_wrong : Stmt := top 14
abbrev s_reached : Stmt := top 16
abbrev s_comers : Stmt := top 17
abbrev s_next_places : Stmt := top 18
abbrev s_places_found : Stmt := top 19
abbrev s_comers_to : Stmt := top 20
abbrev s__law_cell_at : Stmt := top 22
abbrev s__law_whole : Stmt := top 23
abbrev s__law_mixed : Stmt := top 24
abbrev s__law_names_by : Stmt := top 25
abbrev s__law_operand_by : Stmt := top 26
abbrev s__law_row_by : Stmt := top 27
abbrev s__law_size_by : Stmt := top 28
abbrev s__law_rows_by : Stmt := top 29
abbrev s__law_values_by : Stmt := top 30
abbrev s__law_own : Stmt := top 31
abbrev s__law_asks : Stmt := top 32
abbrev s__law_next : Stmt := top 33
abbrev s__law_reached : Stmt := top 34
abbrev s__law_numbers : Stmt := top 35
abbrev s_law : Stmt := top 36
abbrev FnP (K : PySem.W.Frag) (x : Str) (st : Stmt) (f : Addr) (fd : FuncData) : Prop := FunD K x x (defArgs st) (defBody st) (defScope st) [] [] f fd
def fdOf (K : PySem.W.Frag) (x : Str) : FuncData := match K.lookup (He.ga K x) with
  | some ⟨_, _, .func fd, _⟩ => fd
  | _ => default
def dD (x : Str) (st : Stmt) : He.DefD := ⟨(x, none), x, x, defArgs st, defBody st, defScope st, [], []⟩
def dM (c m qn : Str) (st : Stmt) : He.DefD := ⟨(c, some m), m, qn, defArgs st, defBody st, defScope st, [], []⟩
abbrev MtP (K : PySem.W.Frag) (m qn : Str) (st : Stmt) (f : Addr) (fd : FuncData) : Prop := FunD K m qn (defArgs st) (defBody st) (defScope st) [] [] f fd
def fdOfM (K : PySem.W.Frag) (c m : Str) : FuncData := match K.lookup (He.ma K (He.ga K c) m) with
  | some ⟨_, _, .func fd, _⟩ => fd
  | _ => default
def fn0 : List He.DefD := [dD "is_number" s_is_number, dD "is_name" s_is_name, dD "is_place" s_is_place, dD "_fits" s__fits, dD "is_row" s_is_row, dD "has_goal" s_has_goal, dD "refuse_wrong" s_refuse_wrong, dD "reached" s_reached, dD "comers" s_comers, dD "next_places" s_next_places, dD "places_found" s_places_found, dD "comers_to" s_comers_to, dD "_law_cell_at" s__law_cell_at, dD "_law_whole" s__law_whole, dD "_law_mixed" s__law_mixed, dD "_law_names_by" s__law_names_by, dD "_law_operand_by" s__law_operand_by, dD "_law_row_by" s__law_row_by, dD "_law_size_by" s__law_size_by, dD "_law_rows_by" s__law_rows_by]
def fn1 : List He.DefD := [dD "_law_values_by" s__law_values_by, dD "_law_own" s__law_own, dD "_law_asks" s__law_asks, dD "_law_next" s__law_next, dD "_law_reached" s__law_reached, dD "_law_numbers" s__law_numbers, dD "law" s_law]
def fn : List He.DefD := fn0 ++ fn1
def fa0 : List He.Fa := [.glo "is_number", .glo "is_name", .glo "is_place", .glo "_fits", .glo "is_row", .glo "has_goal", .glo "refuse_wrong", .glo "reached", .glo "comers", .glo "next_places", .glo "places_found", .glo "comers_to", .glo "_law_cell_at", .glo "_law_whole", .glo "_law_mixed", .glo "_law_names_by", .glo "_law_operand_by", .glo "_law_row_by", .glo "_law_size_by", .glo "_law_rows_by", .glo "_law_values_by", .glo "_law_own", .glo "_law_asks", .glo "_law_next", .glo "_law_reached", .glo "_law_numbers", .glo "law", .free "len", .free "isinstance", .free "range"]
def fa1 : List He.Fa := [.free "list", .free "tuple", .free "int", .free "str", .free "bool", .free "sorted", .free "min", .free "max", .free "zip", .free "enumerate", .free "all", .glo "PARTS", .int "BEGINNING" (-1), .int "LONGEST_NAME" (8), .glo "RowError", .exc "RowError", .glo "BadRow", .exc "BadRow", .glo "BadPlace", .exc "BadPlace", .exm "RowError" "RowError" true, .exm "RowError" "BadRow" false, .exm "RowError" "BadPlace" false, .exm "BadRow" "RowError" true, .exm "BadRow" "BadRow" true, .exm "BadRow" "BadPlace" false, .exm "BadPlace" "RowError" true, .exm "BadPlace" "BadRow" false, .exm "BadPlace" "BadPlace" true]
def fa : List He.Fa := fa0 ++ fa1
def parts : List (Str × List Str) := [("set", ["name", "operand"]), ("add", ["name", "operand", "operand"]), ("sub", ["name", "operand", "operand"]), ("less", ["name", "operand", "operand"]), ("say", ["operand"]), ("jump", ["goal"]), ("nought", ["operand", "goal"]), ("stop", [])]
def ts : List He.Tab := [(fun K => He.ga K "PARTS", parts.map (·.1))]
def tupAt (K : PySem.W.Frag) (a : Addr) (vs : List V) : Bool := match K.lookup a with
  | some ⟨.type c, _, .seq its _, _⟩ => decide (c = "tuple") && (decide (its.size ≤ sizeLine) && He.relAll vs its.toList)
  | _ => false
def partsA (K : PySem.W.Frag) : Bool := parts.all fun q => match PySem.W.nsIn K (He.ga K "PARTS") q.1 with
  | some (some (.ref a)) => tupAt K a (q.2.map V.str)
  | _ => false
def keyOfE (e : DictEntry) : Option Str := match e.key with
  | .str z _ => some z
  | _ => none
def keysB (K : PySem.W.Frag) : Bool := match K.lookup (He.ga K "PARTS") with
  | some ⟨_, _, .dict es _, _⟩ => decide (es.toList.map keyOfE = parts.map fun q => some q.1)
  | _ => false
def tupsB (K : PySem.W.Frag) : Bool := true
def partsB (K : PySem.W.Frag) : Bool := partsA K && (keysB K && tupsB K)
abbrev Says (w : World) (h : Heap) (K : PySem.W.Frag) : Prop := He.SaysX fa fn ts [] partsB w h K
/-- what the defs lean on -/
structure Txt (w : World) (K : PySem.W.Frag) (mg : Str → Option Value) : Prop where
  ex : ∃ h : Heap, K.In h ∧ h.Ns mainGlobals mg ∧ Says w h K
theorem fdOf_eq {K : PySem.W.Frag} {x : Str} {st : Stmt} {fd : FuncData} (F : FnP K x st (He.ga K x) fd) : fd = fdOf K x := by
  obtain ⟨oc, od, dV, kV, doc, pm, an, cdv, ct, osl, e, lk, _⟩ := F.ex
  unfold fdOf
  rw [lk]
section
variable {w : World} {K : PySem.W.Frag} {mg : Str → Option Value}
theorem Txt.dfn (T : Txt w K mg) (i : Nat) {x : Str} {st : Stmt} (h : fn[i]? = some (dD x st)) : FnP K x st (He.ga K x) (fdOf K x) := by
  obtain ⟨h0, KX, G, c⟩ := T.ex
  obtain ⟨fd, F⟩ := c.t.d.def_ i h
  have F2 : FnP K x st (He.ga K x) fd := F
  rw [← fdOf_eq F2]
  exact F2
theorem fdOfM_eq {K : PySem.W.Frag} {c m qn : Str} {st : Stmt} {fd : FuncData} (F : MtP K m qn st (He.ma K (He.ga K c) m) fd) : fd = fdOfM K c m := by
  obtain ⟨oc, od, dV, kV, doc, pm, an, cdv, ct, osl, e, lk, _⟩ := F.ex
  unfold fdOfM
  rw [lk]
theorem Txt.mtd (T : Txt w K mg) (i : Nat) {c m qn : Str} {st : Stmt} (h : fn[i]? = some (dM c m qn st)) : MtP K m qn st (He.ma K (He.ga K c) m) (fdOfM K c m) := by
  obtain ⟨h0, KX, G, cc⟩ := T.ex
  obtain ⟨fd, F⟩ := cc.t.d.def_ i h
  have F2 : MtP K m qn st (He.ma K (He.ga K c) m) fd := F
  rw [← fdOfM_eq F2]
  exact F2
theorem Txt.cls (T : Txt w K mg) (i : Nat) {x : Str} (h : fa[i]? = some (.cls x)) : Cls K (He.ga K x) := by
  obtain ⟨h0, KX, G, c⟩ := T.ex
  exact He.cls_ok (c.t.d.fact i h)
theorem Txt.mkr (T : Txt w K mg) (i : Nat) {x : Str} (h : fa[i]? = some (.mkr x)) : Mk K (He.ga K x) (He.ma K (He.ga K x) "__init__") := by
  obtain ⟨h0, KX, G, c⟩ := T.ex
  exact He.mkr_ok (c.t.d.fact i h)
theorem Txt.noat (T : Txt w K mg) (i : Nat) {x f : Str} (h : fa[i]? = some (.noat x f)) : NoAttr K (He.ga K x) f := by
  obtain ⟨h0, KX, G, c⟩ := T.ex
  exact He.noat_ok (c.t.d.fact i h)
theorem Txt.mth (T : Txt w K mg) (i : Nat) {x m : Str} (h : fa[i]? = some (.meth x m)) : Meth K (He.ga K x) m (He.ma K (He.ga K x) m) := by
  obtain ⟨h0, KX, G, c⟩ := T.ex
  exact He.meth_ok (c.t.d.fact i h)
theorem Txt.strc (T : Txt w K mg) (i : Nat) {x z : Str} (h : fa[i]? = some (.str x z)) : ∃ t, mg x = some (.str z t) := by
  obtain ⟨h0, KX, G, c⟩ := T.ex
  exact He.str_ok KX G (c.t.d.fact i h)
theorem Txt.glo (T : Txt w K mg) (i : Nat) {x : Str} (h : fa[i]? = some (.glo x)) : mg x = some (.ref (He.ga K x)) := by
  obtain ⟨h0, KX, G, c⟩ := T.ex
  exact He.glo_ok KX G (c.t.d.fact i h)
theorem Txt.free (T : Txt w K mg) (i : Nat) {x : Str} (h : fa[i]? = some (.free x)) : mg x = none := by
  obtain ⟨h0, KX, G, c⟩ := T.ex
  exact He.free_ok KX G (c.t.d.fact i h)
theorem Txt.int (T : Txt w K mg) (i : Nat) {x : Str} {n : Int} (h : fa[i]? = some (.int x n)) : ∃ t, mg x = some (.int n t) := by
  obtain ⟨h0, KX, G, c⟩ := T.ex
  exact He.int_ok KX G (c.t.d.fact i h)
theorem Txt.F_is_number (T : Txt w K mg) : FnP K "is_number" s_is_number (He.ga K "is_number") (fdOf K "is_number") := T.dfn 0 rfl
theorem Txt.g_is_number (T : Txt w K mg) : mg "is_number" = some (.ref (He.ga K "is_number")) := T.glo 0 rfl
theorem Txt.b_is_number (T : Txt w K mg) : Binds K (fdOf K "is_number") ["thing"] [] := T.F_is_number.bindsN fun _ _ _ _ _ _ us hl => match us, hl with | [_], _ => rfl
theorem Txt.F_is_name (T : Txt w K mg) : FnP K "is_name" s_is_name (He.ga K "is_name") (fdOf K "is_name") := T.dfn 1 rfl
theorem Txt.g_is_name (T : Txt w K mg) : mg "is_name" = some (.ref (He.ga K "is_name")) := T.glo 1 rfl
theorem Txt.b_is_name (T : Txt w K mg) : Binds K (fdOf K "is_name") ["thing"] [] := T.F_is_name.bindsN fun _ _ _ _ _ _ us hl => match us, hl with | [_], _ => rfl
theorem Txt.F_is_place (T : Txt w K mg) : FnP K "is_place" s_is_place (He.ga K "is_place") (fdOf K "is_place") := T.dfn 2 rfl
theorem Txt.g_is_place (T : Txt w K mg) : mg "is_place" = some (.ref (He.ga K "is_place")) := T.glo 2 rfl
theorem Txt.b_is_place (T : Txt w K mg) : Binds K (fdOf K "is_place") ["thing", "end"] [] := T.F_is_place.bindsN fun _ _ _ _ _ _ us hl => match us, hl with | [_, _], _ => rfl
theorem Txt.F__fits (T : Txt w K mg) : FnP K "_fits" s__fits (He.ga K "_fits") (fdOf K "_fits") := T.dfn 3 rfl
theorem Txt.g__fits (T : Txt w K mg) : mg "_fits" = some (.ref (He.ga K "_fits")) := T.glo 3 rfl
theorem Txt.b__fits (T : Txt w K mg) : Binds K (fdOf K "_fits") ["thing", "part"] [] := T.F__fits.bindsN fun _ _ _ _ _ _ us hl => match us, hl with | [_, _], _ => rfl
theorem Txt.F_is_row (T : Txt w K mg) : FnP K "is_row" s_is_row (He.ga K "is_row") (fdOf K "is_row") := T.dfn 4 rfl
theorem Txt.g_is_row (T : Txt w K mg) : mg "is_row" = some (.ref (He.ga K "is_row")) := T.glo 4 rfl
theorem Txt.b_is_row (T : Txt w K mg) : Binds K (fdOf K "is_row") ["thing"] [] := T.F_is_row.bindsN fun _ _ _ _ _ _ us hl => match us, hl with | [_], _ => rfl
theorem Txt.F_has_goal (T : Txt w K mg) : FnP K "has_goal" s_has_goal (He.ga K "has_goal") (fdOf K "has_goal") := T.dfn 5 rfl
theorem Txt.g_has_goal (T : Txt w K mg) : mg "has_goal" = some (.ref (He.ga K "has_goal")) := T.glo 5 rfl
theorem Txt.b_has_goal (T : Txt w K mg) : Binds K (fdOf K "has_goal") ["row"] [] := T.F_has_goal.bindsN fun _ _ _ _ _ _ us hl => match us, hl with | [_], _ => rfl
theorem Txt.F_refuse_wrong (T : Txt w K mg) : FnP K "refuse_wrong" s_refuse_wrong (He.ga K "refuse_wrong") (fdOf K "refuse_wrong") := T.dfn 6 rfl
theorem Txt.g_refuse_wrong (T : Txt w K mg) : mg "refuse_wrong" = some (.ref (He.ga K "refuse_wrong")) := T.glo 6 rfl
theorem Txt.b_refuse_wrong (T : Txt w K mg) : Binds K (fdOf K "refuse_wrong") ["rows"] [] := T.F_refuse_wrong.bindsN fun _ _ _ _ _ _ us hl => match us, hl with | [_], _ => rfl
theorem Txt.F_reached (T : Txt w K mg) : FnP K "reached" s_reached (He.ga K "reached") (fdOf K "reached") := T.dfn 7 rfl
theorem Txt.g_reached (T : Txt w K mg) : mg "reached" = some (.ref (He.ga K "reached")) := T.glo 7 rfl
theorem Txt.b_reached (T : Txt w K mg) : Binds K (fdOf K "reached") ["rows"] [] := T.F_reached.bindsN fun _ _ _ _ _ _ us hl => match us, hl with | [_], _ => rfl
theorem Txt.F_comers (T : Txt w K mg) : FnP K "comers" s_comers (He.ga K "comers") (fdOf K "comers") := T.dfn 8 rfl
theorem Txt.g_comers (T : Txt w K mg) : mg "comers" = some (.ref (He.ga K "comers")) := T.glo 8 rfl
theorem Txt.b_comers (T : Txt w K mg) : Binds K (fdOf K "comers") ["rows"] [] := T.F_comers.bindsN fun _ _ _ _ _ _ us hl => match us, hl with | [_], _ => rfl
theorem Txt.F_next_places (T : Txt w K mg) : FnP K "next_places" s_next_places (He.ga K "next_places") (fdOf K "next_places") := T.dfn 9 rfl
theorem Txt.g_next_places (T : Txt w K mg) : mg "next_places" = some (.ref (He.ga K "next_places")) := T.glo 9 rfl
theorem Txt.b_next_places (T : Txt w K mg) : Binds K (fdOf K "next_places") ["rows", "place"] [] := T.F_next_places.bindsN fun _ _ _ _ _ _ us hl => match us, hl with | [_, _], _ => rfl
theorem Txt.F_places_found (T : Txt w K mg) : FnP K "places_found" s_places_found (He.ga K "places_found") (fdOf K "places_found") := T.dfn 10 rfl
theorem Txt.g_places_found (T : Txt w K mg) : mg "places_found" = some (.ref (He.ga K "places_found")) := T.glo 10 rfl
theorem Txt.b_places_found (T : Txt w K mg) : Binds K (fdOf K "places_found") ["rows"] [] := T.F_places_found.bindsN fun _ _ _ _ _ _ us hl => match us, hl with | [_], _ => rfl
theorem Txt.F_comers_to (T : Txt w K mg) : FnP K "comers_to" s_comers_to (He.ga K "comers_to") (fdOf K "comers_to") := T.dfn 11 rfl
theorem Txt.g_comers_to (T : Txt w K mg) : mg "comers_to" = some (.ref (He.ga K "comers_to")) := T.glo 11 rfl
theorem Txt.b_comers_to (T : Txt w K mg) : Binds K (fdOf K "comers_to") ["rows"] [] := T.F_comers_to.bindsN fun _ _ _ _ _ _ us hl => match us, hl with | [_], _ => rfl
theorem Txt.F__law_cell_at (T : Txt w K mg) : FnP K "_law_cell_at" s__law_cell_at (He.ga K "_law_cell_at") (fdOf K "_law_cell_at") := T.dfn 12 rfl
theorem Txt.g__law_cell_at (T : Txt w K mg) : mg "_law_cell_at" = some (.ref (He.ga K "_law_cell_at")) := T.glo 12 rfl
theorem Txt.b__law_cell_at (T : Txt w K mg) : Binds K (fdOf K "_law_cell_at") ["_law_script", "_law_k"] [] := T.F__law_cell_at.bindsN fun _ _ _ _ _ _ us hl => match us, hl with | [_, _], _ => rfl
theorem Txt.F__law_whole (T : Txt w K mg) : FnP K "_law_whole" s__law_whole (He.ga K "_law_whole") (fdOf K "_law_whole") := T.dfn 13 rfl
theorem Txt.g__law_whole (T : Txt w K mg) : mg "_law_whole" = some (.ref (He.ga K "_law_whole")) := T.glo 13 rfl
theorem Txt.b__law_whole (T : Txt w K mg) : Binds K (fdOf K "_law_whole") ["_law_found"] [] := T.F__law_whole.bindsN fun _ _ _ _ _ _ us hl => match us, hl with | [_], _ => rfl
theorem Txt.F__law_mixed (T : Txt w K mg) : FnP K "_law_mixed" s__law_mixed (He.ga K "_law_mixed") (fdOf K "_law_mixed") := T.dfn 14 rfl
theorem Txt.g__law_mixed (T : Txt w K mg) : mg "_law_mixed" = some (.ref (He.ga K "_law_mixed")) := T.glo 14 rfl
theorem Txt.b__law_mixed (T : Txt w K mg) : Binds K (fdOf K "_law_mixed") ["_law_cell", "_law_k"] [] := T.F__law_mixed.bindsN fun _ _ _ _ _ _ us hl => match us, hl with | [_, _], _ => rfl
theorem Txt.F__law_names_by (T : Txt w K mg) : FnP K "_law_names_by" s__law_names_by (He.ga K "_law_names_by") (fdOf K "_law_names_by") := T.dfn 15 rfl
theorem Txt.g__law_names_by (T : Txt w K mg) : mg "_law_names_by" = some (.ref (He.ga K "_law_names_by")) := T.glo 15 rfl
theorem Txt.b__law_names_by (T : Txt w K mg) : Binds K (fdOf K "_law_names_by") ["_law_cell"] [] := T.F__law_names_by.bindsN fun _ _ _ _ _ _ us hl => match us, hl with | [_], _ => rfl
theorem Txt.F__law_operand_by (T : Txt w K mg) : FnP K "_law_operand_by" s__law_operand_by (He.ga K "_law_operand_by") (fdOf K "_law_operand_by") := T.dfn 16 rfl
theorem Txt.g__law_operand_by (T : Txt w K mg) : mg "_law_operand_by" = some (.ref (He.ga K "_law_operand_by")) := T.glo 16 rfl
theorem Txt.b__law_operand_by (T : Txt w K mg) : Binds K (fdOf K "_law_operand_by") ["_law_number", "_law_names"] [] := T.F__law_operand_by.bindsN fun _ _ _ _ _ _ us hl => match us, hl with | [_, _], _ => rfl
theorem Txt.F__law_row_by (T : Txt w K mg) : FnP K "_law_row_by" s__law_row_by (He.ga K "_law_row_by") (fdOf K "_law_row_by") := T.dfn 17 rfl
theorem Txt.g__law_row_by (T : Txt w K mg) : mg "_law_row_by" = some (.ref (He.ga K "_law_row_by")) := T.glo 17 rfl
theorem Txt.b__law_row_by (T : Txt w K mg) : Binds K (fdOf K "_law_row_by") ["_law_number", "_law_names", "_law_size"] [] := T.F__law_row_by.bindsN fun _ _ _ _ _ _ us hl => match us, hl with | [_, _, _], _ => rfl
theorem Txt.F__law_size_by (T : Txt w K mg) : FnP K "_law_size_by" s__law_size_by (He.ga K "_law_size_by") (fdOf K "_law_size_by") := T.dfn 18 rfl
theorem Txt.g__law_size_by (T : Txt w K mg) : mg "_law_size_by" = some (.ref (He.ga K "_law_size_by")) := T.glo 18 rfl
theorem Txt.b__law_size_by (T : Txt w K mg) : Binds K (fdOf K "_law_size_by") ["_law_cell"] [] := T.F__law_size_by.bindsN fun _ _ _ _ _ _ us hl => match us, hl with | [_], _ => rfl
theorem Txt.F__law_rows_by (T : Txt w K mg) : FnP K "_law_rows_by" s__law_rows_by (He.ga K "_law_rows_by") (fdOf K "_law_rows_by") := T.dfn 19 rfl
theorem Txt.g__law_rows_by (T : Txt w K mg) : mg "_law_rows_by" = some (.ref (He.ga K "_law_rows_by")) := T.glo 19 rfl
theorem Txt.b__law_rows_by (T : Txt w K mg) : Binds K (fdOf K "_law_rows_by") ["_law_script"] [] := T.F__law_rows_by.bindsN fun _ _ _ _ _ _ us hl => match us, hl with | [_], _ => rfl
theorem Txt.F__law_values_by (T : Txt w K mg) : FnP K "_law_values_by" s__law_values_by (He.ga K "_law_values_by") (fdOf K "_law_values_by") := T.dfn 20 rfl
theorem Txt.g__law_values_by (T : Txt w K mg) : mg "_law_values_by" = some (.ref (He.ga K "_law_values_by")) := T.glo 20 rfl
theorem Txt.b__law_values_by (T : Txt w K mg) : Binds K (fdOf K "_law_values_by") ["_law_script"] [] := T.F__law_values_by.bindsN fun _ _ _ _ _ _ us hl => match us, hl with | [_], _ => rfl
theorem Txt.F__law_own (T : Txt w K mg) : FnP K "_law_own" s__law_own (He.ga K "_law_own") (fdOf K "_law_own") := T.dfn 21 rfl
theorem Txt.g__law_own (T : Txt w K mg) : mg "_law_own" = some (.ref (He.ga K "_law_own")) := T.glo 21 rfl
theorem Txt.b__law_own (T : Txt w K mg) : Binds K (fdOf K "_law_own") ["_law_row"] [] := T.F__law_own.bindsN fun _ _ _ _ _ _ us hl => match us, hl with | [_], _ => rfl
theorem Txt.F__law_asks (T : Txt w K mg) : FnP K "_law_asks" s__law_asks (He.ga K "_law_asks") (fdOf K "_law_asks") := T.dfn 22 rfl
theorem Txt.g__law_asks (T : Txt w K mg) : mg "_law_asks" = some (.ref (He.ga K "_law_asks")) := T.glo 22 rfl
theorem Txt.b__law_asks (T : Txt w K mg) : Binds K (fdOf K "_law_asks") ["_law_row"] [] := T.F__law_asks.bindsN fun _ _ _ _ _ _ us hl => match us, hl with | [_], _ => rfl
theorem Txt.F__law_next (T : Txt w K mg) : FnP K "_law_next" s__law_next (He.ga K "_law_next") (fdOf K "_law_next") := T.dfn 23 rfl
theorem Txt.g__law_next (T : Txt w K mg) : mg "_law_next" = some (.ref (He.ga K "_law_next")) := T.glo 23 rfl
theorem Txt.b__law_next (T : Txt w K mg) : Binds K (fdOf K "_law_next") ["_law_rows", "_law_place"] [] := T.F__law_next.bindsN fun _ _ _ _ _ _ us hl => match us, hl with | [_, _], _ => rfl
theorem Txt.F__law_reached (T : Txt w K mg) : FnP K "_law_reached" s__law_reached (He.ga K "_law_reached") (fdOf K "_law_reached") := T.dfn 24 rfl
theorem Txt.g__law_reached (T : Txt w K mg) : mg "_law_reached" = some (.ref (He.ga K "_law_reached")) := T.glo 24 rfl
theorem Txt.b__law_reached (T : Txt w K mg) : Binds K (fdOf K "_law_reached") ["_law_rows"] [] := T.F__law_reached.bindsN fun _ _ _ _ _ _ us hl => match us, hl with | [_], _ => rfl
theorem Txt.F__law_numbers (T : Txt w K mg) : FnP K "_law_numbers" s__law_numbers (He.ga K "_law_numbers") (fdOf K "_law_numbers") := T.dfn 25 rfl
theorem Txt.g__law_numbers (T : Txt w K mg) : mg "_law_numbers" = some (.ref (He.ga K "_law_numbers")) := T.glo 25 rfl
theorem Txt.b__law_numbers (T : Txt w K mg) : Binds K (fdOf K "_law_numbers") ["_law_found", "_law_due"] [] := T.F__law_numbers.bindsN fun _ _ _ _ _ _ us hl => match us, hl with | [_, _], _ => rfl
theorem Txt.F_law (T : Txt w K mg) : FnP K "law" s_law (He.ga K "law") (fdOf K "law") := T.dfn 26 rfl
theorem Txt.g_law (T : Txt w K mg) : mg "law" = some (.ref (He.ga K "law")) := T.glo 26 rfl
theorem Txt.b_law (T : Txt w K mg) : Binds K (fdOf K "law") ["_law_script"] [] := T.F_law.bindsN fun _ _ _ _ _ _ us hl => match us, hl with | [_], _ => rfl
theorem Txt.z_len (T : Txt w K mg) : mg "len" = none := T.free 27 rfl
theorem Txt.z_isinstance (T : Txt w K mg) : mg "isinstance" = none := T.free 28 rfl
theorem Txt.z_range (T : Txt w K mg) : mg "range" = none := T.free 29 rfl
theorem Txt.z_list (T : Txt w K mg) : mg "list" = none := T.free 30 rfl
theorem Txt.z_tuple (T : Txt w K mg) : mg "tuple" = none := T.free 31 rfl
theorem Txt.z_int (T : Txt w K mg) : mg "int" = none := T.free 32 rfl
theorem Txt.z_str (T : Txt w K mg) : mg "str" = none := T.free 33 rfl
theorem Txt.z_bool (T : Txt w K mg) : mg "bool" = none := T.free 34 rfl
theorem Txt.z_sorted (T : Txt w K mg) : mg "sorted" = none := T.free 35 rfl
theorem Txt.z_min (T : Txt w K mg) : mg "min" = none := T.free 36 rfl
theorem Txt.z_max (T : Txt w K mg) : mg "max" = none := T.free 37 rfl
theorem Txt.z_zip (T : Txt w K mg) : mg "zip" = none := T.free 38 rfl
theorem Txt.z_enumerate (T : Txt w K mg) : mg "enumerate" = none := T.free 39 rfl
theorem Txt.z_all (T : Txt w K mg) : mg "all" = none := T.free 40 rfl
theorem Txt.g_PARTS (T : Txt w K mg) : mg "PARTS" = some (.ref (He.ga K "PARTS")) := T.glo 41 rfl
theorem Txt.i_BEGINNING (T : Txt w K mg) : ∃ t, mg "BEGINNING" = some (.int (-1) t) := T.int 42 rfl
theorem Txt.i_LONGEST_NAME (T : Txt w K mg) : ∃ t, mg "LONGEST_NAME" = some (.int (8) t) := T.int 43 rfl
theorem Txt.g_RowError (T : Txt w K mg) : mg "RowError" = some (.ref (He.ga K "RowError")) := T.glo 44 rfl
theorem Txt.x_RowError (T : Txt w K mg) : PySem.W.excIn K (He.ga K "RowError") He.veBase "ValueError.__new__" = true ∧ PySem.W.keepIn K (.ref (He.ga K "RowError")) = true ∧ PySem.W.subIn K (.ref (He.ga K "RowError")) (.type "BaseException") = some true ∧ PySem.W.typeIn K (.ref (He.ga K "RowError")) = some (.type "type") := by
  obtain ⟨h0, KX, G, c⟩ := T.ex
  exact He.exc_ok (c.t.d.fact 45 rfl)
theorem Txt.m_RowError_RowError (T : Txt w K mg) : PySem.W.exmOne K (.ref (He.ga K "RowError")) (.ref (He.ga K "RowError")) = some true := by
  obtain ⟨h0, KX, G, c⟩ := T.ex
  exact He.exm_ok (c.t.d.fact 50 rfl)
theorem Txt.m_RowError_BadRow (T : Txt w K mg) : PySem.W.exmOne K (.ref (He.ga K "RowError")) (.ref (He.ga K "BadRow")) = some false := by
  obtain ⟨h0, KX, G, c⟩ := T.ex
  exact He.exm_ok (c.t.d.fact 51 rfl)
theorem Txt.m_RowError_BadPlace (T : Txt w K mg) : PySem.W.exmOne K (.ref (He.ga K "RowError")) (.ref (He.ga K "BadPlace")) = some false := by
  obtain ⟨h0, KX, G, c⟩ := T.ex
  exact He.exm_ok (c.t.d.fact 52 rfl)
theorem Txt.g_BadRow (T : Txt w K mg) : mg "BadRow" = some (.ref (He.ga K "BadRow")) := T.glo 46 rfl
theorem Txt.x_BadRow (T : Txt w K mg) : PySem.W.excIn K (He.ga K "BadRow") He.veBase "ValueError.__new__" = true ∧ PySem.W.keepIn K (.ref (He.ga K "BadRow")) = true ∧ PySem.W.subIn K (.ref (He.ga K "BadRow")) (.type "BaseException") = some true ∧ PySem.W.typeIn K (.ref (He.ga K "BadRow")) = some (.type "type") := by
  obtain ⟨h0, KX, G, c⟩ := T.ex
  exact He.exc_ok (c.t.d.fact 47 rfl)
theorem Txt.m_BadRow_RowError (T : Txt w K mg) : PySem.W.exmOne K (.ref (He.ga K "BadRow")) (.ref (He.ga K "RowError")) = some true := by
  obtain ⟨h0, KX, G, c⟩ := T.ex
  exact He.exm_ok (c.t.d.fact 53 rfl)
theorem Txt.m_BadRow_BadRow (T : Txt w K mg) : PySem.W.exmOne K (.ref (He.ga K "BadRow")) (.ref (He.ga K "BadRow")) = some true := by
  obtain ⟨h0, KX, G, c⟩ := T.ex
  exact He.exm_ok (c.t.d.fact 54 rfl)
theorem Txt.m_BadRow_BadPlace (T : Txt w K mg) : PySem.W.exmOne K (.ref (He.ga K "BadRow")) (.ref (He.ga K "BadPlace")) = some false := by
  obtain ⟨h0, KX, G, c⟩ := T.ex
  exact He.exm_ok (c.t.d.fact 55 rfl)
theorem Txt.g_BadPlace (T : Txt w K mg) : mg "BadPlace" = some (.ref (He.ga K "BadPlace")) := T.glo 48 rfl
theorem Txt.x_BadPlace (T : Txt w K mg) : PySem.W.excIn K (He.ga K "BadPlace") He.veBase "ValueError.__new__" = true ∧ PySem.W.keepIn K (.ref (He.ga K "BadPlace")) = true ∧ PySem.W.subIn K (.ref (He.ga K "BadPlace")) (.type "BaseException") = some true ∧ PySem.W.typeIn K (.ref (He.ga K "BadPlace")) = some (.type "type") := by
  obtain ⟨h0, KX, G, c⟩ := T.ex
  exact He.exc_ok (c.t.d.fact 49 rfl)
theorem Txt.m_BadPlace_RowError (T : Txt w K mg) : PySem.W.exmOne K (.ref (He.ga K "BadPlace")) (.ref (He.ga K "RowError")) = some true := by
  obtain ⟨h0, KX, G, c⟩ := T.ex
  exact He.exm_ok (c.t.d.fact 56 rfl)
theorem Txt.m_BadPlace_BadRow (T : Txt w K mg) : PySem.W.exmOne K (.ref (He.ga K "BadPlace")) (.ref (He.ga K "BadRow")) = some false := by
  obtain ⟨h0, KX, G, c⟩ := T.ex
  exact He.exm_ok (c.t.d.fact 57 rfl)
theorem Txt.m_BadPlace_BadPlace (T : Txt w K mg) : PySem.W.exmOne K (.ref (He.ga K "BadPlace")) (.ref (He.ga K "BadPlace")) = some true := by
  obtain ⟨h0, KX, G, c⟩ := T.ex
  exact He.exm_ok (c.t.d.fact 58 rfl)
theorem Txt.kd_PARTS (T : Txt w K mg) : ∃ es n, KDict K w (He.ga K "PARTS") es n := by
  obtain ⟨h0, KX, G, c⟩ := T.ex
  exact c.t.tab 0 rfl
theorem tupAt_ok {a : Addr} {vs : List V} (h : tupAt K a vs = true) (H : Hp) : SqT K H a vs := by
  unfold tupAt at h
  cases q : K.lookup a with
  | none => rw [q] at h; cases h
  | some o =>
    obtain ⟨oc, od, dt, osl⟩ := o
    rw [q] at h
    cases oc with
    | type c =>
      cases dt with
      | seq its n =>
        obtain ⟨h1, h2⟩ := He.ba (show (decide (c = "tuple") && (decide (its.size ≤ sizeLine) && He.relAll vs its.toList)) = true from h)
        obtain ⟨h3, h4⟩ := He.ba h2
        exact .inr ⟨_, its, n, q, congrArg Value.type (of_decide_eq_true h1), rfl, of_decide_eq_true h3, He.relAll_ok h4⟩
      | _ => cases h
    | _ => cases dt <;> cases h
theorem Txt.part (T : Txt w K mg) {x : Str} {ps : List Str} (hm : (x, ps) ∈ parts) : ∃ a, KDct K w (He.ga K "PARTS") x (.ref a) ∧ ∀ H, SqT K H a (ps.map V.str) := by
  obtain ⟨es, n, D⟩ := T.kd_PARTS
  obtain ⟨h0, KX, G, c⟩ := T.ex
  have h := List.all_eq_true.mp (He.ba c.more).1 _ hm
  cases e : PySem.W.nsIn K (He.ga K "PARTS") x with
  | none => rw [e] at h; cases h
  | some r =>
    rw [e] at h
    cases r with
    | none => cases h
    | some u =>
      cases u with
      | ref a => exact ⟨a, ⟨es, n, .ref a, D.at_, D.lit, e, rfl⟩, fun H => tupAt_ok h H⟩
      | _ => cases h
theorem Txt.nopart (T : Txt w K mg) {x : Str} (hm : x ∉ parts.map (·.1)) : PySem.W.nsIn K (He.ga K "PARTS") x = some none := by
  obtain ⟨es, n, D⟩ := T.kd_PARTS
  obtain ⟨h0, KX, G, c⟩ := T.ex
  have h : keysB K = true := (He.ba (He.ba c.more).2).1
  unfold keysB at h
  unfold PySem.W.nsIn
  rw [D.at_] at h ⊢
  have h : es.toList.map keyOfE = parts.map fun q => some q.1 := of_decide_eq_true h
  have key : ∀ e ∈ es.toList, ∃ z t, e.key = .str z t ∧ z ∈ parts.map (·.1) := fun e he => by
    have m : keyOfE e ∈ es.toList.map keyOfE := List.mem_map.mpr ⟨e, he, rfl⟩
    rw [h] at m
    obtain ⟨q, hq, hz⟩ := List.mem_map.mp m
    unfold keyOfE at hz
    split at hz
    · rename_i z t e1
      exact ⟨z, t, e1, List.mem_map.mpr ⟨q, hq, Option.some.inj hz⟩⟩
    · cases hz
  have f : es.toList.find? (·.key.isStr x) = none := List.find?_eq_none.mpr fun e he z => by
    obtain ⟨y, t, e1, e2⟩ := key e he
    rw [e1] at z
    have : y = x := by simpa [Value.isStr] using z
    exact hm (this ▸ e2)
  have g : es.toList.any (·.refKey) = false := List.any_eq_false.mpr fun e he z => by
    obtain ⟨y, t, e1, e2⟩ := key e he
    unfold DictEntry.refKey at z
    rw [e1] at z
    cases z
  show (match es.toList.find? (·.key.isStr x) with | some e => some (some e.val) | none => if es.toList.any (·.refKey) then none else some none) = some none
  rw [f, g]; rfl
end
end J
/-! ### readings, step by step -/
namespace J
open PySem PySem.Spec PyProof.Rows L2
open Evl (Ex)
section
variable {K : PySem.W.Frag} {σ : L2.St} {H : Hp} {ta tb te tc to : TE} {t u : TT} {tr : TA} {v x y : V} {Q : VK} {r : R2} {D : Ends} {t1 t2 : TS} {g : TG}
theorem r_var {i : Nat} (h : σ[i]? = some (some v)) (q : Q v H) : tVar i σ H Q := ⟨v, h, q⟩
theorem r_c (q : Q v H) : tC v σ H Q := q
theorem r_op (q : ta σ H fun x H1 => tb σ H1 fun y H2 => r x y H2 Q) : tOp r ta tb σ H Q := q
theorem r_un {r : V → Hp → VK → Prop} (q : ta σ H fun x H1 => r x H1 Q) : tUn r ta σ H Q := q
theorem r_nil {Q : List V → Hp → Prop} (q : Q [] H) : tNil σ H Q := q
theorem r_cons {Q : List V → Hp → Prop} (q : ta σ H fun x H1 => tr σ H1 fun xs H2 => Q (x :: xs) H2) : tCons ta tr σ H Q := q
theorem r_cb {r : List V → Hp → VK → Prop} (q : tr σ H fun vs H1 => r vs H1 Q) : tCB r tr σ H Q := q
theorem r_call {sp : Sp} {dvs : List V} {E : XK} (q : tr σ H fun vs H1 => sp (vs ++ dvs) H1 Q E) : tCall sp dvs E tr σ H Q := q
theorem r_seq (q : t1 ⟨t2 D, D.rt, D.bk, D.ct⟩ σ H) : tSeq t1 t2 D σ H := q
theorem r_next (q : D.nx σ H) : tNext D σ H := q
theorem r_asg (q : te σ H fun x H1 => g x σ H1 D.nx) : tAsg te g D σ H := q
theorem r_gname {i : Nat} {Q : L2.St → Hp → Prop} (q : Q (σ.set i (some v)) H) : gName i v σ H Q := q
theorem r_ret (q : te σ H D.rt) : tRet te D σ H := q
theorem r_drop (q : te σ H fun _ H1 => D.nx σ H1) : tDrop te D σ H := q
theorem r_ifs (q : t σ H fun b H1 => if b = true then t1 D σ H1 else t2 D σ H1) : tIfS t t1 t2 D σ H := q
theorem r_test {Q : Bool → Hp → Prop} (q : te σ H fun x H1 => ∃ k, x = .bl k ∧ Q k H1) : tTest te σ H Q := q
theorem r_tB {Q : Bool → Hp → Prop} (q : te σ H fun x H1 => ∃ k, x = .bl k ∧ Q k H1) : tB te σ H Q := q
theorem r_bl {b : Bool} {Q : Bool → Hp → Prop} (q : Q b H) : ∃ k, V.bl b = .bl k ∧ Q k H := ⟨b, rfl, q⟩
theorem r_and {Q : Bool → Hp → Prop} (q : t σ H fun c H1 => if c = true then u σ H1 Q else Q false H1) : tAnd t u σ H Q := q
theorem r_or {Q : Bool → Hp → Prop} (q : t σ H fun c H1 => if c = true then Q true H1 else u σ H1 Q) : tOr t u σ H Q := q
theorem r_not {Q : Bool → Hp → Prop} (q : t σ H fun c H1 => Q (!c) H1) : tNot t σ H Q := q
theorem r_andV (q : ta σ H fun x H1 => ∃ c, x = .bl c ∧ if c = true then tb σ H1 Q else Q (.bl false) H1) : tAndV ta tb σ H Q := q
theorem r_orV (q : ta σ H fun x H1 => ∃ c, x = .bl c ∧ if c = true then Q (.bl true) H1 else tb σ H1 Q) : tOrV ta tb σ H Q := q
theorem r_notV (q : ta σ H fun x H1 => ∃ c, x = .bl c ∧ Q (.bl (!c)) H1) : tNotV ta σ H Q := q
theorem r_blx {b : Bool} {P : Bool → Prop} (q : P b) : ∃ c, V.bl b = .bl c ∧ P c := ⟨b, rfl, q⟩
theorem r_if (q : t σ H fun c H1 => if c = true then ta σ H1 Q else tb σ H1 Q) : tIf t ta tb σ H Q := q
theorem r_I0 {f : Int → Int → V} {i j : Int} (q : Q (f i j) H) : rI0 f (.int i) (.int j) H Q := ⟨i, j, rfl, rfl, q⟩
theorem r_I {C : Int → Int → Prop} {f : Int → Int → V} {i j : Int} (c : C i j) (q : Q (f i j) H) : rI C f (.int i) (.int j) H Q := ⟨i, j, rfl, rfl, c, q⟩
theorem r_U {f : Int → V} {i : Int} (q : Q (f i) H) : rU f (.int i) H Q := ⟨i, rfl, q⟩
theorem r_eq (h : scal x y = true) (q : Q (.bl (decide (x = y))) H) : rEq x y H Q := ⟨h, q⟩
theorem r_ne (h : scal x y = true) (q : Q (.bl (!decide (x = y))) H) : rNe x y H Q := ⟨h, q⟩
theorem r_eqI {i j : Int} (q : Q (.bl (decide (i = j))) H) : rEq (.int i) (.int j) H Q := ⟨rfl, by
  have e : decide (V.int i = V.int j) = decide (i = j) := by simp
  rw [e]; exact q⟩
theorem r_neI {i j : Int} (q : Q (.bl (!decide (i = j))) H) : rNe (.int i) (.int j) H Q := ⟨rfl, by
  have e : decide (V.int i = V.int j) = decide (i = j) := by simp
  rw [e]; exact q⟩
theorem r_eqS {i j : Str} (q : Q (.bl (decide (i = j))) H) : rEq (.str i) (.str j) H Q := ⟨rfl, by
  have e : decide (V.str i = V.str j) = decide (i = j) := by simp
  rw [e]; exact q⟩
theorem r_neS {i j : Str} (q : Q (.bl (!decide (i = j))) H) : rNe (.str i) (.str j) H Q := ⟨rfl, by
  have e : decide (V.str i = V.str j) = decide (i = j) := by simp
  rw [e]; exact q⟩
def mkT (xs : List V) (H : Hp) (Q : VK) : Prop := xs.length ≤ sizeLine ∧ ∀ p, H p = none → Q (.ref p) (upd H p (.tup xs))
def mkL (xs : List V) (H : Hp) (Q : VK) : Prop := xs.length ≤ sizeLine ∧ ∀ p, H p = none → Q (.ref p) (upd H p (.lst xs))
theorem r_tup (q : tr σ H fun xs H1 => mkT xs H1 Q) : tTup tr σ H Q := q
theorem r_lst (q : tr σ H fun xs H1 => mkL xs H1 Q) : tLst tr σ H Q := q
/-- a new object, the heap a letter -/
theorem r_new {o : HO} (q : ∀ p H1, H p = none → Ex H H1 → H1 p = some o → Q (.ref p) H1) : ∀ p, H p = none → Q (.ref p) (upd H p o) := fun p h => q p _ h (Evl.Ex.new h) upd_same
theorem r_ixL {p : Addr} {xs : List V} {i : Int} (h : SqL K H p xs) (ha : atI xs i = some v) (q : Q v H) : rIxL K (.ref p) (.int i) H Q := ⟨p, xs, i, v, rfl, rfl, h, ha, q⟩
theorem r_ixT {p : Addr} {xs : List V} {i : Int} (h : SqT K H p xs) (ha : atI xs i = some v) (q : Q v H) : rIxT K (.ref p) (.int i) H Q := ⟨p, xs, i, v, rfl, rfl, h, ha, q⟩
/-- items by place, of what H tracks -/
theorem r_ixLn {p : Addr} {xs : List V} {i : Nat} (h : H p = some (.lst xs)) (ha : xs[i]? = some v) (q : Q v H) : rIxL K (.ref p) (.int (i : Int)) H Q := r_ixL (.inl (.inl h)) (atI_nat ha) q
theorem r_ixTn {p : Addr} {xs : List V} (i : Nat) (h : H p = some (.tup xs)) (ha : xs[i]? = some v) (q : Q v H) : rIxT K (.ref p) (.int (i : Int)) H Q := r_ixT (.inl (.inl h)) (atI_nat ha) q
theorem r_ixT0 {p : Addr} {xs : List V} (h : H p = some (.tup xs)) (ha : xs[0]? = some v) (q : Q v H) : rIxT K (.ref p) (.int 0) H Q := r_ixTn 0 h ha q
theorem r_ixT1 {p : Addr} {xs : List V} (h : H p = some (.tup xs)) (ha : xs[1]? = some v) (q : Q v H) : rIxT K (.ref p) (.int 1) H Q := r_ixTn 1 h ha q
theorem r_ixT2 {p : Addr} {xs : List V} (h : H p = some (.tup xs)) (ha : xs[2]? = some v) (q : Q v H) : rIxT K (.ref p) (.int 2) H Q := r_ixTn 2 h ha q
theorem r_ixT3 {p : Addr} {xs : List V} (h : H p = some (.tup xs)) (ha : xs[3]? = some v) (q : Q v H) : rIxT K (.ref p) (.int 3) H Q := r_ixTn 3 h ha q
theorem r_len {p : Addr} {xs : List V} (h : SqL K H p xs ∨ SqT K H p xs) (q : Q (.int xs.length) H) : (fun vs H Q => ∃ (p : Addr) (ys : List V), vs = [V.ref p] ∧ (SqL K H p ys ∨ SqT K H p ys) ∧ Q (.int ys.length) H : List V → Hp → VK → Prop) [.ref p] H Q := ⟨p, xs, rfl, h, q⟩
/-- ways -/
theorem w_ite {b : Bool} {A B : Prop} (h1 : b = true → A) (h2 : b = false → B) : if b = true then A else B := by
  cases b with
  | true => rw [if_pos rfl]; exact h1 rfl
  | false => rw [if_neg Bool.false_ne_true]; exact h2 rfl
theorem w_dec {c : Prop} [Decidable c] {A B : Prop} (h1 : c → A) (h2 : ¬ c → B) : if decide c = true then A else B := w_ite (fun e => h1 (of_decide_eq_true e)) (fun e => h2 (of_decide_eq_false e))
theorem w_ndec {c : Prop} [Decidable c] {A B : Prop} (h1 : ¬ c → A) (h2 : c → B) : if (!decide c) = true then A else B := by
  by_cases h : c
  · rw [decide_eq_true h]; exact iteF (h2 h)
  · rw [decide_eq_false h]; exact iteT (h1 h)
/-- isinstance -/
theorem r_isi {vt : Value} {n : String} {b : Bool} (ty : TyX K H x vt) (hk : PySem.W.kitOne K vt (.type n) = some b) (q : Q (.bl b) H) : rIsi K [x, .ty n] H Q := ⟨x, .ty n, vt, .type n, b, rfl, .ty n, ty, hk, q⟩
theorem kit_ii : PySem.W.kitOne K (.type "int") (.type "int") = some true := kit_ty (by decide +kernel)
theorem kit_ib : PySem.W.kitOne K (.type "int") (.type "bool") = some false := kit_ty (by decide +kernel)
theorem kit_si : PySem.W.kitOne K (.type "str") (.type "int") = some false := kit_ty (by decide +kernel)
theorem kit_sb : PySem.W.kitOne K (.type "str") (.type "bool") = some false := kit_ty (by decide +kernel)
theorem kit_ss : PySem.W.kitOne K (.type "str") (.type "str") = some true := kit_ty (by decide +kernel)
theorem kit_is : PySem.W.kitOne K (.type "int") (.type "str") = some false := kit_ty (by decide +kernel)
theorem kit_tt : PySem.W.kitOne K (.type "tuple") (.type "tuple") = some true := kit_ty (by decide +kernel)
theorem kit_ll : PySem.W.kitOne K (.type "list") (.type "list") = some true := kit_ty (by decide +kernel)
theorem i_int_int {i : Int} (q : Q (.bl true) H) : rIsi K [.int i, .ty "int"] H Q := r_isi (.base (.int i)) kit_ii q
theorem i_int_bool {i : Int} (q : Q (.bl false) H) : rIsi K [.int i, .ty "bool"] H Q := r_isi (.base (.int i)) kit_ib q
theorem i_int_str {i : Int} (q : Q (.bl false) H) : rIsi K [.int i, .ty "str"] H Q := r_isi (.base (.int i)) kit_is q
theorem i_str_int {z : Str} (q : Q (.bl false) H) : rIsi K [.str z, .ty "int"] H Q := r_isi (.base (.str z)) kit_si q
theorem i_str_bool {z : Str} (q : Q (.bl false) H) : rIsi K [.str z, .ty "bool"] H Q := r_isi (.base (.str z)) kit_sb q
theorem i_str_str {z : Str} (q : Q (.bl true) H) : rIsi K [.str z, .ty "str"] H Q := r_isi (.base (.str z)) kit_ss q
theorem i_k_int {o : Key} (q : Q (.bl o.isLeft) H) : rIsi K [kV o, .ty "int"] H Q := by cases o with
  | inl i => exact i_int_int q
  | inr z => exact i_str_int q
theorem i_k_bool {o : Key} (q : Q (.bl false) H) : rIsi K [kV o, .ty "bool"] H Q := by cases o with
  | inl i => exact i_int_bool q
  | inr z => exact i_str_bool q
theorem i_k_str {o : Key} (q : Q (.bl o.isRight) H) : rIsi K [kV o, .ty "str"] H Q := by cases o with
  | inl i => exact i_int_str q
  | inr z => exact i_str_str q
theorem i_tup {p : Addr} {xs : List V} (h : H p = some (.tup xs)) (q : Q (.bl true) H) : rIsi K [.ref p, .ty "tuple"] H Q := r_isi (.base (.tup h)) kit_tt q
theorem i_lst {p : Addr} {xs : List V} (h : H p = some (.lst xs)) (q : Q (.bl true) H) : rIsi K [.ref p, .ty "list"] H Q := r_isi (.base (.lst h)) kit_ll q
end
/-- what a promise hands back: the heap grown, the value as P says -/
def Ret (P : V → Hp → Prop) (H : Hp) (Q : VK) : Prop := ∀ v H1, Ex H H1 → P v H1 → Q v H1
theorem Ret.v {v : V} {P : V → Hp → Prop} {H H1 : Hp} {Q : VK} (k : Ret P H Q) (e : Ex H H1) (p : P v H1) : Q v H1 := k v H1 e p
end J

/-! ### rules by names -/
namespace J
open PySem PySem.Spec PyProof.Rows L2
open Evl (Ex)
def rLen (K : PySem.W.Frag) : List V → Hp → VK → Prop := fun xs H Q => ∃ p ys, xs = [.ref p] ∧ (SqL K H p ys ∨ SqT K H p ys) ∧ Q (.int ys.length) H
def rLenS : List V → Hp → VK → Prop := fun xs H Q => ∃ z, xs = [V.str z] ∧ z.length ≤ sizeLine ∧ Q (.int z.length) H
def rListOf (K : PySem.W.Frag) : List V → Hp → VK → Prop := fun xs H Q => ∃ p ys, xs = [.ref p] ∧ (SqL K H p ys ∨ SqT K H p ys) ∧ ∀ l, H l = none → Q (.ref l) (upd H l (.lst ys))
def rDictD : List V → Hp → VK → Prop := fun xs H Q => ∃ (a : Addr) (kvs : List (Key × V)), xs = [.ref a] ∧ Rd H a (.dK kvs) ∧ ∀ p, H p = none → Q (.ref p) (upd H p (.dK kvs))
def rAddS : R2 := fun x y H Q => ∃ i j, x = .str i ∧ y = .str j ∧ i.length + j.length ≤ sizeLine ∧ Q (.str (i ++ j)) H
def rLeS : R2 := fun x y H Q => ∃ i j, x = .str i ∧ y = .str j ∧ Q (.bl (!decide (j.cps.toList < i.cps.toList))) H
def rMin2 : List V → Hp → VK → Prop := fun xs H Q => ∃ i j, xs = [.int i, .int j] ∧ Q (.int (if j < i then j else i)) H
def rMax2 : List V → Hp → VK → Prop := fun xs H Q => ∃ i j, xs = [.int i, .int j] ∧ Q (.int (if j > i then j else i)) H
def rInt1 : List V → Hp → VK → Prop := fun xs H Q => (∃ i, xs = [V.int i] ∧ Q (.int i) H) ∨ ∃ k, xs = [.bl k] ∧ Q (.int (if k then 1 else 0)) H
def rSIdx : V → List V → Hp → VK → Prop := fun x xs H Q => ∃ a b i rest, x = .str a ∧ xs = [.str b] ∧ Builtin.Str.occurrences a b 0 a.length 1 = i :: rest ∧ Q (.int (i : Nat)) H
section
variable {X : Cx}
theorem j_len : CallR X (.builtin "len") (rLen X.K) := call_len_seq
theorem j_lenS : CallR X (.builtin "len") rLenS := call_len_str
theorem j_listOf : CallR X (.type "list") (rListOf X.K) := call_list_of
theorem j_dictD : CallR X (.type "dict") rDictD := call_dictD
theorem j_addS : OpR X (binaryOp .Add) rAddS := op_add_str
theorem j_leS : OpR X (compareOp .LtE) rLeS := op_le_str
theorem j_min2 (hc : X.calm = true) : CallR X (.builtin "min") rMin2 := call_min2 hc
theorem j_max2 (hc : X.calm = true) : CallR X (.builtin "max") rMax2 := call_max2 hc
theorem j_int1 : CallR X (.type "int") rInt1 := call_int1
theorem j_sidx : MtR X "str.index" rSIdx := mt_sindex
end
section
variable {K : PySem.W.Frag} {σ : L2.St} {H : Hp} {v x y : V} {Q : VK} {D : Ends}
theorem n_len {p : Addr} {xs : List V} (h : H p = some (.lst xs)) (q : Q (.int xs.length) H) : rLen K [.ref p] H Q := ⟨p, xs, rfl, .inl (.inl (.inl h)), q⟩
theorem n_lenT {p : Addr} {xs : List V} (h : H p = some (.tup xs)) (q : Q (.int xs.length) H) : rLen K [.ref p] H Q := ⟨p, xs, rfl, .inr (.inl (.inl h)), q⟩
theorem n_lenK {p : Addr} {xs : List V} (h : SqL K H p xs) (q : Q (.int xs.length) H) : rLen K [.ref p] H Q := ⟨p, xs, rfl, .inl h, q⟩
theorem n_lenS {z : Str} (h : z.length ≤ 100000) (q : Q (.int z.length) H) : rLenS [.str z] H Q := ⟨z, rfl, Evl.sz_of h, q⟩
theorem n_listOf {p : Addr} {xs : List V} (h : H p = some (.lst xs)) (q : ∀ l H1, H l = none → Ex H H1 → H1 l = some (.lst xs) → Q (.ref l) H1) : rListOf K [.ref p] H Q := ⟨p, xs, rfl, .inl (.inl (.inl h)), r_new q⟩
theorem n_listOfT {p : Addr} {xs : List V} (h : H p = some (.tup xs)) (q : ∀ l H1, H l = none → Ex H H1 → H1 l = some (.lst xs) → Q (.ref l) H1) : rListOf K [.ref p] H Q := ⟨p, xs, rfl, .inr (.inl (.inl h)), r_new q⟩
theorem n_dictD {p : Addr} {kvs : List (Key × V)} (h : H p = some (.dK kvs)) (q : ∀ l H1, H l = none → Ex H H1 → H1 l = some (.dK kvs) → Q (.ref l) H1) : rDictD [.ref p] H Q := ⟨p, kvs, rfl, .inl h, r_new q⟩
theorem n_addS {i j : Str} (h : i.length + j.length ≤ 100000) (q : Q (.str (i ++ j)) H) : rAddS (.str i) (.str j) H Q := ⟨i, j, rfl, rfl, Evl.sz_of h, q⟩
theorem n_leS {i j : Str} (q : Q (.bl (!decide (j.cps.toList < i.cps.toList))) H) : rLeS (.str i) (.str j) H Q := ⟨i, j, rfl, rfl, q⟩
theorem n_min2 {i j : Int} (q : Q (.int (if j < i then j else i)) H) : rMin2 [.int i, .int j] H Q := ⟨i, j, rfl, q⟩
theorem n_max2 {i j : Int} (q : Q (.int (if j > i then j else i)) H) : rMax2 [.int i, .int j] H Q := ⟨i, j, rfl, q⟩
theorem n_int1b {k : Bool} (q : Q (.int (if k then 1 else 0)) H) : rInt1 [.bl k] H Q := .inr ⟨k, rfl, q⟩
theorem n_int1 {k : Int} (q : Q (.int k) H) : rInt1 [.int k] H Q := .inl ⟨k, rfl, q⟩
theorem n_mod {i j : Int} (c : 0 < j) (q : Q (.int (i % j)) H) : rI (fun _ j => 0 < j) (fun i j => .int (i % j)) (.int i) (.int j) H Q := ⟨i, j, rfl, rfl, c, q⟩
theorem n_fdiv {i j : Int} (c : 0 < j ∧ j < 1073741824) (q : Q (.int (i / j)) H) : rI CDiv (fun i j => .int (i / j)) (.int i) (.int j) H Q := ⟨i, j, rfl, rfl, c, q⟩
theorem n_mul {i j : Int} (c : CMul i j) (q : Q (.int (i * j)) H) : rI CMul (fun i j => .int (i * j)) (.int i) (.int j) H Q := ⟨i, j, rfl, rfl, c, q⟩
theorem n_pow {i j : Int} (c : CPow i j) (q : Q (.int (i ^ j.toNat)) H) : rI CPow (fun i j => .int (i ^ j.toNat)) (.int i) (.int j) H Q := ⟨i, j, rfl, rfl, c, q⟩
theorem n_cat {l b : Addr} {xs ys : List V} (h : H l = some (.lst xs)) (h2 : H b = some (.lst ys)) (z : xs.length + ys.length ≤ 100000) (q : ∀ p H1, H p = none → Ex H H1 → H1 p = some (.lst (xs ++ ys)) → Q (.ref p) H1) : rCat (.ref l) (.ref b) H Q :=
  ⟨l, b, xs, ys, rfl, rfl, h, h2, Evl.sz_of z, r_new q⟩
/-- displays -/
theorem n_tup {vs : List V} (z : vs.length ≤ 100000) (q : ∀ p H1, H p = none → Ex H H1 → H1 p = some (.tup vs) → Q (.ref p) H1) : mkT vs H Q := ⟨Evl.sz_of z, r_new q⟩
theorem n_lst {vs : List V} (z : vs.length ≤ 100000) (q : ∀ p H1, H p = none → Ex H H1 → H1 p = some (.lst vs) → Q (.ref p) H1) : mkL vs H Q := ⟨Evl.sz_of z, r_new q⟩
/-- slices -/
theorem n_part {te : TE} {Q : Option Int → Hp → Prop} (q : te σ H fun x H1 => ∃ i, x = .int i ∧ Q (some i) H1) : tPart te σ H Q := q
theorem n_parti {i : Int} {A : Int → Prop} (q : A i) : ∃ k, V.int i = .int k ∧ A k := ⟨i, rfl, q⟩
theorem n_nopart {Q : Option Int → Hp → Prop} (q : Q none H) : tNoPart σ H Q := q
theorem n_sl {r : V → Option Int → Option Int → Hp → VK → Prop} {te : TE} {tl th : TO} (q : te σ H fun x H1 => tl σ H1 fun l H2 => th σ H2 fun u H3 => r x l u H3 Q) : tSl r te tl th σ H Q := q
theorem n_slL {a : Addr} {xs : List V} {lo hi : Option Int} (h : H a = some (.lst xs)) (q : ∀ p H1, H p = none → Ex H H1 → H1 p = some (.lst (cutV xs lo hi)) → Q (.ref p) H1) : rSlL K (.ref a) lo hi H Q := ⟨a, xs, rfl, .inl (.inl h), r_new q⟩
theorem n_slS {z : Str} {lo hi : Option Int} (h : z.length ≤ 100000) (q : Q (.str (cutS z lo hi)) H) : rSlS (.str z) lo hi H Q := ⟨z, rfl, Evl.sz_of h, q⟩
theorem n_ixS {z : Str} {i c : Nat} (hl : z.length ≤ 100000) (h : z.cps.toList[i]? = some c) (q : Q (.str ⟨#[c]⟩) H) : rIxS (.str z) (.int (i : Int)) H Q := ⟨z, i, c, rfl, rfl, Evl.sz_of hl, atI_nat h, q⟩
/-- methods -/
theorem n_bm {T : String} {r : V → List V → Hp → VK → Prop} {to : TE} {t : TA} (q : to σ H fun x H1 => tyV K T x H1 ∧ t σ H1 fun xs H2 => r x xs H2 Q) : tBM K T r to t σ H Q := q
theorem n_bm0 {T : String} {r : V → List V → Hp → VK → Prop} {to : TE} (q : to σ H fun x H1 => tyV K T x H1 ∧ r x [] H1 Q) : tBM0 K T r to σ H Q := q
theorem n_tyL {p : Addr} {xs : List V} {A : Prop} (h : H p = some (.lst xs)) (q : A) : tyV K "list" (.ref p) H ∧ A := ⟨.inl ⟨rfl, xs, .inl (.inl h)⟩, q⟩
theorem n_tyS {z : Str} {A : Prop} (q : A) : tyV K "str" (.str z) H ∧ A := ⟨rfl, q⟩
theorem n_app {p : Addr} {xs : List V} (h : H p = some (.lst xs)) (z : xs.length < 100000) (q : Q .non (upd H p (.lst (xs ++ [v])))) : rAppend (.ref p) [v] H Q := ⟨p, xs, v, rfl, rfl, h, Evl.sz_lt z, q⟩
/-- dicts -/
theorem n_dget2 {td ty tx : TE} (q : td σ H fun x H1 => ∃ a, x = .ref a ∧ IsD H1 a ∧ ty σ H1 fun y H2 => tx σ H2 fun z H3 => ∃ o, DGet H3 a y o ∧ Q (o.getD z) H3) : tDGet2 td ty tx σ H Q := q
theorem n_isD {p : Addr} {kvs : List (Key × V)} {A : Addr → Prop} (h : H p = some (.dK kvs)) (q : A p) : ∃ a, V.ref p = .ref a ∧ IsD H a ∧ A a := ⟨p, rfl, .inl ⟨kvs, .inl h⟩, q⟩
theorem n_get {p : Addr} {kvs : List (Key × V)} {x : Str} {A : Option V → Prop} (h : H p = some (.dK kvs)) (q : A (valV kvs (.inr x))) : ∃ o, DGet H p (.str x) o ∧ A o := ⟨_, DGet.k (k := Sum.inr x) h, q⟩
theorem n_dput {td ty tv : TE} (q : tv σ H fun v H1 => td σ H1 fun x H2 => ty σ H2 fun y H3 => ∃ a H4, x = .ref a ∧ DPut H3 a y v H4 ∧ D.nx σ H4) : sDPut td ty tv D σ H := q
theorem n_put {p : Addr} {kvs : List (Key × V)} {x : Str} {A : Hp → Prop} (h : H p = some (.dK kvs)) (z : kvs.length < 100000) (q : A (upd H p (.dK (putK kvs (.inr x) v)))) : ∃ a H4, V.ref p = .ref a ∧ DPut H a (.str x) v H4 ∧ A H4 := ⟨p, _, rfl, DPut.k (k := Sum.inr x) h (Evl.sz_lt z), q⟩
theorem n_dnew (q : ∀ p H1, H p = none → Ex H H1 → H1 p = some (.dK []) → Q (.ref p) H1) : tDNewK σ H Q := r_new q
/-- loops -/
theorem n_aug {i : Nat} {te : TE} {f : Int → Int → Int} {a : Int} (h : σ[i]? = some (some (.int a))) (q : te σ H fun y H1 => ipI f (.int a) y H1 fun z H2 => D.nx (σ.set i (some z)) H2) : tAug i te (ipI f) D σ H := ⟨.int a, h, q⟩
theorem n_ipI {f : Int → Int → Int} {a b : Int} (q : Q (.int (f a b)) H) : ipI f (.int a) (.int b) H Q := ⟨a, b, rfl, rfl, q⟩
theorem n_rng1 {ta : TA} {R : It → Hp → Prop} (q : ta σ H fun vs H1 => ∃ j : Int, vs = [.int j] ∧ -(2 ^ 62) ≤ j ∧ j < 2 ^ 62 ∧ R (Itr 0 j.toNat) H1) : iRng1 ta σ H R := q
theorem n_rng1i {j : Int} {A : Int → Prop} (a : -100000 ≤ j) (b : j ≤ 100000) (q : A j) : ∃ k : Int, [V.int j] = [.int k] ∧ -(2 ^ 62) ≤ k ∧ k < 2 ^ 62 ∧ A k := ⟨j, rfl, by omega, by omega, q⟩
end
/-- comprehensions: each turn, once -/
def ExB (D : Addr) (H H' : Hp) : Prop := ∀ a o, H a = some o → a ≠ D → H' a = some o
theorem ExB.of {D : Addr} {H H' : Hp} (e : Ex H H') : ExB D H H' := fun a o h _ => e a o h
theorem ExB.upd {D : Addr} {H : Hp} {o : HO} : ExB D H (upd H D o) := fun a u h n => by rw [upd_ne n]; exact h
theorem ExB.trans {D : Addr} {H H1 H2 : Hp} (e : ExB D H H1) (f : ExB D H1 H2) : ExB D H H2 := fun a o h n => f a o (e a o h n) n
theorem paired_snoc {α β : Type} {F : α → β → Prop} {a : α} {b : β} (h : F a b) : ∀ {xs : List α} {ys : List β}, Paired F xs ys → Paired F (xs ++ [a]) (ys ++ [b])
  | _, _, .nil => .cons h .nil
  | _, _, .cons r t => .cons r (paired_snoc h t)
theorem paired_mono {α β : Type} {F F' : α → β → Prop} (m : ∀ a b, F a b → F' a b) : ∀ {xs : List α} {ys : List β}, Paired F xs ys → Paired F' xs ys
  | _, _, .nil => .nil
  | _, _, .cons r t => .cons (m _ _ r) (paired_mono m t)
theorem paired_len {α β : Type} {F : α → β → Prop} : ∀ {xs : List α} {ys : List β}, Paired F xs ys → xs.length = ys.length
  | _, _, .nil => rfl
  | _, _, .cons _ t => congrArg (· + 1) (paired_len t)
theorem paired_get {α β : Type} {F : α → β → Prop} : ∀ {xs : List α} {ys : List β}, Paired F xs ys → ∀ {i : Nat} {a : α} {b : β}, xs[i]? = some a → ys[i]? = some b → F a b
  | _, _, .nil, i, a, b, h, _ => by simp at h
  | _, _, .cons r t, 0, a, b, h, k => by cases Option.some.inj h; cases Option.some.inj k; exact r
  | _, _, .cons r t, i + 1, a, b, h, k => paired_get t (i := i) (by simpa using h) (by simpa using k)
theorem paired_map {α β γ : Type} {F : γ → β → Prop} {f : α → γ} : ∀ {xs : List α} {ys : List β}, Paired (fun a b => F (f a) b) xs ys → Paired F (xs.map f) ys
  | _, _, .nil => .nil
  | _, _, .cons r t => .cons r (paired_map t)
/-- where each is told outright -/
theorem paired_eq {α β : Type} {f : α → β} : ∀ {xs : List α} {ys : List β}, Paired (fun a b => b = f a) xs ys → ys = xs.map f
  | _, _, .nil => rfl
  | _, _, .cons r t => by rw [r, paired_eq t]; rfl
section
variable {J : It} {n : Nat} {G : Hp → Prop} {Y : Nat → Hp → V → Hp → Prop}
/-- P i y H: what turn i puts in the new list; f: which turns are kept -/
theorem lc_gen (w : Walk J n G Y) (f : Nat → Bool) (P : Nat → V → Hp → Prop) {g : TG} {tt : TT} {te : TE} {vs : List Nat} {σ : L2.St} {H1 : Hp} {D : Addr} {Qd : Hp → Prop} (mono : ∀ i y H H', P i y H → ExB D H H' → P i y H') (hD : H1 D = none) (hn : n ≤ 100000)
    (hG : ∀ H, Ex H1 H → G H)
    (turn : ∀ i x H H' (k : VK) (kd : Hp → Prop), i < n → Ex H1 H → (∃ acc, H D = some (.lst acc)) → Y i H x H' → (f i = true → ∀ y H4, Ex H H4 → P i y H4 → k y H4) → (f i = false → ∀ H4, Ex H H4 → kd H4) →
      g x (wipe σ vs) H' fun σ2 H2 => wipe σ2 vs = wipe σ vs ∧ tt σ2 H2 fun b H3 => if b = true then te σ2 H3 k else kd H3)
    (hd : ∀ H ys, Ex H1 H → H D = some (.lst ys) → Paired (fun i y => P i y H) ((List.range n).filter f) ys → Qd H) :
    ∃ W : Nat → Nat → Hp → Prop, (∃ m, W 0 m (upd H1 D (.lst []))) ∧ ∀ i m H, W i m H →
      (J.stop i H ∧ Qd H) ∨ (J.go i H ∧ ∃ Nx : Hp → Prop, (∀ H', Nx H' → ∃ m', m' < m ∧ W (i + 1) m' H') ∧ ∀ x H', J.yld i H x H' → g x (wipe σ vs) H' fun σ2 H2 => wipe σ2 vs = wipe σ vs ∧ tt σ2 H2 fun b H3 =>
        if b = true then te σ2 H3 fun y H4 => ∃ acc, H4 D = some (.lst acc) ∧ acc.length < sizeLine ∧ Nx (upd H4 D (.lst (acc ++ [y]))) else Nx H3) := by
  refine lc_it w (fun i H => Ex H1 H ∧ ∃ ys, H D = some (.lst ys) ∧ ys.length ≤ i ∧ Paired (fun i y => P i y H) ((List.range i).filter f) ys) ⟨Evl.Ex.new hD, [], upd_same, Nat.le_refl _, .nil⟩ (fun i H _ p => hG H p.1) (fun i x H H' hi p y => ?_) (fun H p => ?_)
  · obtain ⟨e, ys, h1, h2, h3⟩ := p
    refine turn i x H H' _ _ hi e ⟨ys, h1⟩ y (fun hf z H4 e4 hz => ⟨ys, e4 D _ h1, Evl.sz_lt (by omega), Evl.Ex.mut (e.trans e4) hD, ys ++ [z], upd_same, by rw [List.length_append]; exact Nat.succ_le_succ h2, ?_⟩) (fun hf H4 e4 => ⟨e.trans e4, ys, e4 D _ h1, by omega, ?_⟩)
    · have q := paired_snoc (F := fun i y => P i y (upd H4 D (.lst (ys ++ [z])))) (mono _ _ _ _ hz ExB.upd) (paired_mono (fun a b r => mono _ _ _ _ r ((ExB.of e4).trans ExB.upd)) h3)
      have e5 : (List.range (i + 1)).filter f = (List.range i).filter f ++ [i] := by
        rw [List.range_succ, List.filter_append]
        simp [hf]
      rw [e5]
      exact q
    · have e5 : (List.range (i + 1)).filter f = (List.range i).filter f := by
        rw [List.range_succ, List.filter_append]
        simp [hf]
      rw [e5]
      exact paired_mono (fun a b r => mono _ _ _ _ r (ExB.of e4)) h3
  · obtain ⟨e, ys, h1, _, h3⟩ := p
    exact hd H ys e h1 h3
theorem filter_all (n : Nat) : (List.range n).filter (fun _ => true) = List.range n := List.filter_eq_self.mpr fun _ _ => rfl
/-- no if, each told outright -/
theorem lc_fun (w : Walk J n G Y) (v : Nat → V) {g : TG} {te : TE} {vs : List Nat} {σ : L2.St} {H1 : Hp} {D : Addr} {Qd : Hp → Prop} (hD : H1 D = none) (hn : n ≤ 100000) (hG : ∀ H, Ex H1 H → G H)
    (turn : ∀ i x H H' (k : VK), i < n → Ex H1 H → Y i H x H' → (∀ H4, Ex H H4 → k (v i) H4) → g x (wipe σ vs) H' fun σ2 H2 => wipe σ2 vs = wipe σ vs ∧ te σ2 H2 k)
    (hd : ∀ H, Ex H1 H → H D = some (.lst ((List.range n).map v)) → Qd H) :
    ∃ W : Nat → Nat → Hp → Prop, (∃ m, W 0 m (upd H1 D (.lst []))) ∧ ∀ i m H, W i m H →
      (J.stop i H ∧ Qd H) ∨ (J.go i H ∧ ∃ Nx : Hp → Prop, (∀ H', Nx H' → ∃ m', m' < m ∧ W (i + 1) m' H') ∧ ∀ x H', J.yld i H x H' → g x (wipe σ vs) H' fun σ2 H2 => wipe σ2 vs = wipe σ vs ∧ tYes σ2 H2 fun b H3 =>
        if b = true then te σ2 H3 fun y H4 => ∃ acc, H4 D = some (.lst acc) ∧ acc.length < sizeLine ∧ Nx (upd H4 D (.lst (acc ++ [y]))) else Nx H3) := by
  refine lc_it w (fun i H => Ex H1 H ∧ H D = some (.lst ((List.range i).map v))) ⟨Evl.Ex.new hD, upd_same⟩ (fun i H _ p => hG H p.1) (fun i x H H' hi p y => ?_) (fun H p => hd H p.1 p.2)
  exact turn i x H H' (fun y H4 => ∃ acc, H4 D = some (.lst acc) ∧ acc.length < sizeLine ∧ Ex H1 (upd H4 D (.lst (acc ++ [y]))) ∧ upd H4 D (.lst (acc ++ [y])) D = some (.lst ((List.range (i + 1)).map v))) hi p.1 y fun H4 e4 =>
    ⟨_, e4 D _ p.2, Evl.sz_lt (by rw [List.length_map, List.length_range]; omega), Evl.Ex.mut (p.1.trans e4) hD, by rw [upd_same, List.range_succ, List.map_append]; rfl⟩
end
section
variable {K : PySem.W.Frag} {σ : L2.St} {H : Hp} {Q : VK} {D : Ends} {wi : TI} {g : TG} {tt c : TT} {te to : TE} {tb : TS} {vs : List Nat}
theorem n_lc (q : wi σ H fun J H1 => ∀ D, H1 D = none → ∃ W : Nat → Nat → Hp → Prop, (∃ m, W 0 m (upd H1 D (.lst []))) ∧ ∀ i m H, W i m H →
  (J.stop i H ∧ Q (.ref D) H) ∨ (J.go i H ∧ ∃ Nx : Hp → Prop, (∀ H', Nx H' → ∃ m', m' < m ∧ W (i + 1) m' H') ∧ ∀ x H', J.yld i H x H' → g x (wipe σ vs) H' fun σ2 H2 => wipe σ2 vs = wipe σ vs ∧ tt σ2 H2 fun b H3 =>
    if b = true then te σ2 H3 fun y H4 => ∃ acc, H4 D = some (.lst acc) ∧ acc.length < sizeLine ∧ Nx (upd H4 D (.lst (acc ++ [y]))) else Nx H3)) : tLc wi g tt te vs σ H Q := q
theorem n_for (q : wi σ H fun J H1 => ∃ W : Nat → Nat → L2.St → Hp → Prop, (∃ m, W 0 m σ H1) ∧ ∀ i m σ H, W i m σ H →
  (J.stop i H ∧ D.nx σ H) ∨ (J.go i H ∧ ∃ N : L2.St → Hp → Prop, (∀ σ' H', N σ' H' → ∃ m', m' < m ∧ W (i + 1) m' σ' H') ∧ ∀ x H', J.yld i H x H' → g x σ H' fun σ2 H2 => tb { D with nx := N, ct := N, bk := D.nx } σ2 H2)) : tFor wi g tb D σ H := q
/-- a while, by what holds and a number that falls -/
theorem n_while (W : Nat → L2.St → Hp → Prop) (m0 : Nat) (h0 : W m0 σ H)
    (turn : ∀ m σ H, W m σ H → c σ H fun b H1 => if b = true then ∃ N : L2.St → Hp → Prop, (∀ σ' H', N σ' H' → ∃ m', m' < m ∧ W m' σ' H') ∧ tb ⟨N, D.rt, D.nx, N⟩ σ H1 else D.nx σ H1) : tWhile c tb D σ H := ⟨W, ⟨m0, h0⟩, turn⟩
theorem n_iList {tl : TE} {R : It → Hp → Prop} (q : tl σ H fun x H1 => ∃ a, x = .ref a ∧ (∃ xs, SqL K H1 a xs) ∧ R (Itl K a) H1) : iList K tl σ H R := q
theorem n_iLista {p : Addr} {xs : List V} {A : Addr → Prop} (h : H p = some (.lst xs)) (q : A p) : ∃ a, V.ref p = .ref a ∧ (∃ xs, SqL K H a xs) ∧ A a := ⟨p, rfl, ⟨xs, .inl (.inl h)⟩, q⟩
theorem sql {p : Addr} {xs : List V} (h : H p = some (.lst xs)) : SqL K H p xs := .inl (.inl h)
theorem sqt {p : Addr} {xs : List V} (h : H p = some (.tup xs)) : SqT K H p xs := .inl (.inl h)
theorem n_yes {Q : Bool → Hp → Prop} (q : Q true H) : tYes σ H Q := q
theorem n_cut {t1 t2 : TS} (M : L2.St → Hp → Prop) (h : t1 ⟨M, D.rt, D.bk, D.ct⟩ σ H) (k : ∀ σ' H', M σ' H' → t2 D σ' H') : Evl.tCut t1 t2 D σ H := ⟨M, h, k⟩
theorem n_m1 {r : V → List V → Hp → VK → Prop} (q : to σ H fun x H1 => (∃ a, x = .str a) ∧ te σ H1 fun y H2 => r x [y] H2 Q) : tM1 r to te σ H Q := q
theorem n_isS {z : Str} {A : Prop} (q : A) : (∃ a, V.str z = .str a) ∧ A := ⟨⟨z, rfl⟩, q⟩
def rJoin (K : PySem.W.Frag) : V → List V → Hp → VK → Prop := fun x xs H Q => ∃ a p, ∃ ys : List Str, x = .str a ∧ xs = [.ref p] ∧ (SqL K H p (ys.map V.str) ∨ SqT K H p (ys.map V.str)) ∧ (ys.map (·.length)).sum + ys.length * a.length ≤ 16777216 ∧ Q (.str (Txt.join a ys)) H
theorem j_join {X : Cx} {o e : Expr} {apos pos : Pos} (ho : PE X o to) (he : PE X e te) (hs : starEach [e] X.env = [(false, eval e X.env)] := by rfl) (hbase : attributeBase o "join" X.env (eval o X.env) = eval o X.env := by rfl) (hline : (apos.endLine == pos.line) = true := by rfl) :
    PE X (.Call (.Attribute o "join" apos) [e] [] pos) (tM1 (rJoin X.K) to te) := pe_join ho he hs hbase hline
theorem join_signs : ∀ cs : List Nat, Str.join "" (cs.map fun c => (⟨#[c]⟩ : Str)) = ⟨cs.toArray⟩
  | [] => rfl
  | [c] => rfl
  | c :: d :: r => by
    have ih := join_signs (d :: r)
    show (⟨#[c]⟩ : Str) ++ "" ++ Str.join "" ((d :: r).map fun c => (⟨#[c]⟩ : Str)) = _
    rw [ih]
    show (⟨(#[c] ++ #[]) ++ (d :: r).toArray⟩ : Str) = ⟨(c :: d :: r).toArray⟩
    simp
theorem sum_ones : ∀ cs : List Nat, ((cs.map fun c => (⟨#[c]⟩ : Str)).map (·.length)).sum = cs.length
  | [] => rfl
  | c :: r => by
    have ih := sum_ones r
    rw [List.map_cons, List.map_cons, List.sum_cons, ih, List.length_cons]
    show 1 + r.length = _
    omega
theorem n_join1 {p : Addr} {cs : List Nat} (h : H p = some (.lst (cs.map fun c => V.str ⟨#[c]⟩))) (z : cs.length ≤ 100000) (q : Q (.str ⟨cs.toArray⟩) H) : rJoin K (.str "") [.ref p] H Q := by
  refine ⟨"", p, cs.map fun c => ⟨#[c]⟩, rfl, rfl, .inl (.inl (.inl (by rw [h, List.map_map]; rfl))), ?_, ?_⟩
  · rw [sum_ones, List.length_map]
    have e : ("" : Str).length = 0 := rfl
    rw [e]; omega
  · rw [TL.join_eq, join_signs]; exact q
end
section
variable {K : PySem.W.Frag} {σ : L2.St} {H : Hp} {Q : VK} {D : Ends} {ta tb tc te : TE} {x : V}
theorem n_chain {r r' : R2} (q : ta σ H fun x H1 => tb σ H1 fun y H2 => r x y H2 fun z H3 => ∃ k, z = .bl k ∧ (if k = true then tc σ H3 fun w' H4 => r' y w' H4 Q else Q (.bl false) H3)) : tChain r r' ta tb tc σ H Q := q
theorem iteNT {A B : Prop} (q : B) : if (!true) = true then A else B := q
theorem iteNF {A B : Prop} (q : A) : if (!false) = true then A else B := q
theorem n_all {p : Addr} {bs : List Bool} (h : H p = some (.lst (bs.map V.bl))) (q : Q (.bl (bs.all id)) H) : rAll K [.ref p] H Q := ⟨p, bs, rfl, .inl (.inl h), q⟩
theorem n_inT {p : Addr} {xs : List V} (h : SqT K H p xs) (hx : flatV x = true) (ha : xs.all flatV = true) (q : Q (.bl (inV x xs)) H) : rIn K false x (.ref p) H Q := ⟨p, xs, rfl, .inr h, hx, ha, q⟩
theorem n_inL {p : Addr} {xs : List V} (h : H p = some (.lst xs)) (hx : flatV x = true) (ha : xs.all flatV = true) (q : Q (.bl (inV x xs)) H) : rIn K false x (.ref p) H Q := ⟨p, xs, rfl, .inl (.inl (.inl h)), hx, ha, q⟩
theorem n_niL {p : Addr} {xs : List V} (h : H p = some (.lst xs)) (hx : flatV x = true) (ha : xs.all flatV = true) (q : Q (.bl (!inV x xs)) H) : rIn K true x (.ref p) H Q := ⟨p, xs, rfl, .inl (.inl (.inl h)), hx, ha, q⟩
/-- t[lo:] of a tuple that isn't the whole -/
theorem n_slA {p : Addr} {xs : List V} {lo hi : Option Int} (h : H p = some (.tup xs)) (hw : ¬ (HT.sIx xs.length 0 lo = 0 ∧ HT.sIx xs.length xs.length hi = xs.length)) (q : ∀ p H1, H p = none → Ex H H1 → H1 p = some (.tup (cutV xs lo hi)) → Q (.ref p) H1) : rSlA K (.ref p) lo hi H Q :=
  ⟨p, xs, rfl, .inl (.inl h), fun z => absurd z hw, fun _ => r_new q⟩
theorem n_zipA {t : TA} {R : It → Hp → Prop} (q : t σ H fun vs H1 => ∃ a b xs ys, vs = [.ref a, .ref b] ∧ ((SqL K H1 a xs ∧ SqL K H1 b ys ∧ R (Itz K a b) H1) ∨ (SqT K H1 a xs ∧ SqT K H1 b ys ∧ R (RZ.ItzT K a b) H1))) : RZ.iZipA K t σ H R := q
theorem n_enum {t : TA} {R : It → Hp → Prop} (q : t σ H fun vs H1 => ∃ a xs, vs = [.ref a] ∧ SqL K H1 a xs ∧ R (Ite K a) H1) : iEnum K t σ H R := q
theorem n_enuma {p : Addr} {xs : List V} {A : Addr → Prop} (h : H p = some (.lst xs)) (q : A p) : ∃ (a : Addr) (ys : List V), [V.ref p] = [.ref a] ∧ SqL K H a ys ∧ A a := ⟨p, xs, rfl, sql h, q⟩
/-- a, b = a pair -/
theorem n_pair {i j : Nat} {T : Addr} {a b : V} {Q : L2.St → Hp → Prop} (h : H T = some (.tup [a, b])) (q : Q ((σ.set i (some a)).set j (some b)) H) : gTup K 2 (gCons (gName i) (gCons (gName j) gNil)) (.ref T) σ H Q :=
  ⟨T, [a, b], rfl, sqt h, rfl, a, [b], rfl, b, [], rfl, rfl, q⟩
theorem walk_zipT {a b : Addr} {xs ys : List V} {n : Nat} (hn : n = min xs.length ys.length) : Walk (RZ.ItzT K a b) n (fun H => SqT K H a xs ∧ SqT K H b ys) (YPair (fun i => xs[i]?) (fun i => ys[i]?)) := by
  subst hn
  refine ⟨fun i _ hi q => ?_, fun _ q => ⟨xs, ys, q.1, q.2, by omega⟩, fun i H v H' _ q y => ?_⟩
  · have h1 : i < xs.length := by omega
    have h2 : i < ys.length := by omega
    exact ⟨xs, ys, xs[i], ys[i], q.1, q.2, by simp [h1], by simp [h2]⟩
  · obtain ⟨T, x, z, h1, h2, h3, h4, h5⟩ := y
    exact ⟨T, x, z, h1, h2, h3, h4 xs q.1, h5 ys q.2⟩
end
section
variable {K : PySem.W.Frag} {σ : L2.St} {H : Hp} {Q : VK} {te : TE}
theorem w_true {b : Bool} {A B : Prop} (e : b = true) (q : A) : if b = true then A else B := by rw [if_pos e]; exact q
theorem w_false {b : Bool} {A B : Prop} (e : b = false) (q : B) : if b = true then A else B := by rw [if_neg (by rw [e]; decide)]; exact q
theorem n_iStr {R : It → Hp → Prop} (q : te σ H fun v H1 => ∃ x, v = .str x ∧ R (Its x) H1) : iStr te σ H R := q
theorem n_iStra {x : Str} {A : Str → Prop} (q : A x) : ∃ z, V.str x = .str z ∧ A z := ⟨x, rfl, q⟩
theorem n_dct {w : World} {p : Addr} {z : Str} {v : V} (h : KDct K w p z v) (q : Q v H) : rIxD K w (.ref p) (.str z) H Q := ⟨p, z, v, rfl, rfl, h, q⟩
theorem all_true {bs : List Bool} (h : ∀ b ∈ bs, b = true) : bs.all id = true := List.all_eq_true.mpr fun b hb => h b hb
end
section
variable {X : Cx}
theorem k_isi (K : PySem.W.Frag) (e : X.K = K := by rfl) : CallR X (.builtin "isinstance") (rIsi K) := e ▸ call_isi
theorem k_len (K : PySem.W.Frag) (e : X.K = K := by rfl) : CallR X (.builtin "len") (rLen K) := e ▸ j_len
theorem k_ixl (K : PySem.W.Frag) (e : X.K = K := by rfl) : IxR X (rIxL K) := e ▸ ix_list
theorem k_ixt (K : PySem.W.Frag) (e : X.K = K := by rfl) : IxR X (rIxT K) := e ▸ ix_tup
theorem k_in (K : PySem.W.Frag) (e : X.K = K := by rfl) : OpR X (compareOp .In) (rIn K false) := e ▸ op_in_seq
theorem k_notIn (K : PySem.W.Frag) (e : X.K = K := by rfl) : OpR X (compareOp .NotIn) (rIn K true) := e ▸ op_notIn_seq
theorem k_listOf (K : PySem.W.Frag) (e : X.K = K := by rfl) : CallR X (.type "list") (rListOf K) := e ▸ j_listOf
theorem k_ixd (K : PySem.W.Frag) (w : World) (e : X.K = K := by rfl) (e2 : X.w = w := by rfl) : IxR X (rIxD K w) := e ▸ e2 ▸ ix_kdict
end
/-! ### truth of a list, sets of ints -/
def tTruJ (K : PySem.W.Frag) (ta : TE) : TT := fun σ H Q => ta σ H fun x H1 => ∃ k, TruV K x H1 k ∧ Q k H1
theorem j_truth {X : Cx} {a : Expr} {ta : TE} (ha : PE X a ta) (he : ∀ whole, isTrue a X.env whole = (do let v ← whole; standAt a.pos; holding [v] (truthy v))) : PT X a (tTruJ X.K ta) := pt_truth ha he
section
variable {K : PySem.W.Frag} {w : World} {σ : L2.St} {H : Hp} {Q : VK} {ta to : TE} {t : TA}
theorem n_tru {Q : Bool → Hp → Prop} (q : ta σ H fun x H1 => ∃ k, TruV K x H1 k ∧ Q k H1) : tTruJ K ta σ H Q := q
theorem n_truL {p : Addr} {xs : List V} {A : Bool → Prop} (h : H p = some (.lst xs)) (q : A (!xs.isEmpty)) : ∃ k, TruV K (.ref p) H k ∧ A k := ⟨_, .inl ⟨xs, .inl (.inl h), rfl⟩, q⟩
theorem n_snotin {a : Addr} {S : Int → Bool} {n : Nat} {k : Int} (h : H a = some (SetO w a S n)) (q : Q (.bl (!S k)) H) : rSNotIn w (.int k) (.ref a) H Q := ⟨k, a, S, n, rfl, rfl, h, q⟩
theorem n_sin {a : Addr} {S : Int → Bool} {n : Nat} {k : Int} (h : H a = some (SetO w a S n)) (q : Q (.bl (S k)) H) : rSIn w (.int k) (.ref a) H Q := ⟨k, a, S, n, rfl, rfl, h, q⟩
theorem n_sadd (q : to σ H fun x H1 => (∃ a S n, x = V.ref a ∧ H1 a = some (SetO w a S n)) ∧ t σ H1 fun xs H2 => rSAdd w x xs H2 Q) : tSAdd w to t σ H Q := q
theorem n_sadda {a : Addr} {S : Int → Bool} {n : Nat} {A : Prop} (h : H a = some (SetO w a S n)) (q : A) : (∃ b S n, V.ref a = V.ref b ∧ H b = some (SetO w b S n)) ∧ A := ⟨⟨a, S, n, rfl, h⟩, q⟩
theorem n_addS' {a : Addr} {S : Int → Bool} {n : Nat} {k : Int} (h : H a = some (SetO w a S n)) (z : n < 4000) (q : Q .non (upd H a (SetO w a (fun j => S j || decide (j = k)) (if S k = true then n else n + 1)))) : rSAdd w (.ref a) [.int k] H Q := ⟨a, k, S, n, rfl, rfl, h, by unfold scanBound; omega, q⟩
theorem n_pop {p : Addr} {xs : List V} {y : V} (h : H p = some (.lst (xs ++ [y]))) (q : Q y (upd H p (.lst xs))) : rPop (.ref p) [] H Q := ⟨p, xs ++ [y], y, rfl, rfl, h, by simp, by rw [List.dropLast_concat]; exact q⟩
theorem n_sortedSet {a : Addr} {S : Int → Bool} {n : Nat} (h : H a = some (SetO w a S n)) (z : n < 64) (q : ∀ (ns : List Int) (p : Addr) H1, ns.Pairwise (· < ·) → (∀ k : Int, k ∈ ns ↔ S k = true) → H p = none → Ex H H1 → H1 p = some (.lst (ns.map V.int)) → Q (.ref p) H1) : rSortedSet w [.ref a] H Q :=
  ⟨a, S, n, rfl, h, z, fun ns p h1 h2 _ hp => q ns p _ h1 h2 hp (Evl.Ex.new hp) upd_same⟩
theorem n_sortedI {a : Addr} {ns : List Int} (h : H a = some (.lst (ns.map V.int))) (q : ∀ (ms : List Int) (p : Addr) H1, ms.Perm ns → ms.Pairwise (· ≤ ·) → H p = none → Ex H H1 → H1 p = some (.lst (ms.map V.int)) → Q (.ref p) H1) : rSortedI K [.ref a] H Q :=
  ⟨a, ns, rfl, .inl (.inl h), fun ms p h1 h2 hp => q ms p _ h1 h2 hp (Evl.Ex.new hp) upd_same⟩
end
/-! ### dicts of lists, sorted texts -/
def rSortedD : List V → Hp → VK → Prop := fun xs H Q => ∃ (a : Addr) (kvs : List (Key × V)) (ks : List Str), xs = [.ref a] ∧ Rd H a (.dK kvs) ∧ kvs.map (·.1) = ks.map Sum.inr ∧ ks.length < 64 ∧ ∀ ys p, ys.Perm ks → sortedS ys = true → H p = none → Q (.ref p) (upd H p (.lst (ys.map V.str)))
theorem cr_sortedD {X : Cx} (hc : X.calm = true) : CallR X (.builtin "sorted") rSortedD := call_sortedD hc
section
variable {K : PySem.W.Frag} {σ : L2.St} {H : Hp} {Q : VK} {td ty tx : TE}
theorem n_sortedD {a : Addr} {kvs : List (Key × V)} {ks : List Str} (h : H a = some (.dK kvs)) (e : kvs.map (·.1) = ks.map Sum.inr) (z : ks.length < 64) (q : ∀ (ys : List Str) (p : Addr) H1, ys.Perm ks → sortedS ys = true → H p = none → Ex H H1 → H1 p = some (.lst (ys.map V.str)) → Q (.ref p) H1) : rSortedD [.ref a] H Q :=
  ⟨a, kvs, ks, rfl, .inl h, e, z, fun ys p h1 h2 hp => q ys p _ h1 h2 hp (Evl.Ex.new hp) upd_same⟩
theorem n_sortedS {a : Addr} {xs : List Str} (h : H a = some (.lst (xs.map V.str))) (z : xs.length < 64) (q : ∀ (ys : List Str) (p : Addr) H1, ys.Perm xs → sortedS ys = true → H p = none → Ex H H1 → H1 p = some (.lst (ys.map V.str)) → Q (.ref p) H1) : rSortedS K [.ref a] H Q :=
  ⟨a, xs, rfl, .inl (.inl h), z, fun ys p h1 h2 hp => q ys p _ h1 h2 hp (Evl.Ex.new hp) upd_same⟩
theorem n_dsetd (q : td σ H fun x H1 => ∃ a, x = .ref a ∧ IsD H1 a ∧ ty σ H1 fun y H2 => tx σ H2 fun z H3 => ∃ (kvs : List (Key × V)) (k : Key), H3 a = some (.dK kvs) ∧ y = kV k ∧ kvs.length < sizeLine ∧ (∀ v, valV kvs k = some v → Q v H3) ∧ (valV kvs k = none → Q z (upd H3 a (.dK (putK kvs k z))))) : tDSetd td ty tx σ H Q := q
theorem n_setd {p : Addr} {kvs : List (Key × V)} {x : Str} {z : V} (h : H p = some (.dK kvs)) (hz : kvs.length < 100000) (q1 : ∀ v, valV kvs (.inr x) = some v → Q v H) (q2 : valV kvs (.inr x) = none → Q z (upd H p (.dK (putK kvs (.inr x) z)))) : ∃ (kvs : List (Key × V)) (k : Key), H p = some (.dK kvs) ∧ V.str x = kV k ∧ kvs.length < sizeLine ∧ (∀ v, valV kvs k = some v → Q v H) ∧ (valV kvs k = none → Q z (upd H p (.dK (putK kvs k z)))) := ⟨kvs, .inr x, h, rfl, Evl.sz_lt hz, q1, q2⟩
theorem n_dgetT (q : td σ H fun x H1 => ty σ H1 fun y H2 => ∃ a v, x = .ref a ∧ DGet H2 a y (some v) ∧ Q v H2) : tDGet td ty σ H Q := q
theorem n_getT {p : Addr} {kvs : List (Key × V)} {x : Str} {v : V} (h : H p = some (.dK kvs)) (e : valV kvs (.inr x) = some v) (q : Q v H) : ∃ a w, V.ref p = .ref a ∧ DGet H a (.str x) (some w) ∧ Q w H := ⟨p, v, rfl, by rw [← e]; exact DGet.k (k := Sum.inr x) h, q⟩
end
end J

/-! ### sets of ints, made by {k}; a def with what its code object is -/
namespace J
open PySem PySem.Spec PyProof.Rows L2
theorem kds_of {K : PySem.W.Frag} {cd : Value} {q : Str} (h : PySem.W.codeIn K cd q = true) : PySem.W.kdsCode K cd = true := by
  unfold PySem.W.codeIn at h; unfold PySem.W.kdsCode
  split at h <;> first | cases h | skip
  split at h <;> first | cases h | skip
  rename_i e; simp only [e]
/-- FunD.ok, with the code object's kind -/
theorem okC {P : Program} {w : World} {K : PySem.W.Frag} {mg : Str → Option Value} {base : Heap} {x qual : Str} {params : Arguments} {body : List Stmt} {scope : Scope} {dvs : List V} {kws : List (Str × V)} {f : Addr} {fd : FuncData} {CX : CXT} {N ps : List Str} {k : Nat} {sp : Sp}
    (F : FunD K x qual params body scope dvs kws f fd) (S : FnScope N ps scope) (len : ∀ vs H Q E, sp vs H Q E → vs.length = ps.length)
    (hb : ∀ (cdv : Value) (_ : PySem.W.kdsCode K cdv = true) (A : Around) (outer : List PySem.Env) (s : Shared) (H : Hp) (vs : List V) (Q : VK) (E : XK), Room k (A.deeper (envOfC qual scope s.heap.objs.size f cdv)) → sp vs H Q E →
      ∃ t, PSs (cxOf CX P w K mg base N qual scope f cdv A outer s H E) body t ∧ t ⟨fun _ H' => Q .non H', Q, fun _ _ => False, fun _ _ => False⟩ (start N vs) H) : FnOk P w K mg base CX (k + 1) f fd ps sp := by
  obtain ⟨oc, od, dV, kV, doc, pm, an, cdv, ct, osl, rfl, lk, hcd, _, _⟩ := F.ex
  exact fn_of lk hcd S len fun A outer s H vs Q E hr h => hb cdv (kds_of hcd) A outer s H vs Q E hr h
section
variable {P : Program} {w : World} {A : Around} {E : Value → Shared → Prop} {s : Shared}
def freshSet (w : World) : Obj := { cls := .type "set", dict := none, data := .set #[] 0 (.fresh 0 0 (!w.params.followText "set-order")) }
theorem newSet_led {Q : Value → Shared → Prop} (h : Q (.ref s.heap.objs.size) { s with heap := s.heap.push (freshSet w) }) : wpAny (model P w) A (newSet (.type "set")) Q E s := by
  unfold newSet setsByText; refine wpAny_bind (wpAny_bind (wpAny_askSetting (wpAny_pure ?_))); dsimp only
  simp only [newObj]; refine wpAny_bind (wpAny_alloc (wpAny_pure ?_)); exact h
theorem setR_addI {a : Addr} {S : Int → Bool} {n : Nat} {k : Int} {tk : Tok} {Q : Bool → Shared → Prop} (R : SetR w s.heap a S n) (room : n + 1 < scanBound)
    (hQ : ∀ h', Heap.SameBut a s.heap h' → SetR w h' a (fun j => S j || decide (j = k)) (if S k = true then n else n + 1) → Q (!S k) { s with heap := h', toks := s.toks + 1 }) :
    wpAny (model P w) A (setAdd a (.int k tk)) Q E s := by
  unfold setAdd
  refine wpAny_holding (wpAny_bind (wpAny_pyHash_int ?_)); exact setR_add_hashed (s := { s with toks := s.toks + 1 }) R room hQ
theorem display_int {b : Bool} {k : Int} {e : Sem Value} {Q : Value → Shared → Prop} (he : ∀ (s : Shared) (R : Value → Shared → Prop), (∀ tk s', s'.heap = s.heap → s' = { s with toks := s'.toks } → R (.int k tk) s') → wpAny (model P w) A e R E s)
    (hQ : ∀ h' tk, Heap.SameBut s.heap.objs.size (s.heap.push (freshSet w)) h' → SetR w h' s.heap.objs.size (fun j => decide (j = k)) 1 → Q (.ref s.heap.objs.size) { s with heap := h', toks := tk }) :
    wpAny (model P w) A (setDisplay .oneByOne b [(false, e)]) Q E s := by
  unfold setDisplay; dsimp only
  rw [if_neg (by decide)]
  refine wpAny_bind (newSet_led ?_); dsimp only
  have e1 : ((if ([(false, e)] : List (Bool × Sem Value)).length > 30 then 0 else (([(false, e)] : List (Bool × Sem Value)).findIdx? (·.1)).getD ([(false, e)] : List (Bool × Sem Value)).length)) = 1 := rfl
  rw [e1]
  refine wpAny_bind (wpAny_holding ?_)
  show wpAny (model P w) A (evalAll [e] >>= _) _ _ _
  refine wpAny_bind ?_
  show wpAny (model P w) A (e >>= fun v => holding [v] (evalAll []) >>= fun r => pure (v :: r)) _ _ _
  refine wpAny_bind (he _ _ fun tk s' h1 h2 => ?_)
  refine wpAny_bind (wpAny_holding (wpAny_pure ?_)); refine wpAny_pure ?_
  have R : SetR w s'.heap s.heap.objs.size (fun _ => false) 0 := by rw [h1]; exact setR_fresh w
  refine wpAny_bind (wpAny_holding ?_)
  rw [List.forIn_cons]
  refine wpAny_bind (wpAny_bind (wpAny_bind (setR_addI R (by decide) fun h' sb R' => ?_)))
  refine wpAny_pure ?_; dsimp only
  rw [List.forIn_nil]
  refine wpAny_pure ?_
  rw [if_neg (by decide)]
  refine wpAny_pure ?_
  rw [show List.drop 1 [(false, e)] = [] from rfl, List.forIn_nil]
  refine wpAny_bind (wpAny_pure (wpAny_pure (wpAny_pure ?_)))
  have R2 : SetR w h' s.heap.objs.size (fun j => decide (j = k)) 1 := R'.congr fun j => by simp
  have z := hQ h' (s'.toks + 1) (by rw [h1] at sb; exact sb) R2
  rw [h2]
  exact z
end
section
variable {X : Cx}
/-- {k}, k written -/
def tSet1 (w : World) (k : Int) : TE := fun _ H Q => ∀ p, H p = none → Q (.ref p) (upd H p (SetO w p (fun j => decide (j = k)) 1))
theorem pe_set1 {k : Int} {j : Nat} {p2 pos : Pos} (hcd : PySem.W.kdsCode X.K X.env.code = true) : PE X (.Set [.Constant (.int k) j p2] 0 pos) (tSet1 X.w k) := by
  refine ⟨fun pins s σ H Q I h => ?_⟩
  rw [arm_eval_Set]
  refine wpAny_bind (wpAny_standAt (wpAny_bind (PySem.W.kds_main I.kIn hcd fun b => ?_)))
  rw [PySem.W.kds_star _ rfl, List.map_map, PySem.arm_evalEach_cons, List.map_cons]
  rw [PySem.arm_evalEach_nil, List.map_nil]
  refine display_int (k := k) (fun s2 R hR => ?_) (fun h' tk sb R => ?_)
  · refine wpAny_bind (wpAny_Constant_int ?_)
    refine wpAny_bind (wpAny_standAt (wpAny_pure ?_)); exact hR _ _ rfl rfl
  · have J : Inv X pins σ (upd H s.heap.objs.size (SetO X.w s.heap.objs.size (fun j => decide (j = k)) 1)) { s with heap := h', toks := tk } :=
      I.laid (fun b u e => (sb.2 b (fun z => Nat.lt_irrefl _ (z ▸ Heap.lt_size e))).trans (Heap.get?_push_of_some _ e)) (Nat.le_refl _) (setO_new R)
    exact ⟨.ref _, _, J, rfl, h _ (I.hok.fresh (Nat.le_refl _))⟩
theorem n_set1 {w : World} {k : Int} {σ : L2.St} {H : Hp} {Q : VK} (q : ∀ p H1, H p = none → Evl.Ex H H1 → H1 p = some (SetO w p (fun j => decide (j = k)) 1) → Q (.ref p) H1) : tSet1 w k σ H Q := fun p h => q p _ h (Evl.Ex.new h) upd_same
end
end J

/-! ### plain mathematics: what the drawing defs tell -/
namespace J
open PySem L2
open Evl (Ex)
def cellAt (ns : List Int) (k : Int) : Int := ns.getD k.toNat 0
def mixed (c k : Int) : Int :=
  let n := (c * 48271 + 7919 * k + 12345) % 2147483647
  n * n % 2147483647 * n % 2147483647
theorem mixed_lo (c k : Int) : 0 ≤ mixed c k := Int.emod_nonneg _ (by decide)
theorem mixed_hi (c k : Int) : mixed c k < 2147483647 := Int.emod_lt_of_pos _ (by decide)
def sizeBy (c : Int) : Int := if c / 9 % 6 = 1 then 10 + c / 54 % 4 else c % 10
theorem sizeBy_lo (c : Int) : 0 ≤ sizeBy c := by unfold sizeBy; split <;> omega
theorem sizeBy_hi (c : Int) : sizeBy c ≤ 13 := by unfold sizeBy; split <;> omega
/-! names -/
def nameB (s : Str) : Bool := decide (1 ≤ s.length) && (decide (s.length ≤ 8) && s.cps.toList.all fun c => decide (97 ≤ c) && decide (c ≤ 122))
/-- an operand of the law's: a name or a whole number -/
abbrev Op := Key
inductive Ari where | add | sub | less
  deriving DecidableEq
inductive Row where
  | set (x : Str) (o : Op) | ari (k : Ari) (x : Str) (o p : Op) | say (o : Op) | jump (t : Nat) | nought (o : Op) (t : Nat) | stop
  deriving DecidableEq
def Ari.word : Ari → Str
  | .add => "add" | .sub => "sub" | .less => "less"
def Row.word : Row → Str
  | .set .. => "set" | .ari k .. => k.word | .say .. => "say" | .jump .. => "jump" | .nought .. => "nought" | .stop => "stop"
/-- what stands in the row's tuple -/
def Row.vs : Row → List V
  | .set x o => [.str "set", .str x, kV o]
  | .ari k x o p => [.str k.word, .str x, kV o, kV p]
  | .say o => [.str "say", kV o]
  | .jump t => [.str "jump", .int (t : Int)]
  | .nought o t => [.str "nought", kV o, .int (t : Int)]
  | .stop => [.str "stop"]
def opB : Op → Bool
  | .inl _ => true
  | .inr x => nameB x
/-- a row of so many rows, as the document tells it -/
def Row.ok (n : Nat) : Row → Bool
  | .set x o => nameB x && opB o
  | .ari _ x o p => nameB x && (opB o && opB p)
  | .say o => opB o
  | .jump t => decide (t ≤ n)
  | .nought o t => opB o && decide (t ≤ n)
  | .stop => true
/-- at v stands the row's tuple -/
def RowAt (H : Hp) (v : V) (r : Row) : Prop := ∃ a, v = .ref a ∧ H a = some (.tup r.vs)
theorem RowAt.mono {H H' : Hp} {v : V} {r : Row} (h : RowAt H v r) (e : Ex H H') : RowAt H' v r := by
  obtain ⟨a, e1, e2⟩ := h
  exact ⟨a, e1, e a _ e2⟩
/-- these are the rows -/
def RowsV (H : Hp) (vs : List V) (rs : List Row) : Prop := vs.length = rs.length ∧ ∀ (i : Nat) (v : V) (r : Row), vs[i]? = some v → rs[i]? = some r → RowAt H v r
theorem RowsV.mono {H H' : Hp} {vs : List V} {rs : List Row} (h : RowsV H vs rs) (e : Ex H H') : RowsV H' vs rs := ⟨h.1, fun i v r a b => (h.2 i v r a b).mono e⟩
theorem RowsV.at {H : Hp} {vs : List V} {rs : List Row} (h : RowsV H vs rs) {i : Nat} {r : Row} (e : rs[i]? = some r) : ∃ a, vs[i]? = some (.ref a) ∧ H a = some (.tup r.vs) := by
  have hi : i < rs.length := (List.getElem?_eq_some_iff.mp e).1
  have hi2 : i < vs.length := by rw [h.1]; exact hi
  have e2 : vs[i]? = some vs[i] := List.getElem?_eq_getElem hi2
  obtain ⟨a, e3, e4⟩ := h.2 i _ r e2 e
  exact ⟨a, by rw [e2, e3], e4⟩
theorem RowsV.nil {H : Hp} : RowsV H [] [] := ⟨rfl, fun i v r a _ => by simp at a⟩
theorem RowsV.app {H : Hp} {vs us : List V} {rs ts : List Row} (h : RowsV H vs rs) (k : RowsV H us ts) : RowsV H (vs ++ us) (rs ++ ts) := by
  refine ⟨by rw [List.length_append, List.length_append, h.1, k.1], fun i v r a b => ?_⟩
  by_cases hi : i < vs.length
  · rw [List.getElem?_append_left hi] at a
    rw [List.getElem?_append_left (by rw [← h.1]; exact hi)] at b
    exact h.2 i v r a b
  · rw [List.getElem?_append_right (by omega)] at a
    rw [List.getElem?_append_right (by rw [← h.1]; omega)] at b
    rw [← h.1] at b
    exact k.2 _ v r a b
theorem RowsV.one {H : Hp} {v : V} {r : Row} (h : RowAt H v r) : RowsV H [v] [r] := by
  refine ⟨rfl, fun i v' r' a b => ?_⟩
  cases i with
  | zero =>
    cases Option.some.inj a
    cases Option.some.inj b
    exact h
  | succ n => simp at a
end J
/-! ### the names -/
namespace J
open PySem L2
def S (l : List Nat) : Str := ⟨l.toArray⟩
theorem S_len (l : List Nat) : (S l).length = l.length := by simp [S, Str.length]
theorem S_cps (l : List Nat) : (S l).cps.toList = l := by simp [S]
theorem S_inj {a b : List Nat} (h : S a = S b) : a = b := by rw [← S_cps a, h, S_cps]
def nk (c : Int) (k : Nat) : Nat := (mixed (c / 7) k % 26).toNat
theorem nk_lt (c : Int) (k : Nat) : nk c k < 26 := by unfold nk; omega
def many (c : Int) : Nat := (1 + c % 7).toNat
theorem many_lo (c : Int) : 1 ≤ many c := by unfold many; omega
theorem many_hi (c : Int) : many c ≤ 7 := by unfold many; omega
theorem many_eq (c : Int) : (many c : Int) = 1 + c % 7 := by unfold many; omega
def bs (c : Int) : List Nat := (List.range (many c)).map fun k => 97 + nk c k
theorem bs_len (c : Int) : (bs c).length = many c := by simp [bs]
def atN (c : Int) : Nat := (c / 7 % (1 + c % 7)).toNat
theorem atN_lt (c : Int) : atN c < many c := by
  have h := many_lo c
  have e := many_eq c
  have h1 : 0 ≤ c / 7 % (1 + c % 7) := Int.emod_nonneg _ (by omega)
  have h2 : c / 7 % (1 + c % 7) < 1 + c % 7 := Int.emod_lt_of_pos _ (by omega)
  unfold atN
  omega
theorem atN_eq (c : Int) : (atN c : Int) = c / 7 % (1 + c % 7) := by
  have h1 : 0 ≤ c / 7 % (1 + c % 7) := Int.emod_nonneg _ (by omega)
  unfold atN
  omega
def bc (c : Int) : Nat := nk c (atN c)
def nameAt (c : Int) (k : Nat) : Str := S ((bs c).set (atN c) (97 + (bc c + k) % 26))
def lastN (c : Int) : Str := S (bs c ++ [97 + (c / 147 % 26).toNat])
def fewN (c : Int) : Nat := (2 + c / 49 % 3).toNat
def namesBy (c : Int) : List Str := (List.range (fewN c)).map (nameAt c) ++ [lastN c]
theorem fewN_lo (c : Int) : 2 ≤ fewN c := by unfold fewN; omega
theorem fewN_hi (c : Int) : fewN c ≤ 4 := by unfold fewN; omega
theorem namesBy_len (c : Int) : (namesBy c).length = fewN c + 1 := by simp [namesBy]
theorem bs_in {c : Int} {x : Nat} (h : x ∈ bs c) : 97 ≤ x ∧ x ≤ 122 := by
  obtain ⟨k, _, e⟩ := List.mem_map.mp h
  have := nk_lt c k
  omega
theorem nameB_S {l : List Nat} (h1 : 1 ≤ l.length) (h2 : l.length ≤ 8) (h : ∀ x ∈ l, 97 ≤ x ∧ x ≤ 122) : nameB (S l) = true := by
  unfold nameB
  rw [S_len, S_cps, decide_eq_true h1, decide_eq_true h2]
  simp only [Bool.true_and, List.all_eq_true]
  intro x hx
  have := h x hx
  simp [this.1, this.2]
theorem namesBy_ok {c : Int} {x : Str} (h : x ∈ namesBy c) : nameB x = true := by
  have h1 := many_lo c
  have h2 := many_hi c
  rcases List.mem_append.mp h with h | h
  · obtain ⟨k, _, rfl⟩ := List.mem_map.mp h
    refine nameB_S (by rw [List.length_set, bs_len]; exact h1) (by rw [List.length_set, bs_len]; omega) fun x hx => ?_
    rcases List.mem_or_eq_of_mem_set hx with hx | hx
    · exact bs_in hx
    · omega
  · cases List.mem_singleton.mp h
    refine nameB_S (by rw [List.length_append]; simp) (by rw [List.length_append, bs_len]; simp; omega) fun x hx => ?_
    rcases List.mem_append.mp hx with hx | hx
    · exact bs_in hx
    · have := List.mem_singleton.mp hx
      omega
theorem nameAt_inj {c : Int} {i j : Nat} (hi : i < 26) (hj : j < 26) (h : nameAt c i = nameAt c j) : i = j := by
  have e := S_inj h
  have hl : atN c < (bs c).length := by rw [bs_len]; exact atN_lt c
  have e1 : ((bs c).set (atN c) (97 + (bc c + i) % 26))[atN c]? = some (97 + (bc c + i) % 26) := by rw [List.getElem?_set_self hl]
  have e2 : ((bs c).set (atN c) (97 + (bc c + j) % 26))[atN c]? = some (97 + (bc c + j) % 26) := by rw [List.getElem?_set_self hl]
  rw [e, e2] at e1
  have e3 := Option.some.inj e1
  have := nk_lt c (atN c)
  have : bc c < 26 := nk_lt c (atN c)
  omega
theorem namesBy_nodup (c : Int) : (namesBy c).Nodup := by
  have h4 := fewN_hi c
  refine List.nodup_append.mpr ⟨?_, by simp, ?_⟩
  · rw [List.nodup_iff_pairwise_ne, List.pairwise_map]
    refine (List.nodup_iff_pairwise_ne.mp List.nodup_range).imp_of_mem ?_
    intro a b ha hb hab e
    exact hab (nameAt_inj (by have := List.mem_range.mp ha; omega) (by have := List.mem_range.mp hb; omega) e)
  · intro a ha b hb e
    obtain ⟨k, _, rfl⟩ := List.mem_map.mp ha
    cases List.mem_singleton.mp hb
    have e2 := congrArg Str.length e
    rw [nameAt, lastN, S_len, S_len, List.length_set, List.length_append] at e2
    simp at e2
end J
/-! ### rows over some names -/
namespace J
open PySem L2
open Evl (Ex)
def opIn (names : List Str) : Op → Prop
  | .inl _ => True
  | .inr x => x ∈ names
def Row.inn (names : List Str) (n : Nat) : Row → Prop
  | .set x o => x ∈ names ∧ opIn names o
  | .ari _ x o p => x ∈ names ∧ opIn names o ∧ opIn names p
  | .say o => opIn names o
  | .jump t => t ≤ n
  | .nought o t => opIn names o ∧ t ≤ n
  | .stop => True
theorem Row.inn_mono {names : List Str} {n m : Nat} (h : n ≤ m) {r : Row} (q : r.inn names n) : r.inn names m := by
  cases r with
  | jump t => exact Nat.le_trans q h
  | nought o t => exact ⟨q.1, Nat.le_trans q.2 h⟩
  | _ => exact q
theorem opB_of {names : List Str} (hn : ∀ x ∈ names, nameB x = true) {o : Op} (h : opIn names o) : opB o = true := by
  cases o with
  | inl i => rfl
  | inr x => exact hn x h
theorem Row.ok_of {names : List Str} (hn : ∀ x ∈ names, nameB x = true) {n : Nat} {r : Row} (h : r.inn names n) : r.ok n = true := by
  cases r with
  | set x o => simp [Row.ok, hn x h.1, opB_of hn h.2]
  | ari k x o p => simp [Row.ok, hn x h.1, opB_of hn h.2.1, opB_of hn h.2.2]
  | say o => exact opB_of hn h
  | jump t => exact decide_eq_true h
  | nought o t => simp [Row.ok, opB_of hn h.1, h.2]
  | stop => rfl
theorem RowsV.updL {H : Hp} {vs : List V} {rs : List Row} {p : Addr} {xs ys : List V} (h : RowsV H vs rs) (hp : H p = some (.lst xs)) : RowsV (upd H p (.lst ys)) vs rs := by
  refine ⟨h.1, fun i v r a b => ?_⟩
  obtain ⟨t, e1, e2⟩ := h.2 i v r a b
  exact ⟨t, e1, by rw [upd_ne (ne_of e2 hp (fun z => by cases z))]; exact e2⟩
theorem opt_pick {α : Type} {l : List α} {i : Int} (h0 : 0 ≤ i) (h : i < l.length) : ∃ x, x ∈ l ∧ L2.atI l i = some x := by
  obtain ⟨n, rfl⟩ : ∃ n : Nat, i = (n : Int) := ⟨i.toNat, by omega⟩
  have hn : n < l.length := by omega
  exact ⟨l[n], List.getElem_mem hn, atI_nat (List.getElem?_eq_getElem hn)⟩
theorem atI_map {α β : Type} {l : List α} {f : α → β} {i : Int} {x : α} (h : L2.atI l i = some x) : L2.atI (l.map f) i = some (f x) := by
  unfold L2.atI at *
  rw [List.length_map]
  cases e : ixN l.length i with
  | none => rw [e] at h; cases h
  | some j =>
    rw [e] at h
    have h : l[j]? = some x := h
    show (l.map f)[j]? = _
    rw [List.getElem?_map, h]; rfl
end J
namespace J
open PySem L2
open Evl (Ex)
/-- the rows that a law draws: over its names, their goals within -/
structure Good (c : Int) (rs : List Row) : Prop where
  inn : ∀ r ∈ rs, r.inn (namesBy c) rs.length
  few : rs.length ≤ 22
theorem Good.ok {c : Int} {rs : List Row} (g : Good c rs) {r : Row} (h : r ∈ rs) : r.ok rs.length = true := Row.ok_of (fun _ hx => namesBy_ok hx) (g.inn r h)
theorem rotated {names : List Str} {t : Nat} (h : 3 ≤ names.length) (ht : t < names.length) : ∃ x y z, x ∈ names ∧ y ∈ names ∧ z ∈ names ∧ (names.drop t ++ names.take t).take 3 = [x, y, z] := by
  have hl : (names.drop t ++ names.take t).length = names.length := by rw [List.length_append, List.length_drop, List.length_take]; omega
  have hm : ∀ x ∈ names.drop t ++ names.take t, x ∈ names := fun x hx => by
    rcases List.mem_append.mp hx with hx | hx
    · exact List.mem_of_mem_drop hx
    · exact List.mem_of_mem_take hx
  match e : names.drop t ++ names.take t with
  | [] => rw [e] at hl; simp at hl; omega
  | [_] => rw [e] at hl; simp at hl; omega
  | [_, _] => rw [e] at hl; simp at hl; omega
  | x :: y :: z :: r => exact ⟨x, y, z, hm x (by rw [e]; simp), hm y (by rw [e]; simp), hm z (by rw [e]; simp), rfl⟩
theorem cut_from (xs : List V) (t : Nat) : cutV xs (some (t : Int)) none = xs.drop t := by
  unfold cutV
  rw [HT.sIx_nat, HT.sIx_none]
  by_cases h : t ≤ xs.length
  · rw [Nat.min_eq_left h, List.take_of_length_le (by rw [List.length_drop]; omega)]
  · rw [Nat.min_eq_right (by omega), List.drop_eq_nil_of_le (Nat.le_refl _), List.drop_eq_nil_of_le (by omega)]; simp
theorem cut_to (xs : List V) (t : Nat) : cutV xs none (some (t : Int)) = xs.take t := by
  unfold cutV
  rw [HT.sIx_nat, HT.sIx_none, Nat.sub_zero, List.drop_zero]
  by_cases h : t ≤ xs.length
  · rw [Nat.min_eq_left h]
  · rw [Nat.min_eq_right (by omega), List.take_of_length_le (Nat.le_refl _), List.take_of_length_le (by omega)]
end J
/-! ### names and what they hold -/
namespace J
open PySem L2
abbrev Env := List (Str × Int)
def kvsOf (env : Env) : List (Key × V) := env.map fun p => (Sum.inr p.1, V.int p.2)
def lookE (env : Env) (x : Str) : Option Int := (env.find? fun p => decide (p.1 = x)).map (·.2)
def putE (env : Env) (x : Str) (n : Int) : Env := if (env.any fun p => decide (p.1 = x)) = true then env.map (fun p => if p.1 = x then (p.1, n) else p) else env ++ [(x, n)]
theorem kvsOf_len (env : Env) : (kvsOf env).length = env.length := by simp [kvsOf]
theorem valV_kvs (env : Env) (x : Str) : valV (kvsOf env) (Sum.inr x) = (lookE env x).map V.int := by
  induction env with
  | nil => rfl
  | cons p r ih =>
    by_cases h : p.1 = x
    · rw [show kvsOf (p :: r) = (Sum.inr p.1, V.int p.2) :: kvsOf r from rfl, valV_pos (by rw [h])]
      simp [lookE, List.find?_cons, h]
    · rw [show kvsOf (p :: r) = (Sum.inr p.1, V.int p.2) :: kvsOf r from rfl, valV_neg (by simpa using h), ih]
      simp [lookE, List.find?_cons, h]
theorem putK_kvs (env : Env) (x : Str) (n : Int) : putK (kvsOf env) (Sum.inr x) (V.int n) = kvsOf (putE env x n) := by
  have e : ((kvsOf env).any fun kv => decide (kv.1 = Sum.inr x)) = env.any fun p => decide (p.1 = x) := by
    rw [kvsOf, List.any_map]
    congr 1
    funext p
    simp
  unfold putK putE
  rw [e]
  split
  · simp only [kvsOf, List.map_map]
    refine List.map_congr_left fun p _ => ?_
    by_cases h : p.1 = x
    · simp [h]
    · simp [h]
  · simp [kvsOf]
theorem putE_len (env : Env) (x : Str) (n : Int) : (putE env x n).length ≤ env.length + 1 := by
  unfold putE
  split <;> simp
theorem putE_keys {env : Env} {x : Str} {n : Int} {p : Str × Int} (h : p ∈ putE env x n) : p.1 = x ∨ ∃ q ∈ env, q.1 = p.1 := by
  unfold putE at h
  split at h
  · obtain ⟨q, hq, e⟩ := List.mem_map.mp h
    by_cases hx : q.1 = x
    · rw [if_pos hx] at e; rw [← e]; exact .inl hx
    · rw [if_neg hx] at e; rw [← e]; exact .inr ⟨q, hq, rfl⟩
  · rcases List.mem_append.mp h with h | h
    · exact .inr ⟨p, h, rfl⟩
    · rw [List.mem_singleton.mp h]; exact .inl rfl
theorem lookE_put (env : Env) (x y : Str) (n : Int) : lookE (putE env x n) y = if y = x then some n else lookE env y := by
  have h1 := valV_kvs (putE env x n) y
  rw [← putK_kvs, valV_put] at h1
  by_cases h : y = x
  · subst h
    rw [if_pos rfl] at h1 ⊢
    cases e : lookE (putE env y n) y with
    | none => rw [e] at h1; cases h1
    | some m =>
      rw [e] at h1
      have := V.int.inj (Option.some.inj h1)
      rw [this]
  · rw [if_neg (by simpa using h), valV_kvs] at h1
    rw [if_neg h]
    cases e : lookE (putE env x n) y with
    | none => rw [e] at h1; cases e2 : lookE env y with
      | none => rfl
      | some m => rw [e2] at h1; cases h1
    | some m => rw [e] at h1; cases e2 : lookE env y with
      | none => rw [e2] at h1; cases h1
      | some k => rw [e2] at h1; have := V.int.inj (Option.some.inj h1); rw [this]
theorem keys_nodup_put {env : Env} {x : Str} {n : Int} (h : (env.map (·.1)).Nodup) : ((putE env x n).map (·.1)).Nodup := by
  unfold putE
  split
  · have e : (env.map (fun p => if p.1 = x then (p.1, n) else p)).map (·.1) = env.map (·.1) := by
      rw [List.map_map]
      refine List.map_congr_left fun p _ => ?_
      by_cases hp : p.1 = x <;> simp [hp]
    rw [e]; exact h
  · rename_i hn
    rw [List.map_append]
    refine List.nodup_append.mpr ⟨h, by simp, ?_⟩
    intro a ha b hb e
    obtain ⟨p, hp, rfl⟩ := List.mem_map.mp ha
    have hb := List.mem_singleton.mp hb
    refine hn (List.any_eq_true.mpr ⟨p, hp, decide_eq_true ?_⟩)
    rw [e, hb]
theorem lookE_self {env : Env} (h : (env.map (·.1)).Nodup) {p : Str × Int} (hp : p ∈ env) : lookE env p.1 = some p.2 := by
  induction env with
  | nil => cases hp
  | cons q r ih =>
    have hn := List.nodup_cons.mp (show (q.1 :: r.map (·.1)).Nodup from h)
    rcases List.mem_cons.mp hp with rfl | hp
    · simp [lookE, List.find?_cons]
    · have : ¬ q.1 = p.1 := fun z => hn.1 (List.mem_map.mpr ⟨p, hp, z.symm⟩)
      have := ih hn.2 hp
      simp [lookE, List.find?_cons, *] at *
      exact this
end J
/-! ### rows as the program looks at them -/
namespace J
open PySem L2
open Evl (Ex)
/-- what the parts of a row are -/
def Row.parts : Row → List Str
  | .set .. => ["name", "operand"] | .ari .. => ["name", "operand", "operand"] | .say .. => ["operand"] | .jump .. => ["goal"] | .nought .. => ["operand", "goal"] | .stop => []
def Fits (v : V) (part : Str) : Prop := part = "goal" ∨ (part = "operand" ∧ ∃ o, v = kV o ∧ opB o = true) ∨ (part = "name" ∧ ∃ s, v = .str s ∧ nameB s = true)
theorem Row.vs_head (r : Row) : r.vs[0]? = some (.str r.word) := by cases r <;> rfl
theorem Row.vs_len (r : Row) : r.vs.length = r.parts.length + 1 := by cases r <;> rfl
theorem Row.fits {r : Row} {n : Nat} (h : r.ok n = true) : Paired Fits (r.vs.drop 1) r.parts := by
  cases r with
  | set x o =>
    have h := Bool.and_eq_true_iff.mp h
    exact .cons (.inr (.inr ⟨rfl, x, rfl, h.1⟩)) (.cons (.inr (.inl ⟨rfl, o, rfl, h.2⟩)) .nil)
  | ari k x o p =>
    have h := Bool.and_eq_true_iff.mp h
    have h2 := Bool.and_eq_true_iff.mp h.2
    exact .cons (.inr (.inr ⟨rfl, x, rfl, h.1⟩)) (.cons (.inr (.inl ⟨rfl, o, rfl, h2.1⟩)) (.cons (.inr (.inl ⟨rfl, p, rfl, h2.2⟩)) .nil))
  | say o => exact .cons (.inr (.inl ⟨rfl, o, rfl, h⟩)) .nil
  | jump t => exact .cons (.inl rfl) .nil
  | nought o t =>
    have h := Bool.and_eq_true_iff.mp h
    exact .cons (.inr (.inl ⟨rfl, o, rfl, h.1⟩)) (.cons (.inl rfl) .nil)
  | stop => exact .nil
def Row.goal : Row → Option Nat
  | .jump t => some t | .nought _ t => some t | _ => none
theorem Row.goal_in (r : Row) : inV (.str "goal") (r.parts.map V.str) = r.goal.isSome := by cases r <;> rfl
theorem Row.goal_last {r : Row} {t : Nat} (h : r.goal = some t) : L2.atI r.vs (-1) = some (.int (t : Int)) := by
  cases r with
  | jump u => cases h; exact atI_last [.str "jump"] _
  | nought o u => cases h; exact atI_last [.str "nought", kV o] _
  | _ => cases h
theorem Row.goal_ok {r : Row} {t n : Nat} (h : r.goal = some t) (k : r.ok n = true) : t ≤ n := by
  cases r with
  | jump u => cases h; exact of_decide_eq_true k
  | nought o u => cases h; exact of_decide_eq_true (Bool.and_eq_true_iff.mp k).2
  | _ => cases h
theorem flat_strs (l : List Str) : (l.map V.str).all flatV = true := by
  rw [List.all_map, List.all_eq_true]
  intro x _
  rfl
theorem sign_ok (c : Nat) : ((!decide ([c] < (("a" : Str).cps.toList))) = true ∧ (!decide ((("z" : Str).cps.toList) < [c])) = true) ↔ (97 ≤ c ∧ c ≤ 122) := by
  have e1 : ("a" : Str).cps.toList = [97] := by decide +kernel
  have e2 : ("z" : Str).cps.toList = [122] := by decide +kernel
  rw [e1, e2]
  simp [List.cons_lt_cons_iff]
end J

/-! ### rows done, one behind the other -/
namespace J
open PySem L2
open Evl (Ex)
def val (env : Env) : Op → Int
  | .inl i => i
  | .inr x => (lookE env x).getD 0
def arith : Ari → Int → Int → Int
  | .add, a, b => a + b | .sub, a, b => a - b | .less, a, b => if a < b then 1 else 0
def envOf (r : Row) (env : Env) : Env := match r with
  | .set x o => putE env x (val env o)
  | .ari k x o p => putE env x (arith k (val env o) (val env p))
  | _ => env
def saidOf (r : Row) (env : Env) (said : List Int) : List Int := match r with
  | .say o => said ++ [val env o]
  | _ => said
def nextOf (r : Row) (n place : Nat) (env : Env) : Nat := match r with
  | .jump t => t
  | .stop => n
  | .nought o t => if val env o = 0 then t else place + 1
  | _ => place + 1
/-- fuel, place, what is held, what was said, how many were done -/
def runM (rs : List Row) : Nat → Nat → Env → List Int → Nat → List Int × Bool × Nat
  | 0, place, _, said, done => (said, decide (rs.length ≤ place), done)
  | k + 1, place, env, said, done => match rs[place]? with
    | none => (said, true, done)
    | some r => runM rs k (nextOf r rs.length place env) (envOf r env) (saidOf r env said) (done + 1)
theorem runM_end {rs : List Row} {k place done : Nat} {env : Env} {said : List Int} (h : rs.length ≤ place) : runM rs k place env said done = (said, true, done) := by
  cases k with
  | zero => rw [runM, decide_eq_true h]
  | succ k => rw [runM, List.getElem?_eq_none_iff.mpr h]
theorem runM_step {rs : List Row} {k place done : Nat} {env : Env} {said : List Int} {r : Row} (h : rs[place]? = some r) : runM rs (k + 1) place env said done = runM rs k (nextOf r rs.length place env) (envOf r env) (saidOf r env said) (done + 1) := by
  rw [runM, h]
theorem runM_tired {rs : List Row} {place done : Nat} {env : Env} {said : List Int} (h : place < rs.length) : runM rs 0 place env said done = (said, false, done) := by
  rw [runM, decide_eq_false (by omega)]
theorem envOf_len (r : Row) (env : Env) : (envOf r env).length ≤ env.length + 1 := by
  cases r with
  | set x o => exact putE_len _ _ _
  | ari k x o p => exact putE_len _ _ _
  | _ => exact Nat.le_succ _
theorem saidOf_len (r : Row) (env : Env) (said : List Int) : (saidOf r env said).length ≤ said.length + 1 := by
  cases r with
  | say o => simp [saidOf]
  | _ => exact Nat.le_succ _
theorem nextOf_le {r : Row} {n place : Nat} {env : Env} (h : r.ok n = true) (hp : place < n) : nextOf r n place env ≤ n := by
  cases r with
  | jump t => exact of_decide_eq_true h
  | nought o t =>
    show (if _ then _ else _) ≤ _
    split
    · exact of_decide_eq_true (Bool.and_eq_true_iff.mp h).2
    · exact hp
  | stop => exact Nat.le_refl _
  | _ => exact hp
def endW (b : Bool) : Str := if b then "end" else "tired"
def Row.asks : Row → List Op
  | .set _ o => [o] | .ari _ _ o p => [o, p] | .say o => [o] | .nought o _ => [o] | _ => []
/-- data -/
def pdO : Op → PyData
  | .inl i => .int i
  | .inr x => .str x
def Row.pd : Row → PyData
  | .set x o => .tuple [.str "set", .str x, pdO o]
  | .ari k x o p => .tuple [.str k.word, .str x, pdO o, pdO p]
  | .say o => .tuple [.str "say", pdO o]
  | .jump t => .tuple [.str "jump", .int (t : Int)]
  | .nought o t => .tuple [.str "nought", pdO o, .int (t : Int)]
  | .stop => .tuple [.str "stop"]
section
variable {K : PySem.W.Frag} {H : Hp}
theorem dp_op (o : Op) : Dp K H (kV o) (pdO o) := by cases o with
  | inl i => exact .int i
  | inr x => exact .str x
theorem dp_row {a : Addr} {r : Row} (h : H a = some (.tup r.vs)) : Dp K H (.ref a) r.pd := by
  cases r with
  | set x o => exact .tup (sqt h) (.cons (.str _) (.cons (.str _) (.cons (dp_op o) .nil)))
  | ari k x o p => exact .tup (sqt h) (.cons (.str _) (.cons (.str _) (.cons (dp_op o) (.cons (dp_op p) .nil))))
  | say o => exact .tup (sqt h) (.cons (.str _) (.cons (dp_op o) .nil))
  | jump t => exact .tup (sqt h) (.cons (.str _) (.cons (.int _) .nil))
  | nought o t => exact .tup (sqt h) (.cons (.str _) (.cons (dp_op o) (.cons (.int _) .nil)))
  | stop => exact .tup (sqt h) (.cons (.str _) .nil)
theorem dp_rows : ∀ {us : List V} {rs : List Row}, RowsV H us rs → DpAll K H us (rs.map Row.pd)
  | [], [], _ => .nil
  | u :: us, r :: rs, h => by
    obtain ⟨a, e, ha⟩ := h.2 0 u r rfl rfl
    refine .cons (by rw [e]; exact dp_row ha) (dp_rows ⟨by have := h.1; simp at this; exact this, fun i v r' x y => h.2 (i + 1) v r' (by simpa using x) (by simpa using y)⟩)
  | [], _ :: _, h => by have := h.1; simp at this
  | _ :: _, [], h => by have := h.1; simp at this
theorem dp_ints : ∀ (ns : List Int), DpAll K H (ns.map V.int) (ns.map PyData.int)
  | [] => .nil
  | n :: r => .cons (.int n) (dp_ints r)
end
theorem strOk_name {x : Str} (h : nameB x = true) : PyData.strOk x = true := by
  unfold nameB at h
  have h3 := (Bool.and_eq_true_iff.mp (Bool.and_eq_true_iff.mp h).2).2
  unfold PyData.strOk
  rw [← Array.all_toList, List.all_eq_true]
  intro c hc
  have := List.all_eq_true.mp h3 c hc
  simp at this
  exact decide_eq_true (by omega)
theorem lay_op {o : Op} (h : opB o = true) : (pdO o).canLay0 = true ∧ (pdO o).depth = 0 := by
  cases o with
  | inl i => exact ⟨rfl, rfl⟩
  | inr x => exact ⟨strOk_name h, rfl⟩
theorem lay_row {r : Row} {n : Nat} (h : r.ok n = true) : r.pd.canLay0 = true ∧ r.pd.depth = 1 := by
  cases r with
  | set x o =>
    have h := Bool.and_eq_true_iff.mp h
    have h1 := lay_op h.2
    have h2 := strOk_name h.1
    refine ⟨?_, ?_⟩
    · simp only [Row.pd, PyData.canLay0, PyData.canLayAll0, h1.1, h2]; decide +kernel
    · simp only [Row.pd, PyData.depth, PyData.depthAll, h1.2]; rfl
  | ari k x o p =>
    have h := Bool.and_eq_true_iff.mp h
    have h0 := Bool.and_eq_true_iff.mp h.2
    have h1 := lay_op h0.1
    have h3 := lay_op h0.2
    have h2 := strOk_name h.1
    refine ⟨?_, ?_⟩
    · simp only [Row.pd, PyData.canLay0, PyData.canLayAll0, h1.1, h2, h3.1]; cases k <;> decide +kernel
    · simp only [Row.pd, PyData.depth, PyData.depthAll, h1.2, h3.2]; rfl
  | say o =>
    have h1 := lay_op (show opB o = true from h)
    refine ⟨?_, ?_⟩
    · simp only [Row.pd, PyData.canLay0, PyData.canLayAll0, h1.1]; decide +kernel
    · simp only [Row.pd, PyData.depth, PyData.depthAll, h1.2]; rfl
  | jump t =>
    refine ⟨?_, rfl⟩
    simp only [Row.pd, PyData.canLay0, PyData.canLayAll0]; decide +kernel
  | nought o t =>
    have h := Bool.and_eq_true_iff.mp h
    have h1 := lay_op h.1
    refine ⟨?_, ?_⟩
    · simp only [Row.pd, PyData.canLay0, PyData.canLayAll0, h1.1]; decide +kernel
    · simp only [Row.pd, PyData.depth, PyData.depthAll, h1.2]; rfl
  | stop =>
    refine ⟨?_, rfl⟩
    simp only [Row.pd, PyData.canLay0, PyData.canLayAll0]; decide +kernel
theorem lay_rows {n : Nat} : ∀ {rs : List Row}, (∀ r ∈ rs, r.ok n = true) → PyData.canLayAll0 (rs.map Row.pd) = true ∧ PyData.depthAll (rs.map Row.pd) ≤ 1
  | [], _ => ⟨rfl, Nat.zero_le _⟩
  | r :: rs, h => by
    obtain ⟨h1, h2⟩ := lay_row (h r (by simp))
    obtain ⟨h3, h4⟩ := lay_rows (n := n) (rs := rs) (fun r' hr => h r' (by simp [hr]))
    refine ⟨by simp only [List.map_cons, PyData.canLayAll0, h1, h3]; rfl, ?_⟩
    simp only [List.map_cons, PyData.depthAll, h2]
    omega
theorem shaped_rows {n : Nat} {rs : List Row} (h : ∀ r ∈ rs, r.ok n = true) : SeqAt.shaped (.list (rs.map Row.pd)) = true := by
  obtain ⟨h1, h2⟩ := lay_rows h
  show (PyData.canLay0 _ && decide (PyData.depth _ ≤ 64)) = true
  rw [Bool.and_eq_true]
  exact ⟨by simp only [PyData.canLay0]; exact h1, decide_eq_true (by simp only [PyData.depth]; omega)⟩
/-- data that are alike -/
theorem n_neD {K : PySem.W.Frag} {H : Hp} {x y : V} {d : PyData} {Q : VK} (h1 : Dp K H x d) (h2 : Dp K H y d) (hs : SeqAt.shaped d = true) (q : Q (.bl false) H) : rNeD K x y H Q :=
  ⟨d, d, h1, h2, hs, hs, by rw [SeqAt.eqv_refl d (SeqAt.canLay_of_shaped hs)]; exact q⟩
theorem n_eqD {K : PySem.W.Frag} {H : Hp} {x y : V} {d : PyData} {Q : VK} (h1 : Dp K H x d) (h2 : Dp K H y d) (hs : SeqAt.shaped d = true) (q : Q (.bl true) H) : rEqD K x y H Q :=
  ⟨d, d, h1, h2, hs, hs, by rw [SeqAt.eqv_refl d (SeqAt.canLay_of_shaped hs)]; exact q⟩
theorem dp_lst {K : PySem.W.Frag} {H : Hp} {p : Addr} {ns : List Int} (h : H p = some (.lst (ns.map V.int))) : Dp K H (.ref p) (.list (ns.map PyData.int)) := .lst (sql h) (dp_ints ns)
end J
namespace J
open PySem L2
/-- rows that choose where to go on write nothing -/
theorem nextOf_env (r : Row) (n place : Nat) (env : Env) : nextOf r n place (envOf r env) = nextOf r n place env := by cases r <;> rfl
theorem asks_word (r : Row) : inV (.str r.word) [.str "set", .str "add", .str "sub", .str "less"] = (match r with | .set .. => true | .ari .. => true | _ => false) := by
  cases r with
  | ari k => cases k <;> rfl
  | _ => rfl
def Row.asksV (r : Row) : List V := r.asks.map kV
end J

/-! ### ways through rows -/
namespace J
open PySem L2
open Evl (Ex)
/-- the places that can come next, as the program tells them; as the law does -/
def Row.nexts (r : Row) (n i : Nat) : List Nat := match r with
  | .jump t => [t]
  | .stop => [n]
  | .nought _ t => if t = i + 1 then [i + 1] else [t, i + 1]
  | _ => [i + 1]
def nexts (rs : List Row) (i : Nat) : List Nat := match rs[i]? with
  | none => []
  | some r => r.nexts rs.length i
def lnexts (rs : List Row) (i : Nat) : List Nat := match rs[i]? with
  | some (.nought _ t) => if t = i + 1 then [i + 1] else [min t (i + 1), max t (i + 1)]
  | _ => nexts rs i
theorem lnexts_mem (rs : List Row) (i j : Nat) : j ∈ lnexts rs i ↔ j ∈ nexts rs i := by
  unfold lnexts
  split
  · rename_i o t h
    have e : nexts rs i = if t = i + 1 then [i + 1] else [t, i + 1] := by unfold nexts; rw [h]; rfl
    rw [e]
    split
    · exact Iff.rfl
    · simp only [List.mem_cons, List.not_mem_nil, or_false]
      omega
  · exact Iff.rfl
theorem nexts_nodup (rs : List Row) (i : Nat) : (nexts rs i).Nodup := by
  unfold nexts
  split
  · simp
  · rename_i r _
    cases r <;> simp [Row.nexts]
    split <;> simp [*]
theorem lnexts_nodup (rs : List Row) (i : Nat) : (lnexts rs i).Nodup := by
  unfold lnexts
  split
  · split
    · simp
    · simp; omega
  · exact nexts_nodup rs i
def Okay (rs : List Row) : Prop := ∀ r ∈ rs, r.ok rs.length = true
theorem nexts_le {rs : List Row} (h : Okay rs) {i j : Nat} (hj : j ∈ nexts rs i) : j ≤ rs.length := by
  unfold nexts at hj
  split at hj
  · cases hj
  · rename_i r e
    have hi := (List.getElem?_eq_some_iff.mp e).1
    have ho := h r (List.mem_of_getElem? e)
    cases r with
    | jump t => have := List.mem_singleton.mp hj; have := of_decide_eq_true ho; omega
    | stop => have := List.mem_singleton.mp hj; omega
    | nought o t =>
      have ht := of_decide_eq_true (Bool.and_eq_true_iff.mp ho).2
      have hj : j ∈ (if t = i + 1 then [i + 1] else [t, i + 1]) := hj
      split at hj
      · have := List.mem_singleton.mp hj; omega
      · simp at hj; omega
    | _ => have := List.mem_singleton.mp hj; omega
inductive Reach (rs : List Row) : Nat → Prop where
  | zero : Reach rs 0
  | step {i j : Nat} : Reach rs i → j ∈ nexts rs i → Reach rs j
theorem Reach.le {rs : List Row} (h : Okay rs) {i : Nat} (r : Reach rs i) : i ≤ rs.length := by
  cases r with
  | zero => omega
  | step _ hj => exact nexts_le h hj
open Classical in
noncomputable def reachL (rs : List Row) : List Nat := (List.range (rs.length + 1)).filter fun i => decide (Reach rs i)
open Classical in
theorem reachL_mem {rs : List Row} (h : Okay rs) {i : Nat} : i ∈ reachL rs ↔ Reach rs i := by
  unfold reachL
  rw [List.mem_filter, List.mem_range, decide_eq_true_iff]
  exact ⟨fun x => x.2, fun x => ⟨by have := x.le h; omega, x⟩⟩
theorem reachL_sorted (rs : List Row) : (reachL rs).Pairwise (· < ·) := List.Pairwise.filter _ List.pairwise_lt_range
open Classical in
theorem reachL_len (rs : List Row) : (reachL rs).length ≤ rs.length + 1 := by
  unfold reachL
  refine Nat.le_trans (List.length_filter_le _ _) ?_
  rw [List.length_range]; exact Nat.le_refl _
/-- two rising lists of the same members are one -/
theorem rising_eq {α : Type} {r : α → α → Prop} (irr : ∀ a, ¬ r a a) (asy : ∀ a b, r a b → r b a → False) : ∀ {xs ys : List α}, xs.Pairwise r → ys.Pairwise r → (∀ a, a ∈ xs ↔ a ∈ ys) → xs = ys
  | [], [], _, _, _ => rfl
  | [], y :: ys, _, _, h => by have := (h y).mpr (by simp); cases this
  | x :: xs, [], _, _, h => by have := (h x).mp (by simp); cases this
  | x :: xs, y :: ys, hx, hy, h => by
    have hx' := List.pairwise_cons.mp hx
    have hy' := List.pairwise_cons.mp hy
    have e : x = y := by
      rcases List.mem_cons.mp ((h x).mp (by simp)) with e | m1
      · exact e
      · rcases List.mem_cons.mp ((h y).mpr (by simp)) with e | m2
        · exact e.symm
        · exact (asy _ _ (hx'.1 y m2) (hy'.1 x m1)).elim
    subst e
    congr 1
    refine rising_eq irr asy hx'.2 hy'.2 fun a => ⟨fun ha => ?_, fun ha => ?_⟩
    · rcases List.mem_cons.mp ((h a).mp (List.mem_cons_of_mem _ ha)) with e | m
      · subst e; exact (irr _ (hx'.1 _ ha)).elim
      · exact m
    · rcases List.mem_cons.mp ((h a).mpr (List.mem_cons_of_mem _ ha)) with e | m
      · subst e; exact (irr _ (hy'.1 _ ha)).elim
      · exact m
theorem reach_ints {rs : List Row} (h : Okay rs) {ns : List Int} (hs : ns.Pairwise (· < ·)) (hm : ∀ k : Int, k ∈ ns ↔ ∃ i : Nat, k = (i : Int) ∧ Reach rs i) : ns = (reachL rs).map (fun i : Nat => (i : Int)) := by
  refine rising_eq (r := fun a b : Int => a < b) (fun a => Int.lt_irrefl a) (fun a b x y => by omega) hs ?_ fun k => ?_
  · rw [List.pairwise_map]
    exact (reachL_sorted rs).imp fun {a b} x => by omega
  · rw [hm, List.mem_map]
    exact ⟨fun ⟨i, e, r⟩ => ⟨i, (reachL_mem h).mpr r, e.symm⟩, fun ⟨i, r, e⟩ => ⟨i, e.symm, (reachL_mem h).mp r⟩⟩
theorem nodup_bound : ∀ (n : Nat) (l : List Nat), l.Nodup → (∀ x ∈ l, x < n) → l.length ≤ n
  | 0, l, _, h => by
    cases l with
    | nil => simp
    | cons x r => exact absurd (h x (by simp)) (by omega)
  | n + 1, l, hn, h => by
    have ih := nodup_bound n (l.erase n) (hn.erase n) fun x hx => by
      have h1 := h x (List.mem_of_mem_erase hx)
      have h2 : x ≠ n := fun z => by
        subst z
        exact (List.Nodup.not_mem_erase hn) hx
      omega
    rw [List.length_erase] at ih
    split at ih <;> omega
/-- closed under what comes next, with 0: all reached are in -/
theorem reach_closed {rs : List Row} {ks : List Nat} (h0 : 0 ∈ ks) (hc : ∀ i ∈ ks, ∀ j ∈ nexts rs i, j ∈ ks) {i : Nat} (r : Reach rs i) : i ∈ ks := by
  induction r with
  | zero => exact h0
  | step _ hj ih => exact hc _ ih _ hj
/-- the places from which j can be come to -/
noncomputable def comersL (rs : List Row) (j : Nat) : List Int := (if j = 0 then [-1] else []) ++ ((reachL rs).filter fun p => decide (j ∈ nexts rs p)).map (fun p : Nat => (p : Int))
theorem inV_ints (k : Int) : ∀ ns : List Int, inV (.int k) (ns.map V.int) = decide (k ∈ ns)
  | [] => rfl
  | n :: r => by
    have ih := inV_ints k r
    unfold inV at ih ⊢
    rw [List.map_cons, List.any_cons, ih]
    have e : eqV (.int n) (.int k) = decide (n = k) := rfl
    rw [e]
    by_cases h : n = k
    · subst h; simp
    · have h2 : ¬ k = n := fun z => h z.symm
      simp [h, h2]
theorem ex_cast {ks : List Nat} {j : Nat} : (∃ k ∈ ks, (j : Int) = (k : Int)) ↔ j ∈ ks :=
  ⟨fun ⟨k, hk, e⟩ => by have e2 : j = k := by omega
                        rw [e2]; exact hk, fun h => ⟨j, h, rfl⟩⟩
theorem set_snoc (ks : List Nat) (j : Nat) : (fun i : Int => decide (∃ k ∈ ks, i = (k : Int)) || decide (i = (j : Int))) = fun i : Int => decide (∃ k ∈ ks ++ [j], i = (k : Int)) := by
  funext i
  rw [← Bool.decide_or]
  congr 1
  apply propext
  constructor
  · rintro (⟨k, hk, e⟩ | e)
    · exact ⟨k, by simp [hk], e⟩
    · exact ⟨j, by simp, e⟩
  · rintro ⟨k, hk, e⟩
    rcases List.mem_append.mp hk with h | h
    · exact .inl ⟨k, h, e⟩
    · rw [List.mem_singleton.mp h] at e; exact .inr e
theorem mem_snoc {α : Type} {P : α → Prop} {l : List α} {j k : α} (hk : k ∈ l ++ [j]) (h1 : k ∈ l → P k) (h2 : P j) : P k := by
  rcases List.mem_append.mp hk with h | h
  · exact h1 h
  · rw [List.mem_singleton.mp h]; exact h2
end J
namespace J
open PySem L2
open Evl (Ex)
/-- lists that stand at as: the i-th holds f i -/
def LLf (H : Hp) (as : List Addr) (f : Nat → List Int) : Prop := ∀ (i : Nat) (a : Addr), as[i]? = some a → H a = some (.lst ((f i).map V.int))
theorem LLf.mono {H H' : Hp} {as : List Addr} {f : Nat → List Int} (h : LLf H as f) (e : Ex H H') : LLf H' as f := fun i a x => e _ _ (h i a x)
theorem LLf.off {H : Hp} {as : List Addr} {f : Nat → List Int} {p : Addr} {o : HO} (h : LLf H as f) (hp : p ∉ as) : LLf (upd H p o) as f := fun i a x => by
  rw [upd_ne (fun z : a = p => hp (by rw [← z]; exact List.mem_of_getElem? x))]; exact h i a x
/-- one more behind the j-th -/
theorem LLf.put {H : Hp} {as : List Addr} {f g : Nat → List Int} {j : Nat} {aj : Addr} {x : Int} (h : LLf H as f) (hn : as.Nodup) (hj : as[j]? = some aj) (hg : ∀ i, g i = if i = j then f i ++ [x] else f i) : LLf (upd H aj (.lst ((f j).map V.int ++ [V.int x]))) as g := fun i a y => by
  by_cases e : i = j
  · subst e
    have : a = aj := by rw [hj] at y; exact (Option.some.inj y).symm
    subst this
    rw [upd_same, hg, if_pos rfl, List.map_append]; rfl
  · have ne : a ≠ aj := fun z => e (nd_ix hn y (z ▸ hj))
    rw [upd_ne ne, hg, if_neg e]; exact h i a y
theorem take_one {α : Type} {l : List α} {m : Nat} {x : α} (h : l[m]? = some x) : l.take (m + 1) = l.take m ++ [x] := by
  obtain ⟨hm, e⟩ := List.getElem?_eq_some_iff.mp h
  rw [List.take_succ_eq_append_getElem hm, e]
theorem not_in_take {l : List Nat} {m x : Nat} (hn : l.Nodup) (h : l[m]? = some x) : x ∉ l.take m := fun z => by
  obtain ⟨i, hi, e⟩ := List.getElem_of_mem z
  rw [List.length_take] at hi
  rw [List.getElem_take] at e
  have : i = m := nd_ix hn (List.getElem?_eq_some_iff.mpr ⟨by omega, e⟩) h
  omega
noncomputable def comersK (rs : List Row) (k m p j : Nat) : List Int := ((if j = 0 then [-1] else []) ++ (((reachL rs).take k).filter fun p => decide (j ∈ nexts rs p)).map (fun p : Nat => (p : Int))) ++ (if j ∈ (nexts rs p).take m then [(p : Int)] else [])
theorem comersK_zero (rs : List Row) (k p j : Nat) : comersK rs k 0 p j = ((if j = 0 then [-1] else []) ++ (((reachL rs).take k).filter fun p => decide (j ∈ nexts rs p)).map (fun p : Nat => (p : Int))) := by
  unfold comersK; rw [List.take_zero, show (if j ∈ ([] : List Nat) then [(p : Int)] else []) = [] from if_neg (by simp), List.append_nil]
theorem comersK_next {rs : List Row} {k p : Nat} (h : (reachL rs)[k]? = some p) (p' j : Nat) : comersK rs (k + 1) 0 p' j = comersK rs k (nexts rs p).length p j := by
  rw [comersK_zero, take_one h]
  unfold comersK
  rw [List.take_length, List.filter_append, List.map_append, List.append_assoc]
  congr 1
  by_cases hj : j ∈ nexts rs p <;> simp [hj]
theorem comersK_step {rs : List Row} {k m p x : Nat} (h : (nexts rs p)[m]? = some x) (j : Nat) : comersK rs k (m + 1) p j = if j = x then comersK rs k m p j ++ [(p : Int)] else comersK rs k m p j := by
  have hn := not_in_take (nexts_nodup rs p) h
  unfold comersK
  rw [take_one h]
  by_cases e : j = x
  · subst e
    have e1 : (if j ∈ (nexts rs p).take m ++ [j] then [(p : Int)] else []) = [(p : Int)] := if_pos (by simp)
    have e2 : (if j ∈ (nexts rs p).take m then [(p : Int)] else []) = [] := if_neg hn
    rw [if_pos rfl, e1, e2, List.append_nil]
  · rw [if_neg e]
    congr 1
    by_cases hj : j ∈ (nexts rs p).take m
    · rw [if_pos hj, if_pos (by simp [hj])]
    · rw [if_neg hj, if_neg (by simp [hj, e])]
theorem comersK_all (rs : List Row) (p j : Nat) : comersK rs (reachL rs).length 0 p j = comersL rs j := by
  rw [comersK_zero, List.take_length]; rfl
end J
namespace J
open PySem L2
theorem range_get (l : List Nat) : l = (List.range l.length).map fun i => l[i]?.getD 0 := by
  refine List.ext_getElem? fun i => ?_
  rw [List.getElem?_map]
  by_cases hi : i < l.length
  · rw [List.getElem?_range hi, List.getElem?_eq_getElem hi]; simp [hi]
  · rw [List.getElem?_eq_none_iff.mpr (by omega), List.getElem?_eq_none_iff.mpr (by rw [List.length_range]; omega)]; rfl
theorem filter_range (l : List Nat) (p : Nat → Bool) : ((List.range l.length).filter fun i => p (l[i]?.getD 0)).map (fun i => l[i]?.getD 0) = l.filter p := by
  conv => rhs; rw [range_get l, List.filter_map]
  rfl
theorem ints_map (l : List Nat) : (l.map fun j : Nat => V.int (j : Int)) = (l.map fun j : Nat => (j : Int)).map V.int := by rw [List.map_map]; rfl
theorem flat_ints (l : List Int) : (l.map V.int).all flatV = true := by
  rw [List.all_map, List.all_eq_true]; intro x _; rfl
theorem in_nats (j : Nat) (l : List Nat) : inV (.int (j : Int)) (l.map fun j : Nat => V.int (j : Int)) = decide (j ∈ l) := by
  rw [ints_map, inV_ints]
  congr 1
  apply propext
  rw [List.mem_map]
  exact ⟨fun ⟨k, hk, e⟩ => by have e2 : k = j := by omega
                              rw [← e2]; exact hk, fun h => ⟨j, h, rfl⟩⟩
theorem lt_of_le_nd : ∀ {l : List Int}, l.Pairwise (· ≤ ·) → l.Nodup → l.Pairwise (· < ·)
  | [], _, _ => .nil
  | x :: r, h, n => by
    have h1 := List.pairwise_cons.mp h
    have n1 := List.nodup_cons.mp n
    refine List.pairwise_cons.mpr ⟨fun y hy => ?_, lt_of_le_nd h1.2 n1.2⟩
    have := h1.1 y hy
    have : x ≠ y := fun z => n1.1 (z ▸ hy)
    omega
theorem nodup_casts {l : List Nat} (h : l.Nodup) : (l.map fun j : Nat => (j : Int)).Nodup := by
  rw [List.nodup_iff_pairwise_ne, List.pairwise_map]
  exact (List.nodup_iff_pairwise_ne.mp h).imp fun {a b} x z => x (by omega)
end J

/-! ### names wanted -/
namespace J
open PySem L2 PyProof.Rows
open Evl (Ex)
def Row.reads (r : Row) : List Str := r.asks.filterMap fun o => match o with | .inl _ => none | .inr x => some x
def Row.own : Row → Option Str
  | .set x _ => some x | .ari _ x _ _ => some x | _ => none
/-- on from a place a way comes to a row that reads the name, no row ahead writes it -/
inductive Fw (rs : List Row) (x : Str) : Nat → Prop where
  | here {i : Nat} {r : Row} : rs[i]? = some r → x ∈ r.reads → Fw rs x i
  | on {i j : Nat} {r : Row} : rs[i]? = some r → r.own ≠ some x → j ∈ nexts rs i → Fw rs x j → Fw rs x i
def Wanted (rs : List Row) (x : Str) (i : Nat) : Prop := Reach rs i ∧ Fw rs x i
theorem Fw.lt {rs : List Row} {x : Str} {i : Nat} (h : Fw rs x i) : i < rs.length := by
  cases h with
  | here e _ => exact (List.getElem?_eq_some_iff.mp e).1
  | on e _ _ _ => exact (List.getElem?_eq_some_iff.mp e).1
/-- closed backwards, with all readers -/
theorem wanted_closed {rs : List Row} {x : Str} {ks : List Nat} (hr : ∀ i r, Reach rs i → rs[i]? = some r → x ∈ r.reads → i ∈ ks) (hc : ∀ j ∈ ks, ∀ i r, Reach rs i → rs[i]? = some r → r.own ≠ some x → j ∈ nexts rs i → i ∈ ks) {i : Nat} (h : Wanted rs x i) : i ∈ ks := by
  obtain ⟨h1, h2⟩ := h
  induction h2 with
  | here e m => exact hr _ _ h1 e m
  | on e ho hj _ ih => exact hc _ (ih (.step h1 hj)) _ _ h1 e ho hj
open Classical in
noncomputable def wantedL (rs : List Row) (x : Str) : List Nat := (List.range (rs.length + 1)).filter fun i => decide (Wanted rs x i)
open Classical in
theorem wantedL_mem {rs : List Row} {x : Str} {i : Nat} : i ∈ wantedL rs x ↔ Wanted rs x i := by
  unfold wantedL
  rw [List.mem_filter, List.mem_range, decide_eq_true_iff]
  exact ⟨fun h => h.2, fun h => ⟨by have := h.2.lt; omega, h⟩⟩
theorem wantedL_sorted (rs : List Row) (x : Str) : (wantedL rs x).Pairwise (· < ·) := List.Pairwise.filter _ List.pairwise_lt_range
theorem wanted_ints {rs : List Row} {x : Str} {ns : List Int} (hs : ns.Pairwise (· < ·)) (hm : ∀ k : Int, k ∈ ns ↔ ∃ i : Nat, k = (i : Int) ∧ Wanted rs x i) : ns = (wantedL rs x).map (fun i : Nat => (i : Int)) := by
  refine rising_eq (r := fun a b : Int => a < b) (fun a => Int.lt_irrefl a) (fun a b x y => by omega) hs ?_ fun k => ?_
  · rw [List.pairwise_map]
    exact (wantedL_sorted rs x).imp fun {a b} x => by omega
  · rw [hm, List.mem_map]
    exact ⟨fun ⟨i, e, r⟩ => ⟨i, wantedL_mem.mpr r, e.symm⟩, fun ⟨i, r, e⟩ => ⟨i, e.symm, wantedL_mem.mp r⟩⟩
/-- the reading places, the law's search forward: closed and none reads, so none leads on -/
theorem fw_none {rs : List Row} {x : Str} {ks : List Nat} (hr : ∀ i ∈ ks, ∀ r, rs[i]? = some r → x ∉ r.reads ∧ (r.own ≠ some x → ∀ j ∈ nexts rs i, j ∈ ks)) {i : Nat} (h : Fw rs x i) : i ∉ ks := by
  induction h with
  | here e m => exact fun z => (hr _ z _ e).1 m
  | on e ho hj _ ih => exact fun z => ih ((hr _ z _ e).2 ho _ hj)
theorem nodup_sub {α : Type} [DecidableEq α] : ∀ {l m : List α}, l.Nodup → (∀ x ∈ l, x ∈ m) → l.length ≤ m.length
  | [], _, _, _ => Nat.zero_le _
  | x :: r, m, hn, h => by
    have n1 := List.nodup_cons.mp hn
    have hx := h x (by simp)
    have ih := nodup_sub (m := m.erase x) n1.2 fun y hy => by
      have : y ≠ x := fun z => n1.1 (z ▸ hy)
      exact (List.mem_erase_of_ne this).mpr (h y (by simp [hy]))
    rw [List.length_erase_of_mem hx] at ih
    have := List.length_pos_of_mem hx
    rw [List.length_cons]
    omega
end J
namespace J
open PySem L2 PyProof.Rows PySem.Spec
def strLt (x y : Str) : Prop := x.cps.toList < y.cps.toList
theorem strLt_irr (x : Str) : ¬ strLt x x := List.lt_irrefl _
theorem strLt_asy (x y : Str) (h : strLt x y) (k : strLt y x) : False := List.lt_asymm h k
theorem strLt_trans {x y z : Str} (h : strLt x y) (k : strLt y z) : strLt x z := List.lt_trans h k
theorem strLt_of {x y : Str} (h : ¬ strLt y x) (ne : x ≠ y) : strLt x y := by
  refine Classical.byContradiction fun k => ne ?_
  have e : x.cps.toList = y.cps.toList := List.le_antisymm (List.not_lt.mp h) (List.not_lt.mp k)
  obtain ⟨a⟩ := x
  obtain ⟨b⟩ := y
  have e2 : a.toList = b.toList := e
  rw [Array.toList_inj.mp e2]
theorem rising_strict : ∀ {r : List Str} {p : Str}, risingS p r = true → (p :: r).Nodup → (∀ y ∈ r, strLt p y) ∧ r.Pairwise strLt
  | [], _, _, _ => ⟨fun y h => absurd h (by simp), List.Pairwise.nil⟩
  | x :: r, p, h, n => by
    unfold risingS at h
    obtain ⟨h1, h2⟩ := Bool.and_eq_true_iff.mp h
    have n1 := List.nodup_cons.mp n
    have hpx : strLt p x := by
      refine strLt_of (fun z => ?_) (fun z => n1.1 (by rw [z]; simp))
      rw [ltCps_eq, decide_eq_true (show x.cps.toList < p.cps.toList from z)] at h1
      cases h1
    obtain ⟨i1, i2⟩ := rising_strict h2 n1.2
    refine ⟨fun y hy => ?_, List.pairwise_cons.mpr ⟨i1, i2⟩⟩
    rcases List.mem_cons.mp hy with e | hy
    · rw [e]; exact hpx
    · exact strLt_trans hpx (i1 y hy)
theorem sorted_strict {l : List Str} (h : sortedS l = true) (n : l.Nodup) : l.Pairwise strLt := by
  cases l with
  | nil => exact .nil
  | cons p r =>
    obtain ⟨i1, i2⟩ := rising_strict (show risingS p r = true from h) n
    exact List.pairwise_cons.mpr ⟨i1, i2⟩
theorem sorted_same {l m : List Str} (hl : sortedS l = true) (nl : l.Nodup) (hm : sortedS m = true) (nm : m.Nodup) {p q : Str → Bool} (h : ∀ x, (x ∈ l ∧ p x = true) ↔ (x ∈ m ∧ q x = true)) : l.filter p = m.filter q :=
  rising_eq (r := strLt) strLt_irr strLt_asy ((sorted_strict hl nl).filter _) ((sorted_strict hm nm).filter _) fun x => by rw [List.mem_filter, List.mem_filter]; exact h x
/-- what a name's row writes, as a value -/
def ownV (r : Row) : V := match r.own with | some x => .str x | none => .non
theorem own_in (r : Row) : inV (.str "name") (r.parts.map V.str) = r.own.isSome := by cases r <;> rfl
theorem ownV_eq (r : Row) (x : Str) : decide (ownV r = .str x) = decide (r.own = some x) := by
  unfold ownV
  cases r.own with
  | none => simp
  | some y => simp
theorem scal_own (r : Row) (x : Str) : scal (ownV r) (.str x) = true := by
  unfold ownV
  cases r.own <;> rfl
def LLv (H : Hp) (as : List Addr) (f : Nat → List V) : Prop := ∀ (i : Nat) (a : Addr), as[i]? = some a → H a = some (.lst (f i))
theorem LLv.put {H : Hp} {as : List Addr} {f g : Nat → List V} {j : Nat} {aj : Addr} {x : V} (h : LLv H as f) (hn : as.Nodup) (hj : as[j]? = some aj) (hg : ∀ i, g i = if i = j then f i ++ [x] else f i) : LLv (upd H aj (.lst (f j ++ [x]))) as g := fun i a y => by
  by_cases e : i = j
  · subst e
    have : a = aj := by rw [hj] at y; exact (Option.some.inj y).symm
    subst this
    rw [upd_same, hg, if_pos rfl]
  · have ne : a ≠ aj := fun z => e (nd_ix hn y (z ▸ hj))
    rw [upd_ne ne, hg, if_neg e]; exact h i a y
end J

/-! ### names and the places that read them, as a dict of lists -/
namespace J
open PySem L2 PyProof.Rows
open Evl (Ex)
def kvsA (env : List (Str × Addr)) : List (Key × V) := env.map fun e => (Sum.inr e.1, V.ref e.2)
theorem kvsA_len (env : List (Str × Addr)) : (kvsA env).length = env.length := List.length_map ..
theorem kvsA_fst (env : List (Str × Addr)) : (kvsA env).map (·.1) = (env.map (·.1)).map Sum.inr := by
  unfold kvsA; rw [List.map_map, List.map_map]; rfl
theorem kvsA_some : ∀ {env : List (Str × Addr)} {x : Str} {v : V}, valV (kvsA env) (.inr x) = some v → ∃ e ∈ env, e.1 = x ∧ v = .ref e.2
  | [], x, v, h => by cases h
  | e :: r, x, v, h => by
    by_cases c : e.1 = x
    · have z : valV (kvsA (e :: r)) (.inr x) = some (.ref e.2) := valV_pos (p := ((Sum.inr e.1 : Key), V.ref e.2)) (by rw [c])
      rw [z] at h
      exact ⟨e, by simp, c, (Option.some.inj h).symm⟩
    · have z : valV (kvsA (e :: r)) (.inr x) = valV (kvsA r) (.inr x) := valV_neg (p := ((Sum.inr e.1 : Key), V.ref e.2)) (fun y => c (Sum.inr.inj y))
      rw [z] at h
      obtain ⟨e2, h1, h2⟩ := kvsA_some h
      exact ⟨e2, by simp [h1], h2⟩
theorem kvsA_none {env : List (Str × Addr)} {x : Str} (h : valV (kvsA env) (.inr x) = none) : x ∉ env.map (·.1) := fun z => by
  have := valV_not h
  rw [kvsA_fst] at this
  exact this (List.mem_map.mpr ⟨x, z, rfl⟩)
theorem kvsA_of {env : List (Str × Addr)} {x : Str} (h : x ∈ env.map (·.1)) : ∃ e ∈ env, e.1 = x ∧ valV (kvsA env) (.inr x) = some (.ref e.2) := by
  cases c : valV (kvsA env) (.inr x) with
  | none => exact absurd h (kvsA_none c)
  | some v =>
    obtain ⟨e, h1, h2, rfl⟩ := kvsA_some c
    exact ⟨e, h1, h2, rfl⟩
theorem kvsA_new {env : List (Str × Addr)} {x : Str} {l : Addr} (h : valV (kvsA env) (.inr x) = none) : putK (kvsA env) (.inr x) (.ref l) = kvsA (env ++ [(x, l)]) := by
  rw [putK_new _ h]; unfold kvsA; rw [List.map_append]; rfl
def nV (l : List Nat) : List V := l.map fun j : Nat => V.int (j : Int)
structure RD (H H' : Hp) (d : Addr) (env : List (Str × Addr)) (g : Str → List Nat) : Prop where
  hd : H' d = some (.dK (kvsA env))
  hd0 : H d = none
  ex : Ex H H'
  nd : (env.map (·.1)).Nodup
  na : (env.map (·.2)).Nodup
  fr : ∀ e ∈ env, H e.2 = none
  st : ∀ e ∈ env, H' e.2 = some (.lst (nV (g e.1)))
  ks : ∀ x, x ∈ env.map (·.1) ↔ g x ≠ []
theorem RD.mono {H H' H'' : Hp} {d : Addr} {env : List (Str × Addr)} {g : Str → List Nat} (R : RD H H' d env g) (e : Ex H' H'') : RD H H'' d env g :=
  ⟨e _ _ R.hd, R.hd0, R.ex.trans e, R.nd, R.na, R.fr, fun x h => e _ _ (R.st x h), R.ks⟩
theorem RD.ne {H H' : Hp} {d : Addr} {env : List (Str × Addr)} {g : Str → List Nat} (R : RD H H' d env g) {e : Str × Addr} (h : e ∈ env) : e.2 ≠ d := fun z => by
  have := R.st e h
  rw [z, R.hd] at this; cases this
def gPut (g : Str → List Nat) (x : Str) (p : Nat) : Str → List Nat := fun z => if z = x then g z ++ [p] else g z
theorem gPut_same {g : Str → List Nat} {x : Str} {p : Nat} : gPut g x p x = g x ++ [p] := if_pos rfl
theorem gPut_ne {g : Str → List Nat} {x z : Str} {p : Nat} (h : z ≠ x) : gPut g x p z = g z := if_neg h
theorem nV_snoc (l : List Nat) (p : Nat) : nV (l ++ [p]) = nV l ++ [V.int (p : Int)] := by unfold nV; rw [List.map_append]; rfl
theorem nd_key {env : List (Str × Addr)} (nd : (env.map (·.1)).Nodup) {e f : Str × Addr} (he : e ∈ env) (hf : f ∈ env) (h : e.1 = f.1) : e = f := by
  induction env with
  | nil => cases he
  | cons y r ih =>
    rw [List.map_cons] at nd
    have n1 := List.nodup_cons.mp nd
    rcases List.mem_cons.mp he with e1 | e1 <;> rcases List.mem_cons.mp hf with f1 | f1
    · rw [e1, f1]
    · exact absurd (List.mem_map.mpr ⟨f, f1, by rw [← h, e1]⟩) n1.1
    · exact absurd (List.mem_map.mpr ⟨e, e1, by rw [h, f1]⟩) n1.1
    · exact ih n1.2 e1 f1
theorem nd_adr {env : List (Str × Addr)} (nd : (env.map (·.2)).Nodup) {e f : Str × Addr} (he : e ∈ env) (hf : f ∈ env) (h : e.2 = f.2) : e = f := by
  induction env with
  | nil => cases he
  | cons y r ih =>
    rw [List.map_cons] at nd
    have n1 := List.nodup_cons.mp nd
    rcases List.mem_cons.mp he with e1 | e1 <;> rcases List.mem_cons.mp hf with f1 | f1
    · rw [e1, f1]
    · exact absurd (List.mem_map.mpr ⟨f, f1, by rw [← h, e1]⟩) n1.1
    · exact absurd (List.mem_map.mpr ⟨e, e1, by rw [h, f1]⟩) n1.1
    · exact ih n1.2 e1 f1
theorem RD.old {H H' : Hp} {d : Addr} {env : List (Str × Addr)} {g : Str → List Nat} (R : RD H H' d env g) {e : Str × Addr} (he : e ∈ env) (p : Nat) : RD H (upd H' e.2 (.lst (nV (g e.1) ++ [V.int (p : Int)]))) d env (gPut g e.1 p) := by
  refine ⟨by rw [upd_ne (R.ne he).symm]; exact R.hd, R.hd0, Evl.Ex.mut R.ex (R.fr e he), R.nd, R.na, R.fr, fun f hf => ?_, fun x => ?_⟩
  · by_cases c : f = e
    · subst c; rw [upd_same, gPut_same, nV_snoc]
    · rw [upd_ne (fun z => c (nd_adr R.na hf he z)), gPut_ne (fun z => c (nd_key R.nd hf he z))]
      exact R.st f hf
  · by_cases c : x = e.1
    · subst c
      rw [gPut_same]
      exact ⟨fun _ => by simp, fun _ => List.mem_map.mpr ⟨e, he, rfl⟩⟩
    · rw [gPut_ne c]; exact R.ks x
theorem RD.new {H H' : Hp} {d l : Addr} {env : List (Str × Addr)} {g : Str → List Nat} (R : RD H H' d env g) {x : Str} (hx : valV (kvsA env) (.inr x) = none) (hl : H l = none) (hl2 : l ∉ env.map (·.2)) (hld : l ≠ d) (p : Nat) :
    RD H (upd (upd H' d (.dK (putK (kvsA env) (.inr x) (.ref l)))) l (.lst ([] ++ [V.int (p : Int)]))) d (env ++ [(x, l)]) (gPut g x p) := by
  have hk := kvsA_none hx
  have g0 : g x = [] := Classical.byContradiction fun z => hk ((R.ks x).mpr z)
  refine ⟨by rw [upd_ne hld.symm, upd_same, kvsA_new hx], R.hd0, Evl.Ex.mut (Evl.Ex.mut R.ex R.hd0) hl, ?_, ?_, fun f hf => ?_, fun f hf => ?_, fun z => ?_⟩
  · rw [List.map_append]
    exact List.nodup_append.mpr ⟨R.nd, by simp, fun u hu v hv z => by rw [List.mem_singleton.mp hv] at z; exact hk ((show u = x from z) ▸ hu)⟩
  · rw [List.map_append]
    exact List.nodup_append.mpr ⟨R.na, by simp, fun u hu v hv z => by rw [List.mem_singleton.mp hv] at z; exact hl2 ((show u = l from z) ▸ hu)⟩
  · rcases List.mem_append.mp hf with h | h
    · exact R.fr f h
    · rw [List.mem_singleton.mp h]; exact hl
  · rcases List.mem_append.mp hf with h | h
    · have n1 : f.2 ≠ l := fun z => hl2 (List.mem_map.mpr ⟨f, h, z⟩)
      have n2 : f.1 ≠ x := fun z => hk (List.mem_map.mpr ⟨f, h, z⟩)
      rw [upd_ne n1, upd_ne (R.ne h), gPut_ne n2]; exact R.st f h
    · rw [List.mem_singleton.mp h, upd_same]
      show _ = some (HO.lst (nV (gPut g x p x)))
      rw [gPut_same, g0]; rfl
  · rw [List.map_append]
    by_cases c : z = x
    · subst c; rw [gPut_same]; simp
    · rw [gPut_ne c, ← R.ks z]; simp [c]
/-- how far the readers are gathered -/
structure RS (rs : List Row) (k p : Nat) (rd : List Str) (g : Str → List Nat) : Prop where
  mem : ∀ x i, i ∈ g x ↔ (i ∈ (reachL rs).take k ∧ ∃ r, rs[i]? = some r ∧ x ∈ r.reads) ∨ (i = p ∧ x ∈ rd)
  len : ∀ x, (g x).length ≤ 2 * k + rd.length
theorem RS.zero (rs : List Row) : RS rs 0 0 [] (fun _ => []) := ⟨fun x i => by simp, fun x => by simp⟩
theorem RS.step {rs : List Row} {k p : Nat} {rd : List Str} {g : Str → List Nat} (R : RS rs k p rd g) (x : Str) : RS rs k p (rd ++ [x]) (gPut g x p) := by
  refine ⟨fun z i => ?_, fun z => ?_⟩
  · by_cases c : z = x
    · subst c
      rw [gPut_same, List.mem_append, R.mem]
      simp
      exact ⟨fun h => h.elim (fun h => h.elim .inl (fun h => .inr h.1)) .inr, fun h => h.elim (fun h => .inl (.inl h)) .inr⟩
    · rw [gPut_ne c, R.mem]; simp [c]
  · have := R.len z
    rw [List.length_append]
    by_cases c : z = x
    · subst c; rw [gPut_same, List.length_append]; simp; omega
    · rw [gPut_ne c]; omega
theorem reads_len (r : Row) : r.reads.length ≤ 2 := by
  unfold Row.reads
  refine Nat.le_trans (List.length_filterMap_le _ _) ?_
  cases r <;> simp [Row.asks]
theorem RS.next {rs : List Row} {k p : Nat} {r : Row} {g : Str → List Nat} (hp : (reachL rs)[k]? = some p) (hr : rs[p]? = some r) (R : RS rs k p r.reads g) (p' : Nat) : RS rs (k + 1) p' [] g := by
  refine ⟨fun x i => ?_, fun x => ?_⟩
  · rw [R.mem, take_one hp, List.mem_append, List.mem_singleton]
    refine ⟨fun h => ?_, fun h => ?_⟩
    · rcases h with ⟨h1, h2⟩ | ⟨rfl, h2⟩
      · exact .inl ⟨.inl h1, h2⟩
      · exact .inl ⟨.inr rfl, r, hr, h2⟩
    · rcases h with ⟨h1, r2, h2, h3⟩ | ⟨_, h2⟩
      · rcases h1 with h1 | rfl
        · exact .inl ⟨h1, r2, h2, h3⟩
        · rw [hr] at h2
          cases h2
          exact .inr ⟨rfl, h3⟩
      · cases h2
  · have := R.len x
    have := reads_len r
    simp; omega
theorem RS.skip {rs : List Row} {k p p' : Nat} {g : Str → List Nat} (hp : (reachL rs)[k]? = some p) (hr : rs[p]? = none) (R : RS rs k p' [] g) (p'' : Nat) : RS rs (k + 1) p'' [] g := by
  refine ⟨fun x i => ?_, fun x => ?_⟩
  · rw [R.mem, take_one hp, List.mem_append, List.mem_singleton]
    refine ⟨fun h => ?_, fun h => ?_⟩
    · rcases h with ⟨h1, h2⟩ | ⟨_, h2⟩
      · exact .inl ⟨.inl h1, h2⟩
      · cases h2
    · rcases h with ⟨h1, r2, h2, h3⟩ | ⟨_, h2⟩
      · rcases h1 with h1 | rfl
        · exact .inl ⟨h1, r2, h2, h3⟩
        · rw [hr] at h2; cases h2
      · cases h2
  · have := R.len x
    simp at this ⊢; omega
/-- all readers of a name -/
def IsG (rs : List Row) (x : Str) (l : List Nat) : Prop := ∀ i, i ∈ l ↔ Reach rs i ∧ ∃ r, rs[i]? = some r ∧ x ∈ r.reads
theorem RS.all {rs : List Row} {p : Nat} {g : Str → List Nat} (hok : Okay rs) (R : RS rs (reachL rs).length p [] g) (x : Str) : IsG rs x (g x) := fun i => by
  rw [R.mem, List.take_length, reachL_mem hok]; simp
theorem wanted_reader {rs : List Row} {x : Str} {i : Nat} (h : Wanted rs x i) : ∃ j r, Reach rs j ∧ rs[j]? = some r ∧ x ∈ r.reads := by
  obtain ⟨h1, h2⟩ := h
  induction h2 with
  | here e m => exact ⟨_, _, h1, e, m⟩
  | on e ho hj _ ih => exact ih (.step h1 hj)
open Classical in
noncomputable def wantB (rs : List Row) (j : Nat) (x : Str) : Bool := decide (Wanted rs x j)
open Classical in
theorem wantB_iff {rs : List Row} {j : Nat} {x : Str} : wantB rs j x = true ↔ Wanted rs x j := by unfold wantB; exact decide_eq_true_iff
theorem LLv.mono {H H' : Hp} {as : List Addr} {f : Nat → List V} (h : LLv H as f) (e : Ex H H') : LLv H' as f := fun i a x => e _ _ (h i a x)
noncomputable def wantK (rs : List Row) (ys : List Str) (m i : Nat) (x : Str) (j : Nat) : List V := ((ys.take m).filter (wantB rs j)).map V.str ++ (if j ∈ (wantedL rs x).take i then [V.str x] else [])
theorem wantK_zero (rs : List Row) (ys : List Str) (m : Nat) (x : Str) (j : Nat) : wantK rs ys m 0 x j = ((ys.take m).filter (wantB rs j)).map V.str := by
  unfold wantK; rw [List.take_zero, show (if j ∈ ([] : List Nat) then [V.str x] else []) = [] from if_neg (by simp), List.append_nil]
theorem wantK_next {rs : List Row} {ys : List Str} {m : Nat} {x : Str} (h : ys[m]? = some x) (x' : Str) (j : Nat) : wantK rs ys (m + 1) 0 x' j = wantK rs ys m (wantedL rs x).length x j := by
  rw [wantK_zero, take_one h]
  unfold wantK
  rw [List.take_length, List.filter_append, List.map_append]
  congr 1
  by_cases hj : Wanted rs x j
  · rw [if_pos (wantedL_mem.mpr hj)]; simp [wantB_iff.mpr hj]
  · rw [if_neg (fun z => hj (wantedL_mem.mp z))]
    have : wantB rs j x = false := by cases e : wantB rs j x with
      | false => rfl
      | true => exact absurd (wantB_iff.mp e) hj
    simp [this]
theorem wantedL_nodup (rs : List Row) (x : Str) : (wantedL rs x).Nodup := (wantedL_sorted rs x).imp fun {a b} h => by omega
theorem wantK_step {rs : List Row} {ys : List Str} {m i : Nat} {x : Str} {y : Nat} (h : (wantedL rs x)[i]? = some y) (j : Nat) : wantK rs ys m (i + 1) x j = if j = y then wantK rs ys m i x j ++ [V.str x] else wantK rs ys m i x j := by
  have hn := not_in_take (wantedL_nodup rs x) h
  unfold wantK
  rw [take_one h]
  by_cases e : j = y
  · subst e
    have e1 : (if j ∈ (wantedL rs x).take i ++ [j] then [V.str x] else []) = [V.str x] := if_pos (by simp)
    have e2 : (if j ∈ (wantedL rs x).take i then [V.str x] else []) = [] := if_neg hn
    rw [if_pos rfl, e1, e2, List.append_nil]
  · rw [if_neg e]
    congr 1
    by_cases hj : j ∈ (wantedL rs x).take i
    · rw [if_pos hj, if_pos (by simp [hj])]
    · rw [if_neg hj, if_neg (by simp [hj, e])]
theorem wantK_all (rs : List Row) (ys : List Str) (x : Str) (j : Nat) : wantK rs ys ys.length 0 x j = (ys.filter (wantB rs j)).map V.str := by
  rw [wantK_zero, List.take_length]
theorem wantK_len (rs : List Row) (ys : List Str) (m i : Nat) (x : Str) (j : Nat) : (wantK rs ys m i x j).length ≤ ys.length + 1 := by
  unfold wantK
  rw [List.length_append, List.length_map]
  have h1 : ((ys.take m).filter (wantB rs j)).length ≤ ys.length := Nat.le_trans (List.length_filter_le _ _) (by rw [List.length_take]; omega)
  have h2 : (if j ∈ (wantedL rs x).take i then [V.str x] else []).length ≤ 1 := by split <;> simp
  omega
theorem flat_asks (r : Row) : (r.asks.map kV).all flatV = true := by
  rw [List.all_eq_true]
  intro v hv
  obtain ⟨o, _, rfl⟩ := List.mem_map.mp hv
  cases o <;> rfl
theorem in_asks (r : Row) (x : Str) : inV (.str x) (r.asks.map kV) = decide (x ∈ r.reads) := by
  unfold Row.reads
  generalize r.asks = l
  induction l with
  | nil => rfl
  | cons o l ih =>
    have e1 : inV (.str x) ((o :: l).map kV) = (eqV (kV o) (.str x) || inV (.str x) (l.map kV)) := rfl
    rw [e1, ih]
    cases o with
    | inl i =>
      have e2 : eqV (kV (Sum.inl i)) (.str x) = false := rfl
      rw [e2]; simp
    | inr z =>
      have e2 : eqV (kV (Sum.inr z)) (.str x) = decide (z = x) := rfl
      rw [e2]
      by_cases c : z = x
      · subst c; simp
      · have c2 : ¬ x = z := fun y => c y.symm
        simp [c, c2]
theorem good_rd {c : Int} {rs : List Row} (g : Good c rs) {r : Row} (hr : r ∈ rs) {x : Str} (hx : x ∈ r.reads) : x ∈ namesBy c := by
  have h := g.inn r hr
  have key : ∀ o ∈ r.asks, opIn (namesBy c) o := by
    cases r with
    | set y o => intro z hz; rw [List.mem_singleton.mp hz]; exact h.2
    | ari k y o p =>
      intro z hz
      rcases List.mem_cons.mp hz with e | hz
      · rw [e]; exact h.2.1
      · rw [List.mem_singleton.mp hz]; exact h.2.2
    | say o => intro z hz; rw [List.mem_singleton.mp hz]; exact h
    | nought o t => intro z hz; rw [List.mem_singleton.mp hz]; exact h.1
    | jump t => intro z hz; cases hz
    | stop => intro z hz; cases hz
  unfold Row.reads at hx
  obtain ⟨o, ho, e⟩ := List.mem_filterMap.mp hx
  have := key o ho
  cases o with
  | inl i => cases e
  | inr z => cases e; exact this
theorem range_getS (l : List Str) : l = (List.range l.length).map fun i : Nat => l[i]?.getD ("" : Str) := by
  refine List.ext_getElem? fun i => ?_
  rw [List.getElem?_map]
  by_cases hi : i < l.length
  · rw [List.getElem?_range hi, List.getElem?_eq_getElem hi]; simp [hi]
  · rw [List.getElem?_eq_none_iff.mpr (by omega), List.getElem?_eq_none_iff.mpr (by rw [List.length_range]; omega)]; rfl
theorem filter_rangeS (l : List Str) (p : Str → Bool) : ((List.range l.length).filter fun i : Nat => p (l[i]?.getD ("" : Str))).map (fun i : Nat => l[i]?.getD ("" : Str)) = l.filter p := by
  conv => rhs; rw [range_getS l, List.filter_map]
  rfl
theorem dp_strs {K : PySem.W.Frag} {H : Hp} : ∀ xs : List Str, DpAll K H (xs.map V.str) (xs.map PyData.str)
  | [] => .nil
  | x :: r => .cons (.str x) (dp_strs r)
theorem lay_strs : ∀ {xs : List Str}, (∀ x ∈ xs, nameB x = true) → PyData.canLayAll0 (xs.map PyData.str) = true ∧ PyData.depthAll (xs.map PyData.str) = 0
  | [], _ => ⟨rfl, rfl⟩
  | x :: r, h => by
    have h1 := strOk_name (h x (by simp))
    obtain ⟨h3, h4⟩ := lay_strs (xs := r) fun y hy => h y (by simp [hy])
    refine ⟨by simp only [List.map_cons, PyData.canLayAll0, PyData.canLay0, h1, h3]; rfl, ?_⟩
    simp only [List.map_cons, PyData.depthAll, PyData.depth, h4]
    omega
theorem shaped_strs {xs : List Str} (h : ∀ x ∈ xs, nameB x = true) : SeqAt.shaped (.list (xs.map PyData.str)) = true := by
  obtain ⟨h1, h2⟩ := lay_strs h
  show (PyData.canLay0 _ && decide (PyData.depth _ ≤ 64)) = true
  rw [Bool.and_eq_true]
  exact ⟨by simp only [PyData.canLay0]; exact h1, decide_eq_true (by simp only [PyData.depth]; omega)⟩
end J

/-! ### rows by the way they lead on; the places found, in the order in which they are found -/
namespace J
open PySem L2
open Evl (Ex)
/-- the tuple leads on as the row does -/
def shapeV (r : Row) (vs : List V) : Prop := match r with
  | .jump t => vs[0]? = some (.str "jump") ∧ vs[1]? = some (.int (t : Int))
  | .stop => vs[0]? = some (.str "stop")
  | .nought _ t => vs[0]? = some (.str "nought") ∧ vs[2]? = some (.int (t : Int))
  | _ => ∃ z : Str, vs[0]? = some (.str z) ∧ z ≠ "stop" ∧ z ≠ "jump" ∧ z ≠ "nought"
theorem Row.shape (r : Row) : shapeV r r.vs := by
  have h : ∀ k : Ari, k.word ≠ "stop" ∧ k.word ≠ "jump" ∧ k.word ≠ "nought" := by intro k; cases k <;> decide +kernel
  cases r with
  | set x o => exact ⟨"set", rfl, by decide +kernel, by decide +kernel, by decide +kernel⟩
  | ari k x o p => exact ⟨k.word, rfl, (h k).1, (h k).2.1, (h k).2.2⟩
  | say o => exact ⟨"say", rfl, by decide +kernel, by decide +kernel, by decide +kernel⟩
  | jump t => exact ⟨rfl, rfl⟩
  | nought o t => exact ⟨rfl, rfl⟩
  | stop => rfl
def ShapeAt (H : Hp) (us : List V) (i : Nat) (r : Row) : Prop := ∃ a vs, us[i]? = some (.ref a) ∧ H a = some (.tup vs) ∧ shapeV r vs
/-- rows that lead on, where they are reached, as these rows do -/
def ShapesV (H : Hp) (us : List V) (rs : List Row) : Prop := us.length = rs.length ∧ ∀ i r, Reach rs i → rs[i]? = some r → ShapeAt H us i r
theorem ShapeAt.mono {H H' : Hp} {us : List V} {i : Nat} {r : Row} (h : ShapeAt H us i r) (e : Ex H H') : ShapeAt H' us i r := by
  obtain ⟨a, vs, h1, h2, h3⟩ := h
  exact ⟨a, vs, h1, e _ _ h2, h3⟩
theorem ShapesV.mono {H H' : Hp} {us : List V} {rs : List Row} (h : ShapesV H us rs) (e : Ex H H') : ShapesV H' us rs := ⟨h.1, fun i r a b => (h.2 i r a b).mono e⟩
theorem RowsV.shapes {H : Hp} {us : List V} {rs : List Row} (h : RowsV H us rs) : ShapesV H us rs := ⟨h.1, fun i r _ b => by
  obtain ⟨a, h1, h2⟩ := h.at b
  exact ⟨a, _, h1, h2, r.shape⟩⟩
/-- from the beginning, -1, place 0 comes next -/
def nextsI (rs : List Row) (k : Int) : List Nat := if k < 0 then [0] else nexts rs k.toNat
theorem nextsI_nat (rs : List Row) (i : Nat) : nextsI rs (i : Int) = nexts rs i := by unfold nextsI; rw [if_neg (by omega)]; rfl
theorem nextsI_neg (rs : List Row) : nextsI rs (-1) = [0] := rfl
theorem nexts_end (rs : List Row) {i : Nat} (h : rs.length ≤ i) : nexts rs i = [] := by unfold nexts; rw [List.getElem?_eq_none_iff.mpr h]
theorem nexts_few (rs : List Row) (i : Nat) : (nexts rs i).length ≤ 2 := by
  unfold nexts
  split
  · simp
  · rename_i r _
    cases r <;> simp [Row.nexts]
    split <;> simp
/-! the search -/
def dfsNew (rs : List Row) (found : List Nat) (y : Nat) : List Nat := (nexts rs y).filter fun j => decide (j ∉ found)
def dfs (rs : List Row) : Nat → List Nat → List Nat → List Nat
  | 0, found, _ => found
  | k + 1, found, ws => match ws.getLast? with
    | none => found
    | some y => dfs rs k (found ++ dfsNew rs found y) (ws.dropLast ++ dfsNew rs found y)
def foundL (rs : List Row) : List Nat := dfs rs (rs.length + 2) [0] [0]
theorem dfs_nil (rs : List Row) (k : Nat) (found : List Nat) : dfs rs k found [] = found := by cases k <;> rfl
theorem dfs_snoc (rs : List Row) (k : Nat) (found ws : List Nat) (y : Nat) : dfs rs (k + 1) found (ws ++ [y]) = dfs rs k (found ++ dfsNew rs found y) (ws ++ dfsNew rs found y) := by
  simp only [dfs, List.getLast?_concat, List.dropLast_concat]
/-- each but 0 is found from one that was found ahead of it -/
def Chain (rs : List Row) (ks : List Nat) : Prop := ∀ m j, ks[m]? = some j → (m = 0 ∧ j = 0) ∨ ∃ m' i, m' < m ∧ ks[m']? = some i ∧ j ∈ nexts rs i
/-- how a search stands: ks found, ws waiting -/
structure Sea (rs : List Row) (ks ws : List Nat) : Prop where
  nd : ks.Nodup
  re : ∀ k ∈ ks, Reach rs k
  sub : ∀ k ∈ ws, k ∈ ks
  zero : ks[0]? = some 0
  ch : Chain rs ks
  cl : ∀ i ∈ ks, i ∈ ws ∨ ∀ j ∈ nexts rs i, j ∈ ks
theorem Sea.first (rs : List Row) : Sea rs [0] [0] := ⟨by simp, by simp [Reach.zero], by simp, rfl, fun m j h => by
  cases m with
  | zero => exact .inl ⟨rfl, (Option.some.inj h).symm⟩
  | succ m => simp at h, by simp⟩
theorem dfsNew_mem {rs : List Row} {ks : List Nat} {y j : Nat} : j ∈ dfsNew rs ks y ↔ j ∈ nexts rs y ∧ j ∉ ks := by
  unfold dfsNew; rw [List.mem_filter, decide_eq_true_iff]
theorem Sea.step {rs : List Row} {ks ws : List Nat} {y : Nat} (S : Sea rs ks (ws ++ [y])) : Sea rs (ks ++ dfsNew rs ks y) (ws ++ dfsNew rs ks y) := by
  have hy : y ∈ ks := S.sub y (by simp)
  refine ⟨?_, fun k hk => ?_, fun k hk => ?_, ?_, fun m j h => ?_, fun i hi => ?_⟩
  · refine List.nodup_append.mpr ⟨S.nd, (nexts_nodup rs y).filter _, fun a ha b hb e => ?_⟩
    exact (dfsNew_mem.mp hb).2 (e ▸ ha)
  · rcases List.mem_append.mp hk with h | h
    · exact S.re k h
    · exact .step (S.re y hy) (dfsNew_mem.mp h).1
  · rcases List.mem_append.mp hk with h | h
    · exact List.mem_append.mpr (.inl (S.sub k (by simp [h])))
    · exact List.mem_append.mpr (.inr h)
  · rw [List.getElem?_append_left (by have := (List.getElem?_eq_some_iff.mp S.zero).1; exact this)]; exact S.zero
  · by_cases hm : m < ks.length
    · rw [List.getElem?_append_left hm] at h
      rcases S.ch m j h with h | ⟨m', i, h1, h2, h3⟩
      · exact .inl h
      · exact .inr ⟨m', i, h1, by rw [List.getElem?_append_left (by omega)]; exact h2, h3⟩
    · rw [List.getElem?_append_right (by omega)] at h
      obtain ⟨m', hm', e⟩ := List.getElem_of_mem hy
      exact .inr ⟨m', y, by omega, by rw [List.getElem?_append_left hm', List.getElem?_eq_getElem hm', e], (dfsNew_mem.mp (List.mem_of_getElem? h)).1⟩
  · rcases List.mem_append.mp hi with h | h
    · by_cases e : i = y
      · subst e
        refine .inr fun j hj => ?_
        by_cases hk : j ∈ ks
        · simp [hk]
        · exact List.mem_append.mpr (.inr (dfsNew_mem.mpr ⟨hj, hk⟩))
      · rcases S.cl i h with h2 | h2
        · rcases List.mem_append.mp h2 with h3 | h3
          · exact .inl (by simp [h3])
          · exact absurd (List.mem_singleton.mp h3) e
        · exact .inr fun j hj => by simp [h2 j hj]
    · exact .inl (by simp [h])
theorem Sea.few {rs : List Row} {ks ws : List Nat} (hok : Okay rs) (S : Sea rs ks ws) : ks.length ≤ rs.length + 1 := nodup_bound _ _ S.nd fun k hk => by have := (S.re k hk).le hok; omega
theorem dfs_sea {rs : List Row} (hok : Okay rs) : ∀ (k : Nat) (ks ws : List Nat), Sea rs ks ws → (rs.length + 1 - ks.length) + ws.length < k → Sea rs (dfs rs k ks ws) []
  | 0, _, _, _, h => by omega
  | k + 1, ks, ws, S, h => by
    cases hws : ws.reverse with
    | nil =>
      have ew : ws = [] := by simpa using hws
      subst ew
      rw [dfs_nil]; exact S
    | cons y r =>
      have ew : ws = r.reverse ++ [y] := by rw [← List.reverse_reverse ws, hws]; simp
      subst ew
      rw [dfs_snoc]
      refine dfs_sea hok k _ _ S.step ?_
      have h1 := S.few hok
      have h2 := S.step.few hok
      simp at h h1 h2 ⊢
      omega
theorem found_sea {rs : List Row} (hok : Okay rs) : Sea rs (foundL rs) [] := dfs_sea hok _ _ _ (Sea.first rs) (by simp)
theorem found_mem {rs : List Row} (hok : Okay rs) {i : Nat} : i ∈ foundL rs ↔ Reach rs i := by
  have S := found_sea hok
  refine ⟨S.re i, fun h => reach_closed (List.mem_of_getElem? S.zero) (fun i hi j hj => ?_) h⟩
  rcases S.cl i hi with h | h
  · cases h
  · exact h j hj
theorem found_nodup {rs : List Row} (hok : Okay rs) : (foundL rs).Nodup := (found_sea hok).nd
theorem found_len {rs : List Row} (hok : Okay rs) : (foundL rs).length ≤ rs.length + 1 := (found_sea hok).few hok
/-- sorted, they are the reached places -/
theorem found_sorted {rs : List Row} (hok : Okay rs) {ms : List Int} (hp : ms.Perm ((foundL rs).map fun j : Nat => (j : Int))) (hs : ms.Pairwise (· ≤ ·)) : ms = (reachL rs).map fun j : Nat => (j : Int) := by
  refine reach_ints hok (lt_of_le_nd hs ((List.Perm.nodup_iff hp).mpr (nodup_casts (found_nodup hok)))) fun k => ?_
  rw [hp.mem_iff, List.mem_map]
  exact ⟨fun ⟨i, h1, h2⟩ => ⟨i, h2.symm, (found_mem hok).mp h1⟩, fun ⟨i, h1, h2⟩ => ⟨i, (found_mem hok).mpr h2, h1.symm⟩⟩
end J

/-! ### things of any kind, as far as the program looks at them -/
namespace J
open PySem PySem.Spec PyProof.Rows L2
open Evl (Ex)
inductive Kd where | non | bl | int (i : Int) | str (x : Str) | lst | tup
def IsK (H : Hp) (v : V) : Kd → Prop
  | .non => v = .non
  | .bl => ∃ b, v = .bl b
  | .int i => v = .int i
  | .str x => v = .str x ∧ x.length ≤ 1000
  | .lst => ∃ a xs, v = .ref a ∧ H a = some (.lst xs)
  | .tup => ∃ a xs, v = .ref a ∧ H a = some (.tup xs)
theorem IsK.mono {H H' : Hp} {v : V} {k : Kd} (h : IsK H v k) (e : Ex H H') : IsK H' v k := by
  cases k with
  | lst => obtain ⟨a, xs, h1, h2⟩ := h; exact ⟨a, xs, h1, e _ _ h2⟩
  | tup => obtain ⟨a, xs, h1, h2⟩ := h; exact ⟨a, xs, h1, e _ _ h2⟩
  | _ => exact h
def Kd.ty : Kd → String
  | .non => "NoneType" | .bl => "bool" | .int _ => "int" | .str _ => "str" | .lst => "list" | .tup => "tuple"
theorem IsK.tyOf {K : PySem.W.Frag} {H : Hp} {v : V} {k : Kd} (h : IsK H v k) : TyOf K H v (.type k.ty) := by
  cases k with
  | non => cases (show v = .non from h); exact .non
  | bl => obtain ⟨b, rfl⟩ := h; exact .bl b
  | int i => cases (show v = .int i from h); exact .int i
  | str x => obtain ⟨rfl, _⟩ := h; exact .str x
  | lst => obtain ⟨a, xs, rfl, h⟩ := h; exact .lst h
  | tup => obtain ⟨a, xs, rfl, h⟩ := h; exact .tup h
def isiB (a b : String) : Bool := decide (a = b) || (decide (a = "bool") && decide (b = "int"))
theorem Kd.ty_in (k : Kd) : k.ty ∈ ["NoneType", "bool", "int", "str", "list", "tuple"] := by cases k <;> simp [Kd.ty]
theorem kit_tab : ∀ s ∈ ["NoneType", "bool", "int", "str", "list", "tuple"], ∀ t ∈ ["int", "str", "bool", "list", "tuple"], kitB s t = some (isiB s t) := by decide +kernel
section
variable {K : PySem.W.Frag} {H : Hp} {Q : VK} {v : V} {k : Kd}
theorem i_kd_int (h : IsK H v k) (q : Q (.bl (isiB k.ty "int")) H) : rIsi K [v, .ty "int"] H Q := by
  refine r_isi (.base h.tyOf) ?_ q
  exact kit_ty (kit_tab _ k.ty_in "int" (by simp))
theorem i_kd_str (h : IsK H v k) (q : Q (.bl (isiB k.ty "str")) H) : rIsi K [v, .ty "str"] H Q := by
  refine r_isi (.base h.tyOf) ?_ q
  exact kit_ty (kit_tab _ k.ty_in "str" (by simp))
theorem i_kd_bool (h : IsK H v k) (q : Q (.bl (isiB k.ty "bool")) H) : rIsi K [v, .ty "bool"] H Q := by
  refine r_isi (.base h.tyOf) ?_ q
  exact kit_ty (kit_tab _ k.ty_in "bool" (by simp))
theorem i_kd_list (h : IsK H v k) (q : Q (.bl (isiB k.ty "list")) H) : rIsi K [v, .ty "list"] H Q := by
  refine r_isi (.base h.tyOf) ?_ q
  exact kit_ty (kit_tab _ k.ty_in "list" (by simp))
theorem i_kd_tuple (h : IsK H v k) (q : Q (.bl (isiB k.ty "tuple")) H) : rIsi K [v, .ty "tuple"] H Q := by
  refine r_isi (.base h.tyOf) ?_ q
  exact kit_ty (kit_tab _ k.ty_in "tuple" (by simp))
end
def Kd.isNum : Kd → Bool
  | .int _ => true | _ => false
def Kd.isName : Kd → Bool
  | .str x => nameB x | _ => false
def Kd.isPlace (n : Int) : Kd → Bool
  | .int i => decide (0 ≤ i) && decide (i ≤ n) | _ => false
def Kd.fits (k : Kd) (part : Str) : Bool := decide (part = "goal") || ((decide (part = "operand") && k.isNum) || k.isName)
theorem range_get0 (l : List Nat) : l = (List.range l.length).map fun i => l[i]?.getD 0 := by
  refine List.ext_getElem? fun i => ?_
  rw [List.getElem?_map]
  by_cases hi : i < l.length
  · rw [List.getElem?_range hi, List.getElem?_eq_getElem hi]; simp [hi]
  · rw [List.getElem?_eq_none_iff.mpr (by omega), List.getElem?_eq_none_iff.mpr (by rw [List.length_range]; omega)]; rfl
theorem sign_lo (c : Nat) : (!decide ([c] < (("a" : Str).cps.toList))) = decide (97 ≤ c) := by
  have e1 : ("a" : Str).cps.toList = [97] := by decide +kernel
  rw [e1]
  have e2 : ([c] < [97]) ↔ c < 97 := by simp [List.cons_lt_cons_iff]
  by_cases h : 97 ≤ c
  · rw [decide_eq_true h, decide_eq_false (fun z => absurd (e2.mp z) (by omega))]; rfl
  · rw [decide_eq_false h, decide_eq_true (e2.mpr (by omega))]; rfl
theorem sign_hi (c : Nat) : (!decide ((("z" : Str).cps.toList) < [c])) = decide (c ≤ 122) := by
  have e1 : ("z" : Str).cps.toList = [122] := by decide +kernel
  rw [e1]
  have e2 : ([122] < [c]) ↔ 122 < c := by simp [List.cons_lt_cons_iff]
  by_cases h : c ≤ 122
  · rw [decide_eq_true h, decide_eq_false (fun z => absurd (e2.mp z) (by omega))]; rfl
  · rw [decide_eq_false h, decide_eq_true (e2.mpr (by omega))]; rfl
theorem map_range (l : List Nat) (p : Nat → Bool) : (List.range l.length).map (fun i => V.bl (p (l[i]?.getD 0))) = (l.map p).map V.bl := by
  conv => rhs; rw [range_get0 l]
  rw [List.map_map, List.map_map]; rfl
def kdOp : Op → Kd
  | .inl i => .int i | .inr x => .str x
theorem isK_op {H : Hp} {o : Op} (h : opB o = true) : IsK H (kV o) (kdOp o) := by
  cases o with
  | inl i => rfl
  | inr x =>
    refine ⟨rfl, ?_⟩
    have h : nameB x = true := h
    unfold nameB at h
    have := of_decide_eq_true (Bool.and_eq_true_iff.mp (Bool.and_eq_true_iff.mp h).2).1
    omega
def isNumV : V → Bool
  | .int _ => true
  | _ => false
theorem IsK.num {H : Hp} {v : V} {k : Kd} (h : IsK H v k) : k.isNum = isNumV v := by
  cases k with
  | non => rw [show v = .non from h]; rfl
  | bl => obtain ⟨b, rfl⟩ := h; rfl
  | int i => rw [show v = .int i from h]; rfl
  | str x => rw [h.1]; rfl
  | lst => obtain ⟨a, xs, rfl, _⟩ := h; rfl
  | tup => obtain ⟨a, xs, rfl, _⟩ := h; rfl
theorem sqt_mono {K : PySem.W.Frag} {H H' : Hp} {a : Addr} {xs : List V} (h : SqT K H a xs) (e : Ex H H') : SqT K H' a xs := by
  rcases h with (h | ⟨o, h⟩) | h
  · exact .inl (.inl (e _ _ h))
  · exact .inl (.inr ⟨o, e _ _ h⟩)
  · exact .inr h
end J

/-! ### what is raised: isinstance of other kinds, the words of a message -/
namespace J
open PySem PySem.Spec PyProof.Rows L2
section
variable {K : PySem.W.Frag} {σ : L2.St} {H : Hp} {Q : VK}
theorem kit_il : PySem.W.kitOne K (.type "int") (.type "list") = some false := kit_ty (by decide +kernel)
theorem i_int_lst {i : Int} (q : Q (.bl false) H) : rIsi K [.int i, .ty "list"] H Q := r_isi (.base (.int i)) kit_il q
theorem kit_itp : PySem.W.kitOne K (.type "int") (.type "tuple") = some false := kit_ty (by decide +kernel)
theorem i_int_tup {i : Int} (q : Q (.bl false) H) : rIsi K [.int i, .ty "tuple"] H Q := r_isi (.base (.int i)) kit_itp q
theorem len_app (a b : Str) : (a ++ b).length = a.length + b.length := by
  show (a.cps ++ b.cps).size = _
  rw [Array.size_append]; rfl
/-- a call of a def that may raise -/
theorem n_callS {sp : Sp} {E : L2.St → XK} {t : TA} (q : t σ H fun vs H1 => sp vs H1 Q (E σ)) : tCallS sp E t σ H Q := q
/-- f'a{n}c', n a small int that a name holds -/
theorem n_msg {a c : Str} {j : Nat} {i : Int} {Q : Str → Hp → Prop} (h : σ[j]? = some (some (.int i))) (hb : i.natAbs.log2 < 1920) (ha : a.length ≤ 1000) (hc : c.length ≤ 1000) (q : ∀ m, Q m H) : tJs [tC (.str a), tFmt (tVar j), tC (.str c)] Str.empty σ H Q := by
  have h1 := int_text_len_1921 hb
  have h0 : (Str.empty : Str).length = 0 := rfl
  refine ⟨a, rfl, ?_, ?_⟩
  · rw [len_app, h0, sizeLine_eq]; omega
  refine ⟨_, h, Or.inr ⟨i, rfl, hb, _, rfl, ?_, ?_⟩⟩
  · rw [len_app, len_app, h0, sizeLine_eq]; omega
  · refine ⟨c, rfl, ?_, q _⟩
    rw [len_app, len_app, len_app, h0, sizeLine_eq]; omega
end
/-- a def that may raise, called where it does not -/
theorem nopass {X : Cx} {σ : L2.St} : PassesAt (L2.CX X.prog X.w) X σ (fun _ _ _ => False) := fun _ _ _ _ _ _ c => by
  obtain ⟨_, _, _, _, _, _, _, _, _, _, _, _, f⟩ := c
  exact f.elim
theorem nopassM {X : Cx} : Passes (L2.CX X.prog X.w) X (fun _ _ _ => False) := fun _ _ _ _ _ _ _ c => by
  obtain ⟨_, _, _, _, _, _, _, _, _, _, _, _, f⟩ := c
  exact f.elim
end J

/-! the steps that decide themselves -/
local macro_rules | `(tactic| walk_at "r1") => `(tactic| with_reducible first
  | refine J.r_seq ?_ | refine J.r_asg ?_ | refine J.r_ret ?_ | refine J.r_ifs ?_ | refine J.r_drop ?_ | refine J.r_next ?_
  | refine J.r_op ?_ | refine J.r_un ?_ | refine J.r_cons ?_ | refine J.r_nil ?_ | refine J.r_cb ?_ | refine J.r_call ?_ | refine J.r_c ?_
  | refine J.r_gname ?_ | refine J.r_test ?_ | refine J.r_tB ?_ | refine J.r_bl ?_ | refine J.r_and ?_ | refine J.r_or ?_ | refine J.r_not ?_
  | refine J.r_andV ?_ | refine J.r_orV ?_ | refine J.r_notV ?_ | refine J.r_blx ?_ | refine J.r_if ?_ | refine J.r_I0 ?_ | refine J.r_U ?_
  | refine J.r_eqI ?_ | refine J.r_neI ?_ | refine J.r_eqS ?_ | refine J.r_neS ?_ | refine J.r_tup ?_ | refine J.r_lst ?_
  | refine J.i_int_int ?_ | refine J.i_int_bool ?_ | refine J.i_int_str ?_ | refine J.i_str_int ?_ | refine J.i_str_bool ?_ | refine J.i_str_str ?_ | refine J.i_k_int ?_ | refine J.i_k_bool ?_ | refine J.i_k_str ?_
  | refine J.n_min2 ?_ | refine J.n_max2 ?_ | refine J.n_int1b ?_ | refine J.n_int1 ?_ | refine J.n_leS ?_ | refine J.n_part ?_ | refine J.n_parti ?_ | refine J.n_nopart ?_ | refine J.n_sl ?_
  | refine J.n_dsetd ?_ | refine J.n_dgetT ?_ | refine J.n_bm ?_ | refine J.n_bm0 ?_ | refine J.n_dget2 ?_ | refine J.n_dput ?_ | refine J.n_ipI ?_ | refine J.n_rng1 ?_ | refine J.n_lc ?_ | refine J.n_for ?_ | refine J.n_m1 ?_ | refine J.n_isS ?_ | refine J.n_tyS ?_ | refine J.n_yes ?_ | refine J.n_tru ?_ | refine J.n_sadd ?_ | refine J.n_iList ?_ | refine J.n_iStr ?_ | refine J.n_iStra ?_ | refine J.n_chain ?_ | refine J.iteNT ?_ | refine J.iteNF ?_ | refine J.n_zipA ?_ | refine J.n_enum ?_
  | refine L2.iteT ?_ | refine L2.iteF ?_)
local macro_rules | `(tactic| walk_at "ms") => `(tactic| first | exact ⟨by decide, by decide⟩ | exact Or.inl ⟨by decide, by decide⟩ | exact Or.inr ⟨by decide, by decide⟩ | (constructor <;> omega) | exact Or.inl ⟨by omega, by omega⟩ | exact Or.inr ⟨by omega, by omega⟩)
local macro_rules | `(tactic| walk_at "sz") => `(tactic| first | exact Nat.le_of_ble_eq_true rfl | omega | (simp; done) | (simp; omega))
local macro_rules | `(tactic| walk_at "r2") => `(tactic| first
  | walk_at "r1"
  | ((with_reducible refine' J.r_var ?h ?_); (case h => exact rfl))
  | ((with_reducible refine' J.n_mod ?h ?_); (case h => first | decide | omega))
  | ((with_reducible refine' J.n_fdiv ?h ?_); (case h => walk_at "ms"))
  | ((with_reducible refine' J.n_mul ?h ?_); (case h => walk_at "ms"))
  | ((with_reducible refine' J.n_pow ?h ?_); (case h => exact ⟨by decide, by decide, by decide⟩))
  | ((with_reducible refine' J.n_len ?h ?_); (case h => assumption))
  | ((with_reducible refine' J.n_lenT ?h ?_); (case h => assumption))
  | ((with_reducible refine' J.n_lenK ?h ?_); (case h => assumption))
  | ((with_reducible refine' J.n_tyL ?h ?_); (case h => assumption))
  | ((with_reducible refine' J.n_iLista ?h ?_); (case h => assumption))
  | ((with_reducible refine' J.n_enuma ?h ?_); (case h => assumption))
  | ((with_reducible refine' J.i_tup ?h ?_); (case h => assumption))
  | ((with_reducible refine' J.i_lst ?h ?_); (case h => assumption))
  | ((with_reducible refine' J.n_truL ?h ?_); (case h => assumption))
  | ((with_reducible refine' J.n_snotin ?h ?_); (case h => assumption))
  | ((with_reducible refine' J.n_sin ?h ?_); (case h => assumption))
  | ((with_reducible refine' J.n_sadda ?h ?_); (case h => assumption))
  | ((with_reducible refine' J.n_isD ?h ?_); (case h => assumption))
  | ((with_reducible refine' J.n_rng1i ?h1 ?h2 ?_); (case h1 => omega); (case h2 => omega))
  | ((with_reducible refine' J.n_aug ?h ?_); (case h => exact rfl)))
local macro_rules | `(tactic| walk_at "rd") => `(tactic| repeat (walk_at "r2"))

/-! ### PARTS.get(word, ()): a written dict asked with what to tell else; rows by their words -/
namespace J
open PySem PySem.Spec PyProof.Rows L2
open Evl (Ex)
def tDGetK (K : PySem.W.Frag) (w : World) (td ty tx : TE) : TE := fun σ H Q => td σ H fun x H1 => ∃ d es n, x = .ref d ∧ KDict K w d es n ∧ ty σ H1 fun y H2 => tx σ H2 fun z H3 =>
  ∃ (s : Str) (r : Option Value), y = .str s ∧ PySem.W.nsIn K d s = some r ∧ ((∃ u v, r = some u ∧ RelV v u ∧ Q v H3) ∨ (r = none ∧ Q z H3))
theorem pe_dgetK {X : Cx} {o e f : Expr} {apos cpos : Pos} {td ty tx : TE} (ho : PE X o td) (he : PE X e ty) (hf : PE X f tx) (m : M2 X o "get" apos e f cpos) : PE X (.Call (.Attribute o "get" apos) [e, f] [] cpos) (tDGetK X.K X.w td ty tx) := by
  refine ⟨fun pins s σ H Q I h => ?_⟩
  refine wpAny_Call_method m.base m.few m.line PySem.F.plainAttrs_dict PySem.F.slot_dict_get PySem.F.type_dict_get (thn (ho.run pins s σ H _ I h) fun u s1 ⟨x, H1, I1, rx, d, es, n, ex, D, q1⟩ => ?_)
  subst ex
  obtain rfl : u = Value.ref d := rx
  have mp := PySem.W.mapOf_K (prog := X.prog) (w := X.w) I1.kIn D.at_ D.lit
  refine ⟨mp.typeIs, fun b q => ?_, ?_⟩
  · cases q
    exact ⟨_, I1.kIn d _ D.at_, rfl⟩
  rw [m.trees]
  refine Calls.callWith_builtin rfl (Calls.evalArgs_plain (Calls.spliced_cons (thn (he.run pins s1 σ H1 _ I1 q1) fun iv s2 ⟨y, H2, I2, ry, q2⟩ =>
    Calls.spliced_cons (thn (hf.run pins s2 σ H2 _ I2 q2) fun fv s3 ⟨z, H3, I3, rz, s, r, ey, en, q3⟩ => Calls.spliced_nil ?_))))
  subst ey
  obtain ⟨t, rfl⟩ := ry
  have mp3 := PySem.W.mapOf_K (prog := X.prog) (w := X.w) I3.kIn D.at_ D.lit
  refine call_meetsIn PySem.F.slot_dict_get mp3.typeIs PySem.F.entry_dict_get (PySem.F.args_dict_get_3 _ _ _) (meets_dict_get_default (strKind X.prog X.w) d (PySem.strKind_is X.prog X.w s t) D.low fv) ⟨_, mp3, ?_⟩
  rw [PySem.W.find_K D.at_ en]
  rcases q3 with ⟨u, v, rfl, rv, q⟩ | ⟨rfl, q⟩
  · exact ⟨v, H3, I3.tok _, rv, q⟩
  · exact ⟨z, H3, I3.tok _, rz, q⟩
def partsOf (w : Str) : List Str := match parts.find? fun q => decide (q.1 = w) with
  | some q => q.2
  | none => []
theorem parts_find : ∀ q ∈ parts, (parts.find? fun p => decide (p.1 = q.1)) = some q := by decide +kernel
theorem partsOf_in {q : Str × List Str} (h : q ∈ parts) : partsOf q.1 = q.2 := by unfold partsOf; rw [parts_find q h]
theorem partsOf_out {w : Str} (h : w ∉ parts.map (·.1)) : partsOf w = [] := by
  unfold partsOf
  rw [List.find?_eq_none.mpr fun q hq y => h (List.mem_map.mpr ⟨q, hq, of_decide_eq_true y⟩)]
theorem parts_few : ∀ q ∈ parts, q.2.length ≤ 3 := by decide +kernel
theorem partsOf_few (w : Str) : (partsOf w).length ≤ 3 := by
  by_cases h : w ∈ parts.map (·.1)
  · obtain ⟨q, hq, rfl⟩ := List.mem_map.mp h
    rw [partsOf_in hq]; exact parts_few q hq
  · rw [partsOf_out h]; exact Nat.zero_le _
/-- the parts of a word, () where it is none -/
theorem n_getK {w : World} {K : PySem.W.Frag} {mg : Str → Option Value} (T : Txt w K mg) {σ : L2.St} {H : Hp} {Q : VK} {td ty tx : TE} {z : Str}
    (hd : ∀ (Q : VK), Q (.ref (He.ga K "PARTS")) H → td σ H Q) (hy : ∀ (Q : VK), Q (.str z) H → ty σ H Q) (hx : tx = tTup tNil)
    (q : ∀ a H1, Ex H H1 → SqT K H1 a ((partsOf z).map V.str) → Q (.ref a) H1) : tDGetK K w td ty tx σ H Q := by
  subst hx
  obtain ⟨es, n, D⟩ := T.kd_PARTS
  refine hd _ ⟨_, es, n, rfl, D, hy _ ?_⟩
  refine r_tup (r_nil (n_tup (vs := []) (Nat.zero_le _) fun p H1 hp e1 h1 => ?_))
  by_cases h : z ∈ parts.map (·.1)
  · obtain ⟨⟨z', ps⟩, hm, rfl⟩ := List.mem_map.mp h
    obtain ⟨pa, kd, hpa⟩ := T.part hm
    obtain ⟨es', n', u, k1, k2, k3, k4⟩ := kd
    refine ⟨_, some u, rfl, k3, .inl ⟨u, .ref pa, rfl, k4, q pa H1 e1 ?_⟩⟩
    rw [partsOf_in hm]; exact hpa H1
  · refine ⟨z, none, rfl, T.nopart h, .inr ⟨rfl, q p H1 e1 ?_⟩⟩
    rw [partsOf_out h]; exact sqt h1
/-- what a row writes, what it reads, by its word and what stands behind it -/
def ownG (w : Str) (us : List V) : V := if inV (.str "name") ((partsOf w).map V.str) = true then us[0]?.getD .non else .non
def readsG (w : Str) (us : List V) : List V := (((partsOf w).zip us).filter fun y => decide (y.1 = ("operand" : Str)) && !isNumV y.2).map (·.2)
theorem Row.part_in (r : Row) : (r.word, r.parts) ∈ J.parts := by
  cases r with
  | ari k => cases k <;> simp [J.parts, Row.word, Row.parts, Ari.word]
  | _ => simp [J.parts, Row.word, Row.parts]
theorem Row.partsOf (r : Row) : J.partsOf r.word = r.parts := partsOf_in r.part_in
def Row.us (r : Row) : List V := r.vs.drop 1
theorem Row.vs_us (r : Row) : r.vs = .str r.word :: r.us := by cases r <;> rfl
theorem Row.us_len (r : Row) : r.us.length = r.parts.length := by cases r <;> rfl
theorem own_row (r : Row) : ownG r.word r.us = ownV r := by
  unfold ownG
  rw [r.partsOf, own_in]
  cases r <;> rfl
theorem isNum_kV (o : Op) : isNumV (kV o) = o.isLeft := by cases o <;> rfl
theorem reads_row (r : Row) : readsG r.word r.us = r.reads.map V.str := by
  have k1 : decide (("name" : Str) = "operand") = false := by decide +kernel
  have k2 : decide (("goal" : Str) = "operand") = false := by decide +kernel
  unfold readsG
  rw [r.partsOf]
  cases r with
  | set x o => cases o <;> simp [Row.parts, Row.us, Row.vs, Row.reads, Row.asks, isNumV, kV, k1, List.filter_cons]
  | ari k x o p => cases o <;> cases p <;> simp [Row.parts, Row.us, Row.vs, Row.reads, Row.asks, isNumV, kV, k1, List.filter_cons]
  | say o => cases o <;> simp [Row.parts, Row.us, Row.vs, Row.reads, Row.asks, isNumV, kV, List.filter_cons]
  | jump t => simp [Row.parts, Row.us, Row.vs, Row.reads, Row.asks, isNumV, k2, List.filter_cons]
  | nought o t => cases o <;> simp [Row.parts, Row.us, Row.vs, Row.reads, Row.asks, isNumV, kV, k2, List.filter_cons]
  | stop => rfl
theorem Row.us_kd {r : Row} {n : Nat} (h : r.ok n = true) {H : Hp} {v : V} (hv : v ∈ r.us) : ∃ k, IsK H v k := by
  have op : ∀ o : Op, opB o = true → ∃ k, IsK H (kV o) k := fun o ho => ⟨kdOp o, isK_op ho⟩
  have nm : ∀ x : Str, nameB x = true → ∃ k, IsK H (.str x) k := fun x hx => ⟨_, isK_op (o := .inr x) hx⟩
  cases r with
  | set x o =>
    have h := Bool.and_eq_true_iff.mp h
    rcases List.mem_cons.mp hv with rfl | hv
    · exact nm x h.1
    · rw [List.mem_singleton.mp hv]; exact op o h.2
  | ari k x o p =>
    have h := Bool.and_eq_true_iff.mp h
    have h2 := Bool.and_eq_true_iff.mp h.2
    rcases List.mem_cons.mp hv with rfl | hv
    · exact nm x h.1
    · rcases List.mem_cons.mp hv with rfl | hv
      · exact op o h2.1
      · rw [List.mem_singleton.mp hv]; exact op p h2.2
  | say o => rw [List.mem_singleton.mp hv]; exact op o h
  | jump t => rw [List.mem_singleton.mp hv]; exact ⟨.int t, rfl⟩
  | nought o t =>
    have h := Bool.and_eq_true_iff.mp h
    rcases List.mem_cons.mp hv with rfl | hv
    · exact op o h.1
    · rw [List.mem_singleton.mp hv]; exact ⟨.int t, rfl⟩
  | stop => cases hv
end J

namespace J
open PySem PySem.Spec PyProof.Rows L2
open Evl (Ex)
def sp_size_by : Sp := fun vs H Q _ => ∃ (c : Int), vs = [.int c] ∧ Q (.int (sizeBy c)) H
theorem sc__law_size_by : FnScope ["_law_cell"] ["_law_cell"] (defScope s__law_size_by) := ⟨rfl, rfl, rfl, by decide +kernel, rfl, by decide +kernel, by decide +kernel⟩
theorem ok__law_size_by {P : Program} {w : World} {K : PySem.W.Frag} {mg : Str → Option Value} {base : Heap} (T : Txt w K mg) : FnOk P w K mg base CX0 1 (He.ga K "_law_size_by") (fdOf K "_law_size_by") ["_law_cell"] sp_size_by := by
  refine okC T.F__law_size_by sc__law_size_by (fun vs H Q E h => ?_) (fun cdv hk A outer s H vs Q E hr h => ?_)
  · obtain ⟨c, rfl, _⟩ := h; rfl
  · obtain ⟨c, rfl, q⟩ := h
    unfold sizeBy at q
    refine ⟨_, PSs.nox (pss_cons (ps_if (pt_cmpR op_eq (pe_op op_mod (pe_op op_fdiv (pv 0) pe_int) pe_int) pe_int (nomark _))
      (pss_one (ps_ret (pe_op op_add pe_int (pe_op op_mod (pe_op op_fdiv (pv 0) pe_int) pe_int))))
      pss_nil)
      (pss_one (ps_ret (pe_op op_mod (pv 0) pe_int)))), ?_⟩
    walk_at "rd"
    refine w_dec (fun hk => ?_) (fun hk => ?_)
    · rw [if_pos hk] at q
      walk_at "rd"
      exact q
    · rw [if_neg hk] at q
      walk_at "rd"
      exact q
end J
namespace J
open PySem PySem.Spec PyProof.Rows L2
open Evl (Ex)
def sp_cell_at (K : PySem.W.Frag) : Sp := fun vs H Q _ => ∃ (a : Addr) (ns : List Int) (k : Int), vs = [.ref a, .int k] ∧ SqL K H a (ns.map V.int) ∧ 0 ≤ k ∧ Q (.int (cellAt ns k)) H
theorem sc__law_cell_at : FnScope ["_law_script", "_law_k"] ["_law_script", "_law_k"] (defScope s__law_cell_at) := ⟨rfl, rfl, rfl, by decide +kernel, rfl, by decide +kernel, by decide +kernel⟩
theorem ok__law_cell_at {P : Program} {w : World} {K : PySem.W.Frag} {mg : Str → Option Value} {base : Heap} (T : Txt w K mg) : FnOk P w K mg base CX0 1 (He.ga K "_law_cell_at") (fdOf K "_law_cell_at") ["_law_script", "_law_k"] (sp_cell_at K) := by
  refine okC T.F__law_cell_at sc__law_cell_at (fun vs H Q E h => ?_) (fun cdv hk A outer s H vs Q E hr h => ?_)
  · obtain ⟨a, ns, k, rfl, _⟩ := h; rfl
  · obtain ⟨a, ns, k, rfl, hS, h0, q⟩ := h
    refine ⟨_, PSs.nox (pss_cons (ps_if (pt_cmpR op_lt (pv 1) (pe_callB (id := "len") j_len (by rfl) T.z_len (by decide +kernel) (pa_cons (pv 0) pa_nil)) (nomark _))
      (pss_one (ps_ret (pe_ix ix_list (pv 0) (pv 1) (fun _ _ => rfl))))
      pss_nil)
      (pss_one (ps_ret pe_int))), ?_⟩
    walk_at "rd"
    obtain ⟨n, rfl⟩ : ∃ n : Nat, k = (n : Int) := ⟨k.toNat, by omega⟩
    refine w_dec (fun hk => ?_) (fun hk => ?_)
    · have hn : n < ns.length := by rw [List.length_map] at hk; omega
      walk_at "rd"
      refine r_ixL hS (atI_nat (j := n) (v := .int ns[n]) (by rw [List.getElem?_map, List.getElem?_eq_getElem hn]; rfl)) ?_
      have e : cellAt ns (n : Int) = ns[n] := by simp [cellAt, List.getD, hn]
      rw [e] at q
      exact q
    · walk_at "rd"
      have hn : ¬ n < ns.length := by rw [List.length_map] at hk; omega
      have e : cellAt ns (n : Int) = 0 := by simp [cellAt, List.getD, hn]
      rw [e] at q
      exact q
end J
namespace J
open PySem PySem.Spec PyProof.Rows L2
open Evl (Ex)
def sp_mixed : Sp := fun vs H Q _ => ∃ (c k : Int), vs = [.int c, .int k] ∧ -(2 ^ 64) < k ∧ k < 2 ^ 64 ∧ Q (.int (mixed c k)) H
theorem sc__law_mixed : FnScope ["_law_cell", "_law_k", "_law_number"] ["_law_cell", "_law_k"] (defScope s__law_mixed) := ⟨rfl, rfl, rfl, by decide +kernel, rfl, by decide +kernel, by decide +kernel⟩
theorem ok__law_mixed {P : Program} {w : World} {K : PySem.W.Frag} {mg : Str → Option Value} {base : Heap} (T : Txt w K mg) : FnOk P w K mg base CX0 1 (He.ga K "_law_mixed") (fdOf K "_law_mixed") ["_law_cell", "_law_k"] sp_mixed := by
  refine okC T.F__law_mixed sc__law_mixed (fun vs H Q E h => ?_) (fun cdv hk A outer s H vs Q E hr h => ?_)
  · obtain ⟨c, k, rfl, _⟩ := h; rfl
  · obtain ⟨c, k, rfl, h1, h2, q⟩ := h
    refine ⟨_, PSs.nox (pss_cons (ps_set (i := 2) sc__law_mixed.nd rfl (.inl rfl) (pe_op op_mod (pe_op op_add (pe_op op_add (pe_op op_mul (pv 0) pe_int) (pe_op op_mul pe_int (pv 1))) pe_int) pe_int))
      (pss_one (ps_ret (pe_op op_mod (pe_op op_mul (pe_op op_mod (pe_op op_mul (pv 2) (pv 2)) pe_int) (pv 2)) pe_int)))), ?_⟩
    have n0 : 0 ≤ (c * 48271 + 7919 * k + 12345) % 2147483647 := Int.emod_nonneg _ (by decide)
    have n1 : (c * 48271 + 7919 * k + 12345) % 2147483647 < 2147483647 := Int.emod_lt_of_pos _ (by decide)
    walk_at "rd"
    exact q
end J
namespace J
open PySem PySem.Spec PyProof.Rows L2
open Evl (Ex)
theorem occ_letters : ∀ j < 26, Builtin.Str.occurrences ("abcdefghijklmnopqrstuvwxyz" : Str) ⟨#[97 + j]⟩ 0 (Str.length "abcdefghijklmnopqrstuvwxyz") 1 = [j] := by decide +kernel
theorem n_letters {j : Nat} {H : Hp} {Q : VK} (hj : j < 26) (q : Q (.int (j : Int)) H) : rSIdx (.str "abcdefghijklmnopqrstuvwxyz") [.str ⟨#[97 + j]⟩] H Q := ⟨_, _, j, [], rfl, rfl, occ_letters j hj, q⟩
theorem letter_at : ∀ j < 26, (("abcdefghijklmnopqrstuvwxyz" : Str).cps.toList)[j]? = some (97 + j) := by decide +kernel
theorem n_letter {j : Nat} {i : Int} {H : Hp} {Q : VK} (e : i = (j : Int)) (hj : j < 26) (q : Q (.str ⟨#[97 + j]⟩) H) : rIxS (.str "abcdefghijklmnopqrstuvwxyz") (.int i) H Q := by
  subst e
  exact n_ixS (by decide) (letter_at j hj) q
theorem cut_set (l : List Nat) (i x : Nat) (h : i < l.length) : cutS (S l) none (some (i : Int)) ++ (⟨#[x]⟩ : Str) ++ cutS (S l) (some ((i : Int) + 1)) none = S (l.set i x) := by
  have e1 : HT.sIx (S l).length (S l).length (some (i : Int)) = i := by rw [HT.sIx_nat, S_len]; omega
  have e2 : HT.sIx (S l).length 0 (some ((i : Int) + 1)) = i + 1 := by
    have z : ((i : Int) + 1) = ((i + 1 : Nat) : Int) := by omega
    rw [z, HT.sIx_nat, S_len]; omega
  unfold cutS
  rw [e1, e2, HT.sIx_none, HT.sIx_none, S_cps, S_len, Nat.sub_zero, List.drop_zero, show List.take (l.length - (i + 1)) (List.drop (i + 1) l) = List.drop (i + 1) l from List.take_of_length_le (by rw [List.length_drop]; omega), List.set_eq_take_append_cons_drop, if_pos h]
  show (⟨((l.take i).toArray ++ #[x]) ++ (l.drop (i + 1)).toArray⟩ : Str) = _
  unfold S
  simp
theorem add_one (l : List Nat) (x : Nat) : S l ++ (⟨#[x]⟩ : Str) = S (l ++ [x]) := by
  show (⟨l.toArray ++ #[x]⟩ : Str) = _
  unfold S
  simp
def sp_names_by : Sp := fun vs H Q _ => ∃ (c : Int), vs = [.int c] ∧ ∀ p H1, H p = none → Ex H H1 → H1 p = some (.lst ((namesBy c).map V.str)) → Q (.ref p) H1
theorem sc__law_names_by : FnScope ["_law_cell", "_law_letters", "_law_many", "_law_base", "_law_at", "_law_first", "_law_names", "_law_k"] ["_law_cell"] (defScope s__law_names_by) := ⟨rfl, rfl, rfl, by decide +kernel, rfl, by decide +kernel, by decide +kernel⟩
theorem ok__law_names_by {P : Program} {w : World} {K : PySem.W.Frag} {mg : Str → Option Value} {base : Heap} (T : Txt w K mg) : FnOk P w K mg base CX0 2 (He.ga K "_law_names_by") (fdOf K "_law_names_by") ["_law_cell"] sp_names_by := by
  refine okC T.F__law_names_by sc__law_names_by (fun vs H Q E h => ?_) (fun cdv hk A outer s H vs Q E hr h => ?_)
  · obtain ⟨c, rfl, _⟩ := h; rfl
  · obtain ⟨c, rfl, q⟩ := h
    have h1 := many_lo c
    have h2 := many_hi c
    have h3 := many_eq c
    have h4 := atN_lt c
    have h5 := atN_eq c
    have h6 := bs_len c
    refine ⟨_, PSs.nox (pss_cons (ps_set (i := 1) sc__law_names_by.nd rfl (.inr rfl) pe_str)
      (pss_cons (ps_set (i := 2) sc__law_names_by.nd rfl (.inl rfl) (pe_op op_add pe_int (pe_op op_mod (pv 0) pe_int)))
      (pss_cons (ps_set (i := 3) sc__law_names_by.nd rfl (.inr rfl) (j_join pe_str (pe_lc (own := [("_law_k", 7)]) (g := (gName 7)) rfl sc__law_names_by.nd (pi_range1 (by rfl) T.z_range (pa_cons (pv 2) pa_nil)) (blkOk_by (own := [("_law_k", 7)]) (N := ["_law_cell", "_law_letters", "_law_many", "_law_base", "_law_at", "_law_first", "_law_names", "_law_k"]) (sc := defScope s__law_names_by) (by decide +kernel)) (fun _ _ _ _ _ => (pg_name (i := 7) sc__law_names_by.nd rfl (.inl rfl))) (fun _ _ _ _ _ => pts_nil) (fun _ _ _ _ _ => (pe_ix ix_str (pv 1) (pe_op op_mod (pe_call (ok__law_mixed T) (hr.mono (by decide)) (by rfl) T.g__law_mixed T.F__law_mixed.kp T.b__law_mixed .nil pass0 (pa_cons (pe_op op_fdiv (pv 0) pe_int) (pa_cons (pv 7) pa_nil))) pe_int) (fun _ _ => rfl))))))
      (pss_cons (ps_set (i := 4) sc__law_names_by.nd rfl (.inr rfl) (pe_op op_mod (pe_op op_fdiv (pv 0) pe_int) (pv 2)))
      (pss_cons (ps_set (i := 5) sc__law_names_by.nd rfl (.inr rfl) (pe_bm PySem.F.plainAttrs_str PySem.F.slot_str_index PySem.F.type_str_index j_sidx (pv 1) (pa_cons (pe_ix ix_str (pv 3) (pv 4) (fun _ _ => rfl)) pa_nil)))
      (pss_cons (ps_setLc (i := 6) (own := [("_law_k", 7)]) (g := (gName 7)) rfl sc__law_names_by.nd rfl rfl (sw_true rfl rfl rfl (by decide +kernel)) (pi_range1 (by rfl) T.z_range (pa_cons (pe_op op_add pe_int (pe_op op_mod (pe_op op_fdiv (pv 0) pe_int) pe_int)) pa_nil)) (blkOk_by (own := [("_law_k", 7)]) (N := ["_law_cell", "_law_letters", "_law_many", "_law_base", "_law_at", "_law_first", "_law_names", "_law_k"]) (sc := defScope s__law_names_by) (by decide +kernel)) (fun _ _ _ _ _ => (pg_name (i := 7) sc__law_names_by.nd rfl (.inl rfl))) (fun _ _ _ _ _ => pts_nil) (fun _ _ _ _ _ => (pe_op j_addS (pe_op j_addS (pe_slice sl_str (pv 3) po_none (po_some (pv 4))) (pe_ix ix_str (pv 1) (pe_op op_mod (pe_op op_add (pv 5) (pv 7)) pe_int) (fun _ _ => rfl))) (pe_slice sl_str (pv 3) (po_some (pe_op op_add (pv 4) pe_int)) po_none))))
      (pss_one (ps_ret (pe_op op_cat (pv 6) (pe_lst (pa_cons (pe_op j_addS (pv 3) (pe_ix ix_str (pv 1) (pe_op op_mod (pe_op op_fdiv (pv 0) pe_int) pe_int) (fun _ _ => rfl))) pa_nil))))))))))), ?_⟩
    walk_at "rd"
    intro D hD
    refine lc_fun walk_range (fun k => V.str ⟨#[97 + nk c k]⟩) hD (by omega) (fun _ _ => trivial) (fun i x H1 H2 k hi e1 y kk => ?_) (fun H1 e1 hL => ?_)
    · obtain ⟨rfl, rfl⟩ := y
      refine ⟨rfl, ?_⟩
      walk_at "rd"
      refine ⟨_, _, rfl, by omega, by omega, ?_⟩
      walk_at "rd"
      refine n_letter (j := nk c i) (by unfold nk; rw [Int.zero_add]; omega) (nk_lt c i) ?_
      exact kk _ (Evl.Ex.refl _)
    walk_at "rd"
    have eb : (List.map (fun k => V.str ⟨#[97 + nk c k]⟩) (List.range (1 + c % 7).toNat)) = (bs c).map fun x => V.str ⟨#[x]⟩ := by
      rw [bs, List.map_map, many]; rfl
    rw [eb] at hL
    refine n_join1 hL (by omega) ?_
    walk_at "rd"
    rw [← h5, ← h3]
    have hb : (bs c)[atN c]? = some (97 + bc c) := by
      rw [bs, List.getElem?_map, List.getElem?_range h4]; rfl
    refine n_ixS (z := S (bs c)) (by rw [S_len]; omega) (by rw [S_cps]; exact hb) ?_
    walk_at "rd"
    refine n_letters (nk_lt c (atN c)) ?_
    walk_at "rd"
    intro D2 hD2
    have hf := fewN_hi c
    have hf0 : (2 + c / 49 % 3).toNat = fewN c := rfl
    refine lc_fun walk_range (fun k => V.str (nameAt c k)) hD2 (by omega) (fun _ _ => trivial) (fun i x H3 H4 k hi e3 y kk => ?_) (fun H3 e3 hL3 => ?_)
    · obtain ⟨rfl, rfl⟩ := y
      refine ⟨rfl, ?_⟩
      walk_at "rd"
      refine n_slS (z := S (bs c)) (by rw [S_len]; omega) ?_
      walk_at "rd"
      refine n_letter (j := (bc c + i) % 26) (by show ((bc c : Int) + (0 + (i : Int))) % 26 = _; omega) (by omega) ?_
      have hc1 : (cutS (S (bs c)) none (some (atN c : Int))).length ≤ 7 := by
        have := cutS_length (S (bs c)) none (some (atN c : Int))
        rw [S_len] at this
        omega
      refine n_addS (by show _ + 1 ≤ _; omega) ?_
      walk_at "rd"
      refine n_slS (z := S (bs c)) (by rw [S_len]; omega) ?_
      have hc2 : (cutS (S (bs c)) (some ((atN c : Int) + 1)) none).length ≤ 7 := by
        have := cutS_length (S (bs c)) (some ((atN c : Int) + 1)) none
        rw [S_len] at this
        omega
      refine n_addS ?_ ?_
      · have e : (cutS (S (bs c)) none (some (atN c : Int)) ++ (⟨#[97 + (bc c + i) % 26]⟩ : Str)).length = (cutS (S (bs c)) none (some (atN c : Int))).length + 1 := by
          show (_ ++ _ : Array Nat).size = _
          rw [Array.size_append]; rfl
        rw [e]; omega
      · rw [cut_set (bs c) (atN c) _ (by omega)]
        exact kk _ (Evl.Ex.refl _)
    walk_at "rd"
    refine n_letter (j := (c / 147 % 26).toNat) (by omega) (by omega) ?_
    refine n_addS (i := S (bs c)) (by rw [S_len]; show _ + 1 ≤ _; omega) ?_
    walk_at "rd"
    refine n_lst (by walk_at "sz") fun p H5 hp e5 h5' => ?_
    have e6 : List.map (fun k => V.str (nameAt c k)) (List.range (2 + c / 49 % 3).toNat) = ((List.range (fewN c)).map (nameAt c)).map V.str := by
      rw [List.map_map]; rfl
    rw [e6] at hL3
    refine n_cat (e5 _ _ hL3) h5' (by walk_at "sz") fun p2 H6 hp2 e7 h7 => ?_
    refine q p2 H6 (Evl.fresh_back ((e1.trans e3).trans e5) hp2) (((e1.trans e3).trans e5).trans e7) ?_
    rw [h7, namesBy, lastN, ← add_one, List.map_append]
    rfl
end J
namespace J
open PySem PySem.Spec PyProof.Rows L2
open Evl (Ex)
def sp_operand_by : Sp := fun vs H Q _ => ∃ (n : Int) (a : Addr) (names : List Str), vs = [.int n, .ref a] ∧ H a = some (.lst (names.map V.str)) ∧ names ≠ [] ∧ names.length ≤ 1000 ∧ ∀ (o : Op) H1, Ex H H1 → opIn names o → Q (kV o) H1
theorem sc__law_operand_by : FnScope ["_law_number", "_law_names"] ["_law_number", "_law_names"] (defScope s__law_operand_by) := ⟨rfl, rfl, rfl, by decide +kernel, rfl, by decide +kernel, by decide +kernel⟩
theorem ok__law_operand_by {P : Program} {w : World} {K : PySem.W.Frag} {mg : Str → Option Value} {base : Heap} (T : Txt w K mg) : FnOk P w K mg base CX0 1 (He.ga K "_law_operand_by") (fdOf K "_law_operand_by") ["_law_number", "_law_names"] sp_operand_by := by
  refine okC T.F__law_operand_by sc__law_operand_by (fun vs H Q E h => ?_) (fun cdv hk A outer s H vs Q E hr h => ?_)
  · obtain ⟨n, a, names, rfl, _⟩ := h; rfl
  · obtain ⟨n, a, names, rfl, hA, hne, hlen, q⟩ := h
    have h0 : 0 < names.length := List.length_pos_iff.mpr hne
    refine ⟨_, PSs.nox (pss_cons (ps_if (pt_cmpR op_lt (pe_op op_mod (pv 0) pe_int) pe_int (nomark _))
      (pss_one (ps_ret (pe_ix ix_list (pv 1) (pe_op op_mod (pe_op op_fdiv (pv 0) pe_int) (pe_callB (id := "len") j_len (by rfl) T.z_len (by decide +kernel) (pa_cons (pv 1) pa_nil))) (fun _ _ => rfl))))
      pss_nil)
      (pss_cons (ps_if (pt_cmpR op_eq (pe_op op_mod (pe_op op_fdiv (pv 0) pe_int) pe_int) pe_int (nomark _))
      (pss_one (ps_ret (pe_op op_mul (pe_ix ix_list (pe_lst (pa_cons pe_int (pa_cons (pe_un un_neg pe_int) pa_nil))) (pe_op op_mod (pe_op op_fdiv (pv 0) pe_int) pe_int) (fun _ _ => rfl)) (pe_op op_add (pe_op op_pow pe_int pe_int) (pe_op op_mod (pe_op op_fdiv (pv 0) pe_int) pe_int)))))
      pss_nil)
      (pss_one (ps_ret (pe_op op_sub (pe_op op_mod (pe_op op_fdiv (pv 0) pe_int) pe_int) pe_int))))), ?_⟩
    walk_at "rd"
    refine w_dec (fun hk => ?_) (fun hk => ?_)
    · walk_at "rd"
      have hl : ((names.map V.str).length : Int) = names.length := by rw [List.length_map]
      rw [hl]
      walk_at "rd"
      have hm : 0 ≤ n / 4 % (names.length : Int) := Int.emod_nonneg _ (by omega)
      have hm2 : n / 4 % (names.length : Int) < names.length := Int.emod_lt_of_pos _ (by omega)
      obtain ⟨x, hx, hx2⟩ := opt_pick hm hm2
      exact r_ixL (.inl (.inl hA)) (atI_map hx2) (q (.inr x) H (Evl.Ex.refl _) hx)
    · walk_at "rd"
      refine w_dec (fun hk2 => ?_) (fun hk2 => ?_)
      · walk_at "rd"
        refine n_lst (by walk_at "sz") fun p H1 hp e1 hp1 => ?_
        walk_at "rd"
        have hc : n / 20 % 2 = 0 ∨ n / 20 % 2 = 1 := by omega
        rcases hc with hc | hc
        · rw [hc]
          refine r_ixL (.inl (.inl hp1)) (atI_nat (j := 0) rfl) ?_
          walk_at "rd"
          exact q (.inl _) H1 e1 trivial
        · rw [hc]
          refine r_ixL (.inl (.inl hp1)) (atI_nat (j := 1) rfl) ?_
          walk_at "rd"
          exact q (.inl _) H1 e1 trivial
      · walk_at "rd"
        exact q (.inl _) H (Evl.Ex.refl _) trivial
end J
namespace J
open PySem PySem.Spec PyProof.Rows L2
open Evl (Ex)
def sp_row_by : Sp := fun vs H Q _ => ∃ (n : Int) (a : Addr) (names : List Str) (m : Nat), vs = [.int n, .ref a, .int (m : Int)] ∧ H a = some (.lst (names.map V.str)) ∧ names ≠ [] ∧ names.length ≤ 1000 ∧ ∀ (p : Addr) (r : Row) H1, Ex H H1 → H1 p = some (.tup r.vs) → r.inn names m → Q (.ref p) H1
theorem sc__law_row_by : FnScope ["_law_number", "_law_names", "_law_size", "_law_name", "_law_one", "_law_other", "_law_goal", "_law_kind"] ["_law_number", "_law_names", "_law_size"] (defScope s__law_row_by) := ⟨rfl, rfl, rfl, by decide +kernel, rfl, by decide +kernel, by decide +kernel⟩
theorem ok__law_row_by {P : Program} {w : World} {K : PySem.W.Frag} {mg : Str → Option Value} {base : Heap} (T : Txt w K mg) : FnOk P w K mg base CX0 2 (He.ga K "_law_row_by") (fdOf K "_law_row_by") ["_law_number", "_law_names", "_law_size"] sp_row_by := by
  refine okC T.F__law_row_by sc__law_row_by (fun vs H Q E h => ?_) (fun cdv hk A outer s H vs Q E hr h => ?_)
  · obtain ⟨n, a, names, m, rfl, _⟩ := h; rfl
  · obtain ⟨n, a, names, m, rfl, hA, hne, hlen, q⟩ := h
    have h0 : 0 < names.length := List.length_pos_iff.mpr hne
    refine ⟨_, PSs.nox (pss_cons (ps_set (i := 3) sc__law_row_by.nd rfl (.inl rfl) (pe_ix ix_list (pv 1) (pe_op op_mod (pe_op op_fdiv (pv 0) pe_int) (pe_callB (id := "len") j_len (by rfl) T.z_len (by decide +kernel) (pa_cons (pv 1) pa_nil))) (fun _ _ => rfl)))
      (pss_cons (ps_set (i := 4) sc__law_row_by.nd rfl (.inl rfl) (pe_call (ok__law_operand_by T) (hr.mono (by decide)) (by rfl) T.g__law_operand_by T.F__law_operand_by.kp T.b__law_operand_by .nil pass0 (pa_cons (pe_op op_mod (pe_op op_fdiv (pv 0) pe_int) pe_int) (pa_cons (pv 1) pa_nil))))
      (pss_cons (ps_set (i := 5) sc__law_row_by.nd rfl (.inl rfl) (pe_call (ok__law_operand_by T) (hr.mono (by decide)) (by rfl) T.g__law_operand_by T.F__law_operand_by.kp T.b__law_operand_by .nil pass0 (pa_cons (pe_op op_mod (pe_op op_fdiv (pv 0) pe_int) pe_int) (pa_cons (pv 1) pa_nil))))
      (pss_cons (ps_set (i := 6) sc__law_row_by.nd rfl (.inl rfl) (pe_op op_mod (pe_op op_mod (pe_op op_fdiv (pv 0) pe_int) pe_int) (pe_op op_add (pv 2) pe_int)))
      (pss_cons (ps_set (i := 7) sc__law_row_by.nd rfl (.inl rfl) (pe_op op_mod (pv 0) pe_int))
      (pss_cons (ps_if (pt_cmpR op_lt (pv 7) pe_int (nomark _))
      (pss_one (ps_ret (pe_tup (pa_cons pe_str (pa_cons (pv 3) (pa_cons (pv 4) pa_nil))))))
      pss_nil)
      (pss_cons (ps_if (pt_cmpR op_lt (pv 7) pe_int (nomark _))
      (pss_one (ps_ret (pe_tup (pa_cons (pe_ix ix_list (pe_lst (pa_cons pe_str (pa_cons pe_str (pa_cons pe_str pa_nil)))) (pe_op op_sub (pv 7) pe_int) (fun _ _ => rfl)) (pa_cons (pv 3) (pa_cons (pv 4) (pa_cons (pv 5) pa_nil)))))))
      pss_nil)
      (pss_cons (ps_if (pt_cmpR op_eq (pv 7) pe_int (nomark _))
      (pss_one (ps_ret (pe_tup (pa_cons pe_str (pa_cons (pv 4) pa_nil)))))
      pss_nil)
      (pss_cons (ps_if (pt_cmpR op_eq (pv 7) pe_int (nomark _))
      (pss_one (ps_ret (pe_ix ix_list (pe_lst (pa_cons (pe_tup (pa_cons pe_str (pa_cons (pv 6) pa_nil))) (pa_cons (pe_tup (pa_cons pe_str pa_nil)) (pa_cons (pe_tup (pa_cons pe_str (pa_cons (pv 6) pa_nil))) (pa_cons (pe_tup (pa_cons pe_str (pa_cons (pv 4) pa_nil))) pa_nil))))) (pe_op op_mod (pe_op op_fdiv (pv 0) pe_int) pe_int) (fun _ _ => rfl))))
      pss_nil)
      (pss_one (ps_ret (pe_tup (pa_cons pe_str (pa_cons (pv 4) (pa_cons (pv 6) pa_nil))))))))))))))), ?_⟩
    walk_at "rd"
    have hl : ((names.map V.str).length : Int) = names.length := by rw [List.length_map]
    rw [hl]
    walk_at "rd"
    have hm : 0 ≤ n / 9 % (names.length : Int) := Int.emod_nonneg _ (by omega)
    have hm2 : n / 9 % (names.length : Int) < names.length := Int.emod_lt_of_pos _ (by omega)
    obtain ⟨x, hx, hx2⟩ := opt_pick hm hm2
    refine r_ixL (.inl (.inl hA)) (atI_map hx2) ?_
    walk_at "rd"
    refine ⟨_, a, names, rfl, hA, hne, hlen, fun o H1 e1 ho => ?_⟩
    walk_at "rd"
    refine ⟨_, a, names, rfl, e1 _ _ hA, hne, hlen, fun o2 H2 e2 ho2 => ?_⟩
    walk_at "rd"
    have hg : 0 ≤ n / 64 % 5003 % ((m : Int) + 1) := Int.emod_nonneg _ (by omega)
    have hg2 : n / 64 % 5003 % ((m : Int) + 1) < (m : Int) + 1 := Int.emod_lt_of_pos _ (by omega)
    obtain ⟨g, hgg⟩ : ∃ g : Nat, n / 64 % 5003 % ((m : Int) + 1) = (g : Int) := ⟨(n / 64 % 5003 % ((m : Int) + 1)).toNat, by omega⟩
    rw [hgg] at hg2
    rw [hgg]
    have hgm : g ≤ m := by omega
    have e12 := e1.trans e2
    refine w_dec (fun hk => ?_) (fun hk => ?_)
    · walk_at "rd"
      refine n_tup (by walk_at "sz") fun p H3 hp e3 hp3 => ?_
      exact q p (.set x o) H3 (e12.trans e3) hp3 ⟨hx, ho⟩
    walk_at "rd"
    refine w_dec (fun hk2 => ?_) (fun hk2 => ?_)
    · walk_at "rd"
      refine n_lst (by walk_at "sz") fun p0 H3 hp0 e3 hp03 => ?_
      walk_at "rd"
      have hc : n % 9 - 2 = 0 ∨ n % 9 - 2 = 1 ∨ n % 9 - 2 = 2 := by omega
      rcases hc with hc | hc | hc
      · rw [hc]
        refine r_ixL (.inl (.inl hp03)) (atI_nat (j := 0) rfl) ?_
        walk_at "rd"
        refine n_tup (by walk_at "sz") fun p H4 hp e4 hp4 => ?_
        exact q p (.ari .add x o o2) H4 ((e12.trans e3).trans e4) hp4 ⟨hx, ho, ho2⟩
      · rw [hc]
        refine r_ixL (.inl (.inl hp03)) (atI_nat (j := 1) rfl) ?_
        walk_at "rd"
        refine n_tup (by walk_at "sz") fun p H4 hp e4 hp4 => ?_
        exact q p (.ari .sub x o o2) H4 ((e12.trans e3).trans e4) hp4 ⟨hx, ho, ho2⟩
      · rw [hc]
        refine r_ixL (.inl (.inl hp03)) (atI_nat (j := 2) rfl) ?_
        walk_at "rd"
        refine n_tup (by walk_at "sz") fun p H4 hp e4 hp4 => ?_
        exact q p (.ari .less x o o2) H4 ((e12.trans e3).trans e4) hp4 ⟨hx, ho, ho2⟩
    walk_at "rd"
    refine w_dec (fun hk3 => ?_) (fun hk3 => ?_)
    · walk_at "rd"
      refine n_tup (by walk_at "sz") fun p H3 hp e3 hp3 => ?_
      exact q p (.say o) H3 (e12.trans e3) hp3 ho
    walk_at "rd"
    refine w_dec (fun hk4 => ?_) (fun hk4 => ?_)
    · walk_at "rd"
      refine n_tup (by walk_at "sz") fun p1 H3 hp1 e3 hp13 => ?_
      walk_at "rd"
      refine n_tup (by walk_at "sz") fun p2 H4 hp2 e4 hp24 => ?_
      walk_at "rd"
      refine n_tup (by walk_at "sz") fun p3 H5 hp3 e5 hp35 => ?_
      walk_at "rd"
      refine n_tup (by walk_at "sz") fun p4 H6 hp4 e6 hp46 => ?_
      walk_at "rd"
      refine n_lst (by walk_at "sz") fun p5 H7 hp5 e7 hp57 => ?_
      walk_at "rd"
      have e17 := (((e12.trans e3).trans e4).trans e5).trans (e6.trans e7)
      have hc : n / 27 % 4 = 0 ∨ n / 27 % 4 = 1 ∨ n / 27 % 4 = 2 ∨ n / 27 % 4 = 3 := by omega
      rcases hc with hc | hc | hc | hc
      · rw [hc]
        exact r_ixL (.inl (.inl hp57)) (atI_nat (j := 0) rfl) (q p1 (.jump g) H7 e17 (e7 _ _ (e6 _ _ (e5 _ _ (e4 _ _ hp13)))) hgm)
      · rw [hc]
        exact r_ixL (.inl (.inl hp57)) (atI_nat (j := 1) rfl) (q p2 .stop H7 e17 (e7 _ _ (e6 _ _ (e5 _ _ hp24))) trivial)
      · rw [hc]
        exact r_ixL (.inl (.inl hp57)) (atI_nat (j := 2) rfl) (q p3 (.jump g) H7 e17 (e7 _ _ (e6 _ _ hp35)) hgm)
      · rw [hc]
        exact r_ixL (.inl (.inl hp57)) (atI_nat (j := 3) rfl) (q p4 (.say o) H7 e17 (e7 _ _ hp46) ho)
    walk_at "rd"
    refine n_tup (by walk_at "sz") fun p H3 hp e3 hp3 => ?_
    exact q p (.nought o g) H3 (e12.trans e3) hp3 ⟨ho, hgm⟩
end J
namespace J
open PySem PySem.Spec PyProof.Rows L2
open Evl (Ex)
def sp_rows_by (K : PySem.W.Frag) : Sp := fun vs H Q _ => ∃ (a : Addr) (ns : List Int), vs = [.ref a] ∧ SqL K H a (ns.map V.int) ∧ ∀ (p : Addr) (us : List V) (rs : List Row) H1, H p = none → Ex H H1 → H1 p = some (.lst us) → RowsV H1 us rs → Good (cellAt ns 1) rs → Q (.ref p) H1
/-- the last part: a saying of each name -/
theorem rows_say {names : List Str} {n : Nat} : ∀ {xs : List Str}, (∀ x ∈ xs, x ∈ names) → ∀ r ∈ xs.map (fun x => Row.say (.inr x)), r.inn names n := fun h r hr => by
  obtain ⟨x, hx, rfl⟩ := List.mem_map.mp hr
  exact h x hx
theorem sc__law_rows_by : FnScope ["_law_script", "_law_size", "_law_names", "_law_rows", "_law_more", "_law_turn", "_law_one", "_law_other", "_law_third", "_law_k", "_law_name"] ["_law_script"] (defScope s__law_rows_by) := ⟨rfl, rfl, rfl, by decide +kernel, rfl, by decide +kernel, by decide +kernel⟩
theorem ok__law_rows_by {P : Program} {w : World} {K : PySem.W.Frag} {mg : Str → Option Value} {base : Heap} (T : Txt w K mg) : FnOk P w K mg base CX0 3 (He.ga K "_law_rows_by") (fdOf K "_law_rows_by") ["_law_script"] (sp_rows_by K) := by
  refine okC T.F__law_rows_by sc__law_rows_by (fun vs H Q E h => ?_) (fun cdv hk A outer s H vs Q E hr h => ?_)
  · obtain ⟨a, ns, rfl, _⟩ := h; rfl
  · obtain ⟨a, ns, rfl, hS, q⟩ := h
    have hN3 : (namesBy (cellAt ns 1)).length = fewN (cellAt ns 1) + 1 := namesBy_len _
    have hf1 := fewN_lo (cellAt ns 1)
    have hf2 := fewN_hi (cellAt ns 1)
    have hne : namesBy (cellAt ns 1) ≠ [] := fun z => by rw [z] at hN3; simp at hN3
    refine ⟨_, PSs.nox (pss_cons (ps_set (i := 1) sc__law_rows_by.nd rfl (.inr rfl) (pe_call (ok__law_size_by T) (hr.mono (by decide)) (by rfl) T.g__law_size_by T.F__law_size_by.kp T.b__law_size_by .nil pass0 (pa_cons (pe_call (ok__law_cell_at T) (hr.mono (by decide)) (by rfl) T.g__law_cell_at T.F__law_cell_at.kp T.b__law_cell_at .nil pass0 (pa_cons (pv 0) (pa_cons pe_int pa_nil))) pa_nil)))
      (pss_cons (ps_set (i := 2) sc__law_rows_by.nd rfl (.inr rfl) (pe_call (ok__law_names_by T) (hr.mono (by decide)) (by rfl) T.g__law_names_by T.F__law_names_by.kp T.b__law_names_by .nil pass0 (pa_cons (pe_call (ok__law_cell_at T) (hr.mono (by decide)) (by rfl) T.g__law_cell_at T.F__law_cell_at.kp T.b__law_cell_at .nil pass0 (pa_cons (pv 0) (pa_cons pe_int pa_nil))) pa_nil)))
      (pss_cons (ps_setLc (i := 3) (own := [("_law_k", 9)]) (g := (gName 9)) rfl sc__law_rows_by.nd rfl rfl (sw_true rfl rfl rfl (by decide +kernel)) (pi_range1 (by rfl) T.z_range (pa_cons (pv 1) pa_nil)) (blkOk_by (own := [("_law_k", 9)]) (N := ["_law_script", "_law_size", "_law_names", "_law_rows", "_law_more", "_law_turn", "_law_one", "_law_other", "_law_third", "_law_k", "_law_name"]) (sc := defScope s__law_rows_by) (by decide +kernel)) (fun _ _ _ _ _ => (pg_name (i := 9) sc__law_rows_by.nd rfl (.inl rfl))) (fun _ _ _ _ _ => pts_nil) (fun _ _ _ _ _ => (pe_call (ok__law_row_by T) (hr.mono (by decide)) (by rfl) T.g__law_row_by T.F__law_row_by.kp T.b__law_row_by .nil pass0 (pa_cons (pe_call (ok__law_mixed T) (hr.mono (by decide)) (by rfl) T.g__law_mixed T.F__law_mixed.kp T.b__law_mixed .nil pass0 (pa_cons (pe_call (ok__law_cell_at T) (hr.mono (by decide)) (by rfl) T.g__law_cell_at T.F__law_cell_at.kp T.b__law_cell_at .nil pass0 (pa_cons (pv 0) (pa_cons (pe_op op_add pe_int (pv 9)) pa_nil))) (pa_cons (pv 9) pa_nil))) (pa_cons (pv 2) (pa_cons (pv 1) pa_nil))))))
      (pss_cons (ps_set (i := 4) sc__law_rows_by.nd rfl (.inl rfl) (pe_call (ok__law_mixed T) (hr.mono (by decide)) (by rfl) T.g__law_mixed T.F__law_mixed.kp T.b__law_mixed .nil pass0 (pa_cons (pe_op op_add (pe_call (ok__law_cell_at T) (hr.mono (by decide)) (by rfl) T.g__law_cell_at T.F__law_cell_at.kp T.b__law_cell_at .nil pass0 (pa_cons (pv 0) (pa_cons pe_int pa_nil))) (pe_op op_mul pe_int (pe_call (ok__law_cell_at T) (hr.mono (by decide)) (by rfl) T.g__law_cell_at T.F__law_cell_at.kp T.b__law_cell_at .nil pass0 (pa_cons (pv 0) (pa_cons pe_int pa_nil))))) (pa_cons pe_int pa_nil))))
      (Evl.pss_cut (ps_if (pt_cmpR op_lt (pe_op op_mod (pv 4) pe_int) pe_int (nomark _))
      (pss_cons (ps_set (i := 5) sc__law_rows_by.nd rfl (.inl rfl) (pe_op op_mod (pe_op op_fdiv (pv 4) pe_int) (pe_callB (id := "len") j_len (by rfl) T.z_len (by decide +kernel) (pa_cons (pv 2) pa_nil))))
        (pss_cons (ps_asg (pe_slice sl_list (pe_op op_cat (pe_slice sl_list (pv 2) (po_some (pv 5)) po_none) (pe_slice sl_list (pv 2) po_none (po_some (pv 5)))) po_none (po_some pe_int)) (pg_unl rfl (pgs_cons (pg_name (i := 6) sc__law_rows_by.nd rfl (.inl rfl)) (pgs_cons (pg_name (i := 7) sc__law_rows_by.nd rfl (.inl rfl)) (pgs_cons (pg_name (i := 8) sc__law_rows_by.nd rfl (.inl rfl)) pgs_nil)))))
        (pss_cons (ps_set (i := 3) sc__law_rows_by.nd rfl (.inl rfl) (pe_op op_cat (pv 3) (pe_lst (pa_cons (pe_tup (pa_cons pe_str (pa_cons (pv 8) (pa_cons (pv 6) pa_nil)))) (pa_cons (pe_tup (pa_cons pe_str (pa_cons (pv 6) (pa_cons (pv 7) pa_nil)))) (pa_cons (pe_tup (pa_cons pe_str (pa_cons (pv 7) (pa_cons (pv 8) pa_nil)))) pa_nil))))))
        (pss_one (ps_expr (pe_bm PySem.F.plainAttrs_list PySem.F.slot_list_append PySem.F.type_list_append mt_append (pv 3) (pa_cons (pe_tup (pa_cons pe_str (pa_cons (pe_ix ix_list (pe_lst (pa_cons (pv 6) (pa_cons (pv 7) (pa_cons pe_int (pa_cons (pv 8) pa_nil))))) (pe_op op_mod (pe_op op_fdiv (pv 4) pe_int) pe_int) (fun _ _ => rfl)) (pa_cons (pe_op op_mod (pe_op op_fdiv (pv 4) pe_int) (pe_callB (id := "len") j_len (by rfl) T.z_len (by decide +kernel) (pa_cons (pv 3) pa_nil))) pa_nil)))) pa_nil)))))))
      pss_nil)
      (pss_cons (ps_if (pt_cmpR op_lt (pe_op op_mod (pe_op op_fdiv (pv 4) pe_int) pe_int) pe_int (nomark _))
      (pss_one (ps_set (i := 3) sc__law_rows_by.nd rfl (.inl rfl) (pe_op op_cat (pv 3) (pe_lc (own := [("_law_name", 10)]) (g := (gName 10)) rfl sc__law_rows_by.nd (pi_list (pv 2)) (blkOk_by (own := [("_law_name", 10)]) (N := ["_law_script", "_law_size", "_law_names", "_law_rows", "_law_more", "_law_turn", "_law_one", "_law_other", "_law_third", "_law_k", "_law_name"]) (sc := defScope s__law_rows_by) (by decide +kernel)) (fun _ _ _ _ _ => (pg_name (i := 10) sc__law_rows_by.nd rfl (.inl rfl))) (fun _ _ _ _ _ => pts_nil) (fun _ _ _ _ _ => (pe_tup (pa_cons pe_str (pa_cons (pv 10) pa_nil))))))))
      pss_nil)
      (pss_one (ps_ret (pv 3))))))))), ?_⟩
    walk_at "rd"
    refine ⟨a, ns, 0, rfl, hS, by omega, ?_⟩
    walk_at "rd"
    refine ⟨_, rfl, ?_⟩
    obtain ⟨m, hm⟩ : ∃ m : Nat, sizeBy (cellAt ns 0) = (m : Int) := ⟨(sizeBy (cellAt ns 0)).toNat, by have := sizeBy_lo (cellAt ns 0); omega⟩
    have hm13 : m ≤ 13 := by have := sizeBy_hi (cellAt ns 0); omega
    rw [hm]
    walk_at "rd"
    refine ⟨a, ns, 1, rfl, hS, by omega, ?_⟩
    walk_at "rd"
    refine ⟨_, rfl, fun pn H1 hpn e1 hn => ?_⟩
    walk_at "rd"
    intro D hD
    refine lc_gen walk_range (fun _ => true) (fun i y H => ∃ (p : Addr) (r : Row), y = .ref p ∧ p ≠ D ∧ H p = some (.tup r.vs) ∧ r.inn (namesBy (cellAt ns 1)) m) (fun i y H H' P e => ?_) hD (by omega) (fun _ _ => trivial) (fun i x H2 H3 k kd hi e2 hacc y kk _ => ?_) (fun H2 us e2 hD2 hP => ?_)
    · obtain ⟨p, r, h1, h2, h3, h4⟩ := P
      exact ⟨p, r, h1, h2, e _ _ h3 h2, h4⟩
    · obtain ⟨rfl, rfl⟩ := y
      obtain ⟨acc, hacc⟩ := hacc
      refine ⟨rfl, ?_⟩
      walk_at "rd"
      refine ⟨a, ns, _, rfl, Evl.ex_l (e1.trans e2) hS, by omega, ?_⟩
      walk_at "rd"
      refine ⟨_, _, rfl, by omega, by omega, ?_⟩
      walk_at "rd"
      refine ⟨_, pn, namesBy (cellAt ns 1), m, rfl, e2 _ _ hn, hne, by omega, fun p r H4 e4 hp hr => ?_⟩
      exact kk rfl _ H4 e4 ⟨p, r, rfl, ne_of hp (e4 _ _ hacc) (fun z => by cases z), hp, hr⟩
    rw [filter_all] at hP
    have hus : us.length = m := by have := paired_len hP; rw [List.length_range] at this; omega
    -- the drawn rows
    obtain ⟨rs, hrs, hin⟩ : ∃ rs : List Row, RowsV H2 us rs ∧ ∀ r ∈ rs, r.inn (namesBy (cellAt ns 1)) m := by
      have hall : ∀ (xs : List Nat) (us : List V), Paired (fun (_ : Nat) y => ∃ (p : Addr) (r : Row), y = V.ref p ∧ p ≠ D ∧ H2 p = some (.tup r.vs) ∧ r.inn (namesBy (cellAt ns 1)) m) xs us → ∃ rs : List Row, RowsV H2 us rs ∧ ∀ r ∈ rs, r.inn (namesBy (cellAt ns 1)) m := by
        intro xs us h
        induction h with
        | nil => exact ⟨[], RowsV.nil, fun r h => by cases h⟩
        | cons h _ ih =>
          obtain ⟨p, r, e, _, hp, hr⟩ := h
          obtain ⟨rs, h1, h2⟩ := ih
          refine ⟨r :: rs, RowsV.app (RowsV.one ⟨p, e, hp⟩) h1, fun r' h' => ?_⟩
          rcases List.mem_cons.mp h' with h' | h'
          · rw [h']; exact hr
          · exact h2 _ h'
      exact hall _ _ hP
    have hrl : rs.length = m := by rw [← hrs.1]; exact hus
    walk_at "rd"
    have e02 := e1.trans e2
    refine ⟨a, ns, 0, rfl, Evl.ex_l e02 hS, by omega, ?_⟩
    walk_at "rd"
    refine ⟨a, ns, 1, rfl, Evl.ex_l e02 hS, by omega, ?_⟩
    walk_at "rd"
    refine ⟨_, _, rfl, by omega, by omega, ?_⟩
    walk_at "rd"
    generalize mixed (cellAt ns 0 + 3 * cellAt ns 1) 50 = more
    have hDn : H D = none := Evl.fresh_back e1 hD
    refine n_cut (fun σ' H' => ∃ (pl : Addr) (us2 : List V) (rs2 : List Row) (v5 v6 v7 v8 : Option V), σ' = [some (.ref a), some (.int (m : Int)), some (.ref pn), some (.ref pl), some (.int more), v5, v6, v7, v8, none, none] ∧
      H pl = none ∧ Ex H H' ∧ H' pl = some (.lst us2) ∧ RowsV H' us2 rs2 ∧ (∀ r ∈ rs2, r.inn (namesBy (cellAt ns 1)) rs2.length) ∧ rs2.length ≤ 17 ∧ H' pn = some (.lst ((namesBy (cellAt ns 1)).map V.str))) ?_ ?_
    · walk_at "rd"
      have hn2 := e2 _ _ hn
      refine w_dec (fun hk => ?_) (fun hk => ?_)
      · walk_at "rd"
        have hl : ((List.map V.str (namesBy (cellAt ns 1))).length : Int) = (namesBy (cellAt ns 1)).length := by rw [List.length_map]
        rw [hl]
        walk_at "rd"
        have ht1 : 0 ≤ more / 3 % ((namesBy (cellAt ns 1)).length : Int) := Int.emod_nonneg _ (by omega)
        have ht2 : more / 3 % ((namesBy (cellAt ns 1)).length : Int) < (namesBy (cellAt ns 1)).length := Int.emod_lt_of_pos _ (by omega)
        obtain ⟨t, ht⟩ : ∃ t : Nat, more / 3 % ((namesBy (cellAt ns 1)).length : Int) = (t : Int) := ⟨(more / 3 % ((namesBy (cellAt ns 1)).length : Int)).toNat, by omega⟩
        rw [ht] at ht2
        rw [ht]
        refine n_slL hn2 fun p1 H4 hp1 e4 h4 => ?_
        walk_at "rd"
        refine n_slL (e4 _ _ hn2) fun p2 H5 hp2 e5 h5 => ?_
        have h45 := e5 _ _ h4
        rw [cut_from] at h45
        rw [cut_to] at h5
        walk_at "rd"
        refine n_cat h45 h5 (by simp; omega) fun p3 H6 hp3 e6 h6 => ?_
        walk_at "rd"
        refine n_slL h6 fun p4 H7 hp4 e7 h7 => ?_
        obtain ⟨x, y, z, hx, hy, hz, exyz⟩ := rotated (names := namesBy (cellAt ns 1)) (t := t) (by omega) (by omega)
        have h7' : H7 p4 = some (.lst [.str x, .str y, .str z]) := by
          rw [h7, show (3 : Int) = ((3 : Nat) : Int) from rfl, cut_to, ← List.map_drop, ← List.map_take, ← List.map_append, ← List.map_take, exyz]
          rfl
        refine ⟨p4, _, rfl, sql h7', rfl, _, _, rfl, ?_⟩
        refine r_gname ?_
        refine ⟨_, _, rfl, ?_⟩
        refine r_gname ?_
        refine ⟨_, _, rfl, ?_⟩
        refine r_gname ?_
        refine ⟨rfl, ?_⟩
        walk_at "rd"
        refine n_tup (by walk_at "sz") fun q1 H8 hq1 e8 h8 => ?_
        walk_at "rd"
        refine n_tup (by walk_at "sz") fun q2 H9 hq2 e9 h9 => ?_
        walk_at "rd"
        refine n_tup (by walk_at "sz") fun q3 H10 hq3 e10 h10 => ?_
        walk_at "rd"
        refine n_lst (by walk_at "sz") fun q4 H11 hq4 e11 h11 => ?_
        have e2b := ((((e4.trans e5).trans e6).trans e7).trans e8).trans ((e9.trans e10).trans e11)
        refine n_cat (e2b _ _ hD2) h11 (by simp; omega) fun q5 H12 hq5 e12 h12 => ?_
        have e2c := e2b.trans e12
        walk_at "rd"
        refine n_lst (by walk_at "sz") fun q6 H13 hq6 e13 h13 => ?_
        walk_at "rd"
        have hc : more / 9 % 4 = 0 ∨ more / 9 % 4 = 1 ∨ more / 9 % 4 = 2 ∨ more / 9 % 4 = 3 := by omega
        obtain ⟨o, ho, hat⟩ : ∃ o : Op, opIn (namesBy (cellAt ns 1)) o ∧ atI [V.str x, .str y, .int 0, .str z] (more / 9 % 4) = some (kV o) := by
          rcases hc with hc | hc | hc | hc
          · rw [hc]; exact ⟨.inr x, hx, rfl⟩
          · rw [hc]; exact ⟨.inr y, hy, rfl⟩
          · rw [hc]; exact ⟨.inl 0, trivial, rfl⟩
          · rw [hc]; exact ⟨.inr z, hz, rfl⟩
        refine r_ixL (sql h13) hat ?_
        walk_at "rd"
        refine n_len (e13 _ _ h12) ?_
        have hul : (us ++ [V.ref q1, .ref q2, .ref q3]).length = m + 3 := by simp; omega
        rw [hul]
        walk_at "rd"
        have hg1 : 0 ≤ more / 36 % ((m + 3 : Nat) : Int) := Int.emod_nonneg _ (by omega)
        have hg2 : more / 36 % ((m + 3 : Nat) : Int) < ((m + 3 : Nat) : Int) := Int.emod_lt_of_pos _ (by omega)
        obtain ⟨g, hg⟩ : ∃ g : Nat, more / 36 % ((m + 3 : Nat) : Int) = (g : Int) := ⟨(more / 36 % ((m + 3 : Nat) : Int)).toNat, by omega⟩
        rw [hg] at hg2
        rw [hg]
        refine n_tup (by walk_at "sz") fun q7 H14 hq7 e14 h14 => ?_
        have h12' := e14 _ _ (e13 _ _ h12)
        walk_at "rd"
        refine n_app h12' (by simp; omega) ?_
        have e2d := (e2c.trans e13).trans e14
        have hq5n : H q5 = none := Evl.fresh_back (e02.trans e2b) hq5
        have hr1 : RowsV H14 us rs := hrs.mono e2d
        have hr2 : RowsV H14 [V.ref q1, .ref q2, .ref q3] [Row.set z (.inr x), .set x (.inr y), .set y (.inr z)] := by
          have a1 : RowAt H14 (.ref q1) (Row.set z (.inr x)) := ⟨q1, rfl, e14 _ _ (e13 _ _ (e12 _ _ (e11 _ _ (e10 _ _ (e9 _ _ h8)))))⟩
          have a2 : RowAt H14 (.ref q2) (Row.set x (.inr y)) := ⟨q2, rfl, e14 _ _ (e13 _ _ (e12 _ _ (e11 _ _ (e10 _ _ h9))))⟩
          have a3 : RowAt H14 (.ref q3) (Row.set y (.inr z)) := ⟨q3, rfl, e14 _ _ (e13 _ _ (e12 _ _ (e11 _ _ h10)))⟩
          exact RowsV.app (RowsV.one a1) (RowsV.app (RowsV.one a2) (RowsV.one a3))
        have hr3 : RowsV H14 [V.ref q7] [Row.nought o g] := RowsV.one ⟨q7, rfl, h14⟩
        refine ⟨q5, _, (rs ++ [Row.set z (.inr x), .set x (.inr y), .set y (.inr z)]) ++ [Row.nought o g], some (.int t), some (.str x), some (.str y), some (.str z), rfl, hq5n, Evl.Ex.mut (e02.trans e2d) hq5n, upd_same, RowsV.updL (RowsV.app (RowsV.app hr1 hr2) hr3) h12', ?_, by simp; omega, ?_⟩
        · have hln : ((rs ++ [Row.set z (.inr x), .set x (.inr y), .set y (.inr z)]) ++ [Row.nought o g]).length = m + 4 := by simp; omega
          rw [hln]
          intro r hr
          rcases List.mem_append.mp hr with hr | hr
          · rcases List.mem_append.mp hr with hr | hr
            · exact Row.inn_mono (by omega) (hin r hr)
            · rcases List.mem_cons.mp hr with rfl | hr
              · exact ⟨hz, hx⟩
              rcases List.mem_cons.mp hr with rfl | hr
              · exact ⟨hx, hy⟩
              cases List.mem_singleton.mp hr
              exact ⟨hy, hz⟩
          · cases List.mem_singleton.mp hr
            exact ⟨ho, by omega⟩
        · have hnn : H q5 ≠ H1 pn := fun z => by rw [hq5n, hn] at z; cases z
          have : pn ≠ q5 := fun z => by
            have := e2c _ _ hn2
            rw [z] at hn2
            have := Evl.fresh_back e2b hq5
            rw [hn2] at this
            cases this
          rw [upd_ne this]
          exact e2d _ _ hn2
      · walk_at "rd"
        exact ⟨D, us, rs, none, none, none, none, rfl, hDn, e02, hD2, hrs, fun r hr => Row.inn_mono (by omega) (hin r hr), by omega, e2 _ _ hn⟩
    · rintro σ' H3 ⟨pl, us2, rs2, v5, v6, v7, v8, rfl, hpl, e3, h3, hr2, hg2, hl2, hn3⟩
      walk_at "rd"
      refine w_dec (fun hk => ?_) (fun hk => ?_)
      · walk_at "rd"
        intro D2 hD2
        refine lc_gen walk_list (fun _ => true) (fun i y H => ∃ (p : Addr) (x : Str), y = .ref p ∧ p ≠ D2 ∧ H p = some (.tup (Row.say (.inr x)).vs) ∧ x ∈ namesBy (cellAt ns 1)) (fun i y H H' P e => ?_) hD2 (by simp; omega) (fun H e => sql (e _ _ hn3)) (fun i v H5 H6 k kd hi e5 hacc y kk _ => ?_) (fun H5 us5 e5 h5 hP5 => ?_)
        · obtain ⟨p, x, h1, h2, h3, h4⟩ := P
          exact ⟨p, x, h1, h2, e _ _ h3 h2, h4⟩
        · obtain ⟨rfl, hv⟩ := y
          obtain ⟨acc, hacc⟩ := hacc
          refine ⟨rfl, ?_⟩
          rw [List.getElem?_map] at hv
          obtain ⟨x, hx, rfl⟩ := Option.map_eq_some_iff.mp hv
          walk_at "rd"
          refine n_tup (by walk_at "sz") fun p H7 hp e7 h7 => ?_
          exact kk rfl _ H7 e7 ⟨p, x, rfl, ne_of h7 (e7 _ _ hacc) (fun z => by cases z), h7, List.mem_of_getElem? hx⟩
        have hall : ∀ (xs : List Nat) (us : List V), Paired (fun (_ : Nat) y => ∃ (p : Addr) (x : Str), y = V.ref p ∧ p ≠ D2 ∧ H5 p = some (.tup (Row.say (.inr x)).vs) ∧ x ∈ namesBy (cellAt ns 1)) xs us → ∃ rs : List Row, RowsV H5 us rs ∧ ∀ r ∈ rs, ∀ n, r.inn (namesBy (cellAt ns 1)) n := by
          intro xs us h
          induction h with
          | nil => exact ⟨[], RowsV.nil, fun r h => by cases h⟩
          | cons h _ ih =>
            obtain ⟨p, x, e, _, hp, hx⟩ := h
            obtain ⟨rs, h1, h2⟩ := ih
            refine ⟨.say (.inr x) :: rs, RowsV.app (RowsV.one ⟨p, e, hp⟩) h1, fun r' h' n => ?_⟩
            rcases List.mem_cons.mp h' with h' | h'
            · rw [h']; exact hx
            · exact h2 _ h' n
        obtain ⟨rs5, hr5, hg5⟩ := hall _ _ hP5
        have hl5 : rs5.length ≤ 5 := by
          rw [← hr5.1, ← paired_len hP5, filter_all]
          simp
          omega
        refine n_cat (e5 _ _ h3) h5 (by rw [hr2.1, hr5.1]; omega) fun p6 H6 hp6 e6 h6 => ?_
        walk_at "rd"
        refine q p6 _ (rs2 ++ rs5) H6 (Evl.fresh_back (e3.trans e5) hp6) ((e3.trans e5).trans e6) h6 (RowsV.app (hr2.mono (e5.trans e6)) (hr5.mono e6)) ⟨fun r hr => ?_, by rw [List.length_append]; omega⟩
        rcases List.mem_append.mp hr with hr | hr
        · exact Row.inn_mono (by rw [List.length_append]; omega) (hg2 r hr)
        · exact hg5 r hr _
      · walk_at "rd"
        exact q pl us2 rs2 H3 hpl e3 h3 hr2 ⟨hg2, by omega⟩
end J
namespace J
open PySem PySem.Spec PyProof.Rows L2
open Evl (Ex)
def sp_law_next : Sp := fun vs H Q _ => ∃ (a : Addr) (us : List V) (rs : List Row) (i : Nat), vs = [.ref a, .int (i : Int)] ∧ H a = some (.lst us) ∧ RowsV H us rs ∧ i ≤ rs.length ∧ ∀ p H1, H p = none → Ex H H1 → H1 p = some (.lst ((lnexts rs i).map fun j : Nat => V.int (j : Int))) → Q (.ref p) H1
theorem sc__law_next : FnScope ["_law_rows", "_law_place", "_law_row"] ["_law_rows", "_law_place"] (defScope s__law_next) := ⟨rfl, rfl, rfl, by decide +kernel, rfl, by decide +kernel, by decide +kernel⟩
theorem ok__law_next {P : Program} {w : World} {K : PySem.W.Frag} {mg : Str → Option Value} {base : Heap} (T : Txt w K mg) : FnOk P w K mg base CX0 1 (He.ga K "_law_next") (fdOf K "_law_next") ["_law_rows", "_law_place"] sp_law_next := by
  refine okC T.F__law_next sc__law_next (fun vs H Q E h => ?_) (fun cdv hk A outer s H vs Q E hr h => ?_)
  · obtain ⟨a, us, rs, i, rfl, _⟩ := h; rfl
  · obtain ⟨a, us, rs, i, rfl, hA, hR, hi, q⟩ := h
    refine ⟨_, PSs.nox (pss_cons (ps_if (pt_cmpR op_eq (pv 1) (pe_callB (id := "len") j_len (by rfl) T.z_len (by decide +kernel) (pa_cons (pv 0) pa_nil)) (nomark _))
      (pss_one (ps_ret (pe_lst pa_nil)))
      pss_nil)
      (pss_cons (ps_set (i := 2) sc__law_next.nd rfl (.inl rfl) (pe_ix ix_list (pv 0) (pv 1) (fun _ _ => rfl)))
      (pss_cons (ps_if (pt_cmpR op_eq (pe_ix ix_tup (pv 2) pe_int (fun _ _ => rfl)) pe_str (nomark _))
      (pss_one (ps_ret (pe_lst (pa_cons (pe_ix ix_tup (pv 2) pe_int (fun _ _ => rfl)) pa_nil))))
      pss_nil)
      (pss_cons (ps_if (pt_cmpR op_eq (pe_ix ix_tup (pv 2) pe_int (fun _ _ => rfl)) pe_str (nomark _))
      (pss_one (ps_ret (pe_lst (pa_cons (pe_callB (id := "len") j_len (by rfl) T.z_len (by decide +kernel) (pa_cons (pv 0) pa_nil)) pa_nil))))
      pss_nil)
      (pss_cons (ps_if (PW.pt (pw_and (pt_cmpR op_eq (pe_ix ix_tup (pv 2) pe_int (fun _ _ => rfl)) pe_str (nomark _)) (pw_and1 (pt_cmpR op_ne (pe_ix ix_tup (pv 2) pe_int (fun _ _ => rfl)) (pe_op op_add (pv 1) pe_int) (nomark _)))))
      (pss_one (ps_ret (pe_lst (pa_cons (pe_callB (id := "min") (j_min2 rfl) (by rfl) T.z_min (by decide +kernel) (pa_cons (pe_ix ix_tup (pv 2) pe_int (fun _ _ => rfl)) (pa_cons (pe_op op_add (pv 1) pe_int) pa_nil))) (pa_cons (pe_callB (id := "max") (j_max2 rfl) (by rfl) T.z_max (by decide +kernel) (pa_cons (pe_ix ix_tup (pv 2) pe_int (fun _ _ => rfl)) (pa_cons (pe_op op_add (pv 1) pe_int) pa_nil))) pa_nil)))))
      pss_nil)
      (pss_one (ps_ret (pe_lst (pa_cons (pe_op op_add (pv 1) pe_int) pa_nil))))))))), ?_⟩
    walk_at "rd"
    rw [hR.1]
    refine w_dec (fun hk => ?_) (fun hk => ?_)
    · walk_at "rd"
      refine n_lst (by walk_at "sz") fun p H1 hp e1 h1 => ?_
      have : lnexts rs i = [] := by unfold lnexts nexts; rw [List.getElem?_eq_none_iff.mpr (by omega)]
      exact q p H1 hp e1 (by rw [h1, this]; rfl)
    · have hi2 : i < rs.length := by omega
      have hr0 : rs[i]? = some rs[i] := List.getElem?_eq_getElem hi2
      obtain ⟨t, ht1, ht2⟩ := hR.at hr0
      have hn : nexts rs i = rs[i].nexts rs.length i := by unfold nexts; rw [hr0]
      have hl : lnexts rs i = (match rs[i] with | .nought _ t => if t = i + 1 then [i + 1] else [min t (i + 1), max t (i + 1)] | r => r.nexts rs.length i) := by
        unfold lnexts; rw [hr0, hn]; cases rs[i] <;> rfl
      rw [hl] at q
      walk_at "rd"
      refine r_ixLn hA ht1 ?_
      walk_at "rd"
      refine r_ixT0 ht2 rs[i].vs_head ?_
      walk_at "rd"
      generalize rs[i] = r at *
      cases r with
      | jump t =>
        refine w_true rfl ?_
        walk_at "rd"
        refine r_ixT1 ht2 rfl ?_
        walk_at "rd"
        exact n_lst (by walk_at "sz") fun p H1 hp e1 h1 => q p H1 hp e1 h1
      | stop =>
        refine w_false rfl ?_
        walk_at "rd"
        refine r_ixT0 ht2 rfl ?_
        walk_at "rd"
        refine w_true rfl ?_
        walk_at "rd"
        refine n_lst (by walk_at "sz") fun p H1 hp e1 h1 => q p H1 hp e1 ?_
        rw [h1, hR.1]; rfl
      | nought o t =>
        refine w_false rfl ?_
        walk_at "rd"
        refine r_ixT0 ht2 rfl ?_
        walk_at "rd"
        refine w_false rfl ?_
        walk_at "rd"
        refine r_ixT0 ht2 rfl ?_
        walk_at "rd"
        refine w_true rfl ?_
        walk_at "rd"
        refine r_ixT2 ht2 rfl ?_
        walk_at "rd"
        refine w_ndec (fun hk9 => ?_) (fun hk9 => ?_)
        · walk_at "rd"
          refine r_ixT2 ht2 rfl ?_
          walk_at "rd"
          refine r_ixT2 ht2 rfl ?_
          walk_at "rd"
          refine n_lst (by walk_at "sz") fun p H1 hp e1 h1 => q p H1 hp e1 ?_
          show H1 p = some (HO.lst ((if t = i + 1 then [i + 1] else [min t (i + 1), max t (i + 1)]).map fun j : Nat => V.int (j : Int)))
          have g : (if t = i + 1 then [i + 1] else [min t (i + 1), max t (i + 1)]) = [min t (i + 1), max t (i + 1)] := if_neg (by omega)
          have m1 : (if ((i : Int) + 1) < (t : Int) then ((i : Int) + 1) else (t : Int)) = ((min t (i + 1) : Nat) : Int) := by split <;> omega
          have m2 : (if ((i : Int) + 1) > (t : Int) then ((i : Int) + 1) else (t : Int)) = ((max t (i + 1) : Nat) : Int) := by split <;> omega
          rw [h1, g, m1, m2]; rfl
        · walk_at "rd"
          refine n_lst (by walk_at "sz") fun p H1 hp e1 h1 => q p H1 hp e1 ?_
          show H1 p = some (HO.lst ((if t = i + 1 then [i + 1] else [min t (i + 1), max t (i + 1)]).map fun j : Nat => V.int (j : Int)))
          have g : (if t = i + 1 then [i + 1] else [min t (i + 1), max t (i + 1)]) = [i + 1] := if_pos (by omega)
          rw [h1, g]; rfl
      | set x o =>
        refine w_false rfl ?_
        walk_at "rd"
        refine r_ixT0 ht2 rfl ?_
        walk_at "rd"
        refine w_false rfl ?_
        walk_at "rd"
        refine r_ixT0 ht2 rfl ?_
        walk_at "rd"
        refine w_false rfl ?_
        walk_at "rd"
        exact n_lst (by walk_at "sz") fun p H1 hp e1 h1 => q p H1 hp e1 h1
      | ari k x o p =>
        refine w_false (by cases k <;> rfl) ?_
        walk_at "rd"
        refine r_ixT0 ht2 rfl ?_
        walk_at "rd"
        refine w_false (by cases k <;> rfl) ?_
        walk_at "rd"
        refine r_ixT0 ht2 rfl ?_
        walk_at "rd"
        refine w_false (by cases k <;> rfl) ?_
        walk_at "rd"
        exact n_lst (by walk_at "sz") fun p H1 hp e1 h1 => q p H1 hp e1 h1
      | say o =>
        refine w_false rfl ?_
        walk_at "rd"
        refine r_ixT0 ht2 rfl ?_
        walk_at "rd"
        refine w_false rfl ?_
        walk_at "rd"
        refine r_ixT0 ht2 rfl ?_
        walk_at "rd"
        refine w_false rfl ?_
        walk_at "rd"
        exact n_lst (by walk_at "sz") fun p H1 hp e1 h1 => q p H1 hp e1 h1
end J
namespace J
open PySem PySem.Spec PyProof.Rows L2
open Evl (Ex)
def sp_law_reached : Sp := fun vs H Q _ => ∃ (a : Addr) (us : List V) (rs : List Row), vs = [.ref a] ∧ H a = some (.lst us) ∧ RowsV H us rs ∧ Okay rs ∧ rs.length ≤ 61 ∧ ∀ p H1, H p = none → Ex H H1 → H1 p = some (.lst ((reachL rs).map fun j : Nat => V.int (j : Int))) → Q (.ref p) H1
theorem sc__law_reached : FnScope ["_law_rows", "_law_found", "_law_at", "_law_one"] ["_law_rows"] (defScope s__law_reached) := ⟨rfl, rfl, rfl, by decide +kernel, rfl, by decide +kernel, by decide +kernel⟩
theorem ok__law_reached {P : Program} {w : World} {K : PySem.W.Frag} {mg : Str → Option Value} {base : Heap} (T : Txt w K mg) : FnOk P w K mg base CX0 2 (He.ga K "_law_reached") (fdOf K "_law_reached") ["_law_rows"] sp_law_reached := by
  refine okC T.F__law_reached sc__law_reached (fun vs H Q E h => ?_) (fun cdv hk A outer s H vs Q E hr h => ?_)
  · obtain ⟨a, us, rs, rfl, _⟩ := h; rfl
  · obtain ⟨a, us, rs, rfl, hA, hR, hok, hlen, q⟩ := h
    refine ⟨_, PSs.nox (pss_cons (ps_set (i := 1) sc__law_reached.nd rfl (.inr rfl) (pe_lst (pa_cons pe_int pa_nil)))
      (pss_cons (ps_set (i := 2) sc__law_reached.nd rfl (.inl rfl) pe_int)
      (pss_cons (ps_while PassesOwn.never (pt_cmpR op_lt (pv 2) (pe_callB (id := "len") j_len (by rfl) T.z_len (by decide +kernel) (pa_cons (pv 1) pa_nil)) (nomark _))
      (pss_cons (ps_set (i := 1) sc__law_reached.nd rfl (.inr rfl) (pe_op op_cat (pv 1) (pe_lc (own := [("_law_one", 3)]) (g := (gName 3)) rfl sc__law_reached.nd (pi_list (pe_call (ok__law_next T) (hr.mono (by decide)) (by rfl) T.g__law_next T.F__law_next.kp T.b__law_next .nil pass0 (pa_cons (pv 0) (pa_cons (pe_ix ix_list (pv 1) (pv 2) (fun _ _ => rfl)) pa_nil)))) (blkOk_by (own := [("_law_one", 3)]) (N := ["_law_rows", "_law_found", "_law_at", "_law_one"]) (sc := defScope s__law_reached) (by decide +kernel)) (fun _ _ _ _ _ => (pg_name (i := 3) sc__law_reached.nd rfl (.inl rfl))) (fun _ _ _ _ _ => (pts_one (pt_cmpR (k_notIn K) (pv 3) (pv 1) (by with_unfolding_all rfl)))) (fun _ _ _ _ _ => (pv 3)))))
        (pss_one (ps_set (i := 2) sc__law_reached.nd rfl (.inl rfl) (pe_op op_add (pv 2) pe_int)))))
      (pss_one (ps_ret (pe_callB (id := "sorted") cr_sortedI (by rfl) T.z_sorted (by decide +kernel) (pa_cons (pv 1) pa_nil))))))), ?_⟩
    walk_at "rd"
    refine n_lst (by walk_at "sz") fun f H1 hf e1 h1 => ?_
    walk_at "rd"
    refine n_while (fun m σ H' => ∃ (p : Addr) (ks : List Nat) (k : Nat), σ = [some (.ref a), some (.ref p), some (.int (k : Int)), none] ∧ Ex H H' ∧ H' p = some (.lst (ks.map fun j : Nat => V.int (j : Int))) ∧ ks.Nodup ∧ (∀ i ∈ ks, Reach rs i) ∧ 0 ∈ ks ∧ k ≤ ks.length ∧ (∀ i ∈ ks.take k, ∀ j ∈ nexts rs i, j ∈ ks) ∧ m + k = rs.length + 1) (rs.length + 1) ⟨f, [0], 0, rfl, e1, h1, by simp, by simp [Reach.zero], by simp, by simp, by simp, rfl⟩ (fun m σ H2 W => ?_)
    obtain ⟨p, ks, k, rfl, e2, h2, hnd, hre, h0, hk, hcl, hm⟩ := W
    have hfew : ks.length ≤ rs.length + 1 := nodup_bound _ _ hnd fun i hi => by have := (hre i hi).le hok; omega
    walk_at "rd"
    rw [List.length_map]
    refine w_dec (fun hlt => ?_) (fun hlt => ?_)
    · have hlt : k < ks.length := by omega
      have hkk : ks[k]? = some ks[k] := List.getElem?_eq_getElem hlt
      have hin := List.getElem_mem hlt
      refine ⟨_, fun σ' H' N => N, ?_⟩
      have htk : ks.take (k + 1) = ks.take k ++ [ks[k]] := take_one hkk
      generalize ks[k] = y at *
      walk_at "rd"
      refine r_ixLn h2 (by rw [List.getElem?_map, hkk]; rfl) ?_
      walk_at "rd"
      refine ⟨a, us, rs, y, rfl, e2 _ _ hA, hR.mono e2, (hre y hin).le hok, fun pn H3 hpn e3 h3 => ?_⟩
      walk_at "rd"
      have h23 := e3 _ _ h2
      intro D hD
      have hll : ((lnexts rs y).map fun j : Nat => V.int (j : Int)).length = (lnexts rs y).length := List.length_map ..
      have hl2 : (lnexts rs y).length ≤ 1000 := by
        have := nodup_bound (rs.length + 1) (lnexts rs y) (lnexts_nodup rs y) fun j hj => by have := nexts_le hok ((lnexts_mem rs y j).mp hj); omega
        omega
      refine lc_gen walk_list (fun i => decide (¬ (lnexts rs y)[i]?.getD 0 ∈ ks)) (fun i v _ => v = V.int (((lnexts rs y)[i]?.getD 0 : Nat) : Int)) (fun _ _ _ _ z _ => z) hD (by omega) (fun H e => sql (e _ _ h3)) (fun i x H4 H5 kc kd hi e4 _ yy kk kn => ?_) (fun H4 ys e4 h4 hP => ?_)
      · obtain ⟨rfl, hx⟩ := yy
        rw [List.getElem?_map] at hx
        obtain ⟨j, hj, rfl⟩ := Option.map_eq_some_iff.mp hx
        refine ⟨rfl, ?_⟩
        walk_at "rd"
        refine n_niL (e4 _ _ h23) rfl (by rw [ints_map]; exact flat_ints _) ?_
        rw [in_nats]
        rw [hj] at kk kn
        walk_at "rd"
        by_cases hjk : j ∈ ks
        · rw [decide_eq_true hjk]
          refine w_false rfl ?_
          exact kn (by simp [hjk]) _ (Evl.Ex.refl _)
        · rw [decide_eq_false hjk]
          refine w_true rfl ?_
          walk_at "rd"
          exact kk (by simp [hjk]) _ _ (Evl.Ex.refl _) rfl
      rw [hll] at hP
      have hys : ys = (((lnexts rs y).filter fun j => decide (¬ j ∈ ks)).map fun j : Nat => V.int (j : Int)) := by
        rw [paired_eq hP, ← filter_range (lnexts rs y), List.map_map]; rfl
      rw [hys] at h4
      have hfl : ((lnexts rs y).filter fun j => decide (¬ j ∈ ks)).length ≤ 1000 := Nat.le_trans (List.length_filter_le _ _) hl2
      refine n_cat (e4 _ _ h23) h4 (by rw [List.length_map, List.length_map]; omega) fun p2 H5 hp2 e5 h5 => ?_
      walk_at "rd"
      rw [← List.map_append] at h5
      refine ⟨m - 1, by omega, p2, ks ++ (lnexts rs y).filter fun j => decide (¬ j ∈ ks), k + 1, rfl, ((e2.trans e3).trans e4).trans e5, h5, ?_, fun i hi => ?_, by simp [h0], by rw [List.length_append]; omega, fun i hi j hj => ?_, by omega⟩
      · refine List.nodup_append.mpr ⟨hnd, (lnexts_nodup rs y).filter _, fun u hu v hv z => ?_⟩
        have := (List.mem_filter.mp hv).2
        rw [← z] at this
        exact absurd hu (by simpa using this)
      · rcases List.mem_append.mp hi with hi | hi
        · exact hre i hi
        · exact .step (hre y hin) ((lnexts_mem rs y i).mp (List.mem_filter.mp hi).1)
      · rw [List.take_append_of_le_length (by omega), htk] at hi
        refine mem_snoc (P := fun i => ∀ j ∈ nexts rs i, j ∈ ks ++ (lnexts rs y).filter fun j => decide (¬ j ∈ ks)) hi (fun hi j hj => by simp [hcl i hi j hj]) (fun j hj => ?_) j hj
        by_cases hjk : j ∈ ks
        · simp [hjk]
        · refine List.mem_append.mpr (.inr (List.mem_filter.mpr ⟨(lnexts_mem rs y j).mpr hj, by simp [hjk]⟩))
    · have hlt : ks.length ≤ k := by omega
      walk_at "rd"
      rw [ints_map] at h2
      refine n_sortedI h2 fun ms p2 H3 hperm hs hp2 e3 h3 => ?_
      refine q p2 H3 (Evl.fresh_back e2 hp2) (e2.trans e3) ?_
      have hnd2 : ms.Nodup := (List.Perm.nodup_iff hperm).mpr (nodup_casts hnd)
      rw [List.take_of_length_le hlt] at hcl
      have e := reach_ints hok (lt_of_le_nd hs hnd2) (fun z => by
        rw [hperm.mem_iff, List.mem_map]
        exact ⟨fun ⟨i, hi, e⟩ => ⟨i, e.symm, hre i hi⟩, fun ⟨i, e, hr⟩ => ⟨i, reach_closed h0 hcl hr, e.symm⟩⟩)
      rw [h3, e, ints_map]
end J
namespace J
open PySem PySem.Spec PyProof.Rows L2
open Evl (Ex)
def sp_whole : Sp := fun vs H Q _ => ∃ i : Int, vs = [.int i] ∧ Q (.bl true) H
theorem sc__law_whole : FnScope ["_law_found"] ["_law_found"] (defScope s__law_whole) := ⟨rfl, rfl, rfl, by decide +kernel, rfl, by decide +kernel, by decide +kernel⟩
theorem ok__law_whole {P : Program} {w : World} {K : PySem.W.Frag} {mg : Str → Option Value} {base : Heap} (T : Txt w K mg) : FnOk P w K mg base CX0 1 (He.ga K "_law_whole") (fdOf K "_law_whole") ["_law_found"] sp_whole := by
  refine okC T.F__law_whole sc__law_whole (fun vs H Q E h => ?_) (fun cdv hk A outer s H vs Q E hr h => ?_)
  · obtain ⟨i, rfl, _⟩ := h; rfl
  · obtain ⟨i, rfl, q⟩ := h
    refine ⟨_, PSs.nox (pss_one (ps_ret (pe_and (pe_callB (id := "isinstance") call_isi (by rfl) T.z_isinstance (by decide +kernel) (pa_cons (pv 0) (pa_cons (pe_bltn (v := .ty "int") (u := .type "int") (by rfl) T.z_int (by decide +kernel) rfl) pa_nil))) (pe_one (pe_not (pe_callB (id := "isinstance") call_isi (by rfl) T.z_isinstance (by decide +kernel) (pa_cons (pv 0) (pa_cons (pe_bltn (v := .ty "bool") (u := .type "bool") (by rfl) T.z_bool (by decide +kernel) rfl) pa_nil)))))))), ?_⟩
    walk_at "rd"
    exact q
end J
namespace J
open PySem PySem.Spec PyProof.Rows L2
open Evl (Ex)
def sp_numbers : Sp := fun vs H Q _ => ∃ (a b : Addr) (ns : List Int), vs = [.ref a, .ref b] ∧ H a = some (.lst (ns.map V.int)) ∧ H b = some (.lst (ns.map V.int)) ∧ ns.length ≤ 90000 ∧ ∀ H1, Ex H H1 → Q (.bl true) H1
theorem sc__law_numbers : FnScope ["_law_found", "_law_due", "_law_one"] ["_law_found", "_law_due"] (defScope s__law_numbers) := ⟨rfl, rfl, rfl, by decide +kernel, rfl, by decide +kernel, by decide +kernel⟩
theorem ok__law_numbers {P : Program} {w : World} {K : PySem.W.Frag} {mg : Str → Option Value} {base : Heap} (T : Txt w K mg) : FnOk P w K mg base CX0 2 (He.ga K "_law_numbers") (fdOf K "_law_numbers") ["_law_found", "_law_due"] sp_numbers := by
  refine okC T.F__law_numbers sc__law_numbers (fun vs H Q E h => ?_) (fun cdv hk A outer s H vs Q E hr h => ?_)
  · obtain ⟨_, _, _, rfl, _⟩ := h; rfl
  · obtain ⟨a, b, ns, rfl, ha, hb, hl, q⟩ := h
    refine ⟨_, PSs.nox (pss_one (ps_ret (pe_and (pe_callB (id := "isinstance") call_isi (by rfl) T.z_isinstance (by decide +kernel) (pa_cons (pv 0) (pa_cons (pe_bltn (v := .ty "list") (u := .type "list") (by rfl) T.z_list (by decide +kernel) rfl) pa_nil))) (pe_and (pe_cmpR (op_eqD hr.units) (pv 0) (pv 1) (nomark _)) (pe_one (pe_cmpR (op_eqD hr.units) (pe_lc (own := [("_law_one", 2)]) (g := (gName 2)) rfl sc__law_numbers.nd (pi_list (pv 0)) (blkOk_by (own := [("_law_one", 2)]) (N := ["_law_found", "_law_due", "_law_one"]) (sc := defScope s__law_numbers) (by decide +kernel)) (fun _ _ _ _ _ => (pg_name (i := 2) sc__law_numbers.nd rfl (.inl rfl))) (fun _ _ _ _ _ => (pts_one (pt_not (pt_val (pe_call (ok__law_whole T) (hr.mono (by decide)) (by rfl) T.g__law_whole T.F__law_whole.kp T.b__law_whole .nil pass0 (pa_cons (pv 2) pa_nil)))))) (fun _ _ _ _ _ => (pv 2))) (pe_lst pa_nil) (nomark _))))))), ?_⟩
    walk_at "rd"
    refine n_eqD (d := .list (ns.map PyData.int)) (dp_lst ha) (dp_lst hb) (PySem.W.shaped_ints ns) ?_
    walk_at "rd"
    intro D hD
    refine lc_gen walk_list (fun _ => false) (fun _ _ _ => True) (fun _ _ _ _ _ _ => trivial) hD (by rw [List.length_map]; omega) (fun H e => sql (e _ _ ha)) (fun i x H2 H3 k kd hi e2 _ y _ kk => ?_) (fun H2 ys e2 h2 hP => ?_)
    · obtain ⟨rfl, hx⟩ := y
      rw [List.getElem?_map] at hx
      obtain ⟨z, _, rfl⟩ := Option.map_eq_some_iff.mp hx
      refine ⟨rfl, ?_⟩
      walk_at "rd"
      refine ⟨z, rfl, ?_⟩
      walk_at "rd"
      exact kk rfl _ (Evl.Ex.refl _)
    have hy : ys = [] := by
      have := paired_len hP
      rw [List.filter_eq_nil_iff.mpr (by simp)] at this
      exact List.eq_nil_of_length_eq_zero this.symm
    subst hy
    walk_at "rd"
    refine n_lst (by walk_at "sz") fun p H3 hp e3 h3 => ?_
    exact n_eqD (d := .list []) (.lst (sql (e3 _ _ h2)) .nil) (.lst (sql h3) .nil) (by decide +kernel) (q H3 (e2.trans e3))
end J
namespace J
open PySem PySem.Spec PyProof.Rows L2
open Evl (Ex)
def sp_is_number : Sp := fun vs H Q _ => ∃ (v : V) (k : Kd), vs = [v] ∧ IsK H v k ∧ Q (.bl k.isNum) H
theorem sc_is_number : FnScope ["thing"] ["thing"] (defScope s_is_number) := ⟨rfl, rfl, rfl, by decide +kernel, rfl, by decide +kernel, by decide +kernel⟩
theorem ok_is_number {P : Program} {w : World} {K : PySem.W.Frag} {mg : Str → Option Value} {base : Heap} (T : Txt w K mg) : FnOk P w K mg base CX0 1 (He.ga K "is_number") (fdOf K "is_number") ["thing"] sp_is_number := by
  refine okC T.F_is_number sc_is_number (fun vs H Q E h => ?_) (fun cdv hk A outer s H vs Q E hr h => ?_)
  · obtain ⟨v, k, rfl, _⟩ := h; rfl
  · obtain ⟨v, k, rfl, hk, q⟩ := h
    refine ⟨_, PSs.nox (pss_one (ps_ret (pe_and (pe_callB (id := "isinstance") call_isi (by rfl) T.z_isinstance (by decide +kernel) (pa_cons (pv 0) (pa_cons (pe_bltn (v := .ty "int") (u := .type "int") (by rfl) T.z_int (by decide +kernel) rfl) pa_nil))) (pe_one (pe_not (pe_callB (id := "isinstance") call_isi (by rfl) T.z_isinstance (by decide +kernel) (pa_cons (pv 0) (pa_cons (pe_bltn (v := .ty "bool") (u := .type "bool") (by rfl) T.z_bool (by decide +kernel) rfl) pa_nil)))))))), ?_⟩
    walk_at "rd"
    refine i_kd_int hk ?_
    walk_at "rd"
    cases k with
    | int i =>
      refine w_true rfl ?_
      walk_at "rd"
      refine i_kd_bool hk ?_
      walk_at "rd"
      exact q
    | bl =>
      refine w_true rfl ?_
      walk_at "rd"
      refine i_kd_bool hk ?_
      walk_at "rd"
      exact q
    | _ =>
      refine w_false rfl ?_
      walk_at "rd"
      exact q
end J
namespace J
open PySem PySem.Spec PyProof.Rows L2
open Evl (Ex)
def sp_is_name : Sp := fun vs H Q _ => ∃ (v : V) (k : Kd), vs = [v] ∧ IsK H v k ∧ ∀ H1, Ex H H1 → Q (.bl k.isName) H1
theorem sc_is_name : FnScope ["thing", "sign"] ["thing"] (defScope s_is_name) := ⟨rfl, rfl, rfl, by decide +kernel, rfl, by decide +kernel, by decide +kernel⟩
theorem ok_is_name {P : Program} {w : World} {K : PySem.W.Frag} {mg : Str → Option Value} {base : Heap} (T : Txt w K mg) : FnOk P w K mg base CX0 1 (He.ga K "is_name") (fdOf K "is_name") ["thing"] sp_is_name := by
  refine okC T.F_is_name sc_is_name (fun vs H Q E h => ?_) (fun cdv hk A outer s H vs Q E hr h => ?_)
  · obtain ⟨v, k, rfl, _⟩ := h; rfl
  · obtain ⟨v, k, rfl, hk, q⟩ := h
    refine ⟨_, PSs.nox (pss_cons (ps_if (PW.pt (pw_or (pt_not (pt_val (pe_callB (id := "isinstance") call_isi (by rfl) T.z_isinstance (by decide +kernel) (pa_cons (pv 0) (pa_cons (pe_bltn (v := .ty "str") (u := .type "str") (by rfl) T.z_str (by decide +kernel) rfl) pa_nil))))) (pw_or1 (pt_not (pt_chain op_le op_le pe_int (pe_callB (id := "len") j_lenS (by rfl) T.z_len (by decide +kernel) (pa_cons (pv 0) pa_nil)) (pe_glob (v := .int (8)) (by rfl) (T.i_LONGEST_NAME).choose_spec ⟨_, rfl⟩))))))
      (pss_one (ps_ret pe_bl))
      pss_nil)
      (pss_one (ps_ret (pe_callB (id := "all") (cr_all rfl) (by rfl) T.z_all (by decide +kernel) (pa_cons (pe_lc (own := [("sign", 1)]) (g := (gName 1)) rfl sc_is_name.nd (pi_str (pv 0)) (blkOk_by (own := [("sign", 1)]) (N := ["thing", "sign"]) (sc := defScope s_is_name) (by decide +kernel)) (fun _ _ _ _ _ => (pg_name (i := 1) sc_is_name.nd rfl (.inl rfl))) (fun _ _ _ _ _ => pts_nil) (fun _ _ _ _ _ => (pe_chain j_leS j_leS pe_str (pv 1) pe_str))) pa_nil))))), ?_⟩
    walk_at "rd"
    refine i_kd_str hk ?_
    walk_at "rd"
    cases k with
    | str x =>
      obtain ⟨rfl, hl⟩ := hk
      refine w_false rfl ?_
      walk_at "rd"
      refine n_lenS (by omega) ?_
      walk_at "rd"
      have hn : ∀ b : Bool, (nameB x = b) → ∀ H1, Ex H H1 → Q (.bl b) H1 := fun b e H1 e1 => by rw [← e]; exact q H1 e1
      refine w_dec (fun h1 => ?_) (fun h1 => ?_)
      · walk_at "rd"
        refine w_ndec (fun h2 => ?_) (fun h2 => ?_)
        · walk_at "rd"
          refine hn false ?_ H (Evl.Ex.refl _)
          unfold nameB
          rw [decide_eq_false (show ¬ x.length ≤ 8 by omega)]; simp
        · walk_at "rd"
          intro D hD
          refine lc_fun walk_str (fun i => V.bl ((fun c => decide (97 ≤ c) && decide (c ≤ 122)) (x.cps.toList[i]?.getD 0))) hD (by show x.length ≤ _; omega) (fun _ _ => trivial) (fun i v H1 H2 k hi e1 y kk => ?_) (fun H1 e1 h3 => ?_)
          · obtain ⟨rfl, c, hc, rfl⟩ := y
            have hc2 : x.cps.toList[i]? = some c := by rw [Array.getElem?_toList]; exact hc
            rw [hc2] at kk
            refine ⟨rfl, ?_⟩
            walk_at "rd"
            rw [show (!decide (((⟨#[c]⟩ : Str).cps.toList) < (("a" : Str).cps.toList))) = decide (97 ≤ c) from sign_lo c]
            have kk : ∀ H4, Ex H2 H4 → k (V.bl (decide (97 ≤ c) && decide (c ≤ 122))) H4 := kk
            refine w_ite (fun e => ?_) (fun e => ?_)
            · walk_at "rd"
              rw [show (!decide ((("z" : Str).cps.toList) < ((⟨#[c]⟩ : Str).cps.toList))) = decide (c ≤ 122) from sign_hi c]
              rw [e] at kk
              exact kk _ (Evl.Ex.refl _)
            · rw [e] at kk
              exact kk _ (Evl.Ex.refl _)
          · walk_at "rd"
            have h3 : H1 D = some (.lst ((List.range x.cps.toList.length).map fun i => V.bl ((fun c => decide (97 ≤ c) && decide (c ≤ 122)) (x.cps.toList[i]?.getD 0)))) := by rw [Array.length_toList]; exact h3
            rw [map_range x.cps.toList fun c => decide (97 ≤ c) && decide (c ≤ 122)] at h3
            refine n_all h3 ?_
            refine hn _ ?_ H1 e1
            unfold nameB
            rw [decide_eq_true (show 1 ≤ x.length by omega), decide_eq_true (show x.length ≤ 8 by omega), List.all_map]; rfl
      · walk_at "rd"
        refine hn false ?_ H (Evl.Ex.refl _)
        unfold nameB
        rw [decide_eq_false (show ¬ 1 ≤ x.length by omega)]; simp
    | _ =>
      refine w_true rfl ?_
      walk_at "rd"
      exact q H (Evl.Ex.refl _)
end J
namespace J
open PySem PySem.Spec PyProof.Rows L2
open Evl (Ex)
def sp_fits : Sp := fun vs H Q _ => ∃ (v : V) (k : Kd) (part : Str), vs = [v, .str part] ∧ IsK H v k ∧ ∀ H1, Ex H H1 → Q (.bl (k.fits part)) H1
theorem sc__fits : FnScope ["thing", "part"] ["thing", "part"] (defScope s__fits) := ⟨rfl, rfl, rfl, by decide +kernel, rfl, by decide +kernel, by decide +kernel⟩
theorem ok__fits {P : Program} {w : World} {K : PySem.W.Frag} {mg : Str → Option Value} {base : Heap} (T : Txt w K mg) : FnOk P w K mg base CX0 2 (He.ga K "_fits") (fdOf K "_fits") ["thing", "part"] sp_fits := by
  refine okC T.F__fits sc__fits (fun vs H Q E h => ?_) (fun cdv hk A outer s H vs Q E hr h => ?_)
  · obtain ⟨v, k, part, rfl, _⟩ := h; rfl
  · obtain ⟨v, k, part, rfl, hk, q⟩ := h
    refine ⟨_, PSs.nox (pss_cons (ps_if (pt_cmpR op_eq (pv 1) pe_str (nomark _))
      (pss_one (ps_ret pe_bl))
      pss_nil)
      (pss_cons (ps_if (PW.pt (pw_and (pt_cmpR op_eq (pv 1) pe_str (nomark _)) (pw_and1 (pt_val (pe_call (ok_is_number T) (hr.mono (by decide)) (by rfl) T.g_is_number T.F_is_number.kp T.b_is_number .nil pass0 (pa_cons (pv 0) pa_nil))))))
      (pss_one (ps_ret pe_bl))
      pss_nil)
      (pss_one (ps_ret (pe_call (ok_is_name T) (hr.mono (by decide)) (by rfl) T.g_is_name T.F_is_name.kp T.b_is_name .nil pass0 (pa_cons (pv 0) pa_nil)))))), ?_⟩
    walk_at "rd"
    unfold Kd.fits at q
    refine w_ite (fun e => ?_) (fun e => ?_)
    · rw [e] at q
      walk_at "rd"
      exact q H (Evl.Ex.refl _)
    · rw [e] at q
      walk_at "rd"
      refine w_ite (fun e2 => ?_) (fun e2 => ?_)
      · rw [e2] at q
        walk_at "rd"
        refine ⟨v, k, rfl, hk, ?_⟩
        walk_at "rd"
        refine w_ite (fun e3 => ?_) (fun e3 => ?_)
        · rw [e3] at q
          walk_at "rd"
          exact q H (Evl.Ex.refl _)
        · rw [e3] at q
          walk_at "rd"
          exact ⟨v, k, rfl, hk, q⟩
      · rw [e2] at q
        walk_at "rd"
        exact ⟨v, k, rfl, hk, q⟩
end J
namespace J
open PySem PySem.Spec PyProof.Rows L2
open Evl (Ex)
def rowB : List Kd → Bool
  | .str z :: r => (match parts.find? fun q => decide (q.1 = z) with
    | some q => decide (r.length = q.2.length) && (r.zip q.2).all fun y => y.1.fits y.2
    | none => false)
  | _ => false
theorem rowB_none {z : Str} {r : List Kd} (h : z ∉ parts.map (·.1)) : rowB (.str z :: r) = false := by
  have e : (parts.find? fun q => decide (q.1 = z)) = none := List.find?_eq_none.mpr fun q hq y => h (List.mem_map.mpr ⟨q, hq, of_decide_eq_true y⟩)
  simp only [rowB, e]
theorem zip_map {kr : List Kd} {ps : List Str} (h : kr.length = ps.length) : (List.range ps.length).map (fun i => (kr[i]?.getD .non).fits (ps[i]?.getD ("" : Str))) = (kr.zip ps).map fun y => y.1.fits y.2 := by
  refine List.ext_getElem (by simp; omega) fun i h1 h2 => ?_
  have h3 : i < ps.length := by simpa using h1
  have h4 : i < kr.length := by omega
  simp [h3, h4]
theorem rowB_some {z : Str} {ps : List Str} {r : List Kd} (h : (z, ps) ∈ parts) : rowB (.str z :: r) = (decide (r.length = ps.length) && (r.zip ps).all fun y => y.1.fits y.2) := by
  have e : (parts.find? fun q => decide (q.1 = z)) = some (z, ps) := parts_find _ h
  simp only [rowB, e]
def sp_is_row : Sp := fun vs H Q _ => ∃ (v : V), vs = [v] ∧ ((∃ k : Kd, IsK H v k ∧ k ≠ .tup ∧ Q (.bl false) H) ∨ ∃ (a : Addr) (xs : List V) (ks : List Kd), v = .ref a ∧ H a = some (.tup xs) ∧ Paired (IsK H) xs ks ∧ xs.length ≤ 1000 ∧ ∀ H1, Ex H H1 → Q (.bl (rowB ks)) H1)
theorem sc_is_row : FnScope ["thing", "word", "parts", "told", "part"] ["thing"] (defScope s_is_row) := ⟨rfl, rfl, rfl, by decide +kernel, rfl, by decide +kernel, by decide +kernel⟩
theorem ok_is_row {P : Program} {w : World} {K : PySem.W.Frag} {mg : Str → Option Value} {base : Heap} (T : Txt w K mg) : FnOk P w K mg base CX0 3 (He.ga K "is_row") (fdOf K "is_row") ["thing"] sp_is_row := by
  refine okC T.F_is_row sc_is_row (fun vs H Q E h => ?_) (fun cdv hk A outer s H vs Q E hr h => ?_)
  · obtain ⟨v, rfl, _⟩ := h; rfl
  · obtain ⟨v, rfl, h⟩ := h
    refine ⟨_, PSs.nox (pss_cons (ps_if (PW.pt (pw_or (pt_not (pt_val (pe_callB (id := "isinstance") call_isi (by rfl) T.z_isinstance (by decide +kernel) (pa_cons (pv 0) (pa_cons (pe_bltn (v := .ty "tuple") (u := .type "tuple") (by rfl) T.z_tuple (by decide +kernel) rfl) pa_nil))))) (pw_or1 (pt_cmpR op_eq (pe_callB (id := "len") j_len (by rfl) T.z_len (by decide +kernel) (pa_cons (pv 0) pa_nil)) pe_int (nomark _)))))
      (pss_one (ps_ret pe_bl))
      pss_nil)
      (pss_cons (ps_set (i := 1) sc_is_row.nd rfl (.inl rfl) (pe_ix ix_tup (pv 0) pe_int (fun _ _ => rfl)))
      (pss_cons (ps_if (PW.pt (pw_or (pt_not (pt_val (pe_callB (id := "isinstance") call_isi (by rfl) T.z_isinstance (by decide +kernel) (pa_cons (pv 1) (pa_cons (pe_bltn (v := .ty "str") (u := .type "str") (by rfl) T.z_str (by decide +kernel) rfl) pa_nil))))) (pw_or1 (pt_cmpR (op_notIn_kd T.kd_PARTS.choose_spec.choose_spec) (pv 1) (pe_glob (v := .ref (He.ga K "PARTS")) (by rfl) T.g_PARTS rfl) (by with_unfolding_all rfl)))))
      (pss_one (ps_ret pe_bl))
      pss_nil)
      (pss_cons (ps_set (i := 2) sc_is_row.nd rfl (.inl rfl) (pe_ix ix_kdict (pe_glob (v := .ref (He.ga K "PARTS")) (by rfl) T.g_PARTS rfl) (pv 1) (fun _ _ => rfl)))
      (pss_cons (ps_if (pt_cmpR op_ne (pe_callB (id := "len") j_len (by rfl) T.z_len (by decide +kernel) (pa_cons (pv 0) pa_nil)) (pe_op op_add (pe_callB (id := "len") j_len (by rfl) T.z_len (by decide +kernel) (pa_cons (pv 2) pa_nil)) pe_int) (nomark _))
      (pss_one (ps_ret pe_bl))
      pss_nil)
      (pss_one (ps_ret (pe_callB (id := "all") (cr_all rfl) (by rfl) T.z_all (by decide +kernel) (pa_cons (pe_lc (own := [("told", 3), ("part", 4)]) (g := (gTup K 2 (gCons (gName 3) (gCons (gName 4) gNil)))) rfl sc_is_row.nd (RZ.pi_zipA (by rfl) T.z_zip (pa_cons (pe_slice sl_tupA (pv 0) (po_some pe_int) po_none) (pa_cons (pv 2) pa_nil))) (blkOk_by (own := [("told", 3), ("part", 4)]) (N := ["thing", "word", "parts", "told", "part"]) (sc := defScope s_is_row) (by decide +kernel)) (fun _ _ _ _ _ => (pg_tup rfl (pgs_cons (pg_name (i := 3) sc_is_row.nd rfl (.inl rfl)) (pgs_cons (pg_name (i := 4) sc_is_row.nd rfl (.inl rfl)) pgs_nil)))) (fun _ _ _ _ _ => pts_nil) (fun _ _ _ _ _ => (pe_call (ok__fits T) (hr.mono (by decide)) (by rfl) T.g__fits T.F__fits.kp T.b__fits .nil pass0 (pa_cons (pv 3) (pa_cons (pv 4) pa_nil))))) pa_nil))))))))), ?_⟩
    walk_at "rd"
    rcases h with ⟨k, hk, hkt, q⟩ | ⟨a, xs, ks, rfl, hA, hP, hxl, q⟩
    · refine i_kd_tuple hk ?_
      walk_at "rd"
      refine w_true (by cases k <;> first | rfl | exact absurd rfl hkt) ?_
      walk_at "rd"
      exact q
    walk_at "rd"
    cases hP with
    | nil =>
      refine w_true rfl ?_
      walk_at "rd"
      exact q H (Evl.Ex.refl _)
    | @cons x k xr kr hx hr =>
      refine w_false rfl ?_
      walk_at "rd"
      refine r_ixT0 hA rfl ?_
      walk_at "rd"
      refine i_kd_str hx ?_
      walk_at "rd"
      cases k with
      | str z =>
        obtain ⟨rfl, hzl⟩ := hx
        refine w_false rfl ?_
        walk_at "rd"
        by_cases hz : z ∈ parts.map (·.1)
        · obtain ⟨⟨z', ps⟩, hm, rfl⟩ := List.mem_map.mp hz
          obtain ⟨pa, kd, hpa⟩ := T.part hm
          obtain ⟨es, nn, u, k1, k2, k3, k4⟩ := kd
          refine ⟨_, some u, rfl, rfl, k3, ?_⟩
          walk_at "rd"
          refine w_false rfl ?_
          walk_at "rd"
          refine n_dct ⟨es, nn, u, k1, k2, k3, k4⟩ ?_
          walk_at "rd"
          refine ⟨pa, _, rfl, .inr (hpa H), ?_⟩
          walk_at "rd"
          have q : ∀ H1, Ex H H1 → Q (.bl (decide (kr.length = ps.length) && (kr.zip ps).all fun y => y.1.fits y.2)) H1 := fun H1 e1 => by rw [← rowB_some hm]; exact q H1 e1
          have hkl : xr.length = kr.length := paired_len hr
          rw [List.length_map]
          rw [List.length_cons] at hxl
          have hpl : ps.length ≤ 3 := parts_few _ hm
          by_cases hl : kr.length = ps.length
          · refine w_false (by rw [decide_eq_true (by rw [List.length_cons]; omega)]; rfl) ?_
            walk_at "rd"
            refine n_slA hA (by rw [HT.sIx_none, show (1 : Int) = ((1 : Nat) : Int) from rfl, HT.sIx_nat, List.length_cons]; omega) fun p H1 hp e1 h1 => ?_
            rw [show (1 : Int) = ((1 : Nat) : Int) from rfl, cut_from] at h1
            have h1 : H1 p = some (.tup xr) := h1
            walk_at "rd"
            refine ⟨p, pa, _, _, rfl, .inr ⟨sqt h1, hpa H1, fun D hD => ?_⟩⟩
            have hlen : ps.length = min xr.length (ps.map V.str).length := by rw [List.length_map]; omega
            refine lc_fun (walk_zipT hlen) (fun i => V.bl ((kr[i]?.getD .non).fits (ps[i]?.getD ("" : Str)))) hD (by omega) (fun H e => ⟨sqt (e _ _ h1), hpa H⟩) (fun i v H2 H3 k hi e2 y kk => ?_) (fun H2 e2 h2 => ?_)
            · obtain ⟨T0, x0, y0, rfl, hT, rfl, g1, g2⟩ := y
              have g1 : xr[i]? = some x0 := g1
              have g2 : (ps.map V.str)[i]? = some y0 := g2
              rw [List.getElem?_map] at g2
              obtain ⟨part, g3, rfl⟩ := Option.map_eq_some_iff.mp g2
              have g4 : kr[i]? = some kr[i] := List.getElem?_eq_getElem (by omega)
              have hk0 := paired_get hr g1 g4
              rw [g3, g4] at kk
              refine n_pair upd_same ?_
              refine ⟨rfl, ?_⟩
              walk_at "rd"
              have e3 := e2.trans (Evl.Ex.new hT (o := .tup [x0, .str part]))
              exact ⟨x0, kr[i], part, rfl, hk0.mono (e1.trans e3), fun H4 e4 => kk H4 ((Evl.Ex.new hT).trans e4)⟩
            walk_at "rd"
            have e5 : (List.range ps.length).map (fun i => V.bl ((kr[i]?.getD .non).fits (ps[i]?.getD ("" : Str)))) = ((kr.zip ps).map fun y => y.1.fits y.2).map V.bl := by
              rw [← zip_map hl, List.map_map]; rfl
            rw [e5] at h2
            refine n_all h2 ?_
            have q := q H2 (e1.trans e2)
            rw [decide_eq_true hl, Bool.true_and] at q
            rw [List.all_map]
            exact q
          · refine w_true (by rw [decide_eq_false (by rw [List.length_cons]; omega)]; rfl) ?_
            walk_at "rd"
            have q := q H (Evl.Ex.refl _)
            rw [decide_eq_false hl] at q
            exact q
        · refine ⟨z, none, rfl, rfl, T.nopart hz, ?_⟩
          walk_at "rd"
          refine w_true rfl ?_
          walk_at "rd"
          have q := q H (Evl.Ex.refl _)
          rw [rowB_none hz] at q
          exact q
      | _ =>
        refine w_true rfl ?_
        walk_at "rd"
        exact q H (Evl.Ex.refl _)
end J
namespace J
open PySem PySem.Spec PyProof.Rows L2
open Evl (Ex)
def goalB : List Kd → Bool
  | .str z :: _ => (match parts.find? fun q => decide (q.1 = z) with
    | some q => inV (.str "goal") (q.2.map V.str)
    | none => false)
  | _ => false
theorem rowB_head {ks : List Kd} (h : rowB ks = true) : ∃ z ps r, ks = .str z :: r ∧ (z, ps) ∈ parts ∧ goalB ks = inV (.str "goal") (ps.map V.str) := by
  cases ks with
  | nil => cases h
  | cons k r =>
    cases k with
    | str z =>
      by_cases hz : z ∈ parts.map (·.1)
      · obtain ⟨⟨z', ps⟩, hm, rfl⟩ := List.mem_map.mp hz
        have e : (parts.find? fun q => decide (q.1 = z')) = some (z', ps) := parts_find _ hm
        exact ⟨z', ps, r, rfl, hm, by simp only [goalB, e]⟩
      · rw [rowB_none hz] at h; cases h
    | _ => cases h
def sp_has_goal : Sp := fun vs H Q _ => ∃ (a : Addr) (xs : List V) (ks : List Kd), vs = [.ref a] ∧ H a = some (.tup xs) ∧ Paired (IsK H) xs ks ∧ rowB ks = true ∧ Q (.bl (goalB ks)) H
theorem sc_has_goal : FnScope ["row"] ["row"] (defScope s_has_goal) := ⟨rfl, rfl, rfl, by decide +kernel, rfl, by decide +kernel, by decide +kernel⟩
theorem ok_has_goal {P : Program} {w : World} {K : PySem.W.Frag} {mg : Str → Option Value} {base : Heap} (T : Txt w K mg) : FnOk P w K mg base CX0 1 (He.ga K "has_goal") (fdOf K "has_goal") ["row"] sp_has_goal := by
  refine okC T.F_has_goal sc_has_goal (fun vs H Q E h => ?_) (fun cdv hk A outer s H vs Q E hr h => ?_)
  · obtain ⟨a, xs, ks, rfl, _⟩ := h; rfl
  · obtain ⟨a, xs, ks, rfl, hA, hP, hb, q⟩ := h
    obtain ⟨z, ps, r, rfl, hm, hg⟩ := rowB_head hb
    obtain ⟨pa, kd, hpa⟩ := T.part hm
    refine ⟨_, PSs.nox (pss_one (ps_ret (pe_cmpR op_in_seq pe_str (pe_ix ix_kdict (pe_glob (v := .ref (He.ga K "PARTS")) (by rfl) T.g_PARTS rfl) (pe_ix ix_tup (pv 0) pe_int (fun _ _ => rfl)) (fun _ _ => rfl)) (by with_unfolding_all rfl)))), ?_⟩
    cases hP with
    | @cons x _ xr _ hx hr =>
      obtain ⟨rfl, hzl⟩ := hx
      walk_at "rd"
      refine r_ixT0 hA rfl ?_
      refine n_dct kd ?_
      refine n_inT (hpa H) rfl (flat_strs _) ?_
      rw [← hg]
      exact q
end J
namespace J
open PySem PySem.Spec PyProof.Rows L2
open Evl (Ex)
def sp_is_place : Sp := fun vs H Q _ => ∃ (v : V) (k : Kd) (n : Int), vs = [v, .int n] ∧ IsK H v k ∧ Q (.bl (k.isPlace n)) H
theorem sc_is_place : FnScope ["thing", "end"] ["thing", "end"] (defScope s_is_place) := ⟨rfl, rfl, rfl, by decide +kernel, rfl, by decide +kernel, by decide +kernel⟩
theorem ok_is_place {P : Program} {w : World} {K : PySem.W.Frag} {mg : Str → Option Value} {base : Heap} (T : Txt w K mg) : FnOk P w K mg base CX0 2 (He.ga K "is_place") (fdOf K "is_place") ["thing", "end"] sp_is_place := by
  refine okC T.F_is_place sc_is_place (fun vs H Q E h => ?_) (fun cdv hk A outer s H vs Q E hr h => ?_)
  · obtain ⟨v, k, n, rfl, _⟩ := h; rfl
  · obtain ⟨v, k, n, rfl, hk, q⟩ := h
    refine ⟨_, PSs.nox (pss_one (ps_ret (pe_and (pe_call (ok_is_number T) (hr.mono (by decide)) (by rfl) T.g_is_number T.F_is_number.kp T.b_is_number .nil pass0 (pa_cons (pv 0) pa_nil)) (pe_one (pe_chain op_le op_le pe_int (pv 0) (pv 1)))))), ?_⟩
    walk_at "rd"
    refine ⟨v, k, rfl, hk, ?_⟩
    walk_at "rd"
    cases k with
    | int i =>
      cases (show v = .int i from hk)
      refine w_true rfl ?_
      walk_at "rd"
      refine w_ite (fun e => ?_) (fun e => ?_)
      · walk_at "rd"
        have q : Q (.bl (decide (0 ≤ i) && decide (i ≤ n))) H := q
        rw [e] at q
        exact q
      · have q : Q (.bl (decide (0 ≤ i) && decide (i ≤ n))) H := q
        rw [e] at q
        exact q
    | _ =>
      refine w_false rfl ?_
      exact q
end J
namespace J
open PySem PySem.Spec PyProof.Rows L2
open Evl (Ex)
inductive Thing where | flat (k : Kd) | tup (ks : List Kd)
def ThAt (H : Hp) (v : V) : Thing → Prop
  | .flat k => IsK H v k ∧ k ≠ .tup
  | .tup ks => ∃ a xs, v = .ref a ∧ H a = some (.tup xs) ∧ Paired (IsK H) xs ks ∧ xs.length ≤ 1000
theorem pairedK_mono {H H' : Hp} (e : Ex H H') {xs : List V} {ks : List Kd} (h : Paired (IsK H) xs ks) : Paired (IsK H') xs ks := by
  induction h with
  | nil => exact .nil
  | cons r t ih => exact .cons (r.mono e) ih
theorem ThAt.mono {H H' : Hp} {v : V} {t : Thing} (h : ThAt H v t) (e : Ex H H') : ThAt H' v t := by
  cases t with
  | flat k => exact ⟨h.1.mono e, h.2⟩
  | tup ks =>
    obtain ⟨a, xs, h1, h2, h3, h4⟩ := h
    exact ⟨a, xs, h1, e _ _ h2, pairedK_mono e h3, h4⟩
def lastK (ks : List Kd) : Kd := ks[ks.length - 1]?.getD .non
def Thing.wrong (n : Nat) : Thing → Option Str
  | .flat _ => some "BadRow"
  | .tup ks => if rowB ks = true then (if goalB ks = true then (if (lastK ks).isPlace n = true then none else some "BadPlace") else none) else some "BadRow"
def firstWrong (n : Nat) (ts : List Thing) : Option Str := ts.findSome? (Thing.wrong n)
theorem first_here {n : Nat} {ts : List Thing} {i : Nat} {t : Thing} {c : Str} (h0 : firstWrong n (ts.take i) = none) (ht : ts[i]? = some t) (hw : t.wrong n = some c) : firstWrong n ts = some c := by
  have e : ts = ts.take i ++ t :: ts.drop (i + 1) := by
    obtain ⟨hi, e2⟩ := List.getElem?_eq_some_iff.mp ht
    conv => lhs; rw [← List.take_append_drop i ts, List.drop_eq_getElem_cons hi, e2]
  rw [e]
  unfold firstWrong at h0 ⊢
  rw [List.findSome?_append, h0, List.findSome?_cons, hw]; rfl
theorem first_next {n : Nat} {ts : List Thing} {i : Nat} {t : Thing} (h0 : firstWrong n (ts.take i) = none) (ht : ts[i]? = some t) (hw : t.wrong n = none) : firstWrong n (ts.take (i + 1)) = none := by
  obtain ⟨hi, e2⟩ := List.getElem?_eq_some_iff.mp ht
  rw [List.take_succ_eq_append_getElem hi, e2]
  unfold firstWrong at h0 ⊢
  rw [List.findSome?_append, h0, List.findSome?_cons, hw]; rfl
theorem at_last {xs : List V} (h : xs ≠ []) : ∃ v, L2.atI xs (-1) = some v ∧ xs[xs.length - 1]? = some v := by
  refine ⟨xs.getLast h, ?_, ?_⟩
  · conv => lhs; rw [← List.dropLast_concat_getLast h]
    exact atI_last _ _
  · rw [← List.getLast?_eq_getElem?, List.getLast?_eq_some_getLast h]
def sp_refuse_wrong (K : PySem.W.Frag) : Sp := fun vs H Q E => ∃ v, vs = [v] ∧ ((∃ k, IsK H v k ∧ k ≠ .lst ∧ E (.ref (He.ga K "BadRow")) none H) ∨ ∃ (a : Addr) (us : List V) (ts : List Thing), v = .ref a ∧ H a = some (.lst us) ∧ Paired (ThAt H) us ts ∧ us.length ≤ 1000 ∧ (∀ c, firstWrong us.length ts = some c → ∀ H1, Ex H H1 → E (.ref (He.ga K c)) none H1) ∧ (firstWrong us.length ts = none → ∀ H1, Ex H H1 → Q .non H1))
theorem sc_refuse_wrong : FnScope ["rows", "place", "row"] ["rows"] (defScope s_refuse_wrong) := ⟨rfl, rfl, rfl, by decide +kernel, rfl, by decide +kernel, by decide +kernel⟩
theorem ok_refuse_wrong {P : Program} {w : World} {K : PySem.W.Frag} {mg : Str → Option Value} {base : Heap} (T : Txt w K mg) : FnOk P w K mg base (CX P w) 4 (He.ga K "refuse_wrong") (fdOf K "refuse_wrong") ["rows"] (sp_refuse_wrong K) := by
  refine okC T.F_refuse_wrong sc_refuse_wrong (fun vs H Q E h => ?_) (fun cdv hk A outer s H vs Q E hr h => ?_)
  · obtain ⟨v, rfl, _⟩ := h; rfl
  · obtain ⟨v, rfl, h⟩ := h
    refine ⟨_, id (pss_cons (ps_if (pt_not (pt_val (pe_callB (id := "isinstance") call_isi (by rfl) T.z_isinstance (by decide +kernel) (pa_cons (pv 0) (pa_cons (pe_bltn (v := .ty "list") (u := .type "list") (by rfl) T.z_list (by decide +kernel) rfl) pa_nil)))))
      (pss_one (ps_raise rfl (takes_of rfl rfl rfl rfl) (SkE.pmk_own1 PySem.F.excBase_ValueError T.x_BadRow.1 T.g_BadRow T.x_BadRow.2.1 (raises_own T.x_BadRow.2.2.1 T.x_BadRow.2.2.2) (by rfl) pe_str)))
      pss_nil)
      (pss_one (ps_for (passes_of rfl) rfl (pi_enum (by rfl) T.z_enumerate (pa_cons (pv 0) pa_nil)) (pg_tup rfl (pgs_cons (pg_name (i := 1) sc_refuse_wrong.nd rfl (.inl rfl)) (pgs_cons (pg_name (i := 2) sc_refuse_wrong.nd rfl (.inl rfl)) pgs_nil)))
      (pss_cons (ps_if (pt_not (pt_val (pe_call (ok_is_row T) (hr.mono (by decide)) (by rfl) T.g_is_row T.F_is_row.kp T.b_is_row .nil pass0 (pa_cons (pv 2) pa_nil))))
        (pss_one (ps_raise rfl (takes_of rfl rfl rfl rfl) (SkE.pmk_own1 PySem.F.excBase_ValueError T.x_BadRow.1 T.g_BadRow T.x_BadRow.2.1 (raises_own T.x_BadRow.2.2.1 T.x_BadRow.2.2.2) (by rfl) (pe_joined (.cons pe_str (.cons (pe_fmt (pv 1)) (.cons pe_str .nil)))))))
        pss_nil)
        (pss_one (ps_if (PW.pt (pw_and (pt_val (pe_call (ok_has_goal T) (hr.mono (by decide)) (by rfl) T.g_has_goal T.F_has_goal.kp T.b_has_goal .nil pass0 (pa_cons (pv 2) pa_nil))) (pw_and1 (pt_not (pt_val (pe_call (ok_is_place T) (hr.mono (by decide)) (by rfl) T.g_is_place T.F_is_place.kp T.b_is_place .nil pass0 (pa_cons (pe_ix ix_tup (pv 2) (pe_un un_neg pe_int) (fun _ _ => rfl)) (pa_cons (pe_callB (id := "len") j_len (by rfl) T.z_len (by decide +kernel) (pa_cons (pv 0) pa_nil)) pa_nil))))))))
        (pss_one (ps_raise rfl (takes_of rfl rfl rfl rfl) (SkE.pmk_own1 PySem.F.excBase_ValueError T.x_BadPlace.1 T.g_BadPlace T.x_BadPlace.2.1 (raises_own T.x_BadPlace.2.2.1 T.x_BadPlace.2.2.2) (by rfl) (pe_joined (.cons pe_str (.cons (pe_fmt (pv 1)) (.cons pe_str .nil)))))))
        pss_nil)))))), ?_⟩
    rcases h with ⟨k, hk, hkl, q⟩ | ⟨a, us, ts, rfl, hA, hP, hlen, q1, q2⟩
    · walk_at "rd"
      refine i_kd_list hk ?_
      walk_at "rd"
      refine w_true (by cases k <;> first | rfl | exact absurd rfl hkl) ?_
      walk_at "rd"
      exact q
    walk_at "rd"
    have hul := paired_len hP
    refine for_it walk_enum (fun i σ H' => ∃ v1 v2, σ = [some (.ref a), v1, v2] ∧ Ex H H' ∧ firstWrong us.length (ts.take i) = none) ⟨none, none, rfl, Evl.Ex.refl _, rfl⟩ (fun i σ H' _ P => by obtain ⟨_, _, _, e, _⟩ := P; exact sql (e _ _ hA)) (fun i v σ H2 H3 hi P y => ?_) (fun σ H2 P => ?_)
    · obtain ⟨v1, v2, rfl, e2, h0⟩ := P
      obtain ⟨T0, x0, y0, rfl, hT, rfl, g1, g2⟩ := y
      cases Option.some.inj g1
      have e3 := e2.trans (Evl.Ex.new hT (o := .tup [.int (i : Int), y0]))
      have g2 : us[i]? = some y0 := g2
      have g3 : ts[i]? = some ts[i] := List.getElem?_eq_getElem (by omega)
      have hth := (paired_get hP g2 g3).mono e3
      have hlog : ((i : Int)).natAbs.log2 < 1920 := Nat.lt_of_le_of_lt (Nat.log2_le_self _) (by omega)
      generalize ts[i] = t at g3 hth
      refine n_pair upd_same ?_
      walk_at "rd"
      cases t with
      | flat k =>
        obtain ⟨hk, hkt⟩ := hth
        refine ⟨y0, rfl, .inl ⟨k, hk, hkt, ?_⟩⟩
        walk_at "rd"
        refine n_msg (i := (i : Int)) rfl hlog (by walk_at "sz") (by walk_at "sz") fun m => ?_
        exact q1 _ (first_here h0 g3 rfl) _ e3
      | tup ks =>
        obtain ⟨p, xs, rfl, hp, hK, hxl⟩ := hth
        refine ⟨.ref p, rfl, .inr ⟨p, xs, ks, rfl, hp, hK, hxl, fun H4 e4 => ?_⟩⟩
        have e34 := e3.trans e4
        walk_at "rd"
        cases hb : rowB ks with
        | false =>
          walk_at "rd"
          refine n_msg (i := (i : Int)) rfl hlog (by walk_at "sz") (by walk_at "sz") fun m => ?_
          exact q1 _ (first_here h0 g3 (by simp [Thing.wrong, hb])) _ e34
        | true =>
          walk_at "rd"
          refine ⟨p, xs, ks, rfl, e4 _ _ hp, pairedK_mono e4 hK, hb, ?_⟩
          walk_at "rd"
          cases hgo : goalB ks with
          | false =>
            refine w_false rfl ?_
            walk_at "rd"
            exact ⟨_, _, rfl, e34, first_next h0 g3 (by simp [Thing.wrong, hb, hgo])⟩
          | true =>
            refine w_true rfl ?_
            walk_at "rd"
            have hxk := paired_len hK
            have hne : xs ≠ [] := fun z => by
              rw [z] at hxk
              have : ks = [] := List.eq_nil_of_length_eq_zero hxk.symm
              rw [this] at hb; cases hb
            obtain ⟨u, hu1, hu2⟩ := at_last hne
            obtain ⟨kl, hkl⟩ : ∃ kl, ks[xs.length - 1]? = some kl := ⟨_, List.getElem?_eq_getElem (by have := List.length_pos_iff.mpr hne; omega)⟩
            have hlk : lastK ks = kl := by unfold lastK; rw [← hxk, hkl]; rfl
            have hku := (paired_get hK hu2 hkl).mono e4
            rw [← hlk] at hku
            refine r_ixT (sqt (e4 _ _ hp)) hu1 ?_
            walk_at "rd"
            refine n_len (e34 _ _ hA) ?_
            walk_at "rd"
            refine ⟨u, _, _, rfl, hku, ?_⟩
            walk_at "rd"
            cases hpl : (lastK ks).isPlace us.length with
            | true =>
              walk_at "rd"
              exact ⟨_, _, rfl, e34, first_next h0 g3 (by simp [Thing.wrong, hb, hgo, hpl])⟩
            | false =>
              walk_at "rd"
              refine n_msg (i := (i : Int)) rfl hlog (by walk_at "sz") (by walk_at "sz") fun m => ?_
              exact q1 _ (first_here h0 g3 (by simp [Thing.wrong, hb, hgo, hpl])) _ e34
    · obtain ⟨v1, v2, rfl, e2, h0⟩ := P
      rw [hul, List.take_length] at h0
      exact q2 (by rw [hul]; exact h0) H2 e2
end J
/-! ### things that are no fault are rows (EXCS: behind refuse_wrong's wider reading) -/
namespace J
open PySem PySem.Spec PyProof.Rows L2
open Evl (Ex)
theorem opOf {H : Hp} {v : V} {k : Kd} (h : IsK H v k) (f : k.fits "operand" = true) : ∃ o : Op, v = kV o ∧ opB o = true := by
  have e1 : decide (("operand" : Str) = "goal") = false := by decide +kernel
  have e2 : decide (("operand" : Str) = "operand") = true := by decide +kernel
  unfold Kd.fits at f
  rw [e1, e2] at f
  cases k with
  | int i => exact ⟨.inl i, h, rfl⟩
  | str x => exact ⟨.inr x, h.1, f⟩
  | _ => cases f
theorem nameOf {H : Hp} {v : V} {k : Kd} (h : IsK H v k) (f : k.fits "name" = true) : ∃ x, v = .str x ∧ nameB x = true := by
  have e1 : decide (("name" : Str) = "goal") = false := by decide +kernel
  have e2 : decide (("name" : Str) = "operand") = false := by decide +kernel
  unfold Kd.fits at f
  rw [e1, e2] at f
  cases k with
  | str x => exact ⟨x, h.1, f⟩
  | _ => cases f
theorem goalOf {H : Hp} {v : V} {k : Kd} {n : Nat} (h : IsK H v k) (f : k.isPlace n = true) : ∃ t : Nat, v = .int (t : Int) ∧ t ≤ n := by
  cases k with
  | int i =>
    obtain ⟨f1, f2⟩ := Bool.and_eq_true_iff.mp (show (decide (0 ≤ i) && decide (i ≤ (n : Int))) = true from f)
    have f1 := of_decide_eq_true f1
    have f2 := of_decide_eq_true f2
    refine ⟨i.toNat, ?_, by omega⟩
    have : (i.toNat : Int) = i := by omega
    rw [this]; exact h
  | _ => cases f
theorem paired1 {α β : Type} {F : α → β → Prop} {xs : List α} {ks : List β} (h : Paired F xs ks) (l : ks.length = 1) : ∃ x k, xs = [x] ∧ ks = [k] ∧ F x k := by
  cases h with
  | nil => cases l
  | cons r t =>
    cases t with
    | nil => exact ⟨_, _, rfl, rfl, r⟩
    | cons _ _ => simp at l
theorem paired2 {α β : Type} {F : α → β → Prop} {xs : List α} {ks : List β} (h : Paired F xs ks) (l : ks.length = 2) : ∃ x y k m, xs = [x, y] ∧ ks = [k, m] ∧ F x k ∧ F y m := by
  cases h with
  | nil => cases l
  | cons r t =>
    obtain ⟨y, m, rfl, rfl, q⟩ := paired1 t (by simpa using l)
    exact ⟨_, _, _, _, rfl, rfl, r, q⟩
theorem paired3 {α β : Type} {F : α → β → Prop} {xs : List α} {ks : List β} (h : Paired F xs ks) (l : ks.length = 3) : ∃ x y z k m n, xs = [x, y, z] ∧ ks = [k, m, n] ∧ F x k ∧ F y m ∧ F z n := by
  cases h with
  | nil => cases l
  | cons r t =>
    obtain ⟨y, z, m, n, rfl, rfl, q, u⟩ := paired2 t (by simpa using l)
    exact ⟨_, _, _, _, _, _, rfl, rfl, r, q, u⟩
theorem row_of {H : Hp} {v : V} {ks : List Kd} {n : Nat} (h : ThAt H v (.tup ks)) (hw : (Thing.tup ks).wrong n = none) : ∃ r : Row, RowAt H v r ∧ r.ok n = true := by
  obtain ⟨a, xs, rfl, hA, hP, _⟩ := h
  have hb : rowB ks = true := by
    cases e : rowB ks with
    | true => rfl
    | false => simp [Thing.wrong, e] at hw
  obtain ⟨z, ps, r, rfl, hm, hg⟩ := rowB_head hb
  rw [rowB_some hm] at hb
  obtain ⟨hl, hf⟩ := Bool.and_eq_true_iff.mp hb
  have hl := of_decide_eq_true hl
  have hgo : inV (.str "goal") (ps.map V.str) = true → (lastK (.str z :: r)).isPlace n = true := fun g => by
    have hb2 : rowB (.str z :: r) = true := hb ▸ rowB_some hm
    rw [← hg] at g
    cases e : (lastK (.str z :: r)).isPlace n with
    | true => rfl
    | false => simp [Thing.wrong, hb2, g, e] at hw
  cases hP with
  | @cons x _ xr _ hx hr =>
  obtain ⟨rfl, _⟩ := hx
  have key : ∀ {r : Row}, xr = r.vs.drop 1 → z = r.word → r.ok n = true → ∃ r : Row, RowAt H (.ref a) r ∧ r.ok n = true := fun {r} e1 e2 e3 =>
    ⟨r, ⟨a, rfl, by rw [hA, e1, e2]; cases r <;> rfl⟩, e3⟩
  have three : ∀ {A B C : Str}, ps = [A, B, C] → ∃ x1 x2 x3 k1 k2 k3, xr = [x1, x2, x3] ∧ IsK H x1 k1 ∧ IsK H x2 k2 ∧ IsK H x3 k3 ∧ k1.fits A = true ∧ k2.fits B = true ∧ k3.fits C = true := fun {A B C} e => by
    subst e
    obtain ⟨x1, x2, x3, k1, k2, k3, rfl, rfl, a1, a2, a3⟩ := paired3 hr hl
    simp at hf
    exact ⟨x1, x2, x3, k1, k2, k3, rfl, a1, a2, a3, hf.1, hf.2.1, hf.2.2⟩
  have two : ∀ {A B : Str}, ps = [A, B] → ∃ x1 x2 k1 k2, xr = [x1, x2] ∧ r = [k1, k2] ∧ IsK H x1 k1 ∧ IsK H x2 k2 ∧ k1.fits A = true ∧ k2.fits B = true := fun {A B} e => by
    subst e
    obtain ⟨x1, x2, k1, k2, rfl, rfl, a1, a2⟩ := paired2 hr hl
    simp at hf
    exact ⟨x1, x2, k1, k2, rfl, rfl, a1, a2, hf.1, hf.2⟩
  have one : ∀ {A : Str}, ps = [A] → ∃ x1 k1, xr = [x1] ∧ r = [k1] ∧ IsK H x1 k1 ∧ k1.fits A = true := fun {A} e => by
    subst e
    obtain ⟨x1, k1, rfl, rfl, a1⟩ := paired1 hr hl
    simp at hf
    exact ⟨x1, k1, rfl, rfl, a1, hf⟩
  have ari : ∀ k : Ari, z = k.word → ps = [("name" : Str), ("operand" : Str), ("operand" : Str)] → ∃ r : Row, RowAt H (.ref a) r ∧ r.ok n = true := fun k e1 e2 => by
    obtain ⟨x1, x2, x3, k1, k2, k3, rfl, a1, a2, a3, f1, f2, f3⟩ := three e2
    obtain ⟨y, rfl, hy⟩ := nameOf a1 f1
    obtain ⟨o, rfl, ho⟩ := opOf a2 f2
    obtain ⟨p, rfl, hp⟩ := opOf a3 f3
    exact key (r := .ari k y o p) rfl e1 (by simp [Row.ok, hy, ho, hp])
  simp only [parts, List.mem_cons, List.not_mem_nil, or_false, Prod.mk.injEq] at hm
  rcases hm with ⟨hz, hps⟩ | ⟨hz, hps⟩ | ⟨hz, hps⟩ | ⟨hz, hps⟩ | ⟨hz, hps⟩ | ⟨hz, hps⟩ | ⟨hz, hps⟩ | ⟨hz, hps⟩
  · obtain ⟨x1, x2, k1, k2, rfl, rfl, a1, a2, f1, f2⟩ := two hps
    obtain ⟨y, rfl, hy⟩ := nameOf a1 f1
    obtain ⟨o, rfl, ho⟩ := opOf a2 f2
    exact key (r := .set y o) rfl hz (by simp [Row.ok, hy, ho])
  · exact ari .add hz hps
  · exact ari .sub hz hps
  · exact ari .less hz hps
  · obtain ⟨x1, k1, rfl, rfl, a1, f1⟩ := one hps
    obtain ⟨o, rfl, ho⟩ := opOf a1 f1
    exact key (r := .say o) rfl hz ho
  · obtain ⟨x1, k1, rfl, rfl, a1, f1⟩ := one hps
    have g := hgo (by rw [hps]; decide +kernel)
    obtain ⟨t, rfl, ht⟩ := goalOf a1 g
    exact key (r := .jump t) rfl hz (decide_eq_true ht)
  · obtain ⟨x1, x2, k1, k2, rfl, rfl, a1, a2, f1, f2⟩ := two hps
    have g := hgo (by rw [hps]; decide +kernel)
    obtain ⟨o, rfl, ho⟩ := opOf a1 f1
    obtain ⟨t, rfl, ht⟩ := goalOf a2 g
    exact key (r := .nought o t) rfl hz (by simp [Row.ok, ho, ht])
  · have h0 : r.length = 0 := by rw [hl, hps]; rfl
    have e1 := List.eq_nil_of_length_eq_zero h0
    have e2 := List.eq_nil_of_length_eq_zero ((paired_len hr).trans h0)
    exact key (r := .stop) (by rw [e2]; rfl) hz rfl
theorem rows_of {H : Hp} {n : Nat} {us : List V} {ts : List Thing} (h : Paired (ThAt H) us ts) (hw : firstWrong n ts = none) : ∃ rs : List Row, RowsV H us rs ∧ ∀ r ∈ rs, r.ok n = true := by
  induction h with
  | nil => exact ⟨[], RowsV.nil, by simp⟩
  | @cons v t vs ts r q ih =>
    unfold firstWrong at hw ih
    rw [List.findSome?_cons] at hw
    cases e : t.wrong n with
    | some c => rw [e] at hw; cases hw
    | none =>
      rw [e] at hw
      obtain ⟨rs, h1, h2⟩ := ih hw
      cases t with
      | flat k => cases e
      | tup ks =>
        obtain ⟨r0, h3, h4⟩ := row_of r e
        exact ⟨[r0] ++ rs, RowsV.app (RowsV.one h3) h1, fun r hr => by
          rcases List.mem_append.mp hr with h | h
          · rw [List.mem_singleton.mp h]; exact h4
          · exact h2 r h⟩
theorem Row.vs_inj {r s : Row} (h : r.vs = s.vs) : r = s := by
  have kw : ∀ k : Ari, k.word ≠ "set" ∧ k.word ≠ "say" ∧ k.word ≠ "jump" ∧ k.word ≠ "nought" ∧ k.word ≠ "stop" := by intro k; cases k <;> decide +kernel
  have ki : ∀ k l : Ari, k.word = l.word → k = l := by intro k l; cases k <;> cases l <;> decide +kernel
  have ok : ∀ {o p : Op}, kV o = kV p → o = p := fun e => kV_inj e
  cases r <;> cases s <;> simp only [Row.vs, List.cons.injEq, V.str.injEq, V.int.injEq, and_true, and_false, reduceCtorEq] at h <;> first
    | (exact absurd h.1 (by decide +kernel))
    | (obtain ⟨h1, h2⟩ := h; first | (exact absurd h1 (kw _).1) | (exact absurd h1.symm (kw _).1))
    | (obtain ⟨_, h2, h3⟩ := h; rw [h2, ok h3]; done)
    | (obtain ⟨h1, h2, h3, h4⟩ := h; rw [ki _ _ h1, h2, ok h3, ok h4]; done)
    | (obtain ⟨_, h2⟩ := h; rw [ok h2]; done)
    | (obtain ⟨_, h2⟩ := h; have : (_ : Nat) = _ := Int.ofNat.inj h2; rw [this]; done)
    | (obtain ⟨_, h2, h3⟩ := h; have : (_ : Nat) = _ := Int.ofNat.inj h3; rw [ok h2, this]; done)
    | rfl
    | skip
theorem RowsV.uniq {H : Hp} {us : List V} {rs ss : List Row} (h : RowsV H us rs) (k : RowsV H us ss) : rs = ss := by
  refine List.ext_getElem (by rw [← h.1, ← k.1]) fun i h1 h2 => ?_
  obtain ⟨a, e1, e2⟩ := h.at (List.getElem?_eq_getElem h1)
  obtain ⟨b, e3, e4⟩ := k.at (List.getElem?_eq_getElem h2)
  rw [e1] at e3
  cases e3
  rw [e2] at e4
  exact Row.vs_inj (HO.tup.inj (Option.some.inj e4))
/-- rows are things without a fault -/
theorem rows_th {H : Hp} {n : Nat} {us : List V} {rs : List Row} (h : RowsV H us rs) (hok : ∀ r ∈ rs, r.ok n = true) : ∃ ts, Paired (ThAt H) us ts ∧ firstWrong n ts = none := by
  have th : ∀ r : Row, r.ok n = true → ∃ ks, Paired (IsK H) r.vs ks ∧ (Thing.tup ks).wrong n = none := fun r ho => by
    have nm : ∀ {x : Str}, nameB x = true → IsK H (.str x) (.str x) := fun {x} hx => ⟨rfl, by
      unfold nameB at hx
      have := of_decide_eq_true (Bool.and_eq_true_iff.mp (Bool.and_eq_true_iff.mp hx).2).1
      omega⟩
    have wd : ∀ k : Ari, IsK H (.str k.word) (.str k.word) := fun k => ⟨rfl, by cases k <;> decide +kernel⟩
    have on : ∀ {o : Op}, opB o = true → (kdOp o).isNum = true ∨ (kdOp o).isName = true := fun {o} ho => by
      cases o with
      | inl i => exact .inl rfl
      | inr x => exact .inr ho
    have fo : ∀ {o : Op}, opB o = true → (kdOp o).fits "operand" = true := fun {o} ho => by
      have e2 : decide (("operand" : Str) = "operand") = true := by decide +kernel
      unfold Kd.fits
      rw [e2]
      rcases on ho with h | h <;> rw [h] <;> simp
    have fn : ∀ {x : Str}, nameB x = true → (Kd.str x).fits "name" = true := fun {x} hx => by
      unfold Kd.fits
      rw [show (Kd.str x).isName = true from hx]; simp
    have fg : ∀ {k : Kd}, k.fits "goal" = true := fun {k} => by
      have e2 : decide (("goal" : Str) = "goal") = true := by decide +kernel
      unfold Kd.fits; rw [e2]; rfl
    have nog : ∀ {ks : List Kd}, rowB ks = true → goalB ks = false → (Thing.tup ks).wrong n = none := fun {ks} h1 h2 => by simp [Thing.wrong, h1, h2]
    have yg : ∀ {ks : List Kd}, rowB ks = true → (lastK ks).isPlace n = true → (Thing.tup ks).wrong n = none := fun {ks} h1 h2 => by
      show (if rowB ks = true then (if goalB ks = true then (if (lastK ks).isPlace n = true then none else some ("BadPlace" : Str)) else none) else some "BadRow") = none
      rw [if_pos h1, if_pos h2]
      split <;> rfl
    have pl : ∀ {t : Nat}, t ≤ n → (Kd.int (t : Int)).isPlace n = true := fun {t} h => by
      show (decide (0 ≤ (t : Int)) && decide ((t : Int) ≤ (n : Int))) = true
      rw [decide_eq_true (by omega), decide_eq_true (by omega)]; rfl
    have rb : ∀ {q : Str × List Str} {r : List Kd}, q ∈ parts → (decide (r.length = q.2.length) && (r.zip q.2).all fun y => y.1.fits y.2) = true → rowB (.str q.1 :: r) = true := fun {q r} hq h => by rw [rowB_some hq]; exact h
    have gb : ∀ {q : Str × List Str} {r : List Kd}, q ∈ parts → inV (.str "goal") (q.2.map V.str) = false → goalB (.str q.1 :: r) = false := fun {q r} hq h => by simp only [goalB, parts_find q hq]; exact h
    cases r with
    | set x o =>
      have ho := Bool.and_eq_true_iff.mp ho
      refine ⟨[.str "set", .str x, kdOp o], .cons ⟨rfl, by decide +kernel⟩ (.cons (nm ho.1) (.cons (isK_op ho.2) .nil)), ?_⟩
      have hq : ((("set" : Str), [("name" : Str), ("operand" : Str)]) : Str × List Str) ∈ parts := by simp [parts]
      exact nog (rb hq (by simp [fn ho.1, fo ho.2])) (gb hq (by decide +kernel))
    | ari k x o p =>
      have ho := Bool.and_eq_true_iff.mp ho
      have h2 := Bool.and_eq_true_iff.mp ho.2
      refine ⟨[.str k.word, .str x, kdOp o, kdOp p], .cons (wd k) (.cons (nm ho.1) (.cons (isK_op h2.1) (.cons (isK_op h2.2) .nil))), ?_⟩
      have hq : ((k.word, [("name" : Str), ("operand" : Str), ("operand" : Str)]) : Str × List Str) ∈ parts := by cases k <;> simp [parts, Ari.word]
      exact nog (rb hq (by simp [fn ho.1, fo h2.1, fo h2.2])) (gb hq (show inV (.str "goal") [.str "name", .str "operand", .str "operand"] = false by decide +kernel))
    | say o =>
      refine ⟨[.str "say", kdOp o], .cons ⟨rfl, by decide +kernel⟩ (.cons (isK_op ho) .nil), ?_⟩
      have hq : ((("say" : Str), [("operand" : Str)]) : Str × List Str) ∈ parts := by simp [parts]
      exact nog (rb hq (by simp [fo (show opB o = true from ho)])) (gb hq (by decide +kernel))
    | jump t =>
      refine ⟨[.str "jump", .int (t : Int)], .cons ⟨rfl, by decide +kernel⟩ (.cons rfl .nil), ?_⟩
      have hq : ((("jump" : Str), [("goal" : Str)]) : Str × List Str) ∈ parts := by simp [parts]
      exact yg (rb hq (by simp [fg])) (pl (of_decide_eq_true ho))
    | nought o t =>
      have ho := Bool.and_eq_true_iff.mp ho
      refine ⟨[.str "nought", kdOp o, .int (t : Int)], .cons ⟨rfl, by decide +kernel⟩ (.cons (isK_op ho.1) (.cons rfl .nil)), ?_⟩
      have hq : ((("nought" : Str), [("operand" : Str), ("goal" : Str)]) : Str × List Str) ∈ parts := by simp [parts]
      exact yg (rb hq (by simp [fg, fo ho.1])) (pl (of_decide_eq_true ho.2))
    | stop =>
      refine ⟨[.str "stop"], .cons ⟨rfl, by decide +kernel⟩ .nil, ?_⟩
      have hq : ((("stop" : Str), []) : Str × List Str) ∈ parts := by simp [parts]
      exact nog (rb hq (by simp)) (gb hq (by decide +kernel))
  obtain ⟨hl, hr⟩ := h
  induction us generalizing rs with
  | nil =>
    have : rs = [] := List.eq_nil_of_length_eq_zero hl.symm
    subst this
    exact ⟨[], .nil, rfl⟩
  | cons u us ih =>
    cases rs with
    | nil => cases hl
    | cons r rs =>
      obtain ⟨a, rfl, hA⟩ := hr 0 u r rfl rfl
      obtain ⟨ks, h1, h2⟩ := th r (hok r (by simp))
      obtain ⟨ts, h3, h4⟩ := ih (rs := rs) (fun r hr => hok r (by simp [hr])) (by simpa using hl) (fun i v r' x y => hr (i + 1) v r' (by simpa using x) (by simpa using y))
      have hvl : r.vs.length ≤ 1000 := by cases r <;> simp [Row.vs]
      refine ⟨.tup ks :: ts, .cons ⟨a, r.vs, rfl, hA, h1, hvl⟩ h3, ?_⟩
      unfold firstWrong at h4 ⊢
      rw [List.findSome?_cons, h2]; exact h4
/-- what each is asked: refused by the first fault, else told of the rows -/
def Asked (K : PySem.W.Frag) (n : Nat) (R : Addr → List V → List Row → Prop) (v : V) (H : Hp) (E : XK) : Prop := (∃ k, IsK H v k ∧ k ≠ .lst ∧ E (.ref (He.ga K "BadRow")) none H) ∨ ∃ (a : Addr) (us : List V) (ts : List Thing), v = .ref a ∧ H a = some (.lst us) ∧ Paired (ThAt H) us ts ∧ us.length ≤ n ∧ (∀ c, firstWrong us.length ts = some c → ∀ H1, Ex H H1 → E (.ref (He.ga K c)) none H1) ∧ (firstWrong us.length ts = none → ∀ rs, RowsV H us rs → Okay rs → R a us rs)
/-- of rows it is asked no more than to tell -/
theorem asked_rows {K : PySem.W.Frag} {n : Nat} {R : Addr → List V → List Row → Prop} {a : Addr} {us : List V} {rs : List Row} {H : Hp} {E : XK} (hA : H a = some (.lst us)) (hR : RowsV H us rs) (hok : Okay rs) (hn : rs.length ≤ n) (q : R a us rs) : Asked K n R (.ref a) H E := by
  obtain ⟨ts, h1, h2⟩ := rows_th hR hok
  have e := hR.1
  refine .inr ⟨a, us, ts, rfl, hA, h1, by omega, fun c hc => ?_, fun _ ss hS _ => ?_⟩
  · rw [e, h2] at hc; cases hc
  · rw [hS.uniq hR]; exact q
end J

namespace J
open PySem PySem.Spec PyProof.Rows L2
open Evl (Ex)
def sp_next_places : Sp := fun vs H Q _ => ∃ (a : Addr) (us : List V) (rs : List Row) (k : Int), vs = [.ref a, .int k] ∧ H a = some (.lst us) ∧ us.length = rs.length ∧ -1 ≤ k ∧ k ≤ rs.length ∧ (∀ i r, k = (i : Nat) → rs[i]? = some r → ShapeAt H us i r) ∧ ∀ p H1, H p = none → Ex H H1 → H1 p = some (.lst (nV (nextsI rs k))) → Q (.ref p) H1
theorem next_row {a : Addr} {us : List V} {rs : List Row} {i : Nat} {H : Hp} {Q : VK} {E : XK} (hA : H a = some (.lst us)) (h : ShapesV H us rs) (hok : Okay rs) (hi : Reach rs i) (q : ∀ p H1, H p = none → Ex H H1 → H1 p = some (.lst (nV (nexts rs i))) → Q (.ref p) H1) : sp_next_places [.ref a, .int (i : Int)] H Q E :=
  ⟨a, us, rs, i, rfl, hA, h.1, by omega, by have := hi.le hok; omega, fun j r e hj => by
    have : i = j := by omega
    subst this
    exact h.2 i r hi hj, by rw [nextsI_nat]; exact q⟩
theorem next_first {a : Addr} {us : List V} {rs : List Row} {H : Hp} {Q : VK} {E : XK} (hA : H a = some (.lst us)) (h : us.length = rs.length) (q : ∀ p H1, H p = none → Ex H H1 → H1 p = some (.lst (nV [0])) → Q (.ref p) H1) : sp_next_places [.ref a, .int (-1)] H Q E :=
  ⟨a, us, rs, -1, rfl, hA, h, by omega, by omega, fun j r e hj => by omega, by rw [nextsI_neg]; exact q⟩
theorem sc_next_places : FnScope ["rows", "place", "end", "row", "word"] ["rows", "place"] (defScope s_next_places) := ⟨rfl, rfl, rfl, by decide +kernel, rfl, by decide +kernel, by decide +kernel⟩
theorem ok_next_places {P : Program} {w : World} {K : PySem.W.Frag} {mg : Str → Option Value} {base : Heap} (T : Txt w K mg) : FnOk P w K mg base CX0 1 (He.ga K "next_places") (fdOf K "next_places") ["rows", "place"] sp_next_places := by
  refine okC T.F_next_places sc_next_places (fun vs H Q E h => ?_) (fun cdv hk A outer s H vs Q E hr h => ?_)
  · obtain ⟨a, us, rs, k, rfl, _⟩ := h; rfl
  · obtain ⟨a, us, rs, k, rfl, hA, hul, hk0, hk1, hS, q⟩ := h
    refine ⟨_, PSs.nox (pss_cons (ps_set (i := 2) sc_next_places.nd rfl (.inl rfl) (pe_callB (id := "len") j_len (by rfl) T.z_len (by decide +kernel) (pa_cons (pv 0) pa_nil)))
      (pss_cons (ps_if (pt_cmpR op_eq (pv 1) (pe_glob (v := .int (-1)) (by rfl) (T.i_BEGINNING).choose_spec ⟨_, rfl⟩) (nomark _))
      (pss_one (ps_ret (pe_lst (pa_cons pe_int pa_nil))))
      pss_nil)
      (pss_cons (ps_if (pt_cmpR op_eq (pv 1) (pv 2) (nomark _))
      (pss_one (ps_ret (pe_lst pa_nil)))
      pss_nil)
      (pss_cons (ps_set (i := 3) sc_next_places.nd rfl (.inl rfl) (pe_ix ix_list (pv 0) (pv 1) (fun _ _ => rfl)))
      (pss_cons (ps_set (i := 4) sc_next_places.nd rfl (.inl rfl) (pe_ix ix_tup (pv 3) pe_int (fun _ _ => rfl)))
      (pss_cons (ps_if (pt_cmpR op_eq (pv 4) pe_str (nomark _))
      (pss_one (ps_ret (pe_lst (pa_cons (pv 2) pa_nil))))
      pss_nil)
      (pss_cons (ps_if (pt_cmpR op_eq (pv 4) pe_str (nomark _))
      (pss_one (ps_ret (pe_lst (pa_cons (pe_ix ix_tup (pv 3) pe_int (fun _ _ => rfl)) pa_nil))))
      pss_nil)
      (pss_cons (ps_if (PW.pt (pw_and (pt_cmpR op_eq (pv 4) pe_str (nomark _)) (pw_and1 (pt_cmpR op_ne (pe_ix ix_tup (pv 3) pe_int (fun _ _ => rfl)) (pe_op op_add (pv 1) pe_int) (nomark _)))))
      (pss_one (ps_ret (pe_lst (pa_cons (pe_ix ix_tup (pv 3) pe_int (fun _ _ => rfl)) (pa_cons (pe_op op_add (pv 1) pe_int) pa_nil)))))
      pss_nil)
      (pss_one (ps_ret (pe_lst (pa_cons (pe_op op_add (pv 1) pe_int) pa_nil)))))))))))), ?_⟩
    walk_at "rd"
    rw [hul]
    refine w_dec (fun hk => ?_) (fun hk => ?_)
    · walk_at "rd"
      refine n_lst (by walk_at "sz") fun p H1 hp e1 h1 => q p H1 hp e1 ?_
      rw [h1, hk]; rfl
    obtain ⟨i, rfl⟩ : ∃ i : Nat, k = (i : Int) := ⟨k.toNat, by omega⟩
    have hi : i ≤ rs.length := by omega
    rw [nextsI_nat] at q
    have hS : ∀ r, rs[i]? = some r → ShapeAt H us i r := fun r hr => hS i r rfl hr
    walk_at "rd"
    refine w_dec (fun hk => ?_) (fun hk => ?_)
    · walk_at "rd"
      refine n_lst (by walk_at "sz") fun p H1 hp e1 h1 => ?_
      exact q p H1 hp e1 (by rw [h1, nexts_end rs (by omega)]; rfl)
    have hi2 : i < rs.length := by omega
    have hr0 : rs[i]? = some rs[i] := List.getElem?_eq_getElem hi2
    obtain ⟨t, ws, ht1, ht2, hsh⟩ := hS _ hr0
    have hn : nexts rs i = rs[i].nexts rs.length i := by unfold nexts; rw [hr0]
    rw [hn] at q
    walk_at "rd"
    refine r_ixLn hA ht1 ?_
    walk_at "rd"
    generalize rs[i] = r at *
    have one : Row.nexts r rs.length i = [i + 1] → ∀ p H1, H p = none → Ex H H1 → H1 p = some (.lst [V.int ((i : Int) + 1)]) → Q (.ref p) H1 := fun g p H1 hp e1 h1 => q p H1 hp e1 (by rw [h1, g]; rfl)
    cases r with
    | stop =>
      refine r_ixT0 ht2 (show ws[0]? = some (.str "stop") from hsh) ?_
      walk_at "rd"
      refine w_true rfl ?_
      walk_at "rd"
      exact n_lst (by walk_at "sz") fun p H1 hp e1 h1 => q p H1 hp e1 h1
    | jump t =>
      refine r_ixT0 ht2 hsh.1 ?_
      walk_at "rd"
      refine w_false rfl ?_
      walk_at "rd"
      refine w_true rfl ?_
      walk_at "rd"
      refine r_ixT1 ht2 hsh.2 ?_
      walk_at "rd"
      exact n_lst (by walk_at "sz") fun p H1 hp e1 h1 => q p H1 hp e1 h1
    | nought o t =>
      refine r_ixT0 ht2 hsh.1 ?_
      walk_at "rd"
      refine w_false rfl ?_
      walk_at "rd"
      refine w_false rfl ?_
      walk_at "rd"
      refine w_true rfl ?_
      walk_at "rd"
      refine r_ixT2 ht2 hsh.2 ?_
      walk_at "rd"
      refine w_ndec (fun hk9 => ?_) (fun hk9 => ?_)
      · walk_at "rd"
        refine r_ixT2 ht2 hsh.2 ?_
        walk_at "rd"
        refine n_lst (by walk_at "sz") fun p H1 hp e1 h1 => q p H1 hp e1 ?_
        have g : Row.nexts (.nought o t) rs.length i = [t, i + 1] := by
          show (if t = i + 1 then _ else _) = _
          rw [if_neg (by omega)]
        rw [h1, g]; rfl
      · walk_at "rd"
        refine n_lst (by walk_at "sz") fun p H1 hp e1 h1 => one ?_ p H1 hp e1 h1
        show (if t = i + 1 then _ else _) = _
        rw [if_pos (by omega)]
    | _ =>
      obtain ⟨z, z1, z2, z3, z4⟩ := hsh
      refine r_ixT0 ht2 z1 ?_
      walk_at "rd"
      refine w_false (decide_eq_false z2) ?_
      walk_at "rd"
      refine w_false (decide_eq_false z3) ?_
      walk_at "rd"
      refine w_false (decide_eq_false z4) ?_
      walk_at "rd"
      exact n_lst (by walk_at "sz") fun p H1 hp e1 h1 => one rfl p H1 hp e1 h1
end J
namespace J
open PySem PySem.Spec PyProof.Rows L2
open Evl (Ex)
def sp_places_found : Sp := fun vs H Q _ => ∃ (a : Addr) (us : List V) (rs : List Row), vs = [.ref a] ∧ H a = some (.lst us) ∧ ShapesV H us rs ∧ Okay rs ∧ rs.length ≤ 100 ∧ ∀ p H1, H p = none → Ex H H1 → H1 p = some (.lst (nV (foundL rs))) → Q (.ref p) H1
/-- between two turns: ks the places found, ws those that wait -/
structure RP (w : World) (rs : List Row) (a fo kn wt : Addr) (H : Hp) (ks ws : List Nat) (σ : L2.St) (H' : Hp) : Prop where
  sl : ∃ v1 v2, σ = [some (.ref a), some (.ref fo), some (.ref kn), some (.ref wt), v1, v2]
  ex : Ex H H'
  ho : H' fo = some (.lst (nV ks))
  hf : H' kn = some (SetO w kn (fun j => decide (∃ k ∈ ks, j = (k : Int))) ks.length)
  hw : H' wt = some (.lst (nV ws))
theorem dfs_filter {rs : List Row} {ks : List Nat} {y m j : Nat} (h : (nexts rs y)[m]? = some j) : ((nexts rs y).take (m + 1)).filter (fun j => decide (j ∉ ks)) = if j ∈ ks then ((nexts rs y).take m).filter (fun j => decide (j ∉ ks)) else ((nexts rs y).take m).filter (fun j => decide (j ∉ ks)) ++ [j] := by
  rw [take_one h, List.filter_append]
  by_cases hj : j ∈ ks
  · rw [if_pos hj]; simp [hj]
  · rw [if_neg hj]; simp [hj]
theorem sc_places_found : FnScope ["rows", "found", "known", "waiting", "place", "after"] ["rows"] (defScope s_places_found) := ⟨rfl, rfl, rfl, by decide +kernel, rfl, by decide +kernel, by decide +kernel⟩
theorem ok_places_found {P : Program} {w : World} {K : PySem.W.Frag} {mg : Str → Option Value} {base : Heap} (T : Txt w K mg) : FnOk P w K mg base CX0 2 (He.ga K "places_found") (fdOf K "places_found") ["rows"] sp_places_found := by
  refine okC T.F_places_found sc_places_found (fun vs H Q E h => ?_) (fun cdv hk A outer s H vs Q E hr h => ?_)
  · obtain ⟨a, us, rs, rfl, _⟩ := h; rfl
  · obtain ⟨a, us, rs, rfl, hA, hS, hok, hlen, q⟩ := h
    refine ⟨_, PSs.nox (pss_cons (ps_set (i := 1) sc_places_found.nd rfl (.inl rfl) (pe_lst (pa_cons pe_int pa_nil)))
      (pss_cons (ps_set (i := 2) sc_places_found.nd rfl (.inl rfl) (pe_set1 hk))
      (pss_cons (ps_set (i := 3) sc_places_found.nd rfl (.inl rfl) (pe_lst (pa_cons pe_int pa_nil)))
      (Evl.pss_cut (ps_while PassesOwn.never (j_truth (pv 3) (by intro _; rfl))
      (pss_cons (ps_set (i := 4) sc_places_found.nd rfl (.inl rfl) (pe_bm0 PySem.F.plainAttrs_list PySem.F.slot_list_pop PySem.F.type_list_pop mt_pop (pv 3)))
        (pss_one (ps_for PassesOwn.never rfl (pi_list (pe_call (ok_next_places T) (hr.mono (by decide)) (by rfl) T.g_next_places T.F_next_places.kp T.b_next_places .nil pass0 (pa_cons (pv 0) (pa_cons (pv 4) pa_nil)))) (pg_name (i := 5) sc_places_found.nd rfl (.inl rfl))
        (pss_one (ps_if (pt_cmpR or_snotin (pv 5) (pv 2) (by with_unfolding_all rfl))
          (pss_cons (ps_expr (pe_sadd (pv 2) (pa_cons (pv 5) pa_nil)))
            (pss_cons (ps_expr (pe_bm PySem.F.plainAttrs_list PySem.F.slot_list_append PySem.F.type_list_append mt_append (pv 1) (pa_cons (pv 5) pa_nil)))
            (pss_one (ps_expr (pe_bm PySem.F.plainAttrs_list PySem.F.slot_list_append PySem.F.type_list_append mt_append (pv 3) (pa_cons (pv 5) pa_nil))))))
          pss_nil))))))
      (pss_one (ps_ret (pv 1))))))), ?_⟩
    walk_at "rd"
    refine n_lst (by walk_at "sz") fun fo H1 hfo e1 h1 => ?_
    walk_at "rd"
    refine n_set1 (fun kn H2 hkn e2 h2 => ?_)
    walk_at "rd"
    refine n_lst (by walk_at "sz") fun wt H3 hw e3 h3 => ?_
    walk_at "rd"
    have e12 := e1.trans e2
    have hkn0 : H kn = none := Evl.fresh_back e1 hkn
    have hw0 : H wt = none := Evl.fresh_back e12 hw
    have nok : fo ≠ kn := fun z => by rw [← z, h1] at hkn; cases hkn
    have nkw : kn ≠ wt := fun z => by rw [← z, h2] at hw; cases hw
    have now : fo ≠ wt := fun z => by rw [← z, e2 _ _ h1] at hw; cases hw
    refine n_cut (fun σ' H' => RP w rs a fo kn wt H (foundL rs) [] σ' H') ?_ ?_
    · refine n_while (fun m σ H' => ∃ ks ws, RP w rs a fo kn wt H ks ws σ H' ∧ Sea rs ks ws ∧ (rs.length + 1 - ks.length) + ws.length < m ∧ m ≤ rs.length + 2 ∧ dfs rs m ks ws = foundL rs) (rs.length + 2) ⟨[0], [0], ⟨⟨none, none, rfl⟩, e12.trans e3, e3 _ _ (e2 _ _ h1), ?_, h3⟩, Sea.first rs, by simp, Nat.le_refl _, rfl⟩ (fun m σ H3 W => ?_)
      · rw [e3 _ _ h2]
        congr 2
        funext j
        simp
      obtain ⟨ks, ws, P, S, hm, hmu, hd⟩ := W
      obtain ⟨v1, v2, rfl⟩ := P.sl
      have hw3 := P.hw
      walk_at "rd"
      cases hws : ws.reverse with
      | nil =>
        have ew : ws = [] := by simpa using hws
        subst ew
        refine w_false rfl ?_
        rw [dfs_nil] at hd
        rw [← hd]; exact P
      | cons y r =>
        have ew : ws = r.reverse ++ [y] := by rw [← List.reverse_reverse ws, hws]; simp
        subst ew
        obtain ⟨m, rfl⟩ : ∃ k, m = k + 1 := ⟨m - 1, by omega⟩
        rw [dfs_snoc] at hd
        refine w_true (by simp [nV]) ?_
        refine ⟨_, fun σ' H' N => N, ?_⟩
        rw [nV_snoc] at hw3
        walk_at "rd"
        refine n_pop hw3 ?_
        walk_at "rd"
        have eH4 : Ex H (upd H3 wt (.lst (nV r.reverse))) := Evl.Ex.mut P.ex hw0
        have hy : Reach rs y := S.re y (S.sub y (by simp))
        refine next_row (eH4 _ _ hA) (hS.mono eH4) hok hy fun pn H5 hpn e5 h5 => ?_
        walk_at "rd"
        have hf5 := e5 _ _ (show upd H3 wt (.lst (nV r.reverse)) kn = some (SetO w kn (fun j => decide (∃ k ∈ ks, j = (k : Int))) ks.length) by rw [upd_ne nkw]; exact P.hf)
        have ho5 := e5 _ _ (show upd H3 wt (.lst (nV r.reverse)) fo = some (.lst (nV ks)) by rw [upd_ne now]; exact P.ho)
        have hw5 := e5 _ _ (show upd H3 wt (.lst (nV r.reverse)) wt = some (.lst (nV r.reverse)) from upd_same)
        have nn : ∀ {b o}, upd H3 wt (.lst (nV r.reverse)) b = some o → pn ≠ b := fun h z => by rw [← z, hpn] at h; cases h
        have npo : pn ≠ fo := nn (show _ = some (.lst (nV ks)) by rw [upd_ne now]; exact P.ho)
        have npk : pn ≠ kn := nn (show _ = some (SetO w kn (fun j => decide (∃ k ∈ ks, j = (k : Int))) ks.length) by rw [upd_ne nkw]; exact P.hf)
        have npw : pn ≠ wt := nn upd_same
        have hlk : (nV (nexts rs y)).length = (nexts rs y).length := List.length_map ..
        have S2 := S.step
        have hfew := S2.few hok
        refine for_it walk_list (fun i σ H' => ∃ v1, RP w rs a fo kn wt H (ks ++ ((nexts rs y).take i).filter fun j => decide (j ∉ ks)) (r.reverse ++ ((nexts rs y).take i).filter fun j => decide (j ∉ ks)) σ H' ∧ H' pn = some (.lst (nV (nexts rs y))) ∧ σ[4]? = some v1)
          ⟨_, ⟨⟨_, _, rfl⟩, eH4.trans e5, by simpa using ho5, by simpa using hf5, by simpa using hw5⟩, h5, rfl⟩
          (fun i σ H' _ Z => by obtain ⟨_, _, z, _⟩ := Z; exact sql z) (fun i x σ H6 H7 hi Z yy => ?_) (fun σ H6 Z => ?_)
        · obtain ⟨v1', P2, hp6, s7⟩ := Z
          obtain ⟨rfl, hx⟩ := yy
          obtain ⟨v3, v4, rfl⟩ := P2.sl
          rw [hlk] at hi
          have hjx : (nexts rs y)[i]? = some (nexts rs y)[i] := List.getElem?_eq_getElem hi
          unfold nV at hx
          rw [List.getElem?_map, hjx] at hx
          cases Option.some.inj hx
          have hfi := dfs_filter (ks := ks) hjx
          have hni := not_in_take (nexts_nodup rs y) hjx
          have hbd : (((nexts rs y).take i).filter fun j => decide (j ∉ ks)).length ≤ 2 := Nat.le_trans (List.length_filter_le _ _) (by rw [List.length_take]; have := nexts_few rs y; omega)
          have hk1 := S.few hok
          have hwl : r.length ≤ 1000 := by simp at hm; omega
          generalize (nexts rs y)[i] = j at hjx hfi hni
          have hf6 := P2.hf
          have hw6 := P2.hw
          have ho6 := P2.ho
          walk_at "rd"
          by_cases hin : j ∈ ks
          · refine w_false (by rw [decide_eq_true (ex_cast.mpr (by simp [hin]))]; rfl) ?_
            walk_at "rd"
            rw [if_pos hin] at hfi
            refine ⟨_, ⟨⟨_, _, rfl⟩, P2.ex, ?_, ?_, ?_⟩, hp6, rfl⟩
            · rw [hfi]; exact ho6
            · rw [hfi]; exact hf6
            · rw [hfi]; exact hw6
          · have hnin : j ∉ ks ++ ((nexts rs y).take i).filter fun j => decide (j ∉ ks) := fun z => by
              rcases List.mem_append.mp z with h | h
              · exact hin h
              · exact hni (List.mem_filter.mp h).1
            rw [if_neg hin] at hfi
            rw [hfi, ← List.append_assoc, ← List.append_assoc]
            generalize ((nexts rs y).take i).filter (fun j => decide (j ∉ ks)) = nw at *
            have hd9 : decide (∃ k ∈ ks ++ nw, (j : Int) = (k : Int)) = false := decide_eq_false (fun z => hnin (ex_cast.mp z))
            refine w_true (by rw [hd9]; rfl) ?_
            walk_at "rd"
            refine n_addS' hf6 (by rw [List.length_append]; omega) ?_
            have ho7 : upd H7 kn (SetO w kn (fun i => decide (∃ k ∈ ks ++ nw, i = (k : Int)) || decide (i = (j : Int))) (if decide (∃ k ∈ ks ++ nw, (j : Int) = (k : Int)) = true then (ks ++ nw).length else (ks ++ nw).length + 1)) fo = some (.lst (nV (ks ++ nw))) := by rw [upd_ne nok]; exact ho6
            walk_at "rd"
            refine n_app ho7 (by unfold nV; rw [List.length_map, List.length_append]; omega) ?_
            have hw7 : upd (upd H7 kn (SetO w kn (fun i => decide (∃ k ∈ ks ++ nw, i = (k : Int)) || decide (i = (j : Int))) (if decide (∃ k ∈ ks ++ nw, (j : Int) = (k : Int)) = true then (ks ++ nw).length else (ks ++ nw).length + 1))) fo (.lst (nV (ks ++ nw) ++ [V.int (j : Int)])) wt = some (.lst (nV (r.reverse ++ nw))) := by rw [upd_ne now.symm, upd_ne nkw.symm]; exact hw6
            walk_at "rd"
            refine n_app hw7 (by unfold nV; rw [List.length_map, List.length_append, List.length_reverse]; omega) ?_
            refine ⟨_, ⟨⟨_, _, rfl⟩, Evl.Ex.mut (Evl.Ex.mut (Evl.Ex.mut P2.ex hkn0) hfo) hw0, ?_, ?_, ?_⟩, ?_, rfl⟩
            · rw [upd_ne now, upd_same, nV_snoc]
            · rw [upd_ne nkw, upd_ne nok.symm, upd_same, set_snoc, hd9, if_neg (by decide), List.length_append (as := ks ++ nw)]; rfl
            · rw [upd_same, nV_snoc]
            · rw [upd_ne npw, upd_ne npo, upd_ne npk]; exact hp6
        · obtain ⟨v1', P2, hp6, s7⟩ := Z
          rw [hlk, List.take_length] at P2
          refine ⟨m, by omega, ks ++ dfsNew rs ks y, r.reverse ++ dfsNew rs ks y, P2, S2, ?_, by omega, hd⟩
          have h1 := S.few hok
          simp at hm hfew ⊢
          omega
    · intro σ' H4 P
      obtain ⟨v1, v2, rfl⟩ := P.sl
      walk_at "rd"
      exact q fo H4 hfo P.ex P.ho
end J
namespace J
open PySem PySem.Spec PyProof.Rows L2
open Evl (Ex)
def sp_reached (K : PySem.W.Frag) : Sp := fun vs H Q E => ∃ v, vs = [v] ∧ Asked K 100 (fun a us rs => ∀ p H1, H p = none → Ex H H1 → H1 p = some (.lst (nV (reachL rs))) → Q (.ref p) H1) v H E
theorem sc_reached : FnScope ["rows"] ["rows"] (defScope s_reached) := ⟨rfl, rfl, rfl, by decide +kernel, rfl, by decide +kernel, by decide +kernel⟩
theorem ok_reached {P : Program} {w : World} {K : PySem.W.Frag} {mg : Str → Option Value} {base : Heap} (T : Txt w K mg) : FnOk P w K mg base (CX P w) 5 (He.ga K "reached") (fdOf K "reached") ["rows"] (sp_reached K) := by
  refine okC T.F_reached sc_reached (fun vs H Q E h => ?_) (fun cdv hk A outer s H vs Q E hr h => ?_)
  · obtain ⟨v, rfl, _⟩ := h; rfl
  · obtain ⟨v, rfl, h⟩ := h
    refine ⟨_, id (pss_cons (ps_expr (pe_callS (ok_refuse_wrong T) (hr.mono (by decide)) (by rfl) T.g_refuse_wrong T.F_refuse_wrong.kp T.b_refuse_wrong (fun σ => passAt (takes_of rfl rfl rfl rfl) σ) (pa_cons (pv 0) pa_nil)))
      (pss_one (ps_ret (pe_callB (id := "sorted") cr_sortedI (by rfl) T.z_sorted (by decide +kernel) (pa_cons (pe_call (ok_places_found T) (hr.mono (by decide)) (by rfl) T.g_places_found T.F_places_found.kp T.b_places_found .nil pass0 (pa_cons (pv 0) pa_nil)) pa_nil))))), ?_⟩
    walk_at "rd"
    refine n_callS ?_
    walk_at "rd"
    rcases h with ⟨k, hk, hkl, q⟩ | ⟨a, us, ts, rfl, hA, hP, hlen, q1, q2⟩
    · exact ⟨v, rfl, .inl ⟨k, hk, hkl, q⟩⟩
    refine ⟨_, rfl, .inr ⟨a, us, ts, rfl, hA, hP, by omega, q1, fun h0 H1 e1 => ?_⟩⟩
    obtain ⟨rs, hR, hok⟩ := rows_of hP h0
    rw [hR.1] at hok hlen
    have q := q2 h0 rs hR hok
    walk_at "rd"
    refine ⟨a, us, rs, rfl, e1 _ _ hA, (hR.mono e1).shapes, hok, hlen, fun fo H2 hfo e2 h2 => ?_⟩
    walk_at "rd"
    refine n_sortedI (ns := (foundL rs).map fun j : Nat => (j : Int)) (by rw [h2]; unfold nV; rw [List.map_map]; rfl) fun ms so H3 hperm hsrt hso e3 h3 => ?_
    rw [found_sorted hok hperm hsrt] at h3
    exact q so H3 (Evl.fresh_back (e1.trans e2) hso) ((e1.trans e2).trans e3) (by rw [h3]; unfold nV; rw [List.map_map]; rfl)
end J
namespace J
open PySem PySem.Spec PyProof.Rows L2
open Evl (Ex)
def sp_comers_to : Sp := fun vs H Q _ => ∃ (a : Addr) (us : List V) (rs : List Row), vs = [.ref a] ∧ H a = some (.lst us) ∧ ShapesV H us rs ∧ Okay rs ∧ rs.length ≤ 100 ∧
  ∀ (p : Addr) (as : List Addr) H1, H p = none → p ∉ as → as.Nodup → (∀ b ∈ as, H b = none) → as.length = rs.length + 1 → Ex H H1 → H1 p = some (.lst (as.map V.ref)) → LLf H1 as (comersL rs) → Q (.ref p) H1
/-- the places gone through: the beginning, then the reached ones -/
noncomputable def goL (rs : List Row) : List Int := -1 :: (reachL rs).map fun j : Nat => (j : Int)
noncomputable def comersG (rs : List Row) (k m : Nat) (j : Nat) : List Int := (((goL rs).take k).filter fun p => decide (j ∈ nextsI rs p)) ++ (match (goL rs)[k]? with
  | some p => if j ∈ (nextsI rs p).take m then [p] else []
  | none => [])
theorem comersG_zero (rs : List Row) (k j : Nat) : comersG rs k 0 j = ((goL rs).take k).filter fun p => decide (j ∈ nextsI rs p) := by
  unfold comersG
  cases (goL rs)[k]? <;> simp
theorem comersG_next {rs : List Row} {k : Nat} {p : Int} (h : (goL rs)[k]? = some p) (j : Nat) : comersG rs (k + 1) 0 j = comersG rs k (nextsI rs p).length j := by
  rw [comersG_zero, take_one h]
  unfold comersG
  rw [h]
  rw [List.filter_append]
  simp only [List.take_length]
  by_cases hj : j ∈ nextsI rs p <;> simp [hj]
theorem nextsI_nodup (rs : List Row) (p : Int) : (nextsI rs p).Nodup := by
  unfold nextsI; split
  · simp
  · exact nexts_nodup _ _
theorem comersG_step {rs : List Row} {k m x : Nat} {p : Int} (hk : (goL rs)[k]? = some p) (h : (nextsI rs p)[m]? = some x) (j : Nat) : comersG rs k (m + 1) j = if j = x then comersG rs k m j ++ [p] else comersG rs k m j := by
  have hn := not_in_take (nextsI_nodup rs p) h
  unfold comersG
  rw [hk]
  simp only [take_one h]
  by_cases e : j = x
  · subst e
    simp [hn]
  · rw [if_neg e]
    simp [e]
theorem comersG_all (rs : List Row) (j : Nat) : comersG rs (goL rs).length 0 j = comersL rs j := by
  rw [comersG_zero, List.take_length]
  unfold goL comersL
  rw [List.filter_cons, nextsI_neg]
  have e : ((reachL rs).map fun j : Nat => (j : Int)).filter (fun p => decide (j ∈ nextsI rs p)) = ((reachL rs).filter fun p => decide (j ∈ nexts rs p)).map (fun p : Nat => (p : Int)) := by
    rw [List.filter_map]
    congr 1
  rw [e]
  by_cases h : j = 0 <;> simp [h]
theorem goL_len (rs : List Row) : (goL rs).length ≤ rs.length + 2 := by
  have := reachL_len rs
  unfold goL; simp; omega
theorem comersG_len (rs : List Row) (k m j : Nat) : (comersG rs k m j).length ≤ rs.length + 3 := by
  unfold comersG
  rw [List.length_append]
  have h1 : (((goL rs).take k).filter fun p => decide (j ∈ nextsI rs p)).length ≤ rs.length + 2 := Nat.le_trans (List.length_filter_le _ _) (Nat.le_trans (by rw [List.length_take]; omega) (goL_len rs))
  have h2 : (match (goL rs)[k]? with
    | some p => if j ∈ (nextsI rs p).take m then [p] else []
    | none => []).length ≤ 1 := by
    cases (goL rs)[k]? with
    | none => simp
    | some p => by_cases h : j ∈ (nextsI rs p).take m <;> simp [h]
  omega
theorem sc_comers_to : FnScope ["rows", "came", "place", "after", "_"] ["rows"] (defScope s_comers_to) := ⟨rfl, rfl, rfl, by decide +kernel, rfl, by decide +kernel, by decide +kernel⟩
theorem ok_comers_to {P : Program} {w : World} {K : PySem.W.Frag} {mg : Str → Option Value} {base : Heap} (T : Txt w K mg) : FnOk P w K mg base CX0 3 (He.ga K "comers_to") (fdOf K "comers_to") ["rows"] sp_comers_to := by
  refine okC T.F_comers_to sc_comers_to (fun vs H Q E h => ?_) (fun cdv hk A outer s H vs Q E hr h => ?_)
  · obtain ⟨a, us, rs, rfl, _⟩ := h; rfl
  · obtain ⟨a, us, rs, rfl, hA, hS, hok, hlen, q⟩ := h
    refine ⟨_, PSs.nox (pss_cons (ps_setLc (i := 1) (own := [("_", 4)]) (g := (gName 4)) rfl sc_comers_to.nd rfl rfl (sw_true rfl rfl rfl (by decide +kernel)) (pi_range1 (by rfl) T.z_range (pa_cons (pe_op op_add (pe_callB (id := "len") j_len (by rfl) T.z_len (by decide +kernel) (pa_cons (pv 0) pa_nil)) pe_int) pa_nil)) (blkOk_by (own := [("_", 4)]) (N := ["rows", "came", "place", "after", "_"]) (sc := defScope s_comers_to) (by decide +kernel)) (fun _ _ _ _ _ => (pg_name (i := 4) sc_comers_to.nd rfl (.inl rfl))) (fun _ _ _ _ _ => pts_nil) (fun _ _ _ _ _ => (pe_lst pa_nil)))
      (pss_cons (ps_for PassesOwn.never rfl (pi_list (pe_op op_cat (pe_lst (pa_cons (pe_glob (v := .int (-1)) (by rfl) (T.i_BEGINNING).choose_spec ⟨_, rfl⟩) pa_nil)) (pe_callB (id := "sorted") cr_sortedI (by rfl) T.z_sorted (by decide +kernel) (pa_cons (pe_call (ok_places_found T) (hr.mono (by decide)) (by rfl) T.g_places_found T.F_places_found.kp T.b_places_found .nil pass0 (pa_cons (pv 0) pa_nil)) pa_nil)))) (pg_name (i := 2) sc_comers_to.nd rfl (.inl rfl))
      (pss_one (ps_for PassesOwn.never rfl (pi_list (pe_call (ok_next_places T) (hr.mono (by decide)) (by rfl) T.g_next_places T.F_next_places.kp T.b_next_places .nil pass0 (pa_cons (pv 0) (pa_cons (pv 2) pa_nil)))) (pg_name (i := 3) sc_comers_to.nd rfl (.inl rfl))
        (pss_one (ps_expr (pe_bm PySem.F.plainAttrs_list PySem.F.slot_list_append PySem.F.type_list_append mt_append (pe_ix ix_list (pv 1) (pv 3) (fun _ _ => rfl)) (pa_cons (pv 2) pa_nil)))))))
      (pss_one (ps_ret (pv 1))))), ?_⟩
    walk_at "rd"
    rw [hS.1]
    walk_at "rd"
    intro D hD
    have hcnt : ((rs.length : Int) + 1).toNat = rs.length + 1 := by omega
    rw [hcnt]
    refine lc_it walk_range (fun i H' => ∃ as : List Addr, Ex H H' ∧ H' D = some (.lst (as.map V.ref)) ∧ as.Nodup ∧ D ∉ as ∧ (∀ b ∈ as, H b = none) ∧ (∀ b ∈ as, H' b = some (.lst [])) ∧ as.length = i) ⟨[], Evl.Ex.new hD, upd_same, List.nodup_nil, by simp, by simp, by simp, rfl⟩ (fun _ _ _ _ => trivial) (fun i x H2 H3 hi P y => ?_) (fun H2 P => ?_)
    · obtain ⟨as, e2, h2, hnd, hDn, hfr, hst, hl⟩ := P
      obtain ⟨rfl, rfl⟩ := y
      refine ⟨rfl, ?_⟩
      walk_at "rd"
      refine n_lst (by walk_at "sz") fun p H4 hp e4 h4 => ?_
      have hpa : p ∉ as := fun z => by rw [hst p z] at hp; cases hp
      have hpD : p ≠ D := fun z => by rw [z, h2] at hp; cases hp
      refine ⟨as.map V.ref, e4 _ _ h2, Evl.sz_lt (by rw [List.length_map]; omega), as ++ [p], Evl.Ex.mut (e2.trans e4) hD, by rw [upd_same, List.map_append]; rfl, List.nodup_append.mpr ⟨hnd, by simp, fun u hu v hv z => by rw [List.mem_singleton.mp hv] at z; exact hpa (z ▸ hu)⟩, by simp [hDn, hpD.symm], fun b hb => mem_snoc (P := fun b => H b = none) hb (hfr b) (Evl.fresh_back e2 hp), fun b hb => ?_, by simp [hl]⟩
      refine mem_snoc (P := fun b => upd H4 D (.lst (as.map V.ref ++ [V.ref p])) b = some (.lst [])) hb (fun hb => ?_) ?_
      · rw [upd_ne (fun z : b = D => hDn (by rw [← z]; exact hb))]; exact e4 _ _ (hst b hb)
      · rw [upd_ne hpD]; exact h4
    obtain ⟨as, e2, h2, hnd, hDn, hfr, hst, hl⟩ := P
    walk_at "rd"
    refine n_lst (by walk_at "sz") fun b1 H3 hb1 e3 h3 => ?_
    walk_at "rd"
    have e23 := e2.trans e3
    refine ⟨a, us, rs, rfl, e23 _ _ hA, hS.mono e23, hok, hlen, fun fo H4 hfo e4 h4 => ?_⟩
    walk_at "rd"
    refine n_sortedI (ns := (foundL rs).map fun j : Nat => (j : Int)) (by rw [h4]; unfold nV; rw [List.map_map]; rfl) fun ms so H5 hperm hsrt hso e5 h5 => ?_
    have hms := found_sorted hok hperm hsrt
    rw [hms] at h5
    have hrl := reachL_len rs
    refine n_cat (e5 _ _ (e4 _ _ h3)) h5 (by rw [List.length_map, List.length_map]; simp; omega) fun gl H6 hgl e6 h6 => ?_
    have h6 : H6 gl = some (.lst ((goL rs).map V.int)) := by rw [h6]; rfl
    have e26 := ((e3.trans e4).trans e5).trans e6
    have hD6 := e26 _ _ h2
    walk_at "rd"
    have L0 : LLf H6 as (comersG rs 0 0) := fun i b hb => by
      rw [comersG_zero]
      exact e26 _ _ (hst b (List.mem_of_getElem? hb))
    have hgD : gl ≠ D := fun z => by rw [z] at hgl; rw [(((e3.trans e4).trans e5) _ _ h2)] at hgl; cases hgl
    have hga : gl ∉ as := fun z => by rw [(((e3.trans e4).trans e5) _ _ (hst gl z))] at hgl; cases hgl
    have hll : ((goL rs).map V.int).length = (goL rs).length := List.length_map ..
    refine for_it walk_list (fun k σ H' => ∃ v1 v2, σ = [some (.ref a), some (.ref D), v1, v2, none] ∧ Ex H H' ∧ H' D = some (.lst (as.map V.ref)) ∧ H' gl = some (.lst ((goL rs).map V.int)) ∧ LLf H' as (comersG rs k 0)) ⟨none, none, rfl, e2.trans e26, hD6, h6, L0⟩ (fun k σ H' _ P => by obtain ⟨_, _, _, _, _, e, _⟩ := P; exact sql e) (fun k x σ H7 H8 hk P y => ?_) (fun σ H7 P => ?_)
    · obtain ⟨v1, v2, rfl, e7, hD7, hg7, L7⟩ := P
      obtain ⟨rfl, hx⟩ := y
      rw [List.getElem?_map] at hx
      obtain ⟨p, hp, rfl⟩ := Option.map_eq_some_iff.mp hx
      walk_at "rd"
      have sp : ∀ (Q : VK) (E : XK), (∀ pn H9, H8 pn = none → Ex H8 H9 → H9 pn = some (.lst (nV (nextsI rs p))) → Q (.ref pn) H9) → sp_next_places [.ref a, .int p] H8 Q E := fun Q E qq => by
        have hpg := List.mem_of_getElem? hp
        rcases List.mem_cons.mp hpg with rfl | hpg
        · exact next_first (e7 _ _ hA) hS.1 qq
        · obtain ⟨i, hi, rfl⟩ := List.mem_map.mp hpg
          refine next_row (e7 _ _ hA) (hS.mono e7) hok ((reachL_mem hok).mp hi) ?_
          rw [nextsI_nat] at qq
          exact qq
      refine sp _ _ fun pn H9 hpn e9 h9 => ?_
      walk_at "rd"
      have hnl : (nV (nextsI rs p)).length = (nextsI rs p).length := List.length_map ..
      have e79 := e7.trans e9
      have hpn0 : pn ∉ as := fun z => by
        obtain ⟨i, hi, e⟩ := List.getElem_of_mem z
        have := L7 i pn (List.getElem?_eq_some_iff.mpr ⟨hi, e⟩)
        rw [this] at hpn; cases hpn
      have hpnD : pn ≠ D := fun z => by rw [z, hD7] at hpn; cases hpn
      refine for_it walk_list (fun m σ H' => ∃ v2, σ = [some (.ref a), some (.ref D), some (.int p), v2, none] ∧ Ex H H' ∧ H' D = some (.lst (as.map V.ref)) ∧ H' gl = some (.lst ((goL rs).map V.int)) ∧ H' pn = some (.lst (nV (nextsI rs p))) ∧ LLf H' as (comersG rs k m)) ⟨v2, rfl, e79, e9 _ _ hD7, e9 _ _ hg7, h9, L7.mono e9⟩ (fun k σ H' _ P => by obtain ⟨_, _, _, _, _, e, _⟩ := P; exact sql e) (fun m x σ H10 H11 hm P y => ?_) (fun σ H10 P => ?_)
      · obtain ⟨v2, rfl, e10, hD10, hg10, hp10, L10⟩ := P
        obtain ⟨rfl, hx⟩ := y
        unfold nV at hx
        rw [List.getElem?_map] at hx
        obtain ⟨x, hx2, rfl⟩ := Option.map_eq_some_iff.mp hx
        have hxle : x ≤ rs.length := by
          have hm2 := List.mem_of_getElem? hx2
          unfold nextsI at hm2
          split at hm2
          · rw [List.mem_singleton.mp hm2]; omega
          · exact nexts_le hok hm2
        have hax : as[x]? = some as[x] := List.getElem?_eq_getElem (by omega)
        have hst10 := L10 x _ hax
        walk_at "rd"
        refine r_ixLn hD10 (by rw [List.getElem?_map, hax]; rfl) ?_
        walk_at "rd"
        refine n_app hst10 (by rw [List.length_map]; have := comersG_len rs k m x; omega) ?_
        have hm0 := List.mem_of_getElem? hax
        exact ⟨_, rfl, Evl.Ex.mut e10 (hfr _ hm0), by rw [upd_ne (fun z : D = as[x] => hDn (by rw [z]; exact hm0))]; exact hD10, by rw [upd_ne (fun z : gl = as[x] => hga (by rw [z]; exact hm0))]; exact hg10, by rw [upd_ne (fun z : pn = as[x] => hpn0 (by rw [z]; exact hm0))]; exact hp10, LLf.put (x := p) L10 hnd hax (comersG_step hp hx2)⟩
      · obtain ⟨v2, rfl, e10, hD10, hg10, hp10, L10⟩ := P
        rw [hnl] at L10
        exact ⟨_, _, rfl, e10, hD10, hg10, fun i b hb => by rw [comersG_next hp]; exact L10 i b hb⟩
    · obtain ⟨v1, v2, rfl, e7, hD7, hg7, L7⟩ := P
      walk_at "rd"
      rw [hll] at L7
      exact q D as H7 hD hDn hnd hfr hl e7 hD7 (fun i b hb => by rw [← comersG_all rs]; exact L7 i b hb)
end J
namespace J
open PySem PySem.Spec PyProof.Rows L2
open Evl (Ex)
def sp_comers (K : PySem.W.Frag) : Sp := fun vs H Q E => ∃ v, vs = [v] ∧ Asked K 100 (fun a us rs => ∀ (p : Addr) (as : List Addr) H1, H p = none → p ∉ as → as.Nodup → (∀ b ∈ as, H b = none) → as.length = rs.length + 1 → Ex H H1 → H1 p = some (.lst (as.map V.ref)) → LLf H1 as (comersL rs) → Q (.ref p) H1) v H E
theorem sc_comers : FnScope ["rows"] ["rows"] (defScope s_comers) := ⟨rfl, rfl, rfl, by decide +kernel, rfl, by decide +kernel, by decide +kernel⟩
theorem ok_comers {P : Program} {w : World} {K : PySem.W.Frag} {mg : Str → Option Value} {base : Heap} (T : Txt w K mg) : FnOk P w K mg base (CX P w) 5 (He.ga K "comers") (fdOf K "comers") ["rows"] (sp_comers K) := by
  refine okC T.F_comers sc_comers (fun vs H Q E h => ?_) (fun cdv hk A outer s H vs Q E hr h => ?_)
  · obtain ⟨v, rfl, _⟩ := h; rfl
  · obtain ⟨v, rfl, h⟩ := h
    refine ⟨_, id (pss_cons (ps_expr (pe_callS (ok_refuse_wrong T) (hr.mono (by decide)) (by rfl) T.g_refuse_wrong T.F_refuse_wrong.kp T.b_refuse_wrong (fun σ => passAt (takes_of rfl rfl rfl rfl) σ) (pa_cons (pv 0) pa_nil)))
      (pss_one (ps_ret (pe_call (ok_comers_to T) (hr.mono (by decide)) (by rfl) T.g_comers_to T.F_comers_to.kp T.b_comers_to .nil pass0 (pa_cons (pv 0) pa_nil))))), ?_⟩
    walk_at "rd"
    refine n_callS ?_
    walk_at "rd"
    rcases h with ⟨k, hk, hkl, q⟩ | ⟨a, us, ts, rfl, hA, hP, hlen, q1, q2⟩
    · exact ⟨v, rfl, .inl ⟨k, hk, hkl, q⟩⟩
    refine ⟨_, rfl, .inr ⟨a, us, ts, rfl, hA, hP, by omega, q1, fun h0 H1 e1 => ?_⟩⟩
    obtain ⟨rs, hR, hok⟩ := rows_of hP h0
    rw [hR.1] at hok hlen
    have q := q2 h0 rs hR hok
    walk_at "rd"
    exact ⟨a, us, rs, rfl, e1 _ _ hA, (hR.mono e1).shapes, hok, hlen, fun p as H3 h3 h4 h5 h6 h7 e3 h8 h9 => q p as H3 (Evl.fresh_back e1 h3) h4 h5 (fun b hb => Evl.fresh_back e1 (h6 b hb)) h7 (e1.trans e3) h8 h9⟩
end J
namespace J
open PySem PySem.Spec PyProof.Rows L2
open Evl (Ex)
def sp_law (K : PySem.W.Frag) : Sp := fun vs H Q _ => ∃ (a : Addr) (ns : List Int), vs = [.ref a] ∧ SqL K H a (ns.map V.int) ∧ ∀ H', Q (.bl true) H'
theorem law_start {K : PySem.W.Frag} (H : Hp) (a : Addr) (ns : List Int) (_ : ns.length ≤ 63) (_ : Only H) (hS : SqL K H a (ns.map V.int)) : sp_law K [.ref a] H (fun v _ => v = .bl true) fun _ _ _ => False := ⟨a, ns, rfl, hS, fun _ => rfl⟩
theorem sc_law : FnScope ["_law_script", "_law_rows", "_law_handed", "_law_due", "_law_found", "_law_place", "_law_row", "_law_one"] ["_law_script"] (defScope s_law) := ⟨rfl, rfl, rfl, by decide +kernel, rfl, by decide +kernel, by decide +kernel⟩
theorem ok_law {P : Program} {w : World} {K : PySem.W.Frag} {mg : Str → Option Value} {base : Heap} (T : Txt w K mg) : FnOk P w K mg base CX0 6 (He.ga K "law") (fdOf K "law") ["_law_script"] (sp_law K) := by
  refine okC T.F_law sc_law (fun vs H Q E h => ?_) (fun cdv hk A outer s H vs Q E hr h => ?_)
  · obtain ⟨a, ns, rfl, _⟩ := h; rfl
  · obtain ⟨a, ns, rfl, hS, q⟩ := h
    refine ⟨_, PSs.nox (pss_cons (ps_set (i := 1) sc_law.nd rfl (.inr rfl) (pe_call (ok__law_rows_by T) (hr.mono (by decide)) (by rfl) T.g__law_rows_by T.F__law_rows_by.kp T.b__law_rows_by .nil pass0 (pa_cons (pv 0) pa_nil)))
      (pss_cons (ps_set (i := 2) sc_law.nd rfl (.inl rfl) (pe_callTy (T := "list") j_listOf (by rfl) T.z_list (by decide +kernel) (pa_cons (pv 1) pa_nil)))
      (pss_cons (ps_set (i := 3) sc_law.nd rfl (.inl rfl) (pe_call (ok__law_reached T) (hr.mono (by decide)) (by rfl) T.g__law_reached T.F__law_reached.kp T.b__law_reached .nil pass0 (pa_cons (pv 1) pa_nil)))
      (pss_cons (ps_if (pt_not (pt_val (pe_call (ok__law_numbers T) (hr.mono (by decide)) (by rfl) T.g__law_numbers T.F__law_numbers.kp T.b__law_numbers .nil pass0 (pa_cons (pe_callS (ok_reached T) (hr.mono (by decide)) (by rfl) T.g_reached T.F_reached.kp T.b_reached (fun _ => nopass) (pa_cons (pv 2) pa_nil)) (pa_cons (pv 3) pa_nil)))))
      (pss_one (ps_ret pe_bl))
      pss_nil)
      (pss_cons (ps_set (i := 4) sc_law.nd rfl (.inl rfl) (pe_callS (ok_comers T) (hr.mono (by decide)) (by rfl) T.g_comers T.F_comers.kp T.b_comers (fun _ => nopass) (pa_cons (pv 2) pa_nil)))
      (pss_cons (ps_if (PW.pt (pw_or (pt_not (pt_val (pe_callB (id := "isinstance") call_isi (by rfl) T.z_isinstance (by decide +kernel) (pa_cons (pv 4) (pa_cons (pe_bltn (v := .ty "list") (u := .type "list") (by rfl) T.z_list (by decide +kernel) rfl) pa_nil))))) (pw_or (pt_cmpR op_ne (pe_callB (id := "len") j_len (by rfl) T.z_len (by decide +kernel) (pa_cons (pv 4) pa_nil)) (pe_op op_add (pe_callB (id := "len") j_len (by rfl) T.z_len (by decide +kernel) (pa_cons (pv 1) pa_nil)) pe_int) (nomark _)) (pw_or1 (pt_cmpR (op_neD hr.units) (pv 2) (pv 1) (nomark _))))))
      (pss_one (ps_ret pe_bl))
      pss_nil)
      (pss_cons (ps_for PassesOwn.never rfl (pi_range1 (by rfl) T.z_range (pa_cons (pe_op op_add (pe_callB (id := "len") j_len (by rfl) T.z_len (by decide +kernel) (pa_cons (pv 1) pa_nil)) pe_int) pa_nil)) (pg_name (i := 5) sc_law.nd rfl (.inr rfl))
      (pss_cons (ps_setLc (i := 6) (own := [("_law_one", 7)]) (g := (gName 7)) rfl sc_law.nd rfl rfl (sw_true rfl rfl rfl (by decide +kernel)) (pi_list (pv 3)) (blkOk_by (own := [("_law_one", 7)]) (N := ["_law_script", "_law_rows", "_law_handed", "_law_due", "_law_found", "_law_place", "_law_row", "_law_one"]) (sc := defScope s_law) (by decide +kernel)) (fun _ _ _ _ _ => (pg_name (i := 7) sc_law.nd rfl (.inl rfl))) (fun _ _ _ _ _ => (pts_one (pt_cmpR (k_in K) (pv 5) (pe_call (ok__law_next T) (hr.mono (by decide)) (by rfl) T.g__law_next T.F__law_next.kp T.b__law_next .nil pass0 (pa_cons (pv 1) (pa_cons (pv 7) pa_nil))) (by with_unfolding_all rfl)))) (fun _ _ _ _ _ => (pv 7)))
        (pss_cons (ps_if (pt_cmpR op_eq (pv 5) pe_int (nomark _))
        (pss_one (ps_set (i := 6) sc_law.nd rfl (.inl rfl) (pe_op op_cat (pe_lst (pa_cons (pe_un un_neg pe_int) pa_nil)) (pv 6))))
        pss_nil)
        (pss_one (ps_if (pt_not (pt_val (pe_call (ok__law_numbers T) (hr.mono (by decide)) (by rfl) T.g__law_numbers T.F__law_numbers.kp T.b__law_numbers .nil pass0 (pa_cons (pe_ix ix_list (pv 4) (pv 5) (fun _ _ => rfl)) (pa_cons (pv 6) pa_nil)))))
        (pss_one (ps_ret pe_bl))
        pss_nil)))))
      (pss_one (ps_ret pe_bl))))))))), ?_⟩
    walk_at "rd"
    refine ⟨a, ns, rfl, hS, fun pr us rs H1 hpr e1 h1 hR hG => ?_⟩
    have hok : Okay rs := fun r hr => hG.ok hr
    have hfew := hG.few
    walk_at "rd"
    refine n_listOf h1 fun l H2 hl e2 h2 => ?_
    walk_at "rd"
    refine ⟨pr, us, rs, rfl, e2 _ _ h1, hR.mono e2, hok, by omega, fun pd H3 hpd e3 h3 => ?_⟩
    walk_at "rd"
    have e13 := e2.trans e3
    refine n_callS ?_
    walk_at "rd"
    refine ⟨.ref l, rfl, asked_rows (e3 _ _ h2) (hR.mono e13) hok (by omega) fun pf H4 hpf e4 h4 => ?_⟩
    unfold nV at h4
    walk_at "rd"
    have hrl := reachL_len rs
    have h3' := h3
    have h4' := h4
    rw [ints_map] at h3' h4'
    refine ⟨pf, pd, _, rfl, h4', e4 _ _ h3', by rw [List.length_map]; omega, fun H5 e5 => ?_⟩
    walk_at "rd"
    have e35 := e4.trans e5
    have e15 := e13.trans e35
    refine n_callS ?_
    walk_at "rd"
    refine ⟨.ref l, rfl, asked_rows (e35 _ _ (e3 _ _ h2)) (hR.mono e15) hok (by omega) fun pc as H6 hpc hpa hnd hfr hal e6 h6 hL => ?_⟩
    have e16 := e15.trans e6
    have h1' := e16 _ _ h1
    walk_at "rd"
    rw [List.length_map, hR.1, hal]
    walk_at "rd"
    refine w_ndec (fun z => absurd (by omega) z) (fun _ => ?_)
    walk_at "rd"
    have e36 := e35.trans e6
    refine n_neD (d := .list (rs.map Row.pd)) (.lst (sql (e36 _ _ (e3 _ _ h2))) (dp_rows (hR.mono e16))) (.lst (sql h1') (dp_rows (hR.mono e16))) (shaped_rows hok) ?_
    walk_at "rd"
    rw [hR.1]
    walk_at "rd"
    have hcnt : ((rs.length : Int) + 1).toNat = rs.length + 1 := by omega
    rw [hcnt]
    refine for_it walk_range (fun i σ H' => ∃ v5 v6, σ = [some (.ref a), some (.ref pr), some (.ref l), some (.ref pd), some (.ref pc), v5, v6, none] ∧ Ex H6 H') ⟨none, none, rfl, Evl.Ex.refl _⟩ (fun _ _ _ _ _ => trivial) (fun i x σ H7 H8 hi P y => ?_) (fun σ H7 P => ?_)
    · obtain ⟨v5, v6, rfl, e7⟩ := P
      obtain ⟨rfl, rfl⟩ := y
      show gName 5 (V.int (0 + (i : Int))) _ _ _
      rw [Int.zero_add]
      have e37 := e36.trans e7
      have h37 := e37 _ _ h3
      have e17 := e16.trans e7
      walk_at "rd"
      intro D hD
      have hll : ((reachL rs).map fun j : Nat => V.int (j : Int)).length = (reachL rs).length := List.length_map ..
      refine lc_gen walk_list (fun k => decide (i ∈ nexts rs ((reachL rs)[k]?.getD 0))) (fun k v _ => v = V.int (((reachL rs)[k]?.getD 0 : Nat) : Int)) (fun _ _ _ _ z _ => z) hD (by omega) (fun H e => sql (e _ _ h37)) (fun k x H9 H10 kc kd hk e9 _ yy kk kn => ?_) (fun H9 ys e9 h9 hP => ?_)
      · obtain ⟨rfl, hx⟩ := yy
        rw [List.getElem?_map] at hx
        obtain ⟨p, hp, rfl⟩ := Option.map_eq_some_iff.mp hx
        have hpr := (reachL_mem hok).mp (List.mem_of_getElem? hp)
        rw [hp] at kk kn
        refine ⟨rfl, ?_⟩
        walk_at "rd"
        have e19 := e17.trans e9
        refine ⟨pr, us, rs, p, rfl, e19 _ _ h1, hR.mono e19, hpr.le hok, fun pn H11 hpn e11 h11 => ?_⟩
        refine n_inL h11 rfl (by rw [ints_map]; exact flat_ints _) ?_
        rw [in_nats]
        walk_at "rd"
        by_cases hin : i ∈ nexts rs p
        · rw [decide_eq_true ((lnexts_mem rs p i).mpr hin)]
          refine w_true rfl ?_
          walk_at "rd"
          exact kk (decide_eq_true hin) _ _ e11 rfl
        · rw [decide_eq_false (fun z => hin ((lnexts_mem rs p i).mp z))]
          refine w_false rfl ?_
          exact kn (decide_eq_false hin) _ e11
      rw [hll] at hP
      have hys : ys = ((((reachL rs).filter fun p => decide (i ∈ nexts rs p)).map fun j : Nat => (j : Int)).map V.int) := by
        rw [paired_eq hP, ← filter_range (reachL rs), List.map_map, List.map_map]; rfl
      rw [hys] at h9
      have hfl : ((reachL rs).filter fun p => decide (i ∈ nexts rs p)).length ≤ 100 := Nat.le_trans (List.length_filter_le _ _) (by omega)
      have hai : as[i]? = some as[i] := List.getElem?_eq_getElem (by omega)
      have e79 := e7.trans e9
      walk_at "rd"
      have hclen : (comersL rs i).length ≤ 200 := by
        unfold comersL
        rw [List.length_append, List.length_map]
        have h2 : (if i = 0 then [(-1 : Int)] else []).length ≤ 1 := by split <;> simp
        omega
      refine w_dec (fun hz => ?_) (fun hz => ?_)
      · have hz : i = 0 := by omega
        subst hz
        walk_at "rd"
        refine n_lst (by walk_at "sz") fun q1 H10 hq1 e10 h10 => ?_
        walk_at "rd"
        refine n_cat (xs := [V.int (-1)]) h10 (e10 _ _ h9) (by rw [List.length_map, List.length_map]; simp; omega) fun q2 H11 hq2 e11 h11 => ?_
        walk_at "rd"
        have e711 := (e79.trans e10).trans e11
        refine r_ixL (sql (e711 _ _ h6)) (atI_nat (j := 0) (by rw [List.getElem?_map, hai]; rfl)) ?_
        walk_at "rd"
        refine ⟨as[0], q2, comersL rs 0, rfl, e711 _ _ (hL 0 _ hai), by rw [h11]; rfl, by omega, fun H12 e12 => ?_⟩
        walk_at "rd"
        exact ⟨_, _, rfl, e711.trans e12⟩
      · have hz : ¬ i = 0 := by omega
        walk_at "rd"
        refine r_ixL (sql (e79 _ _ h6)) (atI_nat (j := i) (by rw [List.getElem?_map, hai]; rfl)) ?_
        walk_at "rd"
        refine ⟨as[i], D, comersL rs i, rfl, e79 _ _ (hL i _ hai), by rw [h9]; unfold comersL; rw [if_neg hz]; rfl, by omega, fun H12 e12 => ?_⟩
        walk_at "rd"
        exact ⟨_, _, rfl, e79.trans e12⟩
    · obtain ⟨v5, v6, rfl, e7⟩ := P
      walk_at "rd"
      exact q H7
end J
namespace J
open PySem PySem.Spec PyProof.Rows L2
def loose0 : List PySem.Str := ["RowError", "BadRow", "BadPlace", "PARTS", "BEGINNING", "LONGEST_NAME", "is_number", "is_name", "is_place", "_fits", "is_row", "has_goal", "refuse_wrong", "reached", "comers", "next_places", "places_found", "comers_to", "_law_cell_at", "_law_whole", "_law_mixed", "_law_names_by", "_law_operand_by", "_law_row_by"]
def loose1 : List PySem.Str := ["_law_size_by", "_law_rows_by", "_law_values_by", "_law_own", "_law_asks", "_law_next", "_law_reached", "_law_numbers"]
def loose : List PySem.Str := loose0 ++ loose1
abbrev R : PySem.W.OpenRow := PySem.W.OpenLaw.row PySem.Challenge.rw_joinmarks_k02_where_rows_lead
abbrev hk : PySem.W.Hook := He.hookX 4 fa fn ts [] partsB
def ob (s : PySem.W.SharedT) : He.AlX := He.obsX 4 fa fn ts [] partsB (HandSHeadRun.getT s)
theorem ob_eq (s : PySem.W.SharedT) : ob s = hk.obs s.abs := He.obsX_eq (HandSHeadRun.getT_eq s)
set_option maxHeartbeats 0 in
theorem run_top (w : World) : HandSHeadRun.RunEq R (PySem.W.view R.prog [36]) hk ob 6000 loose w :=
  PySem.W.byRow2 "special-get-raises" (P := fun w => HandSHeadRun.RunEq R (PySem.W.view R.prog [36]) hk ob 6000 loose w) (fun w => by intro os; kernel_rfl) (fun w => by intro os; kernel_rfl) w
end J
open PySem PySem.W PySem.Calls PyProof.Rows
set_option maxHeartbeats 0 in
theorem PySem.Challenge.cw_joinmarks_k02_where_rows_lead_holds : PySem.Challenge.rw_joinmarks_k02_where_rows_lead.Holds := by
  w_on; o_law
  refine HandSHeadRun.head_any (r := OpenLaw.row PySem.Challenge.rw_joinmarks_k02_where_rows_lead) (q := view (OpenLaw.row PySem.Challenge.rw_joinmarks_k02_where_rows_lead).prog [36]) (H := J.hk) (ob := J.ob) (M := 6000) (loose := J.loose) (d := HandSHeadRun.topDef (OpenLaw.row PySem.Challenge.rw_joinmarks_k02_where_rows_lead).prog 36) (kwd := []) J.ob_eq
    (by kernel_rfl) (fun s => by kernel_rfl) J.run_top (by kernel_rfl) (by kernel_rfl) (by kernel_rfl) (by rfl) (by first | assumption | decide +kernel) (by decide +kernel) ⟨rfl, rfl, rfl, rfl, rfl, by decide +kernel⟩ ?hw ?hc
  case hw => w_witness2
  case hc =>
    refine L2.walk_ofE (l := PySem.Challenge.rw_joinmarks_k02_where_rows_lead) (n := 63) (k := 6) (x := "_law_script") (CX := L2.CX0) rfl (by decide) (by kernel_rfl) ⟨rfl, by decide, by decide⟩ ?F (fun _ _ _ _ z => z)
    intro w mg fa h Y G hmg0
    obtain ⟨K, KX, c⟩ := Y
    have T : J.Txt w K mg := ⟨h, KX, G, c⟩
    have hmg : mg ("law" : PySem.Str) = some (.ref fa) := by
      have e : (HandSHeadRun.topDef (OpenLaw.row PySem.Challenge.rw_joinmarks_k02_where_rows_lead).prog 36).name = ("law" : PySem.Str) := by kernel_rfl
      rw [← e]
      exact hmg0
    have e2 := hmg.symm.trans T.g_law
    cases e2
    exact ⟨K, J.fdOf K "law", J.sp_law K, KX, fun s v => (L2.FunD.bindsA (ps := ["_law_script"]) T.F_law fun _ _ _ _ _ _ us hl => match us, hl with | [_], _ => rfl) s [v] rfl, fun H a ns hl hO hS => J.law_start H a ns hl hO hS, fun base _ _ => J.ok_law T⟩
