import PyProof.Rows.All
import Wide.All
import OpenK.AllK
import Wide.FinOn
import KE.OsRunLaw
import HandS.Head2
import HandS.ForMost
import HandS.Walk
import HandS.Zip
import HandS.IsInst
import HandS.StrMore
import HandS.Evl
import HandS.Codes
import HandS.Defaults
import HandS.Dict
import HandS.DictComp
import HandS.DictTup
import HandS.EndOwn
import HandS.ExcField
import HandS.ExcInit
import HandS.ExcIs
import HandS.Flow
import HandS.HeadHook3
import HandS.Iter
import HandS.Lambda
import HandS.More
import HandS.Replace
import HandS.Sort
import HandS.SortInts
import HandS.SortKw
import HandS.SortOrd
import HandS.TupLe
import KE.KDictKeyed
import KE.KSortKey
import KE.KSortKeySt
import KE.KSortTupG
import HandS.Set
import HandS.SetFor
import HandS.SetTxt0
import HandS.Style
import HandS.TupAny
import HandS.TupSets
import HandS.WordsExc
import HandS.MakeKwOnly
import HandS.TryOnly
import KE.KDictWalk
import KE.KExcIs
import KE.KRevSl
import KE.GoesEnum
import PyProof.ListStr
import PyProof.Rows.SortShellAny
import HandS.FStr
import HandS.Deep
import HandS.Text
import KE.KDictPairs
import HandS.IsInst
import HandS.OwnEq
import KE.KeyNested
import OpenK.KOps
import KE.KFmtOwn
import PySem.Challenge.RW_leakpost_k49_labs_written
set_option Elab.async false
set_option linter.all false
set_option maxRecDepth 100000
namespace K49
open PySem PySem.Spec PyProof.Rows L2
def topS (i : Nat) : Stmt := PySem.Challenge.pw_leakpost_k49_labs_written.main.body.getD i (.Pass ⟨0, 0, 0, 0⟩)
def clsS (i j : Nat) : Stmt := (C8.clsBody (topS i)).getD j (.Pass ⟨0, 0, 0, 0⟩)
abbrev s_LeakError_init : Stmt := clsS 1 0
abbrev N_LeakError_init : List Str := ["self", "at", "word"]
abbrev P_LeakError_init : List Str := ["self", "at", "word"]
theorem sc_LeakError_init : FnScope N_LeakError_init P_LeakError_init (defScope s_LeakError_init) := ⟨rfl, rfl, rfl, by decide +kernel, rfl, by decide +kernel, by decide +kernel⟩
abbrev s_BadName_init : Stmt := clsS 2 0
abbrev N_BadName_init : List Str := ["self", "at"]
abbrev P_BadName_init : List Str := ["self", "at"]
theorem sc_BadName_init : FnScope N_BadName_init P_BadName_init (defScope s_BadName_init) := ⟨rfl, rfl, rfl, by decide +kernel, rfl, by decide +kernel, by decide +kernel⟩
abbrev s_BadWord_init : Stmt := clsS 3 0
abbrev N_BadWord_init : List Str := ["self", "at"]
abbrev P_BadWord_init : List Str := ["self", "at"]
theorem sc_BadWord_init : FnScope N_BadWord_init P_BadWord_init (defScope s_BadWord_init) := ⟨rfl, rfl, rfl, by decide +kernel, rfl, by decide +kernel, by decide +kernel⟩
abbrev s_BadAct_init : Stmt := clsS 4 0
abbrev N_BadAct_init : List Str := ["self", "at"]
abbrev P_BadAct_init : List Str := ["self", "at"]
theorem sc_BadAct_init : FnScope N_BadAct_init P_BadAct_init (defScope s_BadAct_init) := ⟨rfl, rfl, rfl, by decide +kernel, rfl, by decide +kernel, by decide +kernel⟩
abbrev s_BadText_init : Stmt := clsS 5 0
abbrev N_BadText_init : List Str := ["self", "at"]
abbrev P_BadText_init : List Str := ["self", "at"]
theorem sc_BadText_init : FnScope N_BadText_init P_BadText_init (defScope s_BadText_init) := ⟨rfl, rfl, rfl, by decide +kernel, rfl, by decide +kernel, by decide +kernel⟩
abbrev s_Taken_init : Stmt := clsS 6 0
abbrev N_Taken_init : List Str := ["self", "at"]
abbrev P_Taken_init : List Str := ["self", "at"]
theorem sc_Taken_init : FnScope N_Taken_init P_Taken_init (defScope s_Taken_init) := ⟨rfl, rfl, rfl, by decide +kernel, rfl, by decide +kernel, by decide +kernel⟩
abbrev s_Full_init : Stmt := clsS 7 0
abbrev N_Full_init : List Str := ["self", "at"]
abbrev P_Full_init : List Str := ["self", "at"]
theorem sc_Full_init : FnScope N_Full_init P_Full_init (defScope s_Full_init) := ⟨rfl, rfl, rfl, by decide +kernel, rfl, by decide +kernel, by decide +kernel⟩
abbrev s_NoMachine_init : Stmt := clsS 8 0
abbrev N_NoMachine_init : List Str := ["self", "at"]
abbrev P_NoMachine_init : List Str := ["self", "at"]
theorem sc_NoMachine_init : FnScope N_NoMachine_init P_NoMachine_init (defScope s_NoMachine_init) := ⟨rfl, rfl, rfl, by decide +kernel, rfl, by decide +kernel, by decide +kernel⟩
abbrev s_NoRow_init : Stmt := clsS 9 0
abbrev N_NoRow_init : List Str := ["self", "at"]
abbrev P_NoRow_init : List Str := ["self", "at"]
theorem sc_NoRow_init : FnScope N_NoRow_init P_NoRow_init (defScope s_NoRow_init) := ⟨rfl, rfl, rfl, by decide +kernel, rfl, by decide +kernel, by decide +kernel⟩
abbrev s_p_is_word : Stmt := topS 13
abbrev N_p_is_word : List Str := ["text", "sign"]
abbrev P_p_is_word : List Str := ["text"]
theorem sc_p_is_word : FnScope N_p_is_word P_p_is_word (defScope s_p_is_word) := ⟨rfl, rfl, rfl, by decide +kernel, rfl, by decide +kernel, by decide +kernel⟩
abbrev s_p_is_name : Stmt := topS 14
abbrev N_p_is_name : List Str := ["text"]
abbrev P_p_is_name : List Str := ["text"]
theorem sc_p_is_name : FnScope N_p_is_name P_p_is_name (defScope s_p_is_name) := ⟨rfl, rfl, rfl, by decide +kernel, rfl, by decide +kernel, by decide +kernel⟩
abbrev s_p_is_letter : Stmt := topS 15
abbrev N_p_is_letter : List Str := ["text"]
abbrev P_p_is_letter : List Str := ["text"]
theorem sc_p_is_letter : FnScope N_p_is_letter P_p_is_letter (defScope s_p_is_letter) := ⟨rfl, rfl, rfl, by decide +kernel, rfl, by decide +kernel, by decide +kernel⟩
abbrev s_p_is_short_word : Stmt := topS 23
abbrev N_p_is_short_word : List Str := ["text"]
abbrev P_p_is_short_word : List Str := ["text"]
theorem sc_p_is_short_word : FnScope N_p_is_short_word P_p_is_short_word (defScope s_p_is_short_word) := ⟨rfl, rfl, rfl, by decide +kernel, rfl, by decide +kernel, by decide +kernel⟩
abbrev s_p_check_machines : Stmt := topS 24
abbrev N_p_check_machines : List Str := ["pairs", "seen", "name", "first"]
abbrev P_p_check_machines : List Str := ["pairs"]
theorem sc_p_check_machines : FnScope N_p_check_machines P_p_check_machines (defScope s_p_check_machines) := ⟨rfl, rfl, rfl, by decide +kernel, rfl, by decide +kernel, by decide +kernel⟩
abbrev s_p_check_rows : Stmt := topS 25
abbrev N_p_check_rows : List Str := ["pairs", "seen", "name", "word"]
abbrev P_p_check_rows : List Str := ["pairs"]
theorem sc_p_check_rows : FnScope N_p_check_rows P_p_check_rows (defScope s_p_check_rows) := ⟨rfl, rfl, rfl, by decide +kernel, rfl, by decide +kernel, by decide +kernel⟩
abbrev s_p_check_act : Stmt := topS 26
abbrev N_p_check_act : List Str := ["act", "row_places"]
abbrev P_p_check_act : List Str := ["act", "row_places"]
theorem sc_p_check_act : FnScope N_p_check_act P_p_check_act (defScope s_p_check_act) := ⟨rfl, rfl, rfl, by decide +kernel, rfl, by decide +kernel, by decide +kernel⟩
abbrev s_p_check_moves : Stmt := topS 27
abbrev N_p_check_moves : List Str := ["moves", "machine_places", "row_places", "machine", "start", "act", "end"]
abbrev P_p_check_moves : List Str := ["moves", "machine_places", "row_places"]
theorem sc_p_check_moves : FnScope N_p_check_moves P_p_check_moves (defScope s_p_check_moves) := ⟨rfl, rfl, rfl, by decide +kernel, rfl, by decide +kernel, by decide +kernel⟩
abbrev s_p_places_of : Stmt := topS 28
abbrev N_p_places_of : List Str := ["pairs", "at", "name", "thing"]
abbrev P_p_places_of : List Str := ["pairs"]
theorem sc_p_places_of : FnScope N_p_places_of P_p_places_of (defScope s_p_places_of) := ⟨rfl, rfl, rfl, by decide +kernel, rfl, by decide +kernel, by decide +kernel⟩
abbrev s_p_stands_of : Stmt := topS 29
abbrev N_p_stands_of : List Str := ["machines", "moves", "found", "machine", "start", "act", "end", "name", "first"]
abbrev P_p_stands_of : List Str := ["machines", "moves"]
theorem sc_p_stands_of : FnScope N_p_stands_of P_p_stands_of (defScope s_p_stands_of) := ⟨rfl, rfl, rfl, by decide +kernel, rfl, by decide +kernel, by decide +kernel⟩
abbrev s_p_step_of : Stmt := topS 30
abbrev N_p_step_of : List Str := ["move", "machine_places", "row_places", "machine", "start", "act", "end", "row", "letter"]
abbrev P_p_step_of : List Str := ["move", "machine_places", "row_places"]
theorem sc_p_step_of : FnScope N_p_step_of P_p_step_of (defScope s_p_step_of) := ⟨rfl, rfl, rfl, by decide +kernel, rfl, by decide +kernel, by decide +kernel⟩
abbrev s_p_word_text : Stmt := topS 31
abbrev N_p_word_text : List Str := ["word"]
abbrev P_p_word_text : List Str := ["word"]
theorem sc_p_word_text : FnScope N_p_word_text P_p_word_text (defScope s_p_word_text) := ⟨rfl, rfl, rfl, by decide +kernel, rfl, by decide +kernel, by decide +kernel⟩
abbrev s_p_act_text : Stmt := topS 32
abbrev N_p_act_text : List Str := ["act"]
abbrev P_p_act_text : List Str := ["act"]
theorem sc_p_act_text : FnScope N_p_act_text P_p_act_text (defScope s_p_act_text) := ⟨rfl, rfl, rfl, by decide +kernel, rfl, by decide +kernel, by decide +kernel⟩
abbrev s_p_lab_lines : Stmt := topS 33
abbrev N_p_lab_lines : List Str := ["lab", "machines", "rows", "moves", "name", "first", "word", "machine", "start", "act", "end"]
abbrev P_p_lab_lines : List Str := ["lab"]
theorem sc_p_lab_lines : FnScope N_p_lab_lines P_p_lab_lines (defScope s_p_lab_lines) := ⟨rfl, rfl, rfl, by decide +kernel, rfl, by decide +kernel, by decide +kernel⟩
abbrev s_Lab_init : Stmt := clsS 34 0
abbrev N_Lab_init : List Str := ["self", "machines", "rows", "moves", "pair", "name", "start", "act", "end", "move"]
abbrev P_Lab_init : List Str := ["self", "machines", "rows", "moves"]
theorem sc_Lab_init : FnScope N_Lab_init P_Lab_init (defScope s_Lab_init) := ⟨rfl, rfl, rfl, by decide +kernel, rfl, by decide +kernel, by decide +kernel⟩
abbrev s_Lab_is_over : Stmt := clsS 34 1
abbrev N_Lab_is_over : List Str := ["self", "stands"]
abbrev P_Lab_is_over : List Str := ["self"]
theorem sc_Lab_is_over : FnScope N_Lab_is_over P_Lab_is_over (defScope s_Lab_is_over) := ⟨rfl, rfl, rfl, by decide +kernel, rfl, by decide +kernel, by decide +kernel⟩
abbrev s_Lab_machines : Stmt := clsS 34 2
abbrev N_Lab_machines : List Str := ["self"]
abbrev P_Lab_machines : List Str := ["self"]
theorem sc_Lab_machines : FnScope N_Lab_machines P_Lab_machines (defScope s_Lab_machines) := ⟨rfl, rfl, rfl, by decide +kernel, rfl, by decide +kernel, by decide +kernel⟩
abbrev s_Lab_rows : Stmt := clsS 34 3
abbrev N_Lab_rows : List Str := ["self"]
abbrev P_Lab_rows : List Str := ["self"]
theorem sc_Lab_rows : FnScope N_Lab_rows P_Lab_rows (defScope s_Lab_rows) := ⟨rfl, rfl, rfl, by decide +kernel, rfl, by decide +kernel, by decide +kernel⟩
abbrev s_Lab_moves : Stmt := clsS 34 4
abbrev N_Lab_moves : List Str := ["self"]
abbrev P_Lab_moves : List Str := ["self"]
theorem sc_Lab_moves : FnScope N_Lab_moves P_Lab_moves (defScope s_Lab_moves) := ⟨rfl, rfl, rfl, by decide +kernel, rfl, by decide +kernel, by decide +kernel⟩
abbrev s_Lab_begin : Stmt := clsS 34 6
abbrev N_Lab_begin : List Str := ["self", "name", "first", "word"]
abbrev P_Lab_begin : List Str := ["self"]
theorem sc_Lab_begin : FnScope N_Lab_begin P_Lab_begin (defScope s_Lab_begin) := ⟨rfl, rfl, rfl, by decide +kernel, rfl, by decide +kernel, by decide +kernel⟩
abbrev s_Lab_eq : Stmt := clsS 34 8
abbrev N_Lab_eq : List Str := ["self", "other"]
abbrev P_Lab_eq : List Str := ["self", "other"]
theorem sc_Lab_eq : FnScope N_Lab_eq P_Lab_eq (defScope s_Lab_eq) := ⟨rfl, rfl, rfl, by decide +kernel, rfl, by decide +kernel, by decide +kernel⟩
abbrev s_Lab_str : Stmt := clsS 34 11
abbrev N_Lab_str : List Str := ["self", "line"]
abbrev P_Lab_str : List Str := ["self"]
theorem sc_Lab_str : FnScope N_Lab_str P_Lab_str (defScope s_Lab_str) := ⟨rfl, rfl, rfl, by decide +kernel, rfl, by decide +kernel, by decide +kernel⟩
abbrev s_p_read_word : Stmt := topS 37
abbrev N_p_read_word : List Str := ["text"]
abbrev P_p_read_word : List Str := ["text"]
theorem sc_p_read_word : FnScope N_p_read_word P_p_read_word (defScope s_p_read_word) := ⟨rfl, rfl, rfl, by decide +kernel, rfl, by decide +kernel, by decide +kernel⟩
abbrev s_p_read_act : Stmt := topS 38
abbrev N_p_read_act : List Str := ["text"]
abbrev P_p_read_act : List Str := ["text"]
theorem sc_p_read_act : FnScope N_p_read_act P_p_read_act (defScope s_p_read_act) := ⟨rfl, rfl, rfl, by decide +kernel, rfl, by decide +kernel, by decide +kernel⟩
abbrev s_p_thing_of : Stmt := topS 39
abbrev N_p_thing_of : List Str := ["words"]
abbrev P_p_thing_of : List Str := ["words"]
theorem sc_p_thing_of : FnScope N_p_thing_of P_p_thing_of (defScope s_p_thing_of) := ⟨rfl, rfl, rfl, by decide +kernel, rfl, by decide +kernel, by decide +kernel⟩
abbrev s_p_read_line : Stmt := topS 40
abbrev N_p_read_line : List Str := ["lab", "line", "words", "thing"]
abbrev P_p_read_line : List Str := ["lab", "line"]
theorem sc_p_read_line : FnScope N_p_read_line P_p_read_line (defScope s_p_read_line) := ⟨rfl, rfl, rfl, by decide +kernel, rfl, by decide +kernel, by decide +kernel⟩
abbrev s_p_lab_text : Stmt := topS 41
abbrev N_p_lab_text : List Str := ["lab"]
abbrev P_p_lab_text : List Str := ["lab"]
theorem sc_p_lab_text : FnScope N_p_lab_text P_p_lab_text (defScope s_p_lab_text) := ⟨rfl, rfl, rfl, by decide +kernel, rfl, by decide +kernel, by decide +kernel⟩
abbrev s_p_read_lab : Stmt := topS 42
abbrev N_p_read_lab : List Str := ["text", "lines", "rest", "lab", "at", "line"]
abbrev P_p_read_lab : List Str := ["text"]
theorem sc_p_read_lab : FnScope N_p_read_lab P_p_read_lab (defScope s_p_read_lab) := ⟨rfl, rfl, rfl, by decide +kernel, rfl, by decide +kernel, by decide +kernel⟩
abbrev s_bag : Stmt := topS 44
abbrev N_bag : List Str := ["_law_script", "_law_seed", "_law_cell"]
abbrev P_bag : List Str := ["_law_script"]
theorem sc_bag : FnScope N_bag P_bag (defScope s_bag) := ⟨rfl, rfl, rfl, by decide +kernel, rfl, by decide +kernel, by decide +kernel⟩
abbrev s_pull : Stmt := topS 45
abbrev N_pull : List Str := ["_law_bag_here", "_law_many", "_law_rest", "_law_cell", "_law_one", "_law_two"]
abbrev P_pull : List Str := ["_law_bag_here", "_law_many"]
theorem sc_pull : FnScope N_pull P_pull (defScope s_pull) := ⟨rfl, rfl, rfl, by decide +kernel, rfl, by decide +kernel, by decide +kernel⟩
abbrev s_of : Stmt := topS 46
abbrev N_of : List Str := ["_law_bag_here", "_law_some"]
abbrev P_of : List Str := ["_law_bag_here", "_law_some"]
theorem sc_of : FnScope N_of P_of (defScope s_of) := ⟨rfl, rfl, rfl, by decide +kernel, rfl, by decide +kernel, by decide +kernel⟩
abbrev s_same : Stmt := topS 47
abbrev N_same : List Str := ["_law_found", "_law_due", "_law_a", "_law_b"]
abbrev P_same : List Str := ["_law_found", "_law_due"]
theorem sc_same : FnScope N_same P_same (defScope s_same) := ⟨rfl, rfl, rfl, by decide +kernel, rfl, by decide +kernel, by decide +kernel⟩
abbrev s_letters : Stmt := topS 48
abbrev N_letters : List Str := ["_law_bag_here", "_law_alphabet", "_law_first", "_law_by", "_law_k"]
abbrev P_letters : List Str := ["_law_bag_here"]
theorem sc_letters : FnScope N_letters P_letters (defScope s_letters) := ⟨rfl, rfl, rfl, by decide +kernel, rfl, by decide +kernel, by decide +kernel⟩
abbrev s_names : Stmt := topS 49
abbrev N_names : List Str := ["_law_bag_here", "_law_many", "_law_alphabet", "_law_tail", "_law_at", "_law_first", "_law_by", "_law_k"]
abbrev P_names : List Str := ["_law_bag_here", "_law_many"]
theorem sc_names : FnScope N_names P_names (defScope s_names) := ⟨rfl, rfl, rfl, by decide +kernel, rfl, by decide +kernel, by decide +kernel⟩
abbrev s_word : Stmt := topS 50
abbrev N_word : List Str := ["_law_bag_here", "_law_letters_here", "_law_top", "_law_k"]
abbrev P_word : List Str := ["_law_bag_here", "_law_letters_here", "_law_top"]
theorem sc_word : FnScope N_word P_word (defScope s_word) := ⟨rfl, rfl, rfl, by decide +kernel, rfl, by decide +kernel, by decide +kernel⟩
abbrev s_plan : Stmt := topS 51
abbrev N_plan : List Str := ["_law_bag_here", "_law_machines", "_law_stands", "_law_rows", "_law_moves", "_law_names_here", "_law_letters_here", "_law_plan_here", "_law_k", "_law_some"]
abbrev P_plan : List Str := ["_law_bag_here", "_law_machines", "_law_stands", "_law_rows", "_law_moves"]
theorem sc_plan : FnScope N_plan P_plan (defScope s_plan) := ⟨rfl, rfl, rfl, by decide +kernel, rfl, by decide +kernel, by decide +kernel⟩
abbrev s_act : Stmt := topS 52
abbrev N_act : List Str := ["_law_bag_here", "_law_plan_here", "_law_kind", "_law_row"]
abbrev P_act : List Str := ["_law_bag_here", "_law_plan_here"]
theorem sc_act : FnScope N_act P_act (defScope s_act) := ⟨rfl, rfl, rfl, by decide +kernel, rfl, by decide +kernel, by decide +kernel⟩
abbrev s_move : Stmt := topS 53
abbrev N_move : List Str := ["_law_bag_here", "_law_plan_here", "_law_at", "_law_some"]
abbrev P_move : List Str := ["_law_bag_here", "_law_plan_here"]
theorem sc_move : FnScope N_move P_move (defScope s_move) := ⟨rfl, rfl, rfl, by decide +kernel, rfl, by decide +kernel, by decide +kernel⟩
abbrev s_lab : Stmt := topS 54
abbrev N_lab : List Str := ["_law_plan_here"]
abbrev P_lab : List Str := ["_law_plan_here"]
theorem sc_lab : FnScope N_lab P_lab (defScope s_lab) := ⟨rfl, rfl, rfl, by decide +kernel, rfl, by decide +kernel, by decide +kernel⟩
abbrev s_begin : Stmt := topS 55
abbrev N_begin : List Str := ["_law_plan_here", "_law_name", "_law_first", "_law_word_here"]
abbrev P_begin : List Str := ["_law_plan_here"]
theorem sc_begin : FnScope N_begin P_begin (defScope s_begin) := ⟨rfl, rfl, rfl, by decide +kernel, rfl, by decide +kernel, by decide +kernel⟩
abbrev s_lab_lines : Stmt := topS 56
abbrev N_lab_lines : List Str := ["_law_plan_here", "_law_name", "_law_found", "_law_start", "_law_act_here", "_law_end", "_law_first", "_law_word_here"]
abbrev P_lab_lines : List Str := ["_law_plan_here"]
theorem sc_lab_lines : FnScope N_lab_lines P_lab_lines (defScope s_lab_lines) := ⟨rfl, rfl, rfl, by decide +kernel, rfl, by decide +kernel, by decide +kernel⟩
abbrev s_text_of : Stmt := topS 57
abbrev N_text_of : List Str := ["_law_lines", "_law_line"]
abbrev P_text_of : List Str := ["_law_lines"]
theorem sc_text_of : FnScope N_text_of P_text_of (defScope s_text_of) := ⟨rfl, rfl, rfl, by decide +kernel, rfl, by decide +kernel, by decide +kernel⟩
abbrev s_law : Stmt := topS 58
abbrev N_law : List Str := ["_law_script", "_law_bag_here", "_law_turn", "_law_plan_here", "_law_lab_here", "_law_line", "_law_found", "_law_told", "_law_due"]
abbrev P_law : List Str := ["_law_script"]
theorem sc_law : FnScope N_law P_law (defScope s_law) := ⟨rfl, rfl, rfl, by decide +kernel, rfl, by decide +kernel, by decide +kernel⟩
def sp_law (K : PySem.W.Frag) : Sp := fun vs H Q _ => ∃ (a : Addr) (ns : List Int), vs = [.ref a] ∧ SqL K H a (ns.map V.int) ∧ ns.length ≤ 63 ∧ ∀ H', Q (.bl true) H'
def AllMk : Prop := ∀ {l : PySem.W.OpenLaw} {w : World} {K : PySem.W.Frag} {h : Heap} {mg : Str → Option Value} {fa : Addr} (X : K.In h) (G : h.Ns mainGlobals mg) (hfa : mg "law" = some (.ref fa))
    {f0 : Addr} {od0 an0 : Option Addr} {sl0 : Array (Option Value)} {oc0 kV0 dc0 pm0 cd0 ct0 : Value}
    {td0 : Addr} {ot0 : Value} {ht0 : Option Addr} {st0 : Array (Option Value)} {nt0 : Nat}
    {w0_0 : Tok}
    {w0_1 : Tok}
    {f1 : Addr} {od1 an1 : Option Addr} {sl1 : Array (Option Value)} {oc1 kV1 dc1 pm1 cd1 ct1 : Value}
    {td1 : Addr} {ot1 : Value} {ht1 : Option Addr} {st1 : Array (Option Value)} {nt1 : Nat}
    {w1_0 : Tok}
    {f2 : Addr} {od2 an2 : Option Addr} {sl2 : Array (Option Value)} {oc2 kV2 dc2 pm2 cd2 ct2 : Value}
    {td2 : Addr} {ot2 : Value} {ht2 : Option Addr} {st2 : Array (Option Value)} {nt2 : Nat}
    {w2_0 : Tok}
    {f3 : Addr} {od3 an3 : Option Addr} {sl3 : Array (Option Value)} {oc3 kV3 dc3 pm3 cd3 ct3 : Value}
    {td3 : Addr} {ot3 : Value} {ht3 : Option Addr} {st3 : Array (Option Value)} {nt3 : Nat}
    {w3_0 : Tok}
    {f4 : Addr} {od4 an4 : Option Addr} {sl4 : Array (Option Value)} {oc4 kV4 dc4 pm4 cd4 ct4 : Value}
    {td4 : Addr} {ot4 : Value} {ht4 : Option Addr} {st4 : Array (Option Value)} {nt4 : Nat}
    {w4_0 : Tok}
    {f5 : Addr} {od5 an5 : Option Addr} {sl5 : Array (Option Value)} {oc5 kV5 dc5 pm5 cd5 ct5 : Value}
    {td5 : Addr} {ot5 : Value} {ht5 : Option Addr} {st5 : Array (Option Value)} {nt5 : Nat}
    {w5_0 : Tok}
    {f6 : Addr} {od6 an6 : Option Addr} {sl6 : Array (Option Value)} {oc6 kV6 dc6 pm6 cd6 ct6 : Value}
    {td6 : Addr} {ot6 : Value} {ht6 : Option Addr} {st6 : Array (Option Value)} {nt6 : Nat}
    {w6_0 : Tok}
    {f7 : Addr} {od7 an7 : Option Addr} {sl7 : Array (Option Value)} {oc7 kV7 dc7 pm7 cd7 ct7 : Value}
    {td7 : Addr} {ot7 : Value} {ht7 : Option Addr} {st7 : Array (Option Value)} {nt7 : Nat}
    {w7_0 : Tok}
    {f8 : Addr} {od8 an8 : Option Addr} {sl8 : Array (Option Value)} {oc8 kV8 dc8 pm8 cd8 ct8 : Value}
    {td8 : Addr} {ot8 : Value} {ht8 : Option Addr} {st8 : Array (Option Value)} {nt8 : Nat}
    {w8_0 : Tok}
    {f9 : Addr} {od9 an9 : Option Addr} {sl9 : Array (Option Value)} {oc9 kV9 dc9 pm9 cd9 ct9 : Value}
    {f10 : Addr} {od10 an10 : Option Addr} {sl10 : Array (Option Value)} {oc10 kV10 dc10 pm10 cd10 ct10 : Value}
    {f11 : Addr} {od11 an11 : Option Addr} {sl11 : Array (Option Value)} {oc11 kV11 dc11 pm11 cd11 ct11 : Value}
    {f12 : Addr} {od12 an12 : Option Addr} {sl12 : Array (Option Value)} {oc12 kV12 dc12 pm12 cd12 ct12 : Value}
    {f13 : Addr} {od13 an13 : Option Addr} {sl13 : Array (Option Value)} {oc13 kV13 dc13 pm13 cd13 ct13 : Value}
    {f14 : Addr} {od14 an14 : Option Addr} {sl14 : Array (Option Value)} {oc14 kV14 dc14 pm14 cd14 ct14 : Value}
    {f15 : Addr} {od15 an15 : Option Addr} {sl15 : Array (Option Value)} {oc15 kV15 dc15 pm15 cd15 ct15 : Value}
    {f16 : Addr} {od16 an16 : Option Addr} {sl16 : Array (Option Value)} {oc16 kV16 dc16 pm16 cd16 ct16 : Value}
    {f17 : Addr} {od17 an17 : Option Addr} {sl17 : Array (Option Value)} {oc17 kV17 dc17 pm17 cd17 ct17 : Value}
    {f18 : Addr} {od18 an18 : Option Addr} {sl18 : Array (Option Value)} {oc18 kV18 dc18 pm18 cd18 ct18 : Value}
    {f19 : Addr} {od19 an19 : Option Addr} {sl19 : Array (Option Value)} {oc19 kV19 dc19 pm19 cd19 ct19 : Value}
    {f20 : Addr} {od20 an20 : Option Addr} {sl20 : Array (Option Value)} {oc20 kV20 dc20 pm20 cd20 ct20 : Value}
    {f21 : Addr} {od21 an21 : Option Addr} {sl21 : Array (Option Value)} {oc21 kV21 dc21 pm21 cd21 ct21 : Value}
    {f22 : Addr} {od22 an22 : Option Addr} {sl22 : Array (Option Value)} {oc22 kV22 dc22 pm22 cd22 ct22 : Value}
    {f23 : Addr} {od23 an23 : Option Addr} {sl23 : Array (Option Value)} {oc23 kV23 dc23 pm23 cd23 ct23 : Value}
    {td23 : Addr} {ot23 : Value} {ht23 : Option Addr} {st23 : Array (Option Value)} {nt23 : Nat}
    {w23_0 : Addr}
    {w23_1 : Addr}
    {w23_2 : Addr}
    {f24 : Addr} {od24 an24 : Option Addr} {sl24 : Array (Option Value)} {oc24 kV24 dc24 pm24 cd24 ct24 : Value}
    {f25 : Addr} {od25 an25 : Option Addr} {sl25 : Array (Option Value)} {oc25 kV25 dc25 pm25 cd25 ct25 : Value}
    {f26 : Addr} {od26 an26 : Option Addr} {sl26 : Array (Option Value)} {oc26 kV26 dc26 pm26 cd26 ct26 : Value}
    {f27 : Addr} {od27 an27 : Option Addr} {sl27 : Array (Option Value)} {oc27 kV27 dc27 pm27 cd27 ct27 : Value}
    {f28 : Addr} {od28 an28 : Option Addr} {sl28 : Array (Option Value)} {oc28 kV28 dc28 pm28 cd28 ct28 : Value}
    {f29 : Addr} {od29 an29 : Option Addr} {sl29 : Array (Option Value)} {oc29 kV29 dc29 pm29 cd29 ct29 : Value}
    {f30 : Addr} {od30 an30 : Option Addr} {sl30 : Array (Option Value)} {oc30 kV30 dc30 pm30 cd30 ct30 : Value}
    {f31 : Addr} {od31 an31 : Option Addr} {sl31 : Array (Option Value)} {oc31 kV31 dc31 pm31 cd31 ct31 : Value}
    {f32 : Addr} {od32 an32 : Option Addr} {sl32 : Array (Option Value)} {oc32 kV32 dc32 pm32 cd32 ct32 : Value}
    {f33 : Addr} {od33 an33 : Option Addr} {sl33 : Array (Option Value)} {oc33 kV33 dc33 pm33 cd33 ct33 : Value}
    {f34 : Addr} {od34 an34 : Option Addr} {sl34 : Array (Option Value)} {oc34 kV34 dc34 pm34 cd34 ct34 : Value}
    {f35 : Addr} {od35 an35 : Option Addr} {sl35 : Array (Option Value)} {oc35 kV35 dc35 pm35 cd35 ct35 : Value}
    {f36 : Addr} {od36 an36 : Option Addr} {sl36 : Array (Option Value)} {oc36 kV36 dc36 pm36 cd36 ct36 : Value}
    {f37 : Addr} {od37 an37 : Option Addr} {sl37 : Array (Option Value)} {oc37 kV37 dc37 pm37 cd37 ct37 : Value}
    {f38 : Addr} {od38 an38 : Option Addr} {sl38 : Array (Option Value)} {oc38 kV38 dc38 pm38 cd38 ct38 : Value}
    {f39 : Addr} {od39 an39 : Option Addr} {sl39 : Array (Option Value)} {oc39 kV39 dc39 pm39 cd39 ct39 : Value}
    {f40 : Addr} {od40 an40 : Option Addr} {sl40 : Array (Option Value)} {oc40 kV40 dc40 pm40 cd40 ct40 : Value}
    {f41 : Addr} {od41 an41 : Option Addr} {sl41 : Array (Option Value)} {oc41 kV41 dc41 pm41 cd41 ct41 : Value}
    {f42 : Addr} {od42 an42 : Option Addr} {sl42 : Array (Option Value)} {oc42 kV42 dc42 pm42 cd42 ct42 : Value}
    {f43 : Addr} {od43 an43 : Option Addr} {sl43 : Array (Option Value)} {oc43 kV43 dc43 pm43 cd43 ct43 : Value}
    {f44 : Addr} {od44 an44 : Option Addr} {sl44 : Array (Option Value)} {oc44 kV44 dc44 pm44 cd44 ct44 : Value}
    {f45 : Addr} {od45 an45 : Option Addr} {sl45 : Array (Option Value)} {oc45 kV45 dc45 pm45 cd45 ct45 : Value}
    {f46 : Addr} {od46 an46 : Option Addr} {sl46 : Array (Option Value)} {oc46 kV46 dc46 pm46 cd46 ct46 : Value}
    {f47 : Addr} {od47 an47 : Option Addr} {sl47 : Array (Option Value)} {oc47 kV47 dc47 pm47 cd47 ct47 : Value}
    {f48 : Addr} {od48 an48 : Option Addr} {sl48 : Array (Option Value)} {oc48 kV48 dc48 pm48 cd48 ct48 : Value}
    {f49 : Addr} {od49 an49 : Option Addr} {sl49 : Array (Option Value)} {oc49 kV49 dc49 pm49 cd49 ct49 : Value}
    {f50 : Addr} {od50 an50 : Option Addr} {sl50 : Array (Option Value)} {oc50 kV50 dc50 pm50 cd50 ct50 : Value}
    {f51 : Addr} {od51 an51 : Option Addr} {sl51 : Array (Option Value)} {oc51 kV51 dc51 pm51 cd51 ct51 : Value}
    {q0 : Addr}
    {q1 : Addr}
    {q2 : Addr}
    {q3 : Addr}
    {q4 : Addr}
    {q5 : Addr}
    {q6 : Addr}
    {q7 : Addr}
    {q8 : Addr}
    {q9 : Addr}
    {q0nm q0qn : Str} {q0N : Addr} {q0bs q0sub : List Value} {q0sn : List Str} {q0ab : Bool} {q0col : Option Bool} {q0dd : Option Addr} {q0m0 q0m1 q0m2 q0m3 q0m5 : Option Value}
    {q1nm q1qn : Str} {q1N : Addr} {q1bs q1sub : List Value} {q1sn : List Str} {q1ab : Bool} {q1col : Option Bool} {q1dd : Option Addr} {q1m0 q1m1 q1m2 q1m3 q1m5 : Option Value}
    {q2nm q2qn : Str} {q2N : Addr} {q2bs q2sub : List Value} {q2sn : List Str} {q2ab : Bool} {q2col : Option Bool} {q2dd : Option Addr} {q2m0 q2m1 q2m2 q2m3 q2m5 : Option Value}
    {q3nm q3qn : Str} {q3N : Addr} {q3bs q3sub : List Value} {q3sn : List Str} {q3ab : Bool} {q3col : Option Bool} {q3dd : Option Addr} {q3m0 q3m1 q3m2 q3m3 q3m5 : Option Value}
    {q4nm q4qn : Str} {q4N : Addr} {q4bs q4sub : List Value} {q4sn : List Str} {q4ab : Bool} {q4col : Option Bool} {q4dd : Option Addr} {q4m0 q4m1 q4m2 q4m3 q4m5 : Option Value}
    {q5nm q5qn : Str} {q5N : Addr} {q5bs q5sub : List Value} {q5sn : List Str} {q5ab : Bool} {q5col : Option Bool} {q5dd : Option Addr} {q5m0 q5m1 q5m2 q5m3 q5m5 : Option Value}
    {q6nm q6qn : Str} {q6N : Addr} {q6bs q6sub : List Value} {q6sn : List Str} {q6ab : Bool} {q6col : Option Bool} {q6dd : Option Addr} {q6m0 q6m1 q6m2 q6m3 q6m5 : Option Value}
    {q7nm q7qn : Str} {q7N : Addr} {q7bs q7sub : List Value} {q7sn : List Str} {q7ab : Bool} {q7col : Option Bool} {q7dd : Option Addr} {q7m0 q7m1 q7m2 q7m3 q7m5 : Option Value}
    {q8nm q8qn : Str} {q8N : Addr} {q8bs q8sub : List Value} {q8sn : List Str} {q8ab : Bool} {q8col : Option Bool} {q8dd : Option Addr} {q8m0 q8m1 q8m2 q8m3 q8m5 : Option Value}
    {mc23_0 : Option Addr} {ms23_0 : Array (Option Value)} {mn23_0 : Nat}
    {mc23_1 : Option Addr} {ms23_1 : Array (Option Value)} {mn23_1 : Nat}
    {mc23_2 : Option Addr} {ms23_2 : Array (Option Value)} {mn23_2 : Nat}
    (q0C : PySem.W.nsIn K mainGlobals "LeakError" = some (some (.ref q0)))
    (q0XX : K.lookup q0 = some (excClassObj q0nm q0qn q0 q0N q0bs [.type "ValueError", .type "Exception", .type "BaseException", .type "object"] true q0sn q0sub q0ab q0col q0dd q0m0 q0m1 q0m2 q0m3 q0m5 "ValueError.__new__"))
    (q0sa : PySem.W.findIn K (.ref q0) "__setattr__" = some (some (.builtin "object.__setattr__")))
    (q0ec : PySem.W.subIn K (.ref q0) (.type "BaseException") = some true)
    (q0ty : PySem.W.typeIn K (.ref q0) = some (.type "type"))
    (q0kc : PySem.W.keepIn K (.ref q0) = true)
    (q0rd : PySem.W.readsIn K q0 (.type "type") = true)
    (q0ga : PySem.W.specialIn K (.ref q0) "__getattribute__" = some (some (.builtin "type.__getattribute__")))
    (q0x1 : (PySem.W.clsIn K q0).isSome = true)
    (q0x2 : PySem.W.findIn K (.ref q0) "__getattribute__" = some (some (.builtin "BaseException.__getattribute__")))
    (q0x3 : PySem.W.findIn K (.ref q0) "__getattr__" = some none)
    (q0x5 : PySem.W.findIn K (.ref q0) "__class__" = some (some (.builtin "object.__class__")))
    (q0x6 : PySem.W.specialIn K (.builtin "object.__class__") "__get__" = some (some (.builtin "getset_descriptor.__get__")))
    (q0x7 : PySem.W.takesIn K (.builtin "object.__class__") = some true)
    (q0x8 : PySem.W.mroIn K q0 (.type "object") = some true)
    (q0x9 : PySem.W.hasDictIn K q0 = true)
    (q0nw : PySem.W.findIn K (.ref q0) "word" = some none)
    (q0na : PySem.W.findIn K (.ref q0) "at" = some none)
    (q0kv : PySem.W.kitOne K (.ref q0) (.type "ValueError") = some true)
    (q0kl : PySem.W.kitOne K (.ref q0) (.type "LookupError") = some false)
    (q1C : PySem.W.nsIn K mainGlobals "BadName" = some (some (.ref q1)))
    (q1XX : K.lookup q1 = some (excClassObj q1nm q1qn q1 q1N q1bs [.ref q0, .type "ValueError", .type "Exception", .type "BaseException", .type "object"] true q1sn q1sub q1ab q1col q1dd q1m0 q1m1 q1m2 q1m3 q1m5 "ValueError.__new__"))
    (q1sa : PySem.W.findIn K (.ref q1) "__setattr__" = some (some (.builtin "object.__setattr__")))
    (q1ec : PySem.W.subIn K (.ref q1) (.type "BaseException") = some true)
    (q1ty : PySem.W.typeIn K (.ref q1) = some (.type "type"))
    (q1kc : PySem.W.keepIn K (.ref q1) = true)
    (q1rd : PySem.W.readsIn K q1 (.type "type") = true)
    (q1ga : PySem.W.specialIn K (.ref q1) "__getattribute__" = some (some (.builtin "type.__getattribute__")))
    (q1x1 : (PySem.W.clsIn K q1).isSome = true)
    (q1x2 : PySem.W.findIn K (.ref q1) "__getattribute__" = some (some (.builtin "BaseException.__getattribute__")))
    (q1x3 : PySem.W.findIn K (.ref q1) "__getattr__" = some none)
    (q1x5 : PySem.W.findIn K (.ref q1) "__class__" = some (some (.builtin "object.__class__")))
    (q1x6 : PySem.W.specialIn K (.builtin "object.__class__") "__get__" = some (some (.builtin "getset_descriptor.__get__")))
    (q1x7 : PySem.W.takesIn K (.builtin "object.__class__") = some true)
    (q1x8 : PySem.W.mroIn K q1 (.type "object") = some true)
    (q1x9 : PySem.W.hasDictIn K q1 = true)
    (q1nw : PySem.W.findIn K (.ref q1) "word" = some none)
    (q1na : PySem.W.findIn K (.ref q1) "at" = some none)
    (q1kv : PySem.W.kitOne K (.ref q1) (.type "ValueError") = some true)
    (q1kl : PySem.W.kitOne K (.ref q1) (.type "LookupError") = some false)
    (q2C : PySem.W.nsIn K mainGlobals "BadWord" = some (some (.ref q2)))
    (q2XX : K.lookup q2 = some (excClassObj q2nm q2qn q2 q2N q2bs [.ref q0, .type "ValueError", .type "Exception", .type "BaseException", .type "object"] true q2sn q2sub q2ab q2col q2dd q2m0 q2m1 q2m2 q2m3 q2m5 "ValueError.__new__"))
    (q2sa : PySem.W.findIn K (.ref q2) "__setattr__" = some (some (.builtin "object.__setattr__")))
    (q2ec : PySem.W.subIn K (.ref q2) (.type "BaseException") = some true)
    (q2ty : PySem.W.typeIn K (.ref q2) = some (.type "type"))
    (q2kc : PySem.W.keepIn K (.ref q2) = true)
    (q2rd : PySem.W.readsIn K q2 (.type "type") = true)
    (q2ga : PySem.W.specialIn K (.ref q2) "__getattribute__" = some (some (.builtin "type.__getattribute__")))
    (q2x1 : (PySem.W.clsIn K q2).isSome = true)
    (q2x2 : PySem.W.findIn K (.ref q2) "__getattribute__" = some (some (.builtin "BaseException.__getattribute__")))
    (q2x3 : PySem.W.findIn K (.ref q2) "__getattr__" = some none)
    (q2x5 : PySem.W.findIn K (.ref q2) "__class__" = some (some (.builtin "object.__class__")))
    (q2x6 : PySem.W.specialIn K (.builtin "object.__class__") "__get__" = some (some (.builtin "getset_descriptor.__get__")))
    (q2x7 : PySem.W.takesIn K (.builtin "object.__class__") = some true)
    (q2x8 : PySem.W.mroIn K q2 (.type "object") = some true)
    (q2x9 : PySem.W.hasDictIn K q2 = true)
    (q2nw : PySem.W.findIn K (.ref q2) "word" = some none)
    (q2na : PySem.W.findIn K (.ref q2) "at" = some none)
    (q2kv : PySem.W.kitOne K (.ref q2) (.type "ValueError") = some true)
    (q2kl : PySem.W.kitOne K (.ref q2) (.type "LookupError") = some false)
    (q3C : PySem.W.nsIn K mainGlobals "BadAct" = some (some (.ref q3)))
    (q3XX : K.lookup q3 = some (excClassObj q3nm q3qn q3 q3N q3bs [.ref q0, .type "ValueError", .type "Exception", .type "BaseException", .type "object"] true q3sn q3sub q3ab q3col q3dd q3m0 q3m1 q3m2 q3m3 q3m5 "ValueError.__new__"))
    (q3sa : PySem.W.findIn K (.ref q3) "__setattr__" = some (some (.builtin "object.__setattr__")))
    (q3ec : PySem.W.subIn K (.ref q3) (.type "BaseException") = some true)
    (q3ty : PySem.W.typeIn K (.ref q3) = some (.type "type"))
    (q3kc : PySem.W.keepIn K (.ref q3) = true)
    (q3rd : PySem.W.readsIn K q3 (.type "type") = true)
    (q3ga : PySem.W.specialIn K (.ref q3) "__getattribute__" = some (some (.builtin "type.__getattribute__")))
    (q3x1 : (PySem.W.clsIn K q3).isSome = true)
    (q3x2 : PySem.W.findIn K (.ref q3) "__getattribute__" = some (some (.builtin "BaseException.__getattribute__")))
    (q3x3 : PySem.W.findIn K (.ref q3) "__getattr__" = some none)
    (q3x5 : PySem.W.findIn K (.ref q3) "__class__" = some (some (.builtin "object.__class__")))
    (q3x6 : PySem.W.specialIn K (.builtin "object.__class__") "__get__" = some (some (.builtin "getset_descriptor.__get__")))
    (q3x7 : PySem.W.takesIn K (.builtin "object.__class__") = some true)
    (q3x8 : PySem.W.mroIn K q3 (.type "object") = some true)
    (q3x9 : PySem.W.hasDictIn K q3 = true)
    (q3nw : PySem.W.findIn K (.ref q3) "word" = some none)
    (q3na : PySem.W.findIn K (.ref q3) "at" = some none)
    (q3kv : PySem.W.kitOne K (.ref q3) (.type "ValueError") = some true)
    (q3kl : PySem.W.kitOne K (.ref q3) (.type "LookupError") = some false)
    (q4C : PySem.W.nsIn K mainGlobals "BadText" = some (some (.ref q4)))
    (q4XX : K.lookup q4 = some (excClassObj q4nm q4qn q4 q4N q4bs [.ref q0, .type "ValueError", .type "Exception", .type "BaseException", .type "object"] true q4sn q4sub q4ab q4col q4dd q4m0 q4m1 q4m2 q4m3 q4m5 "ValueError.__new__"))
    (q4sa : PySem.W.findIn K (.ref q4) "__setattr__" = some (some (.builtin "object.__setattr__")))
    (q4ec : PySem.W.subIn K (.ref q4) (.type "BaseException") = some true)
    (q4ty : PySem.W.typeIn K (.ref q4) = some (.type "type"))
    (q4kc : PySem.W.keepIn K (.ref q4) = true)
    (q4rd : PySem.W.readsIn K q4 (.type "type") = true)
    (q4ga : PySem.W.specialIn K (.ref q4) "__getattribute__" = some (some (.builtin "type.__getattribute__")))
    (q4x1 : (PySem.W.clsIn K q4).isSome = true)
    (q4x2 : PySem.W.findIn K (.ref q4) "__getattribute__" = some (some (.builtin "BaseException.__getattribute__")))
    (q4x3 : PySem.W.findIn K (.ref q4) "__getattr__" = some none)
    (q4x5 : PySem.W.findIn K (.ref q4) "__class__" = some (some (.builtin "object.__class__")))
    (q4x6 : PySem.W.specialIn K (.builtin "object.__class__") "__get__" = some (some (.builtin "getset_descriptor.__get__")))
    (q4x7 : PySem.W.takesIn K (.builtin "object.__class__") = some true)
    (q4x8 : PySem.W.mroIn K q4 (.type "object") = some true)
    (q4x9 : PySem.W.hasDictIn K q4 = true)
    (q4nw : PySem.W.findIn K (.ref q4) "word" = some none)
    (q4na : PySem.W.findIn K (.ref q4) "at" = some none)
    (q4kv : PySem.W.kitOne K (.ref q4) (.type "ValueError") = some true)
    (q4kl : PySem.W.kitOne K (.ref q4) (.type "LookupError") = some false)
    (q5C : PySem.W.nsIn K mainGlobals "Taken" = some (some (.ref q5)))
    (q5XX : K.lookup q5 = some (excClassObj q5nm q5qn q5 q5N q5bs [.ref q0, .type "ValueError", .type "Exception", .type "BaseException", .type "object"] true q5sn q5sub q5ab q5col q5dd q5m0 q5m1 q5m2 q5m3 q5m5 "ValueError.__new__"))
    (q5sa : PySem.W.findIn K (.ref q5) "__setattr__" = some (some (.builtin "object.__setattr__")))
    (q5ec : PySem.W.subIn K (.ref q5) (.type "BaseException") = some true)
    (q5ty : PySem.W.typeIn K (.ref q5) = some (.type "type"))
    (q5kc : PySem.W.keepIn K (.ref q5) = true)
    (q5rd : PySem.W.readsIn K q5 (.type "type") = true)
    (q5ga : PySem.W.specialIn K (.ref q5) "__getattribute__" = some (some (.builtin "type.__getattribute__")))
    (q5x1 : (PySem.W.clsIn K q5).isSome = true)
    (q5x2 : PySem.W.findIn K (.ref q5) "__getattribute__" = some (some (.builtin "BaseException.__getattribute__")))
    (q5x3 : PySem.W.findIn K (.ref q5) "__getattr__" = some none)
    (q5x5 : PySem.W.findIn K (.ref q5) "__class__" = some (some (.builtin "object.__class__")))
    (q5x6 : PySem.W.specialIn K (.builtin "object.__class__") "__get__" = some (some (.builtin "getset_descriptor.__get__")))
    (q5x7 : PySem.W.takesIn K (.builtin "object.__class__") = some true)
    (q5x8 : PySem.W.mroIn K q5 (.type "object") = some true)
    (q5x9 : PySem.W.hasDictIn K q5 = true)
    (q5nw : PySem.W.findIn K (.ref q5) "word" = some none)
    (q5na : PySem.W.findIn K (.ref q5) "at" = some none)
    (q5kv : PySem.W.kitOne K (.ref q5) (.type "ValueError") = some true)
    (q5kl : PySem.W.kitOne K (.ref q5) (.type "LookupError") = some false)
    (q6C : PySem.W.nsIn K mainGlobals "Full" = some (some (.ref q6)))
    (q6XX : K.lookup q6 = some (excClassObj q6nm q6qn q6 q6N q6bs [.ref q0, .type "ValueError", .type "Exception", .type "BaseException", .type "object"] true q6sn q6sub q6ab q6col q6dd q6m0 q6m1 q6m2 q6m3 q6m5 "ValueError.__new__"))
    (q6sa : PySem.W.findIn K (.ref q6) "__setattr__" = some (some (.builtin "object.__setattr__")))
    (q6ec : PySem.W.subIn K (.ref q6) (.type "BaseException") = some true)
    (q6ty : PySem.W.typeIn K (.ref q6) = some (.type "type"))
    (q6kc : PySem.W.keepIn K (.ref q6) = true)
    (q6rd : PySem.W.readsIn K q6 (.type "type") = true)
    (q6ga : PySem.W.specialIn K (.ref q6) "__getattribute__" = some (some (.builtin "type.__getattribute__")))
    (q6x1 : (PySem.W.clsIn K q6).isSome = true)
    (q6x2 : PySem.W.findIn K (.ref q6) "__getattribute__" = some (some (.builtin "BaseException.__getattribute__")))
    (q6x3 : PySem.W.findIn K (.ref q6) "__getattr__" = some none)
    (q6x5 : PySem.W.findIn K (.ref q6) "__class__" = some (some (.builtin "object.__class__")))
    (q6x6 : PySem.W.specialIn K (.builtin "object.__class__") "__get__" = some (some (.builtin "getset_descriptor.__get__")))
    (q6x7 : PySem.W.takesIn K (.builtin "object.__class__") = some true)
    (q6x8 : PySem.W.mroIn K q6 (.type "object") = some true)
    (q6x9 : PySem.W.hasDictIn K q6 = true)
    (q6nw : PySem.W.findIn K (.ref q6) "word" = some none)
    (q6na : PySem.W.findIn K (.ref q6) "at" = some none)
    (q6kv : PySem.W.kitOne K (.ref q6) (.type "ValueError") = some true)
    (q6kl : PySem.W.kitOne K (.ref q6) (.type "LookupError") = some false)
    (q7C : PySem.W.nsIn K mainGlobals "NoMachine" = some (some (.ref q7)))
    (q7XX : K.lookup q7 = some (excClassObj q7nm q7qn q7 q7N q7bs [.ref q0, .type "ValueError", .type "Exception", .type "BaseException", .type "object"] true q7sn q7sub q7ab q7col q7dd q7m0 q7m1 q7m2 q7m3 q7m5 "ValueError.__new__"))
    (q7sa : PySem.W.findIn K (.ref q7) "__setattr__" = some (some (.builtin "object.__setattr__")))
    (q7ec : PySem.W.subIn K (.ref q7) (.type "BaseException") = some true)
    (q7ty : PySem.W.typeIn K (.ref q7) = some (.type "type"))
    (q7kc : PySem.W.keepIn K (.ref q7) = true)
    (q7rd : PySem.W.readsIn K q7 (.type "type") = true)
    (q7ga : PySem.W.specialIn K (.ref q7) "__getattribute__" = some (some (.builtin "type.__getattribute__")))
    (q7x1 : (PySem.W.clsIn K q7).isSome = true)
    (q7x2 : PySem.W.findIn K (.ref q7) "__getattribute__" = some (some (.builtin "BaseException.__getattribute__")))
    (q7x3 : PySem.W.findIn K (.ref q7) "__getattr__" = some none)
    (q7x5 : PySem.W.findIn K (.ref q7) "__class__" = some (some (.builtin "object.__class__")))
    (q7x6 : PySem.W.specialIn K (.builtin "object.__class__") "__get__" = some (some (.builtin "getset_descriptor.__get__")))
    (q7x7 : PySem.W.takesIn K (.builtin "object.__class__") = some true)
    (q7x8 : PySem.W.mroIn K q7 (.type "object") = some true)
    (q7x9 : PySem.W.hasDictIn K q7 = true)
    (q7nw : PySem.W.findIn K (.ref q7) "word" = some none)
    (q7na : PySem.W.findIn K (.ref q7) "at" = some none)
    (q7kv : PySem.W.kitOne K (.ref q7) (.type "ValueError") = some true)
    (q7kl : PySem.W.kitOne K (.ref q7) (.type "LookupError") = some false)
    (q8C : PySem.W.nsIn K mainGlobals "NoRow" = some (some (.ref q8)))
    (q8XX : K.lookup q8 = some (excClassObj q8nm q8qn q8 q8N q8bs [.ref q0, .type "ValueError", .type "Exception", .type "BaseException", .type "object"] true q8sn q8sub q8ab q8col q8dd q8m0 q8m1 q8m2 q8m3 q8m5 "ValueError.__new__"))
    (q8sa : PySem.W.findIn K (.ref q8) "__setattr__" = some (some (.builtin "object.__setattr__")))
    (q8ec : PySem.W.subIn K (.ref q8) (.type "BaseException") = some true)
    (q8ty : PySem.W.typeIn K (.ref q8) = some (.type "type"))
    (q8kc : PySem.W.keepIn K (.ref q8) = true)
    (q8rd : PySem.W.readsIn K q8 (.type "type") = true)
    (q8ga : PySem.W.specialIn K (.ref q8) "__getattribute__" = some (some (.builtin "type.__getattribute__")))
    (q8x1 : (PySem.W.clsIn K q8).isSome = true)
    (q8x2 : PySem.W.findIn K (.ref q8) "__getattribute__" = some (some (.builtin "BaseException.__getattribute__")))
    (q8x3 : PySem.W.findIn K (.ref q8) "__getattr__" = some none)
    (q8x5 : PySem.W.findIn K (.ref q8) "__class__" = some (some (.builtin "object.__class__")))
    (q8x6 : PySem.W.specialIn K (.builtin "object.__class__") "__get__" = some (some (.builtin "getset_descriptor.__get__")))
    (q8x7 : PySem.W.takesIn K (.builtin "object.__class__") = some true)
    (q8x8 : PySem.W.mroIn K q8 (.type "object") = some true)
    (q8x9 : PySem.W.hasDictIn K q8 = true)
    (q8nw : PySem.W.findIn K (.ref q8) "word" = some none)
    (q8na : PySem.W.findIn K (.ref q8) "at" = some none)
    (q8kv : PySem.W.kitOne K (.ref q8) (.type "ValueError") = some true)
    (q8kl : PySem.W.kitOne K (.ref q8) (.type "LookupError") = some false)
    (q9C : PySem.W.nsIn K mainGlobals "Lab" = some (some (.ref q9)))
    (q9pg : PySem.W.plainGet K q9 Str.empty = true)
    (q9hd : PySem.W.hasDictIn K q9 = true)
    (q9po : PySem.W.plainOver K q9 = true)
    (q9sa : PySem.W.findIn K (.ref q9) "__setattr__" = some (some (.builtin "object.__setattr__")))
    (q9mk : PySem.W.makesIn K q9 = true)
    (q9kc : PySem.W.keepIn K (.ref q9) = true)
    (q9no_machine_pairs : PySem.W.findIn K (.ref q9) "machine_pairs" = some none)
    (q9no_row_pairs : PySem.W.findIn K (.ref q9) "row_pairs" = some none)
    (q9no_whole_moves : PySem.W.findIn K (.ref q9) "whole_moves" = some none)
    (q9no_machine_places : PySem.W.findIn K (.ref q9) "machine_places" = some none)
    (q9no_row_places : PySem.W.findIn K (.ref q9) "row_places" = some none)
    (q9no_stand_lists : PySem.W.findIn K (.ref q9) "stand_lists" = some none)
    (q9no_steps : PySem.W.findIn K (.ref q9) "steps" = some none)
    (q9oa : PySem.W.findIn K (.ref q9) "__class__" = some (some (.builtin "object.__class__")))
    (q9og : PySem.W.specialIn K (.builtin "object.__class__") "__get__" = some (some (.builtin "getset_descriptor.__get__")))
    (q9ot : PySem.W.takesIn K (.builtin "object.__class__") = some true)
    (q9om : PySem.W.mroIn K q9 (.type "object") = some true)
    (q9oi : PySem.W.kitOne K (.ref q9) (.ref q9) = some true)
    (q9on : PySem.W.findIn K (.ref q9) "__ne__" = some (some (.builtin "object.__ne__")))
    (q9os : PySem.W.kitOne K (.type "str") (.ref q9) = some false)
    (q9ok : PySem.W.kitOne K (.type "int") (.ref q9) = some false)
    (q9ou : PySem.W.kitOne K (.type "tuple") (.ref q9) = some false)
    (q9ol : PySem.W.kitOne K (.type "list") (.ref q9) = some false)
    (vV : PySem.W.findCls K (.type "ValueError") (.type "type") "__init__" = some (.val (.builtin "ValueError.__init__")))
    (a0 : PySem.W.findIn K (.ref q0) "__init__" = some (some (.ref f0)))
    (i0 : PySem.W.isFn K (.ref f0) = true)
    (l0 : K.lookup f0 = some ⟨oc0, od0, .func (PySem.W.fnOf "__init__" "LeakError.__init__" (defArgs s_LeakError_init) (defBody s_LeakError_init) (defScope s_LeakError_init) (.ref td0) kV0 dc0 pm0 an0 cd0 ct0), sl0⟩)
    (c0 : PySem.W.codeIn K cd0 "LeakError.__init__" = true)
    (k0 : PySem.W.keepIn K (.ref f0) = true)
    (t0 : K.lookup td0 = some ⟨ot0, ht0, .seq ([.int (-1) w0_0, .str (PySem.Str.ofString "leakerror") w0_1] : List Value).toArray nt0, st0⟩)
    (a1 : PySem.W.findIn K (.ref q1) "__init__" = some (some (.ref f1)))
    (i1 : PySem.W.isFn K (.ref f1) = true)
    (l1 : K.lookup f1 = some ⟨oc1, od1, .func (PySem.W.fnOf "__init__" "BadName.__init__" (defArgs s_BadName_init) (defBody s_BadName_init) (defScope s_BadName_init) (.ref td1) kV1 dc1 pm1 an1 cd1 ct1), sl1⟩)
    (c1 : PySem.W.codeIn K cd1 "BadName.__init__" = true)
    (k1 : PySem.W.keepIn K (.ref f1) = true)
    (t1 : K.lookup td1 = some ⟨ot1, ht1, .seq ([.int (-1) w1_0] : List Value).toArray nt1, st1⟩)
    (a2 : PySem.W.findIn K (.ref q2) "__init__" = some (some (.ref f2)))
    (i2 : PySem.W.isFn K (.ref f2) = true)
    (l2 : K.lookup f2 = some ⟨oc2, od2, .func (PySem.W.fnOf "__init__" "BadWord.__init__" (defArgs s_BadWord_init) (defBody s_BadWord_init) (defScope s_BadWord_init) (.ref td2) kV2 dc2 pm2 an2 cd2 ct2), sl2⟩)
    (c2 : PySem.W.codeIn K cd2 "BadWord.__init__" = true)
    (k2 : PySem.W.keepIn K (.ref f2) = true)
    (t2 : K.lookup td2 = some ⟨ot2, ht2, .seq ([.int (-1) w2_0] : List Value).toArray nt2, st2⟩)
    (a3 : PySem.W.findIn K (.ref q3) "__init__" = some (some (.ref f3)))
    (i3 : PySem.W.isFn K (.ref f3) = true)
    (l3 : K.lookup f3 = some ⟨oc3, od3, .func (PySem.W.fnOf "__init__" "BadAct.__init__" (defArgs s_BadAct_init) (defBody s_BadAct_init) (defScope s_BadAct_init) (.ref td3) kV3 dc3 pm3 an3 cd3 ct3), sl3⟩)
    (c3 : PySem.W.codeIn K cd3 "BadAct.__init__" = true)
    (k3 : PySem.W.keepIn K (.ref f3) = true)
    (t3 : K.lookup td3 = some ⟨ot3, ht3, .seq ([.int (-1) w3_0] : List Value).toArray nt3, st3⟩)
    (a4 : PySem.W.findIn K (.ref q4) "__init__" = some (some (.ref f4)))
    (i4 : PySem.W.isFn K (.ref f4) = true)
    (l4 : K.lookup f4 = some ⟨oc4, od4, .func (PySem.W.fnOf "__init__" "BadText.__init__" (defArgs s_BadText_init) (defBody s_BadText_init) (defScope s_BadText_init) (.ref td4) kV4 dc4 pm4 an4 cd4 ct4), sl4⟩)
    (c4 : PySem.W.codeIn K cd4 "BadText.__init__" = true)
    (k4 : PySem.W.keepIn K (.ref f4) = true)
    (t4 : K.lookup td4 = some ⟨ot4, ht4, .seq ([.int (-1) w4_0] : List Value).toArray nt4, st4⟩)
    (a5 : PySem.W.findIn K (.ref q5) "__init__" = some (some (.ref f5)))
    (i5 : PySem.W.isFn K (.ref f5) = true)
    (l5 : K.lookup f5 = some ⟨oc5, od5, .func (PySem.W.fnOf "__init__" "Taken.__init__" (defArgs s_Taken_init) (defBody s_Taken_init) (defScope s_Taken_init) (.ref td5) kV5 dc5 pm5 an5 cd5 ct5), sl5⟩)
    (c5 : PySem.W.codeIn K cd5 "Taken.__init__" = true)
    (k5 : PySem.W.keepIn K (.ref f5) = true)
    (t5 : K.lookup td5 = some ⟨ot5, ht5, .seq ([.int (-1) w5_0] : List Value).toArray nt5, st5⟩)
    (a6 : PySem.W.findIn K (.ref q6) "__init__" = some (some (.ref f6)))
    (i6 : PySem.W.isFn K (.ref f6) = true)
    (l6 : K.lookup f6 = some ⟨oc6, od6, .func (PySem.W.fnOf "__init__" "Full.__init__" (defArgs s_Full_init) (defBody s_Full_init) (defScope s_Full_init) (.ref td6) kV6 dc6 pm6 an6 cd6 ct6), sl6⟩)
    (c6 : PySem.W.codeIn K cd6 "Full.__init__" = true)
    (k6 : PySem.W.keepIn K (.ref f6) = true)
    (t6 : K.lookup td6 = some ⟨ot6, ht6, .seq ([.int (-1) w6_0] : List Value).toArray nt6, st6⟩)
    (a7 : PySem.W.findIn K (.ref q7) "__init__" = some (some (.ref f7)))
    (i7 : PySem.W.isFn K (.ref f7) = true)
    (l7 : K.lookup f7 = some ⟨oc7, od7, .func (PySem.W.fnOf "__init__" "NoMachine.__init__" (defArgs s_NoMachine_init) (defBody s_NoMachine_init) (defScope s_NoMachine_init) (.ref td7) kV7 dc7 pm7 an7 cd7 ct7), sl7⟩)
    (c7 : PySem.W.codeIn K cd7 "NoMachine.__init__" = true)
    (k7 : PySem.W.keepIn K (.ref f7) = true)
    (t7 : K.lookup td7 = some ⟨ot7, ht7, .seq ([.int (-1) w7_0] : List Value).toArray nt7, st7⟩)
    (a8 : PySem.W.findIn K (.ref q8) "__init__" = some (some (.ref f8)))
    (i8 : PySem.W.isFn K (.ref f8) = true)
    (l8 : K.lookup f8 = some ⟨oc8, od8, .func (PySem.W.fnOf "__init__" "NoRow.__init__" (defArgs s_NoRow_init) (defBody s_NoRow_init) (defScope s_NoRow_init) (.ref td8) kV8 dc8 pm8 an8 cd8 ct8), sl8⟩)
    (c8 : PySem.W.codeIn K cd8 "NoRow.__init__" = true)
    (k8 : PySem.W.keepIn K (.ref f8) = true)
    (t8 : K.lookup td8 = some ⟨ot8, ht8, .seq ([.int (-1) w8_0] : List Value).toArray nt8, st8⟩)
    (a9 : PySem.W.nsIn K mainGlobals "is_word" = some (some (.ref f9)))
    (l9 : K.lookup f9 = some ⟨oc9, od9, .func (PySem.W.fnOf "is_word" "is_word" (defArgs s_p_is_word) (defBody s_p_is_word) (defScope s_p_is_word) .none kV9 dc9 pm9 an9 cd9 ct9), sl9⟩)
    (c9 : PySem.W.codeIn K cd9 "is_word" = true)
    (k9 : PySem.W.keepIn K (.ref f9) = true)
    (a10 : PySem.W.nsIn K mainGlobals "is_name" = some (some (.ref f10)))
    (l10 : K.lookup f10 = some ⟨oc10, od10, .func (PySem.W.fnOf "is_name" "is_name" (defArgs s_p_is_name) (defBody s_p_is_name) (defScope s_p_is_name) .none kV10 dc10 pm10 an10 cd10 ct10), sl10⟩)
    (c10 : PySem.W.codeIn K cd10 "is_name" = true)
    (k10 : PySem.W.keepIn K (.ref f10) = true)
    (a11 : PySem.W.nsIn K mainGlobals "is_letter" = some (some (.ref f11)))
    (l11 : K.lookup f11 = some ⟨oc11, od11, .func (PySem.W.fnOf "is_letter" "is_letter" (defArgs s_p_is_letter) (defBody s_p_is_letter) (defScope s_p_is_letter) .none kV11 dc11 pm11 an11 cd11 ct11), sl11⟩)
    (c11 : PySem.W.codeIn K cd11 "is_letter" = true)
    (k11 : PySem.W.keepIn K (.ref f11) = true)
    (a12 : PySem.W.nsIn K mainGlobals "is_short_word" = some (some (.ref f12)))
    (l12 : K.lookup f12 = some ⟨oc12, od12, .func (PySem.W.fnOf "is_short_word" "is_short_word" (defArgs s_p_is_short_word) (defBody s_p_is_short_word) (defScope s_p_is_short_word) .none kV12 dc12 pm12 an12 cd12 ct12), sl12⟩)
    (c12 : PySem.W.codeIn K cd12 "is_short_word" = true)
    (k12 : PySem.W.keepIn K (.ref f12) = true)
    (a13 : PySem.W.nsIn K mainGlobals "check_machines" = some (some (.ref f13)))
    (l13 : K.lookup f13 = some ⟨oc13, od13, .func (PySem.W.fnOf "check_machines" "check_machines" (defArgs s_p_check_machines) (defBody s_p_check_machines) (defScope s_p_check_machines) .none kV13 dc13 pm13 an13 cd13 ct13), sl13⟩)
    (c13 : PySem.W.codeIn K cd13 "check_machines" = true)
    (k13 : PySem.W.keepIn K (.ref f13) = true)
    (a14 : PySem.W.nsIn K mainGlobals "check_rows" = some (some (.ref f14)))
    (l14 : K.lookup f14 = some ⟨oc14, od14, .func (PySem.W.fnOf "check_rows" "check_rows" (defArgs s_p_check_rows) (defBody s_p_check_rows) (defScope s_p_check_rows) .none kV14 dc14 pm14 an14 cd14 ct14), sl14⟩)
    (c14 : PySem.W.codeIn K cd14 "check_rows" = true)
    (k14 : PySem.W.keepIn K (.ref f14) = true)
    (a15 : PySem.W.nsIn K mainGlobals "check_act" = some (some (.ref f15)))
    (l15 : K.lookup f15 = some ⟨oc15, od15, .func (PySem.W.fnOf "check_act" "check_act" (defArgs s_p_check_act) (defBody s_p_check_act) (defScope s_p_check_act) .none kV15 dc15 pm15 an15 cd15 ct15), sl15⟩)
    (c15 : PySem.W.codeIn K cd15 "check_act" = true)
    (k15 : PySem.W.keepIn K (.ref f15) = true)
    (a16 : PySem.W.nsIn K mainGlobals "check_moves" = some (some (.ref f16)))
    (l16 : K.lookup f16 = some ⟨oc16, od16, .func (PySem.W.fnOf "check_moves" "check_moves" (defArgs s_p_check_moves) (defBody s_p_check_moves) (defScope s_p_check_moves) .none kV16 dc16 pm16 an16 cd16 ct16), sl16⟩)
    (c16 : PySem.W.codeIn K cd16 "check_moves" = true)
    (k16 : PySem.W.keepIn K (.ref f16) = true)
    (a17 : PySem.W.nsIn K mainGlobals "places_of" = some (some (.ref f17)))
    (l17 : K.lookup f17 = some ⟨oc17, od17, .func (PySem.W.fnOf "places_of" "places_of" (defArgs s_p_places_of) (defBody s_p_places_of) (defScope s_p_places_of) .none kV17 dc17 pm17 an17 cd17 ct17), sl17⟩)
    (c17 : PySem.W.codeIn K cd17 "places_of" = true)
    (k17 : PySem.W.keepIn K (.ref f17) = true)
    (a18 : PySem.W.nsIn K mainGlobals "stands_of" = some (some (.ref f18)))
    (l18 : K.lookup f18 = some ⟨oc18, od18, .func (PySem.W.fnOf "stands_of" "stands_of" (defArgs s_p_stands_of) (defBody s_p_stands_of) (defScope s_p_stands_of) .none kV18 dc18 pm18 an18 cd18 ct18), sl18⟩)
    (c18 : PySem.W.codeIn K cd18 "stands_of" = true)
    (k18 : PySem.W.keepIn K (.ref f18) = true)
    (a19 : PySem.W.nsIn K mainGlobals "step_of" = some (some (.ref f19)))
    (l19 : K.lookup f19 = some ⟨oc19, od19, .func (PySem.W.fnOf "step_of" "step_of" (defArgs s_p_step_of) (defBody s_p_step_of) (defScope s_p_step_of) .none kV19 dc19 pm19 an19 cd19 ct19), sl19⟩)
    (c19 : PySem.W.codeIn K cd19 "step_of" = true)
    (k19 : PySem.W.keepIn K (.ref f19) = true)
    (a20 : PySem.W.nsIn K mainGlobals "word_text" = some (some (.ref f20)))
    (l20 : K.lookup f20 = some ⟨oc20, od20, .func (PySem.W.fnOf "word_text" "word_text" (defArgs s_p_word_text) (defBody s_p_word_text) (defScope s_p_word_text) .none kV20 dc20 pm20 an20 cd20 ct20), sl20⟩)
    (c20 : PySem.W.codeIn K cd20 "word_text" = true)
    (k20 : PySem.W.keepIn K (.ref f20) = true)
    (a21 : PySem.W.nsIn K mainGlobals "act_text" = some (some (.ref f21)))
    (l21 : K.lookup f21 = some ⟨oc21, od21, .func (PySem.W.fnOf "act_text" "act_text" (defArgs s_p_act_text) (defBody s_p_act_text) (defScope s_p_act_text) .none kV21 dc21 pm21 an21 cd21 ct21), sl21⟩)
    (c21 : PySem.W.codeIn K cd21 "act_text" = true)
    (k21 : PySem.W.keepIn K (.ref f21) = true)
    (a22 : PySem.W.nsIn K mainGlobals "lab_lines" = some (some (.ref f22)))
    (l22 : K.lookup f22 = some ⟨oc22, od22, .func (PySem.W.fnOf "lab_lines" "lab_lines" (defArgs s_p_lab_lines) (defBody s_p_lab_lines) (defScope s_p_lab_lines) .none kV22 dc22 pm22 an22 cd22 ct22), sl22⟩)
    (c22 : PySem.W.codeIn K cd22 "lab_lines" = true)
    (k22 : PySem.W.keepIn K (.ref f22) = true)
    (a23 : PySem.W.findIn K (.ref q9) "__init__" = some (some (.ref f23)))
    (i23 : PySem.W.isFn K (.ref f23) = true)
    (l23 : K.lookup f23 = some ⟨oc23, od23, .func (PySem.W.fnOf "__init__" "Lab.__init__" (defArgs s_Lab_init) (defBody s_Lab_init) (defScope s_Lab_init) (.ref td23) kV23 dc23 pm23 an23 cd23 ct23), sl23⟩)
    (c23 : PySem.W.codeIn K cd23 "Lab.__init__" = true)
    (k23 : PySem.W.keepIn K (.ref f23) = true)
    (t23 : K.lookup td23 = some ⟨ot23, ht23, .seq ([.ref w23_0, .ref w23_1, .ref w23_2] : List Value).toArray nt23, st23⟩)
    (mt23_0 : K.lookup w23_0 = some ⟨.type "tuple", mc23_0, .seq #[] mn23_0, ms23_0⟩)
    (mt23_1 : K.lookup w23_1 = some ⟨.type "tuple", mc23_1, .seq #[] mn23_1, ms23_1⟩)
    (mt23_2 : K.lookup w23_2 = some ⟨.type "tuple", mc23_2, .seq #[] mn23_2, ms23_2⟩)
    (a24 : PySem.W.findIn K (.ref q9) "is_over" = some (some (.ref f24)))
    (i24 : PySem.W.isFn K (.ref f24) = true)
    (l24 : K.lookup f24 = some ⟨oc24, od24, .func (PySem.W.fnOf "is_over" "Lab.is_over" (defArgs s_Lab_is_over) (defBody s_Lab_is_over) (defScope s_Lab_is_over) .none kV24 dc24 pm24 an24 cd24 ct24), sl24⟩)
    (c24 : PySem.W.codeIn K cd24 "Lab.is_over" = true)
    (k24 : PySem.W.keepIn K (.ref f24) = true)
    (a25 : PySem.W.findIn K (.ref q9) "machines" = some (some (.ref f25)))
    (i25 : PySem.W.isFn K (.ref f25) = true)
    (l25 : K.lookup f25 = some ⟨oc25, od25, .func (PySem.W.fnOf "machines" "Lab.machines" (defArgs s_Lab_machines) (defBody s_Lab_machines) (defScope s_Lab_machines) .none kV25 dc25 pm25 an25 cd25 ct25), sl25⟩)
    (c25 : PySem.W.codeIn K cd25 "Lab.machines" = true)
    (k25 : PySem.W.keepIn K (.ref f25) = true)
    (a26 : PySem.W.findIn K (.ref q9) "rows" = some (some (.ref f26)))
    (i26 : PySem.W.isFn K (.ref f26) = true)
    (l26 : K.lookup f26 = some ⟨oc26, od26, .func (PySem.W.fnOf "rows" "Lab.rows" (defArgs s_Lab_rows) (defBody s_Lab_rows) (defScope s_Lab_rows) .none kV26 dc26 pm26 an26 cd26 ct26), sl26⟩)
    (c26 : PySem.W.codeIn K cd26 "Lab.rows" = true)
    (k26 : PySem.W.keepIn K (.ref f26) = true)
    (a27 : PySem.W.findIn K (.ref q9) "moves" = some (some (.ref f27)))
    (i27 : PySem.W.isFn K (.ref f27) = true)
    (l27 : K.lookup f27 = some ⟨oc27, od27, .func (PySem.W.fnOf "moves" "Lab.moves" (defArgs s_Lab_moves) (defBody s_Lab_moves) (defScope s_Lab_moves) .none kV27 dc27 pm27 an27 cd27 ct27), sl27⟩)
    (c27 : PySem.W.codeIn K cd27 "Lab.moves" = true)
    (k27 : PySem.W.keepIn K (.ref f27) = true)
    (a28 : PySem.W.findIn K (.ref q9) "begin" = some (some (.ref f28)))
    (i28 : PySem.W.isFn K (.ref f28) = true)
    (l28 : K.lookup f28 = some ⟨oc28, od28, .func (PySem.W.fnOf "begin" "Lab.begin" (defArgs s_Lab_begin) (defBody s_Lab_begin) (defScope s_Lab_begin) .none kV28 dc28 pm28 an28 cd28 ct28), sl28⟩)
    (c28 : PySem.W.codeIn K cd28 "Lab.begin" = true)
    (k28 : PySem.W.keepIn K (.ref f28) = true)
    (a29 : PySem.W.findIn K (.ref q9) "__eq__" = some (some (.ref f29)))
    (i29 : PySem.W.isFn K (.ref f29) = true)
    (l29 : K.lookup f29 = some ⟨oc29, od29, .func (PySem.W.fnOf "__eq__" "Lab.__eq__" (defArgs s_Lab_eq) (defBody s_Lab_eq) (defScope s_Lab_eq) .none kV29 dc29 pm29 an29 cd29 ct29), sl29⟩)
    (c29 : PySem.W.codeIn K cd29 "Lab.__eq__" = true)
    (k29 : PySem.W.keepIn K (.ref f29) = true)
    (a30 : PySem.W.findIn K (.ref q9) "__str__" = some (some (.ref f30)))
    (i30 : PySem.W.isFn K (.ref f30) = true)
    (l30 : K.lookup f30 = some ⟨oc30, od30, .func (PySem.W.fnOf "__str__" "Lab.__str__" (defArgs s_Lab_str) (defBody s_Lab_str) (defScope s_Lab_str) .none kV30 dc30 pm30 an30 cd30 ct30), sl30⟩)
    (c30 : PySem.W.codeIn K cd30 "Lab.__str__" = true)
    (k30 : PySem.W.keepIn K (.ref f30) = true)
    (a31 : PySem.W.nsIn K mainGlobals "read_word" = some (some (.ref f31)))
    (l31 : K.lookup f31 = some ⟨oc31, od31, .func (PySem.W.fnOf "read_word" "read_word" (defArgs s_p_read_word) (defBody s_p_read_word) (defScope s_p_read_word) .none kV31 dc31 pm31 an31 cd31 ct31), sl31⟩)
    (c31 : PySem.W.codeIn K cd31 "read_word" = true)
    (k31 : PySem.W.keepIn K (.ref f31) = true)
    (a32 : PySem.W.nsIn K mainGlobals "read_act" = some (some (.ref f32)))
    (l32 : K.lookup f32 = some ⟨oc32, od32, .func (PySem.W.fnOf "read_act" "read_act" (defArgs s_p_read_act) (defBody s_p_read_act) (defScope s_p_read_act) .none kV32 dc32 pm32 an32 cd32 ct32), sl32⟩)
    (c32 : PySem.W.codeIn K cd32 "read_act" = true)
    (k32 : PySem.W.keepIn K (.ref f32) = true)
    (a33 : PySem.W.nsIn K mainGlobals "thing_of" = some (some (.ref f33)))
    (l33 : K.lookup f33 = some ⟨oc33, od33, .func (PySem.W.fnOf "thing_of" "thing_of" (defArgs s_p_thing_of) (defBody s_p_thing_of) (defScope s_p_thing_of) .none kV33 dc33 pm33 an33 cd33 ct33), sl33⟩)
    (c33 : PySem.W.codeIn K cd33 "thing_of" = true)
    (k33 : PySem.W.keepIn K (.ref f33) = true)
    (a34 : PySem.W.nsIn K mainGlobals "read_line" = some (some (.ref f34)))
    (l34 : K.lookup f34 = some ⟨oc34, od34, .func (PySem.W.fnOf "read_line" "read_line" (defArgs s_p_read_line) (defBody s_p_read_line) (defScope s_p_read_line) .none kV34 dc34 pm34 an34 cd34 ct34), sl34⟩)
    (c34 : PySem.W.codeIn K cd34 "read_line" = true)
    (k34 : PySem.W.keepIn K (.ref f34) = true)
    (a35 : PySem.W.nsIn K mainGlobals "lab_text" = some (some (.ref f35)))
    (l35 : K.lookup f35 = some ⟨oc35, od35, .func (PySem.W.fnOf "lab_text" "lab_text" (defArgs s_p_lab_text) (defBody s_p_lab_text) (defScope s_p_lab_text) .none kV35 dc35 pm35 an35 cd35 ct35), sl35⟩)
    (c35 : PySem.W.codeIn K cd35 "lab_text" = true)
    (k35 : PySem.W.keepIn K (.ref f35) = true)
    (a36 : PySem.W.nsIn K mainGlobals "read_lab" = some (some (.ref f36)))
    (l36 : K.lookup f36 = some ⟨oc36, od36, .func (PySem.W.fnOf "read_lab" "read_lab" (defArgs s_p_read_lab) (defBody s_p_read_lab) (defScope s_p_read_lab) .none kV36 dc36 pm36 an36 cd36 ct36), sl36⟩)
    (c36 : PySem.W.codeIn K cd36 "read_lab" = true)
    (k36 : PySem.W.keepIn K (.ref f36) = true)
    (a37 : PySem.W.nsIn K mainGlobals "_law_bag" = some (some (.ref f37)))
    (l37 : K.lookup f37 = some ⟨oc37, od37, .func (PySem.W.fnOf "_law_bag" "_law_bag" (defArgs s_bag) (defBody s_bag) (defScope s_bag) .none kV37 dc37 pm37 an37 cd37 ct37), sl37⟩)
    (c37 : PySem.W.codeIn K cd37 "_law_bag" = true)
    (k37 : PySem.W.keepIn K (.ref f37) = true)
    (a38 : PySem.W.nsIn K mainGlobals "_law_pull" = some (some (.ref f38)))
    (l38 : K.lookup f38 = some ⟨oc38, od38, .func (PySem.W.fnOf "_law_pull" "_law_pull" (defArgs s_pull) (defBody s_pull) (defScope s_pull) .none kV38 dc38 pm38 an38 cd38 ct38), sl38⟩)
    (c38 : PySem.W.codeIn K cd38 "_law_pull" = true)
    (k38 : PySem.W.keepIn K (.ref f38) = true)
    (a39 : PySem.W.nsIn K mainGlobals "_law_of" = some (some (.ref f39)))
    (l39 : K.lookup f39 = some ⟨oc39, od39, .func (PySem.W.fnOf "_law_of" "_law_of" (defArgs s_of) (defBody s_of) (defScope s_of) .none kV39 dc39 pm39 an39 cd39 ct39), sl39⟩)
    (c39 : PySem.W.codeIn K cd39 "_law_of" = true)
    (k39 : PySem.W.keepIn K (.ref f39) = true)
    (a40 : PySem.W.nsIn K mainGlobals "_law_same" = some (some (.ref f40)))
    (l40 : K.lookup f40 = some ⟨oc40, od40, .func (PySem.W.fnOf "_law_same" "_law_same" (defArgs s_same) (defBody s_same) (defScope s_same) .none kV40 dc40 pm40 an40 cd40 ct40), sl40⟩)
    (c40 : PySem.W.codeIn K cd40 "_law_same" = true)
    (k40 : PySem.W.keepIn K (.ref f40) = true)
    (a41 : PySem.W.nsIn K mainGlobals "_law_letters" = some (some (.ref f41)))
    (l41 : K.lookup f41 = some ⟨oc41, od41, .func (PySem.W.fnOf "_law_letters" "_law_letters" (defArgs s_letters) (defBody s_letters) (defScope s_letters) .none kV41 dc41 pm41 an41 cd41 ct41), sl41⟩)
    (c41 : PySem.W.codeIn K cd41 "_law_letters" = true)
    (k41 : PySem.W.keepIn K (.ref f41) = true)
    (a42 : PySem.W.nsIn K mainGlobals "_law_names" = some (some (.ref f42)))
    (l42 : K.lookup f42 = some ⟨oc42, od42, .func (PySem.W.fnOf "_law_names" "_law_names" (defArgs s_names) (defBody s_names) (defScope s_names) .none kV42 dc42 pm42 an42 cd42 ct42), sl42⟩)
    (c42 : PySem.W.codeIn K cd42 "_law_names" = true)
    (k42 : PySem.W.keepIn K (.ref f42) = true)
    (a43 : PySem.W.nsIn K mainGlobals "_law_word" = some (some (.ref f43)))
    (l43 : K.lookup f43 = some ⟨oc43, od43, .func (PySem.W.fnOf "_law_word" "_law_word" (defArgs s_word) (defBody s_word) (defScope s_word) .none kV43 dc43 pm43 an43 cd43 ct43), sl43⟩)
    (c43 : PySem.W.codeIn K cd43 "_law_word" = true)
    (k43 : PySem.W.keepIn K (.ref f43) = true)
    (a44 : PySem.W.nsIn K mainGlobals "_law_plan" = some (some (.ref f44)))
    (l44 : K.lookup f44 = some ⟨oc44, od44, .func (PySem.W.fnOf "_law_plan" "_law_plan" (defArgs s_plan) (defBody s_plan) (defScope s_plan) .none kV44 dc44 pm44 an44 cd44 ct44), sl44⟩)
    (c44 : PySem.W.codeIn K cd44 "_law_plan" = true)
    (k44 : PySem.W.keepIn K (.ref f44) = true)
    (a45 : PySem.W.nsIn K mainGlobals "_law_act" = some (some (.ref f45)))
    (l45 : K.lookup f45 = some ⟨oc45, od45, .func (PySem.W.fnOf "_law_act" "_law_act" (defArgs s_act) (defBody s_act) (defScope s_act) .none kV45 dc45 pm45 an45 cd45 ct45), sl45⟩)
    (c45 : PySem.W.codeIn K cd45 "_law_act" = true)
    (k45 : PySem.W.keepIn K (.ref f45) = true)
    (a46 : PySem.W.nsIn K mainGlobals "_law_move" = some (some (.ref f46)))
    (l46 : K.lookup f46 = some ⟨oc46, od46, .func (PySem.W.fnOf "_law_move" "_law_move" (defArgs s_move) (defBody s_move) (defScope s_move) .none kV46 dc46 pm46 an46 cd46 ct46), sl46⟩)
    (c46 : PySem.W.codeIn K cd46 "_law_move" = true)
    (k46 : PySem.W.keepIn K (.ref f46) = true)
    (a47 : PySem.W.nsIn K mainGlobals "_law_lab" = some (some (.ref f47)))
    (l47 : K.lookup f47 = some ⟨oc47, od47, .func (PySem.W.fnOf "_law_lab" "_law_lab" (defArgs s_lab) (defBody s_lab) (defScope s_lab) .none kV47 dc47 pm47 an47 cd47 ct47), sl47⟩)
    (c47 : PySem.W.codeIn K cd47 "_law_lab" = true)
    (k47 : PySem.W.keepIn K (.ref f47) = true)
    (a48 : PySem.W.nsIn K mainGlobals "_law_begin" = some (some (.ref f48)))
    (l48 : K.lookup f48 = some ⟨oc48, od48, .func (PySem.W.fnOf "_law_begin" "_law_begin" (defArgs s_begin) (defBody s_begin) (defScope s_begin) .none kV48 dc48 pm48 an48 cd48 ct48), sl48⟩)
    (c48 : PySem.W.codeIn K cd48 "_law_begin" = true)
    (k48 : PySem.W.keepIn K (.ref f48) = true)
    (a49 : PySem.W.nsIn K mainGlobals "_law_lab_lines" = some (some (.ref f49)))
    (l49 : K.lookup f49 = some ⟨oc49, od49, .func (PySem.W.fnOf "_law_lab_lines" "_law_lab_lines" (defArgs s_lab_lines) (defBody s_lab_lines) (defScope s_lab_lines) .none kV49 dc49 pm49 an49 cd49 ct49), sl49⟩)
    (c49 : PySem.W.codeIn K cd49 "_law_lab_lines" = true)
    (k49 : PySem.W.keepIn K (.ref f49) = true)
    (a50 : PySem.W.nsIn K mainGlobals "_law_text_of" = some (some (.ref f50)))
    (l50 : K.lookup f50 = some ⟨oc50, od50, .func (PySem.W.fnOf "_law_text_of" "_law_text_of" (defArgs s_text_of) (defBody s_text_of) (defScope s_text_of) .none kV50 dc50 pm50 an50 cd50 ct50), sl50⟩)
    (c50 : PySem.W.codeIn K cd50 "_law_text_of" = true)
    (k50 : PySem.W.keepIn K (.ref f50) = true)
    (a51 : PySem.W.nsIn K mainGlobals "law" = some (some (.ref f51)))
    (l51 : K.lookup f51 = some ⟨oc51, od51, .func (PySem.W.fnOf "law" "law" (defArgs s_law) (defBody s_law) (defScope s_law) .none kV51 dc51 pm51 an51 cd51 ct51), sl51⟩)
    (c51 : PySem.W.codeIn K cd51 "law" = true)
    (k51 : PySem.W.keepIn K (.ref f51) = true)
    (q0ti : PySem.W.typeIn K (.ref f0) = some (.type "function"))
    (q0fn : PySem.W.findCls K (.ref q0) (.type "type") "__init__" = some (.val (.ref f0)))
    (q0em : PySem.W.exmOne K (.ref q0) (.ref q0) = some true)
    (q1ti : PySem.W.typeIn K (.ref f1) = some (.type "function"))
    (q1fn : PySem.W.findCls K (.ref q1) (.type "type") "__init__" = some (.val (.ref f1)))
    (q1em : PySem.W.exmOne K (.ref q1) (.ref q0) = some true)
    (q2ti : PySem.W.typeIn K (.ref f2) = some (.type "function"))
    (q2fn : PySem.W.findCls K (.ref q2) (.type "type") "__init__" = some (.val (.ref f2)))
    (q2em : PySem.W.exmOne K (.ref q2) (.ref q0) = some true)
    (q3ti : PySem.W.typeIn K (.ref f3) = some (.type "function"))
    (q3fn : PySem.W.findCls K (.ref q3) (.type "type") "__init__" = some (.val (.ref f3)))
    (q3em : PySem.W.exmOne K (.ref q3) (.ref q0) = some true)
    (q4ti : PySem.W.typeIn K (.ref f4) = some (.type "function"))
    (q4fn : PySem.W.findCls K (.ref q4) (.type "type") "__init__" = some (.val (.ref f4)))
    (q4em : PySem.W.exmOne K (.ref q4) (.ref q0) = some true)
    (q5ti : PySem.W.typeIn K (.ref f5) = some (.type "function"))
    (q5fn : PySem.W.findCls K (.ref q5) (.type "type") "__init__" = some (.val (.ref f5)))
    (q5em : PySem.W.exmOne K (.ref q5) (.ref q0) = some true)
    (q6ti : PySem.W.typeIn K (.ref f6) = some (.type "function"))
    (q6fn : PySem.W.findCls K (.ref q6) (.type "type") "__init__" = some (.val (.ref f6)))
    (q6em : PySem.W.exmOne K (.ref q6) (.ref q0) = some true)
    (q7ti : PySem.W.typeIn K (.ref f7) = some (.type "function"))
    (q7fn : PySem.W.findCls K (.ref q7) (.type "type") "__init__" = some (.val (.ref f7)))
    (q7em : PySem.W.exmOne K (.ref q7) (.ref q0) = some true)
    (q8ti : PySem.W.typeIn K (.ref f8) = some (.type "function"))
    (q8fn : PySem.W.findCls K (.ref q8) (.type "type") "__init__" = some (.val (.ref f8)))
    (q8em : PySem.W.exmOne K (.ref q8) (.ref q0) = some true)
    (z0 : PySem.W.nsIn K mainGlobals "ValueError" = some none)
    (z1 : PySem.W.nsIn K mainGlobals "all" = some none)
    (z2 : PySem.W.nsIn K mainGlobals "any" = some none)
    (z3 : PySem.W.nsIn K mainGlobals "bool" = some none)
    (z4 : PySem.W.nsIn K mainGlobals "enumerate" = some none)
    (z5 : PySem.W.nsIn K mainGlobals "int" = some none)
    (z6 : PySem.W.nsIn K mainGlobals "isinstance" = some none)
    (z7 : PySem.W.nsIn K mainGlobals "len" = some none)
    (z8 : PySem.W.nsIn K mainGlobals "list" = some none)
    (z9 : PySem.W.nsIn K mainGlobals "range" = some none)
    (z10 : PySem.W.nsIn K mainGlobals "set" = some none)
    (z11 : PySem.W.nsIn K mainGlobals "sorted" = some none)
    (z12 : PySem.W.nsIn K mainGlobals "str" = some none)
    (z13 : PySem.W.nsIn K mainGlobals "tuple" = some none)
    (z14 : PySem.W.nsIn K mainGlobals "zip" = some none)
    {u0 : Value}
    (d0 : PySem.W.nsIn K mainGlobals "LETTERS" = some (some u0))
    (e0 : RelV (V.str (PySem.Str.ofString "abcdefghijklmnopqrstuvwxyz")) u0)
    {u1 : Value}
    (d1 : PySem.W.nsIn K mainGlobals "MOST_NAME" = some (some u1))
    (e1 : RelV (V.int 8) u1)
    {u2 : Value}
    (d2 : PySem.W.nsIn K mainGlobals "MOST_MACHINES" = some (some u2))
    (e2 : RelV (V.int 3) u2)
    {u3 : Value}
    (d3 : PySem.W.nsIn K mainGlobals "MOST_ROWS" = some (some u3))
    (e3 : RelV (V.int 3) u3)
    {u4 : Value}
    (d4 : PySem.W.nsIn K mainGlobals "MOST_MOVES" = some (some u4))
    (e4 : RelV (V.int 24) u4)
    {u5 : Value}
    (d5 : PySem.W.nsIn K mainGlobals "MOST_STANDS" = some (some u5))
    (e5 : RelV (V.int 6) u5)
    {u6 : Value}
    (d6 : PySem.W.nsIn K mainGlobals "MOST_WORD" = some (some u6))
    (e6 : RelV (V.int 8) u6)
    {uD7 : Addr}
    (d7 : PySem.W.nsIn K mainGlobals "ACT_SIZES" = some (some (.ref uD7)))
    (kd7 : He.dicW K uD7 = some (He.keysIn w.params ["send", "take", "bare", "idle"]))
    (kn7_0 : ∃ t, PySem.W.nsIn K uD7 "send" = some (some (.int 3 t)))
    (kn7_1 : ∃ t, PySem.W.nsIn K uD7 "take" = some (some (.int 3 t)))
    (kn7_2 : ∃ t, PySem.W.nsIn K uD7 "bare" = some (some (.int 2 t)))
    (kn7_3 : ∃ t, PySem.W.nsIn K uD7 "idle" = some (some (.int 1 t)))
    {uD8 : Addr}
    (d8 : PySem.W.nsIn K mainGlobals "LINE_SIZES" = some (some (.ref uD8)))
    (kd8 : He.dicW K uD8 = some (He.keysIn w.params ["machine", "row", "move"]))
    (kn8_0 : ∃ t, PySem.W.nsIn K uD8 "machine" = some (some (.int 3 t)))
    (kn8_1 : ∃ t, PySem.W.nsIn K uD8 "row" = some (some (.int 3 t)))
    (kn8_2 : ∃ t, PySem.W.nsIn K uD8 "move" = some (some (.int 5 t)))
   , ∃ fd : FuncData, (∀ (s : Shared) (v : Value), BindsTo s fd ⟨[v], []⟩ [("_law_script", v)]) ∧ ∀ base : Heap, K.In base → base.Ns mainGlobals mg → FnOk l.prog w K mg base CX0 14 fa fd ["_law_script"] (sp_law K)
end K49
section
namespace Hd
open PySem PySem.W PySem.Calls PyProof.Rows
abbrev R : OpenRow := OpenLaw.row PySem.Challenge.rw_leakpost_k49_labs_written
abbrev qv : Program := view R.prog [58]
def names0 : List PySem.Str := ["LeakError", "BadName", "BadWord", "BadAct", "BadText", "Taken", "Full", "NoMachine", "NoRow", "LETTERS", "MOST_NAME", "is_word", "is_name", "is_letter", "MOST_MACHINES", "MOST_ROWS"]
def names1 : List PySem.Str := ["MOST_MOVES", "MOST_STANDS", "MOST_WORD", "ACT_SIZES", "is_short_word", "check_machines", "check_rows", "check_act", "check_moves", "places_of", "stands_of", "step_of", "word_text", "act_text", "lab_lines", "Lab"]
def names2 : List PySem.Str := ["LINE_SIZES", "read_word", "read_act", "thing_of", "read_line", "lab_text", "read_lab", "_law_bag", "_law_pull", "_law_of", "_law_same", "_law_letters", "_law_names", "_law_word", "_law_plan", "_law_act"]
def names3 : List PySem.Str := ["_law_move", "_law_lab", "_law_begin", "_law_lab_lines", "_law_text_of"]
def names : List PySem.Str := names0 ++ names1 ++ names2 ++ names3
end Hd
open PySem PySem.W PySem.Calls PyProof.Rows
local macro_rules | `(tactic| o_head $H) => do let hw := Lean.mkIdent `hw; let hc := Lean.mkIdent `hc; `(tactic| (
  refine PySem.W.holds_open (r := Hd.R) (q := Hd.qv) (loose := Hd.names) (Xt := fun s => xlAt Hd.qv [] s && recOk Hd.R.toRowW.records s) (XP := XL Hd.qv []) (Yf := Hook.obs $H) (Ya := Hook.val $H) (YP := Hook.says $H) (d := HandSHeadRun.topDef Hd.R.prog 58) (kwd := []) (N := 40600) ?_ (Hook.of $H) (Hook.keeps $H) (fun s e => xl_of s (Bool.and_eq_true_iff.mp e).1) XL.keeps (by kernel_rfl) (by kernel_rfl) (by kernel_rfl) (fun s e => recFacts_of (Bool.and_eq_true_iff.mp e).2) (by rfl) (by first | assumption | decide +kernel) (by decide +kernel) ⟨rfl, rfl, rfl, rfl, rfl, by decide +kernel⟩ ?$hw ?$hc
  · refine HeadRun.left_oneK (M := 40000) (by kernel_rfl) (by rfl) (fun s => by kernel_rfl) (by rfl) ?_
    refine byRow2 "special-get-raises" (fun w os => ?_) (fun w os => ?_)
    · kernel_rfl
    · kernel_rfl))
set_option maxHeartbeats 0 in
open_top Hd.top for PySem.Challenge.rw_leakpost_k49_labs_written
set_option maxHeartbeats 0 in
theorem fin_of (H : K49.AllMk) : PySem.Challenge.rw_leakpost_k49_labs_written.Holds := by
  refine Hd.top ?_
  k_fill
  refine L2.walk_of (l := PySem.Challenge.rw_leakpost_k49_labs_written) (n := 63) (k := 14) (x := "_law_script") (CX := fun _ => L2.CX0) (sp := fun w => K49.sp_law _) rfl (by decide) rfl ⟨rfl, by decide, by decide⟩ (fun w h Y => PySem.W.kIn_of Y) ?F (fun _ _ a ns hl _ hS => ⟨a, ns, rfl, hS, hl, fun _ => rfl⟩) (fun _ _ _ _ _ h => h)
  case F =>
    intro w mg fa h KX G hmg
    refine' H KX G hmg ?q0C ?q0XX ?q0sa ?q0ec ?q0ty ?q0kc ?q0rd ?q0ga ?q0x1 ?q0x2 ?q0x3 ?q0x5 ?q0x6 ?q0x7 ?q0x8 ?q0x9 ?q0nw ?q0na ?q0kv ?q0kl ?q1C ?q1XX ?q1sa ?q1ec ?q1ty ?q1kc ?q1rd ?q1ga ?q1x1 ?q1x2 ?q1x3 ?q1x5 ?q1x6 ?q1x7 ?q1x8 ?q1x9 ?q1nw ?q1na ?q1kv ?q1kl ?q2C ?q2XX ?q2sa ?q2ec ?q2ty ?q2kc ?q2rd ?q2ga ?q2x1 ?q2x2 ?q2x3 ?q2x5 ?q2x6 ?q2x7 ?q2x8 ?q2x9 ?q2nw ?q2na ?q2kv ?q2kl ?q3C ?q3XX ?q3sa ?q3ec ?q3ty ?q3kc ?q3rd ?q3ga ?q3x1 ?q3x2 ?q3x3 ?q3x5 ?q3x6 ?q3x7 ?q3x8 ?q3x9 ?q3nw ?q3na ?q3kv ?q3kl ?q4C ?q4XX ?q4sa ?q4ec ?q4ty ?q4kc ?q4rd ?q4ga ?q4x1 ?q4x2 ?q4x3 ?q4x5 ?q4x6 ?q4x7 ?q4x8 ?q4x9 ?q4nw ?q4na ?q4kv ?q4kl ?q5C ?q5XX ?q5sa ?q5ec ?q5ty ?q5kc ?q5rd ?q5ga ?q5x1 ?q5x2 ?q5x3 ?q5x5 ?q5x6 ?q5x7 ?q5x8 ?q5x9 ?q5nw ?q5na ?q5kv ?q5kl ?q6C ?q6XX ?q6sa ?q6ec ?q6ty ?q6kc ?q6rd ?q6ga ?q6x1 ?q6x2 ?q6x3 ?q6x5 ?q6x6 ?q6x7 ?q6x8 ?q6x9 ?q6nw ?q6na ?q6kv ?q6kl ?q7C ?q7XX ?q7sa ?q7ec ?q7ty ?q7kc ?q7rd ?q7ga ?q7x1 ?q7x2 ?q7x3 ?q7x5 ?q7x6 ?q7x7 ?q7x8 ?q7x9 ?q7nw ?q7na ?q7kv ?q7kl ?q8C ?q8XX ?q8sa ?q8ec ?q8ty ?q8kc ?q8rd ?q8ga ?q8x1 ?q8x2 ?q8x3 ?q8x5 ?q8x6 ?q8x7 ?q8x8 ?q8x9 ?q8nw ?q8na ?q8kv ?q8kl ?q9C ?q9pg ?q9hd ?q9po ?q9sa ?q9mk ?q9kc ?q9no_machine_pairs ?q9no_row_pairs ?q9no_whole_moves ?q9no_machine_places ?q9no_row_places ?q9no_stand_lists ?q9no_steps ?q9oa ?q9og ?q9ot ?q9om ?q9oi ?q9on ?q9os ?q9ok ?q9ou ?q9ol ?vV ?a0 ?i0 ?l0 ?c0 ?k0 ?t0 ?a1 ?i1 ?l1 ?c1 ?k1 ?t1 ?a2 ?i2 ?l2 ?c2 ?k2 ?t2 ?a3 ?i3 ?l3 ?c3 ?k3 ?t3 ?a4 ?i4 ?l4 ?c4 ?k4 ?t4 ?a5 ?i5 ?l5 ?c5 ?k5 ?t5 ?a6 ?i6 ?l6 ?c6 ?k6 ?t6 ?a7 ?i7 ?l7 ?c7 ?k7 ?t7 ?a8 ?i8 ?l8 ?c8 ?k8 ?t8 ?a9 ?l9 ?c9 ?k9 ?a10 ?l10 ?c10 ?k10 ?a11 ?l11 ?c11 ?k11 ?a12 ?l12 ?c12 ?k12 ?a13 ?l13 ?c13 ?k13 ?a14 ?l14 ?c14 ?k14 ?a15 ?l15 ?c15 ?k15 ?a16 ?l16 ?c16 ?k16 ?a17 ?l17 ?c17 ?k17 ?a18 ?l18 ?c18 ?k18 ?a19 ?l19 ?c19 ?k19 ?a20 ?l20 ?c20 ?k20 ?a21 ?l21 ?c21 ?k21 ?a22 ?l22 ?c22 ?k22 ?a23 ?i23 ?l23 ?c23 ?k23 ?t23 ?mt23_0 ?mt23_1 ?mt23_2 ?a24 ?i24 ?l24 ?c24 ?k24 ?a25 ?i25 ?l25 ?c25 ?k25 ?a26 ?i26 ?l26 ?c26 ?k26 ?a27 ?i27 ?l27 ?c27 ?k27 ?a28 ?i28 ?l28 ?c28 ?k28 ?a29 ?i29 ?l29 ?c29 ?k29 ?a30 ?i30 ?l30 ?c30 ?k30 ?a31 ?l31 ?c31 ?k31 ?a32 ?l32 ?c32 ?k32 ?a33 ?l33 ?c33 ?k33 ?a34 ?l34 ?c34 ?k34 ?a35 ?l35 ?c35 ?k35 ?a36 ?l36 ?c36 ?k36 ?a37 ?l37 ?c37 ?k37 ?a38 ?l38 ?c38 ?k38 ?a39 ?l39 ?c39 ?k39 ?a40 ?l40 ?c40 ?k40 ?a41 ?l41 ?c41 ?k41 ?a42 ?l42 ?c42 ?k42 ?a43 ?l43 ?c43 ?k43 ?a44 ?l44 ?c44 ?k44 ?a45 ?l45 ?c45 ?k45 ?a46 ?l46 ?c46 ?k46 ?a47 ?l47 ?c47 ?k47 ?a48 ?l48 ?c48 ?k48 ?a49 ?l49 ?c49 ?k49 ?a50 ?l50 ?c50 ?k50 ?a51 ?l51 ?c51 ?k51 ?q0ti ?q0fn ?q0em ?q1ti ?q1fn ?q1em ?q2ti ?q2fn ?q2em ?q3ti ?q3fn ?q3em ?q4ti ?q4fn ?q4em ?q5ti ?q5fn ?q5em ?q6ti ?q6fn ?q6em ?q7ti ?q7fn ?q7em ?q8ti ?q8fn ?q8em ?z0 ?z1 ?z2 ?z3 ?z4 ?z5 ?z6 ?z7 ?z8 ?z9 ?z10 ?z11 ?z12 ?z13 ?z14 ?d0 ?e0 ?d1 ?e1 ?d2 ?e2 ?d3 ?e3 ?d4 ?e4 ?d5 ?e5 ?d6 ?e6 ?d7 ?kd7 ?kn7_0 ?kn7_1 ?kn7_2 ?kn7_3 ?d8 ?kd8 ?kn8_0 ?kn8_1 ?kn8_2
    (case q0C => k_is)
    (case q0XX => k_is)
    (case q0sa => k_is)
    (case q0ec => k_is)
    (case q0ty => k_is)
    (case q0kc => k_is)
    (case q0rd => k_is)
    (case q0ga => k_is)
    (case q0x1 => first | rfl | decide +kernel | k_is)
    (case q0x2 => k_is)
    (case q0x3 => k_is)
    (case q0x5 => k_is)
    (case q0x6 => k_is)
    (case q0x7 => k_is)
    (case q0x8 => k_is)
    (case q0x9 => k_is)
    (case q0nw => k_is)
    (case q0na => k_is)
    (case q0kv => first | rfl | decide +kernel | k_is)
    (case q0kl => first | rfl | decide +kernel | k_is)
    (case q1C => k_is)
    (case q1XX => k_is)
    (case q1sa => k_is)
    (case q1ec => k_is)
    (case q1ty => k_is)
    (case q1kc => k_is)
    (case q1rd => k_is)
    (case q1ga => k_is)
    (case q1x1 => first | rfl | decide +kernel | k_is)
    (case q1x2 => k_is)
    (case q1x3 => k_is)
    (case q1x5 => k_is)
    (case q1x6 => k_is)
    (case q1x7 => k_is)
    (case q1x8 => k_is)
    (case q1x9 => k_is)
    (case q1nw => k_is)
    (case q1na => k_is)
    (case q1kv => first | rfl | decide +kernel | k_is)
    (case q1kl => first | rfl | decide +kernel | k_is)
    (case q2C => k_is)
    (case q2XX => k_is)
    (case q2sa => k_is)
    (case q2ec => k_is)
    (case q2ty => k_is)
    (case q2kc => k_is)
    (case q2rd => k_is)
    (case q2ga => k_is)
    (case q2x1 => first | rfl | decide +kernel | k_is)
    (case q2x2 => k_is)
    (case q2x3 => k_is)
    (case q2x5 => k_is)
    (case q2x6 => k_is)
    (case q2x7 => k_is)
    (case q2x8 => k_is)
    (case q2x9 => k_is)
    (case q2nw => k_is)
    (case q2na => k_is)
    (case q2kv => first | rfl | decide +kernel | k_is)
    (case q2kl => first | rfl | decide +kernel | k_is)
    (case q3C => k_is)
    (case q3XX => k_is)
    (case q3sa => k_is)
    (case q3ec => k_is)
    (case q3ty => k_is)
    (case q3kc => k_is)
    (case q3rd => k_is)
    (case q3ga => k_is)
    (case q3x1 => first | rfl | decide +kernel | k_is)
    (case q3x2 => k_is)
    (case q3x3 => k_is)
    (case q3x5 => k_is)
    (case q3x6 => k_is)
    (case q3x7 => k_is)
    (case q3x8 => k_is)
    (case q3x9 => k_is)
    (case q3nw => k_is)
    (case q3na => k_is)
    (case q3kv => first | rfl | decide +kernel | k_is)
    (case q3kl => first | rfl | decide +kernel | k_is)
    (case q4C => k_is)
    (case q4XX => k_is)
    (case q4sa => k_is)
    (case q4ec => k_is)
    (case q4ty => k_is)
    (case q4kc => k_is)
    (case q4rd => k_is)
    (case q4ga => k_is)
    (case q4x1 => first | rfl | decide +kernel | k_is)
    (case q4x2 => k_is)
    (case q4x3 => k_is)
    (case q4x5 => k_is)
    (case q4x6 => k_is)
    (case q4x7 => k_is)
    (case q4x8 => k_is)
    (case q4x9 => k_is)
    (case q4nw => k_is)
    (case q4na => k_is)
    (case q4kv => first | rfl | decide +kernel | k_is)
    (case q4kl => first | rfl | decide +kernel | k_is)
    (case q5C => k_is)
    (case q5XX => k_is)
    (case q5sa => k_is)
    (case q5ec => k_is)
    (case q5ty => k_is)
    (case q5kc => k_is)
    (case q5rd => k_is)
    (case q5ga => k_is)
    (case q5x1 => first | rfl | decide +kernel | k_is)
    (case q5x2 => k_is)
    (case q5x3 => k_is)
    (case q5x5 => k_is)
    (case q5x6 => k_is)
    (case q5x7 => k_is)
    (case q5x8 => k_is)
    (case q5x9 => k_is)
    (case q5nw => k_is)
    (case q5na => k_is)
    (case q5kv => first | rfl | decide +kernel | k_is)
    (case q5kl => first | rfl | decide +kernel | k_is)
    (case q6C => k_is)
    (case q6XX => k_is)
    (case q6sa => k_is)
    (case q6ec => k_is)
    (case q6ty => k_is)
    (case q6kc => k_is)
    (case q6rd => k_is)
    (case q6ga => k_is)
    (case q6x1 => first | rfl | decide +kernel | k_is)
    (case q6x2 => k_is)
    (case q6x3 => k_is)
    (case q6x5 => k_is)
    (case q6x6 => k_is)
    (case q6x7 => k_is)
    (case q6x8 => k_is)
    (case q6x9 => k_is)
    (case q6nw => k_is)
    (case q6na => k_is)
    (case q6kv => first | rfl | decide +kernel | k_is)
    (case q6kl => first | rfl | decide +kernel | k_is)
    (case q7C => k_is)
    (case q7XX => k_is)
    (case q7sa => k_is)
    (case q7ec => k_is)
    (case q7ty => k_is)
    (case q7kc => k_is)
    (case q7rd => k_is)
    (case q7ga => k_is)
    (case q7x1 => first | rfl | decide +kernel | k_is)
    (case q7x2 => k_is)
    (case q7x3 => k_is)
    (case q7x5 => k_is)
    (case q7x6 => k_is)
    (case q7x7 => k_is)
    (case q7x8 => k_is)
    (case q7x9 => k_is)
    (case q7nw => k_is)
    (case q7na => k_is)
    (case q7kv => first | rfl | decide +kernel | k_is)
    (case q7kl => first | rfl | decide +kernel | k_is)
    (case q8C => k_is)
    (case q8XX => k_is)
    (case q8sa => k_is)
    (case q8ec => k_is)
    (case q8ty => k_is)
    (case q8kc => k_is)
    (case q8rd => k_is)
    (case q8ga => k_is)
    (case q8x1 => first | rfl | decide +kernel | k_is)
    (case q8x2 => k_is)
    (case q8x3 => k_is)
    (case q8x5 => k_is)
    (case q8x6 => k_is)
    (case q8x7 => k_is)
    (case q8x8 => k_is)
    (case q8x9 => k_is)
    (case q8nw => k_is)
    (case q8na => k_is)
    (case q8kv => first | rfl | decide +kernel | k_is)
    (case q8kl => first | rfl | decide +kernel | k_is)
    (case q9C => k_is)
    (case q9pg => k_is)
    (case q9hd => k_is)
    (case q9po => k_is)
    (case q9sa => k_is)
    (case q9mk => k_is)
    (case q9kc => k_is)
    (case q9no_machine_pairs => k_is)
    (case q9no_row_pairs => k_is)
    (case q9no_whole_moves => k_is)
    (case q9no_machine_places => k_is)
    (case q9no_row_places => k_is)
    (case q9no_stand_lists => k_is)
    (case q9no_steps => k_is)
    (case q9oa => k_is)
    (case q9og => k_is)
    (case q9ot => k_is)
    (case q9om => k_is)
    (case q9oi => first | rfl | decide +kernel | k_is)
    (case q9on => k_is)
    (case q9os => first | rfl | decide +kernel | k_is)
    (case q9ok => first | rfl | decide +kernel | k_is)
    (case q9ou => first | rfl | decide +kernel | k_is)
    (case q9ol => first | rfl | decide +kernel | k_is)
    (case vV => k_is)
    (case a0 => k_is)
    (case i0 => k_is)
    (case l0 => k_is)
    (case c0 => k_is)
    (case k0 => k_is)
    (case t0 => k_is)
    (case a1 => k_is)
    (case i1 => k_is)
    (case l1 => k_is)
    (case c1 => k_is)
    (case k1 => k_is)
    (case t1 => k_is)
    (case a2 => k_is)
    (case i2 => k_is)
    (case l2 => k_is)
    (case c2 => k_is)
    (case k2 => k_is)
    (case t2 => k_is)
    (case a3 => k_is)
    (case i3 => k_is)
    (case l3 => k_is)
    (case c3 => k_is)
    (case k3 => k_is)
    (case t3 => k_is)
    (case a4 => k_is)
    (case i4 => k_is)
    (case l4 => k_is)
    (case c4 => k_is)
    (case k4 => k_is)
    (case t4 => k_is)
    (case a5 => k_is)
    (case i5 => k_is)
    (case l5 => k_is)
    (case c5 => k_is)
    (case k5 => k_is)
    (case t5 => k_is)
    (case a6 => k_is)
    (case i6 => k_is)
    (case l6 => k_is)
    (case c6 => k_is)
    (case k6 => k_is)
    (case t6 => k_is)
    (case a7 => k_is)
    (case i7 => k_is)
    (case l7 => k_is)
    (case c7 => k_is)
    (case k7 => k_is)
    (case t7 => k_is)
    (case a8 => k_is)
    (case i8 => k_is)
    (case l8 => k_is)
    (case c8 => k_is)
    (case k8 => k_is)
    (case t8 => k_is)
    (case a9 => k_is)
    (case l9 => k_is)
    (case c9 => k_is)
    (case k9 => k_is)
    (case a10 => k_is)
    (case l10 => k_is)
    (case c10 => k_is)
    (case k10 => k_is)
    (case a11 => k_is)
    (case l11 => k_is)
    (case c11 => k_is)
    (case k11 => k_is)
    (case a12 => k_is)
    (case l12 => k_is)
    (case c12 => k_is)
    (case k12 => k_is)
    (case a13 => k_is)
    (case l13 => k_is)
    (case c13 => k_is)
    (case k13 => k_is)
    (case a14 => k_is)
    (case l14 => k_is)
    (case c14 => k_is)
    (case k14 => k_is)
    (case a15 => k_is)
    (case l15 => k_is)
    (case c15 => k_is)
    (case k15 => k_is)
    (case a16 => k_is)
    (case l16 => k_is)
    (case c16 => k_is)
    (case k16 => k_is)
    (case a17 => k_is)
    (case l17 => k_is)
    (case c17 => k_is)
    (case k17 => k_is)
    (case a18 => k_is)
    (case l18 => k_is)
    (case c18 => k_is)
    (case k18 => k_is)
    (case a19 => k_is)
    (case l19 => k_is)
    (case c19 => k_is)
    (case k19 => k_is)
    (case a20 => k_is)
    (case l20 => k_is)
    (case c20 => k_is)
    (case k20 => k_is)
    (case a21 => k_is)
    (case l21 => k_is)
    (case c21 => k_is)
    (case k21 => k_is)
    (case a22 => k_is)
    (case l22 => k_is)
    (case c22 => k_is)
    (case k22 => k_is)
    (case a23 => k_is)
    (case i23 => k_is)
    (case l23 => k_is)
    (case c23 => k_is)
    (case k23 => k_is)
    (case t23 => k_is)
    (case mt23_0 => k_is)
    (case mt23_1 => k_is)
    (case mt23_2 => k_is)
    (case a24 => k_is)
    (case i24 => k_is)
    (case l24 => k_is)
    (case c24 => k_is)
    (case k24 => k_is)
    (case a25 => k_is)
    (case i25 => k_is)
    (case l25 => k_is)
    (case c25 => k_is)
    (case k25 => k_is)
    (case a26 => k_is)
    (case i26 => k_is)
    (case l26 => k_is)
    (case c26 => k_is)
    (case k26 => k_is)
    (case a27 => k_is)
    (case i27 => k_is)
    (case l27 => k_is)
    (case c27 => k_is)
    (case k27 => k_is)
    (case a28 => k_is)
    (case i28 => k_is)
    (case l28 => k_is)
    (case c28 => k_is)
    (case k28 => k_is)
    (case a29 => k_is)
    (case i29 => k_is)
    (case l29 => k_is)
    (case c29 => k_is)
    (case k29 => k_is)
    (case a30 => k_is)
    (case i30 => k_is)
    (case l30 => k_is)
    (case c30 => k_is)
    (case k30 => k_is)
    (case a31 => k_is)
    (case l31 => k_is)
    (case c31 => k_is)
    (case k31 => k_is)
    (case a32 => k_is)
    (case l32 => k_is)
    (case c32 => k_is)
    (case k32 => k_is)
    (case a33 => k_is)
    (case l33 => k_is)
    (case c33 => k_is)
    (case k33 => k_is)
    (case a34 => k_is)
    (case l34 => k_is)
    (case c34 => k_is)
    (case k34 => k_is)
    (case a35 => k_is)
    (case l35 => k_is)
    (case c35 => k_is)
    (case k35 => k_is)
    (case a36 => k_is)
    (case l36 => k_is)
    (case c36 => k_is)
    (case k36 => k_is)
    (case a37 => k_is)
    (case l37 => k_is)
    (case c37 => k_is)
    (case k37 => k_is)
    (case a38 => k_is)
    (case l38 => k_is)
    (case c38 => k_is)
    (case k38 => k_is)
    (case a39 => k_is)
    (case l39 => k_is)
    (case c39 => k_is)
    (case k39 => k_is)
    (case a40 => k_is)
    (case l40 => k_is)
    (case c40 => k_is)
    (case k40 => k_is)
    (case a41 => k_is)
    (case l41 => k_is)
    (case c41 => k_is)
    (case k41 => k_is)
    (case a42 => k_is)
    (case l42 => k_is)
    (case c42 => k_is)
    (case k42 => k_is)
    (case a43 => k_is)
    (case l43 => k_is)
    (case c43 => k_is)
    (case k43 => k_is)
    (case a44 => k_is)
    (case l44 => k_is)
    (case c44 => k_is)
    (case k44 => k_is)
    (case a45 => k_is)
    (case l45 => k_is)
    (case c45 => k_is)
    (case k45 => k_is)
    (case a46 => k_is)
    (case l46 => k_is)
    (case c46 => k_is)
    (case k46 => k_is)
    (case a47 => k_is)
    (case l47 => k_is)
    (case c47 => k_is)
    (case k47 => k_is)
    (case a48 => k_is)
    (case l48 => k_is)
    (case c48 => k_is)
    (case k48 => k_is)
    (case a49 => k_is)
    (case l49 => k_is)
    (case c49 => k_is)
    (case k49 => k_is)
    (case a50 => k_is)
    (case l50 => k_is)
    (case c50 => k_is)
    (case k50 => k_is)
    (case a51 => k_is)
    (case l51 => k_is)
    (case c51 => k_is)
    (case k51 => k_is)
    (case q0ti => k_is)
    (case q0fn => k_is)
    (case q0em => first | rfl | decide +kernel | k_is)
    (case q1ti => k_is)
    (case q1fn => k_is)
    (case q1em => first | rfl | decide +kernel | k_is)
    (case q2ti => k_is)
    (case q2fn => k_is)
    (case q2em => first | rfl | decide +kernel | k_is)
    (case q3ti => k_is)
    (case q3fn => k_is)
    (case q3em => first | rfl | decide +kernel | k_is)
    (case q4ti => k_is)
    (case q4fn => k_is)
    (case q4em => first | rfl | decide +kernel | k_is)
    (case q5ti => k_is)
    (case q5fn => k_is)
    (case q5em => first | rfl | decide +kernel | k_is)
    (case q6ti => k_is)
    (case q6fn => k_is)
    (case q6em => first | rfl | decide +kernel | k_is)
    (case q7ti => k_is)
    (case q7fn => k_is)
    (case q7em => first | rfl | decide +kernel | k_is)
    (case q8ti => k_is)
    (case q8fn => k_is)
    (case q8em => first | rfl | decide +kernel | k_is)
    (case z0 => k_is)
    (case z1 => k_is)
    (case z2 => k_is)
    (case z3 => k_is)
    (case z4 => k_is)
    (case z5 => k_is)
    (case z6 => k_is)
    (case z7 => k_is)
    (case z8 => k_is)
    (case z9 => k_is)
    (case z10 => k_is)
    (case z11 => k_is)
    (case z12 => k_is)
    (case z13 => k_is)
    (case z14 => k_is)
    (case d0 => k_is)
    (case e0 => exact ⟨_, rfl⟩)
    (case d1 => k_is)
    (case e1 => exact ⟨_, rfl⟩)
    (case d2 => k_is)
    (case e2 => exact ⟨_, rfl⟩)
    (case d3 => k_is)
    (case e3 => exact ⟨_, rfl⟩)
    (case d4 => k_is)
    (case e4 => exact ⟨_, rfl⟩)
    (case d5 => k_is)
    (case e5 => exact ⟨_, rfl⟩)
    (case d6 => k_is)
    (case e6 => exact ⟨_, rfl⟩)
    (case d7 => k_is)
    (case kd7 => first | rfl | k_is)
    (case kn7_0 => exact ⟨_, by k_is⟩)
    (case kn7_1 => exact ⟨_, by k_is⟩)
    (case kn7_2 => exact ⟨_, by k_is⟩)
    (case kn7_3 => exact ⟨_, by k_is⟩)
    (case d8 => k_is)
    (case kd8 => first | rfl | k_is)
    (case kn8_0 => exact ⟨_, by k_is⟩)
    (case kn8_1 => exact ⟨_, by k_is⟩)
    (case kn8_2 => exact ⟨_, by k_is⟩)
end
namespace LB
open PySem PySem.Spec PyProof.Rows L2
/-! ### the bag of draws: a list of five at b, its cells at s -/
def bagL (s : Addr) (i r sd c : Int) : HO := .lst [.ref s, .int i, .int r, .int sd, .int c]
def Bag (b s : Addr) (H : Hp) : Prop := s ≠ b ∧ ∃ (ns : List Int) (i r sd c : Int), H b = some (bagL s i r sd c) ∧ H s = some (.lst (ns.map V.int)) ∧ ns.length ≤ 63 ∧ 0 ≤ i
/-- all but the bag is as it was -/
structure BX (b s : Addr) (H H' : Hp) : Prop where
  bag : Bag b s H'
  keep : ∀ a o, a ≠ b → H a = some o → H' a = some o
section
variable {b s p a : Addr} {H H' H'' : Hp} {o : HO} {K : PySem.W.Frag}
theorem Bag.nb (h : Bag b s H) (n : H p = none) : p ≠ b := by
  obtain ⟨_, ns, i, r, sd, c, e, _⟩ := h
  exact (ne_of_none e n).symm
theorem Bag.ns (h : Bag b s H) (n : H p = none) : p ≠ s := by
  obtain ⟨_, ns, i, r, sd, c, _, e, _⟩ := h
  exact (ne_of_none e n).symm
theorem BX.refl (h : Bag b s H) : BX b s H H := ⟨h, fun _ _ _ e => e⟩
theorem BX.trans (x : BX b s H H') (y : BX b s H' H'') : BX b s H H'' := ⟨y.bag, fun a o n e => y.keep a o n (x.keep a o n e)⟩
theorem Bag.same (h : Bag b s H) (x : Same H H') : Bag b s H' := by
  obtain ⟨n, ns, i, r, sd, c, e1, e2, l⟩ := h
  exact ⟨n, ns, i, r, sd, c, x _ _ e1, x _ _ e2, l⟩
theorem BX.same (h : Bag b s H) (x : Same H H') : BX b s H H' := ⟨h.same x, fun a o _ e => x a o e⟩
theorem same_new (h : H p = none) : Same H (upd H p o) := fun c x e => by
  rw [upd_ne (ne_of_none e h)]
  exact e
theorem BX.new (h : Bag b s H) (n : H p = none) : BX b s H (upd H p o) := .same h (same_new n)
theorem BX.back (x : BX b s H H') (n : H' p = none) : H p = none := by
  cases e : H p with
  | none => rfl
  | some o =>
    by_cases hb : p = b
    · exact absurd hb (x.bag.nb n)
    · rw [x.keep p o hb e] at n
      cases n
theorem same_mut (x : Same H H') (n : H p = none) : Same H (upd H' p o) := fun a u e => by
  rw [upd_ne (ne_of_none e n)]
  exact x a u e
/-- an object that is not the bag -/
def At (b : Addr) (H : Hp) (a : Addr) (o : HO) : Prop := a ≠ b ∧ H a = some o
theorem At.mv (h : At b H a o) (x : BX b s H H') : At b H' a o := ⟨h.1, x.keep a o h.1 h.2⟩
theorem At.new (h : Bag b s H) (n : H p = none) : At b (upd H p o) p o := ⟨h.nb n, upd_same⟩
theorem At.l {xs : List V} (h : At b H a (.lst xs)) : SqL K H a xs := .of h.2
theorem At.t {xs : List V} (h : At b H a (.tup xs)) : SqT K H a xs := .of h.2
/-- xs[i] of a list, by values: for xs[i] op= e -/
theorem get_list {X : Cx} : PGet X (rIxL X.K) := by
  intro pins s σ H o i ov iv Q I ro ri h
  obtain ⟨p, xs, k, z, rfl, rfl, hq, he, q⟩ := h
  cases ro
  obtain ⟨t, rfl⟩ := ri
  obtain ⟨its, r, pl, hz⟩ := I.list hq
  obtain ⟨j, h1, h2, h3, h4, h5⟩ := atI_get he
  obtain ⟨w, ew, rw'⟩ := r.get h2
  have hl := r.length
  have hn := line63
  have fin : EP X pins σ Q w s := ⟨z, H, I, rw', q⟩
  by_cases h0 : 0 ≤ k
  · have hj : k.toNat = j := by
      rw [seqIndex_of h0 h5] at h1
      exact Option.some.inj h1
    exact wpAny_getItem_list pl.isList h0 (by omega) (by rw [hj]; simpa using ew) fin
  · have hj : (k + (its.toArray.size : Int)).toNat = j := by
      rw [seqIndex_neg (by omega) h4] at h1
      rw [List.size_toArray, ← hl]
      exact Option.some.inj h1
    exact wpAny_getItem_list_neg pl.isList (by omega) (by rw [List.size_toArray] <;> omega) (by omega) (by rw [hj]; simpa using ew) fin
end
theorem cut_take (xs : List V) (k : Nat) : cutV xs none (some (k : Int)) = xs.take k := by
  unfold cutV
  rw [HT.sIx_none, HT.sIx_nat]
  show (xs.drop 0).take (min k xs.length - 0) = xs.take k
  rw [List.drop_zero, Nat.sub_zero]
  by_cases h : k ≤ xs.length
  · rw [Nat.min_eq_left h]
  · rw [Nat.min_eq_right (by omega), List.take_length, List.take_of_length_le (by omega)]
/-! ### texts by their signs -/
abbrev sg (c : Nat) : Str := ⟨#[c]⟩
abbrev tx (l : List Nat) : Str := ⟨l.toArray⟩
theorem tx_app (a b : List Nat) : tx a ++ tx b = tx (a ++ b) := by
  show (⟨a.toArray ++ b.toArray⟩ : Str) = _
  rw [List.append_toArray]
theorem tx_len (a : List Nat) : (tx a).length = a.length := by
  show a.toArray.size = _
  rw [List.size_toArray]
theorem tx_of (z : Str) : z = tx z.cps.toList := by
  cases z
  rfl
theorem join_tx (ls : List (List Nat)) : Txt.join (Str.ofString "") (ls.map tx) = tx ls.flatten := by
  show Builtin.Str.glued _ _ = _
  rw [StrLaws.glued_eq_join, show Str.ofString "" = (tx [] : Str) from by decide +kernel]
  induction ls with
  | nil => rfl
  | cons c r ih =>
    cases r with
    | nil => simp [Str.join]
    | cons d t =>
      show tx c ++ tx [] ++ Str.join (tx []) ((d :: t).map tx) = _
      rw [ih, tx_app, tx_app]
      simp
/-- the k-th of the letters drawn by (first, step) -/
def lett (f b : Int) (k : Nat) : Nat := ((f + b * (k : Int)) % 26).toNat + 97
/-! ### the same data, up to a depth -/
def flat1 : V → Bool
  | .non => true
  | .bl _ => true
  | .int _ => true
  | .str _ => true
  | _ => false
def Sam (K : PySem.W.Frag) (H : Hp) : Nat → V → V → Prop
  | 0, v, w => flat1 v = true ∧ v = w
  | n + 1, v, w => (flat1 v = true ∧ v = w) ∨ ∃ a c xs ys, v = .ref a ∧ w = .ref c ∧ ((H a = some (.lst xs) ∧ H c = some (.lst ys)) ∨ (H a = some (.tup xs) ∧ H c = some (.tup ys))) ∧ xs.length < 100000 ∧ Paired (Sam K H n) xs ys
theorem Sam.mono {K : PySem.W.Frag} {H H' : Hp} (x : Same H H') : ∀ {n : Nat} {v w : V}, Sam K H n v w → Sam K H' n v w
  | 0, _, _, h => h
  | n + 1, _, _, h => by
    rcases h with h | ⟨a, c, xs, ys, e1, e2, h, hz, p⟩
    · exact .inl h
    · refine .inr ⟨a, c, xs, ys, e1, e2, ?_, hz, Paired.mapP p fun _ _ q => Sam.mono x q⟩
      rcases h with ⟨h1, h2⟩ | ⟨h1, h2⟩
      · exact .inl ⟨x _ _ h1, x _ _ h2⟩
      · exact .inr ⟨x _ _ h1, x _ _ h2⟩
theorem paired_get {α β : Type} {F : α → β → Prop} : ∀ {xs : List α} {ys : List β} {i : Nat} {x : α} {y : β}, Paired F xs ys → xs[i]? = some x → ys[i]? = some y → F x y
  | _, _, _, _, _, .nil, h, _ => by simp at h
  | _, _, 0, _, _, .cons r _, h, h' => by
    simp at h h'
    subst h h'
    exact r
  | _, _, i + 1, _, _, .cons _ t, h, h' => paired_get (i := i) t (by simpa using h) (by simpa using h')
theorem kit_seq {K : PySem.W.Frag} {t : String} (h1 : kitB t "list" = some false) (h2 : kitB t "tuple" = some false) : PySem.W.kitAny K (.type t) [.type "list", .type "tuple"] = some false :=
  kitAny_cons (b := false) (kit_ty h1) (fun _ => kitAny_cons (b := false) (kit_ty h2) (fun _ => kitAny_nil) (fun z => nomatch z)) (fun z => nomatch z)
theorem kit_lst {K : PySem.W.Frag} : PySem.W.kitAny K (.type "list") [.type "list", .type "tuple"] = some true :=
  kitAny_cons (b := true) (kit_ty (by decide +kernel)) (fun z => nomatch z) (fun _ => rfl)
theorem kit_tup {K : PySem.W.Frag} : PySem.W.kitAny K (.type "tuple") [.type "list", .type "tuple"] = some true :=
  kitAny_cons (b := false) (kit_ty (by decide +kernel)) (fun _ => kitAny_cons (b := true) (kit_ty (by decide +kernel)) (fun z => nomatch z) (fun _ => rfl)) (fun z => nomatch z)
theorem walk_zipT {K : PySem.W.Frag} {a b : Addr} {xs ys : List V} {n : Nat} (hn : n = min xs.length ys.length) : Walk (RZ.ItzT K a b) n (fun H => SqT K H a xs ∧ SqT K H b ys) (YPair (fun i => xs[i]?) (fun i => ys[i]?)) := by
  subst hn
  refine ⟨fun i _ hi q => ?_, fun _ q => ⟨xs, ys, q.1, q.2, by omega⟩, fun i H v H' _ q y => ?_⟩
  · have u1 : i < xs.length := Nat.lt_of_lt_of_le hi (Nat.min_le_left _ _)
    have u2 : i < ys.length := Nat.lt_of_lt_of_le hi (Nat.min_le_right _ _)
    exact ⟨xs, ys, xs[i], ys[i], q.1, q.2, List.getElem?_eq_getElem u1, List.getElem?_eq_getElem u2⟩
  · obtain ⟨T, x, z, g1, g2, g3, g4, g5⟩ := y
    exact ⟨T, x, z, g1, g2, g3, g4 xs q.1, g5 ys q.2⟩
/-! ### f(k = v, ..): keywords alone -/
/-! ### lists of texts as data: for == and != -/
theorem strOk_tx {l : List Nat} (h : ∀ c ∈ l, c < 128) : PyData.strOk (tx l) = true := by
  unfold PyData.strOk
  rw [Array.all_eq_true_iff_forall_mem]
  intro c hc
  have := h c (by simpa using hc)
  exact decide_eq_true (by omega)
/-! ### sep.join(xs) within a comprehension -/
def rJoin (K : PySem.W.Frag) : V → List V → Hp → VK → Prop := fun x vs H Q => ∃ sep lst, ∃ ts : List Str, x = .str sep ∧ vs = [.ref lst] ∧ (SqL K H lst (ts.map V.str) ∨ SqT K H lst (ts.map V.str)) ∧
  (ts.map (·.length)).sum + ts.length * sep.length ≤ 16777216 ∧ Q (.str (Txt.join sep ts)) H
end LB
namespace LB
open PySem PySem.Spec PyProof.Rows L2
/-! ### enumerate(text): a new pair of place and sign at each turn -/
end LB
namespace LB
open PySem PySem.Spec PyProof.Rows L2
/-! ### enumerate(tuple): a new pair of place and item at each turn -/
def Itet (K : PySem.W.Frag) (a : Addr) : It :=
  ⟨fun i H => ∃ (xs : List V) (x : V), SqT K H a xs ∧ xs[i]? = some x, fun i H v H' => ∃ U x, v = .ref U ∧ H U = none ∧ H' = upd H U (.tup [.int (i : Nat), x]) ∧ ∀ xs, SqT K H a xs → xs[i]? = some x, fun i H => ∃ xs : List V, SqT K H a xs ∧ xs.length = i⟩
theorem drawsT {prog : Program} {w : World} {A : Around} (hh : A.handled = none) (it l : Addr) (hne : l ≠ it) (items : Array Value) :
    Draws prog w A it [it, l] items.size (fun i v => items[i]? = some v) (fun i h => h.IsTupleIter it l i ∧ h.IsTuple l items) where
  live := fun i h st => by
    obtain ⟨⟨ob, hob, _⟩, _⟩ := st
    exact ⟨ob, hob⟩
  frame := fun i h h' st hk => ⟨st.1.at fun o z => hk it (by simp) o z, by
    obtain ⟨ob, hob, r⟩ := st.2
    exact ⟨ob, hk l (by simp) ob hob, r⟩⟩
  item := fun i s Q E hi st hQ => by
    refine RZ.nextOf_tuple_item st.1 st.2 (x := items[i]) (by simp [hi]) fun g hit sb => hQ _ g s.toks (by simp [hi]) ⟨hit, st.2.extBut sb.extBut hne⟩ sb
  done := fun s Q E st hE => RZ.nextOf_tuple_end hh st.1 st.2 (by simp) hE
theorem apartT {h : Heap} {a it i l : Addr} {items : Array Value} (h1 : h.IsTupleIter it l i) (h2 : h.IsTuple a items) : a ≠ it := fun z => by
  subst z
  obtain ⟨o1, e1, c1, _⟩ := h1
  obtain ⟨o2, e2, c2, _⟩ := h2
  rw [e1] at e2
  cases e2
  rw [c1] at c2
  simp at c2
theorem apartE {h : Heap} {a en it : Addr} {k : Int} {old : Value} {items : Array Value} (h1 : IsEnum h en it k old) (h2 : h.IsTuple a items) : en ≠ a := fun z => by
  subst z
  obtain ⟨o2, e2, c2, _⟩ := h2
  rw [show h.get? en = some _ from h1] at e2
  cases e2
  simp at c2
theorem turn_enumT {P : Program} {w : World} {K : PySem.W.Frag} {elts : List Expr} {kk : Nat} {tpos : Pos} (a en it : Addr) :
    Turn P w K (.Tuple elts kk tpos) (Itet K a) [en, it] en (fun i h => (∃ old, IsEnum h en it ((i : Nat) : Int) old) ∧ h.IsTupleIter it a i ∧ en ≠ it) where
  mem := by simp
  obj := fun i h st b hb => by
    obtain ⟨⟨old, hE⟩, ⟨ob, hob, hcl, hdt⟩, _⟩ := st
    have hbb : b = en ∨ b = it := by simpa using hb
    rcases hbb with rfl | rfl
    · exact ⟨_, hE, fun v z => nomatch z⟩
    · exact ⟨ob, hob, fun v z => by rw [hdt] at z; cases z⟩
  keep := fun i h h' st k => by
    obtain ⟨⟨old, hE⟩, hit, ne⟩ := st
    exact ⟨⟨old, k en (by simp) _ hE⟩, hit.at fun o z => k it (by simp) o z, ne⟩
  item := by
    intro X eP eW eK hc i pins s σ H E I hf st hg
    subst eP eW eK
    obtain ⟨⟨old, hE⟩, hit, ne⟩ := st
    obtain ⟨xs, x, hq, hx⟩ := hg
    obtain ⟨ws, rv, ht, _⟩ := I.tuple hq
    obtain ⟨u, hu, ru⟩ := rv.get hx
    have len : en < s.heap.objs.size := Heap.lt_size hE
    have lit : it < s.heap.objs.size := by
      obtain ⟨ob, hob, _⟩ := hit
      exact Heap.lt_size hob
    have nai : a ≠ it := apartT hit ht
    have nea : en ≠ a := apartE hE ht
    have li : i < ws.toArray.size := by
      have := (List.getElem?_eq_some_iff.mp hu).1
      simpa using this
    refine wpAny_pyNext_enum_itemD (drawsT (A := X.A.in1) (I.ok.hd hc) it a nai ws.toArray) hE ⟨hit, ht⟩ li ne (by simp [ne, nea]) fun y h' tk hy hout hit' hT hsz hk => ?_
    have ey : y = u := by
      have hy' : ws.toArray[i]? = some y := hy
      rw [List.getElem?_toArray, hu] at hy'
      exact (Option.some.inj hy').symm
    subst ey
    refine ⟨_, rfl, wpAny_letOwnedTupleGo_enum (s := { s with heap := h', toks := tk + 1 }) hout fun h2 hE2 sb => ?_⟩
    have hT2 : h2.get? s.heap.objs.size = some { cls := .type "tuple", data := .seq #[.int i tk, y] } := (sb.2 _ (Nat.ne_of_gt len)).trans hT
    have okT : ObjOk X.prog X.w (upd H s.heap.objs.size (.tup [.int (i : Nat), x])) h2 s.heap.objs.size (.tup [.int (i : Nat), x]) :=
      ⟨(by show 2 ≤ sizeLine; decide), [.int i tk, y], .cons ⟨_, rfl⟩ (.cons ru .nil), ⟨_, hT2, rfl, _, rfl⟩⟩
    have I1 : Inv X pins σ (upd H s.heap.objs.size (.tup [.int (i : Nat), x])) { s with heap := h2, toks := tk + 1 } :=
      I.turnedNew (ch := [en, it]) (fun b ob hb z => (sb.2 b (fun z' => hb (by rw [z']; simp))).trans (hk b ob (fun z' => hb (by rw [z']; simp)) (fun z' => hb (by rw [z']; simp)) z)) hf (Nat.le_refl _) okT
    refine ⟨.ref s.heap.objs.size, _, I1, rfl, ⟨_, x, rfl, I.hok.fresh (Nat.le_refl _), rfl, fun ys hy => by rw [I.tuple_inj hy hq]; exact hx⟩, ⟨⟨y, ?_⟩, ?_, ne⟩, fun b hb => ?_⟩
    · rw [show ((i + 1 : Nat) : Int) = (i : Int) + 1 by omega]
      exact hE2
    · exact hit'.1.at fun o z => (sb.2 it ne.symm).trans z
    · have hbb : b = en ∨ b = it := by simpa using hb
      have hlt : b < s.heap.objs.size := by
        rcases hbb with rfl | rfl
        · exact len
        · exact lit
      rw [upd_ne (Nat.ne_of_lt hlt)]
      exact (hf b hb).1
  done := by
    intro X eP eW eK hc i pins s σ H E I hf st hg
    subst eP eW eK
    obtain ⟨⟨old, hE⟩, hit, ne⟩ := st
    obtain ⟨xs, hq, hx⟩ := hg
    obtain ⟨ws, rv, ht, _⟩ := I.tuple hq
    have nai : a ≠ it := apartT hit ht
    have li : ws.toArray.size = i := by
      have := rv.length
      rw [List.size_toArray]
      omega
    subst li
    obtain ⟨g0, g1, g2, g3, g4, g5⟩ := hf it (by simp)
    exact wpAny_pyNext_enum_endD (drawsT (A := X.A.in1) (I.ok.hd hc) it a nai ws.toArray) hE ⟨hit, ht⟩ fun h' eb => ⟨rfl, I.turned (t' := s.toks) (fun b ob hb z => eb b ob hb z) g0 g1 g3 g4 g5⟩
  self := fun A i s Q E st h => by
    obtain ⟨⟨old, hE⟩, _⟩ := st
    exact wpAny_pyIter_enum hE h
abbrev et1 (h : Heap) (l : Addr) : Heap := h.push { cls := .type "tuple_iterator", data := .fields #[.ref l, .int 0 0] }
abbrev et2 (h : Heap) (l : Addr) : Heap := (et1 h l).push { cls := .type "enumerate", data := .fields #[.none, .bool false, .ref h.objs.size, rawInt 0, .none, .none] }
set_option maxHeartbeats 2000000 in
theorem meets_enumT (l : Addr) (items : Array Value) :
    Meets (Builtin.«enumerate.__new__» ⟨[.type "enumerate", .ref l], []⟩) (fun _ R s => s.heap.IsTuple l items ∧ R (.ok (.ret (.ref (et1 s.heap l).objs.size))) { s with heap := et2 s.heap l }) :=
  .of_wp fun prog w A R s h => by
    obtain ⟨h0, g0, d0, t0, o0⟩ := s
    obtain ⟨hl, h⟩ := h
    have sub := sub_enumerate
    have hL : Heap.IsTuple (Shared.heap ⟨h0, g0, d0, t0, o0⟩) l items := hl
    wp_walk
    refine wpAny_stack_any fun st => wpAny_pure ?_
    split
    · rename_i c _ _ _ _ _
      cases (c == Value.type "enumerate")
      · wp_walk using wpAny_pyIter_tuple hL
        exact ⟨_, rfl, h⟩
      · wp_walk using wpAny_pyIter_tuple hL
        exact ⟨_, rfl, h⟩
    · wp_walk using wpAny_pyIter_tuple hL
      exact ⟨_, rfl, h⟩
section
variable {prog : Program} {w : World} {A : Around} {E : Value → Shared → Prop} {s : Shared}
theorem call_enumT {l : Addr} {items : Array Value} {Q : Value → Shared → Prop} (hl : s.heap.IsTuple l items)
    (h : ∀ g, IsEnum g (s.heap.objs.size + 1) s.heap.objs.size 0 .none → g.IsTupleIter s.heap.objs.size l 0 → (∀ b o, s.heap.get? b = some o → g.get? b = some o) → Q (.ref (s.heap.objs.size + 1)) { s with heap := g }) :
    wpAny (model prog w) A (call (.type "enumerate") [.ref l]) Q E s := by
  refine callType_new F.called_enumerate (by decide) (F.typeCall_enumerate_1 _) (F.newCall_enumerate_1 _) (fun ob => F.args_object_init_2 ob _) F.entry_enumerate_new (meets_enumT l items) ⟨hl, ?_⟩
  have z1 : (et1 s.heap l).objs.size = s.heap.objs.size + 1 := Heap.size_push ..
  have k2 : (et2 s.heap l).get? (et1 s.heap l).objs.size = some _ := Heap.get?_push_size _ rfl
  have k1 : (et2 s.heap l).get? s.heap.objs.size = some _ := Heap.get?_push_of_some _ (Heap.get?_push_size _ rfl)
  show _ ∧ _
  rw [z1] at k2 ⊢
  exact ⟨⟨_, k2, rfl⟩, h _ k2 ⟨_, k1, rfl, rfl⟩ fun b o z => Heap.get?_push_of_some _ (Heap.get?_push_of_some _ z)⟩
end
def iEnumT (K : PySem.W.Frag) (ta : TA) : TI := fun σ H R => ta σ H fun vs H1 => ∃ a xs, vs = [.ref a] ∧ SqT K H1 a xs ∧ R (Itet K a) H1
theorem pi_enumT {X : Cx} {e : Expr} {ta : TA} {p pos tpos : Pos} {elts : List Expr} {kk : Nat} (hg : Gl X "enumerate") (hm : X.mg "enumerate" = none) (ha : PA X [e] ta) (one : starEach [e] X.env = [(false, eval e X.env)] := by rfl) :
    PI X (.Tuple elts kk tpos) (.Call (.Name "enumerate" p) [e] [] pos) (iEnumT X.K ta) := by
  refine ⟨fun pins s σ H R I h => ?_⟩
  refine Call_ (ld_blt I hg hm boot_enumerate (PyProof.Rows.callWith_type1 (thn (ha.run pos pins s σ H _ I h) fun us s1 ⟨vs, H1, I1, rr, qq⟩ => ?_) one rfl))
  obtain ⟨a, xs, rfl, hq, q⟩ := qq
  rcases rr with _ | ⟨r, rr⟩
  cases rr
  cases r
  obtain ⟨ws, rv, ht, _⟩ := I1.tuple hq
  refine call_enumT (show s1.heap.IsTuple a ws.toArray from ht) fun g hE hit hk => wpAny_pyIter_enum hE ?_
  have I2 : Inv X pins σ H1 { s1 with heap := g } := I1.kept (t' := s1.toks) hk
  refine ⟨s1.heap.objs.size + 1, [s1.heap.objs.size + 1, s1.heap.objs.size], _, _, H1, rfl, I2, turn_enumT a (s1.heap.objs.size + 1) s1.heap.objs.size, ⟨⟨.none, hE⟩, hit, Nat.succ_ne_self _⟩, fun b hb => ?_, q⟩
  have hbb : b = s1.heap.objs.size + 1 ∨ b = s1.heap.objs.size := by simpa using hb
  have hle : s1.heap.objs.size ≤ b := by
    rcases hbb with rfl | rfl
    · exact Nat.le_succ _
    · exact Nat.le_refl _
  exact I1.fpOk hle (I1.hok.fresh hle)
end LB
namespace LB
open PySem PySem.Spec PyProof.Rows L2
/-! ### list(text), text[::-1] -/
end LB
namespace LB
open PySem PySem.Spec PyProof.Rows L2
abbrev freshSet (w : World) : Obj := { cls := .type "set", dict := none, data := .set #[] 0 (.fresh 0 0 (!w.params.followText "set-order")) }
section
variable {P : Program} {w : World} {A : Around} {E : Value → Shared → Prop} {s : Shared}
/-! ### set.update's loop, by what is kept of the set at Z -/
theorem upd_loop {it Z : Addr} {fp wr : List Addr} {G : Array GenState → Array GenState → Prop} {n : Nat} {Pv : Nat → Value → Prop} {St : Nat → Shared → Prop} {R : Result → Shared → Prop}
    (W : WalksS P w A.in1 it fp wr G n Pv St) (zf : Z ∉ fp) (g0 : Heap) (z0 : g0.get? Z = none) (w0 : ∀ b ∈ wr, g0.get? b = none) (Iv : Nat → Heap → Prop)
    (stay : ∀ i h h', Iv i h → (∀ o, h.get? Z = some o → h'.get? Z = some o) → (∀ b o, g0.get? b = some o → h'.get? b = some o) → Iv i h')
    (add : ∀ i v (s1 : Shared) (Q : Bool → Shared → Prop) (E' : Value → Shared → Prop), i < n → Pv i v → (∀ b o, g0.get? b = some o → s1.heap.get? b = some o) → Iv i s1.heap →
      (∀ b h' tk, s1.toks ≤ tk → Heap.SameBut Z s1.heap h' → Iv (i + 1) h' → Q b { s1 with heap := h', toks := tk }) → wpAny (model P w) A.in1 (setAdd Z v) Q E' s1) :
    ∀ (k i : Nat) (s : Shared), n - i = k → i ≤ n → St i s → (∀ b o, g0.get? b = some o → s.heap.get? b = some o) → Iv i s.heap →
      (∀ s', Moved (Z :: wr) G s s' → Iv n s'.heap → (∀ b o, g0.get? b = some o → s'.heap.get? b = some o) → R (.ok (.ret .none)) s') →
      codeAny (model P w) A (.builtin "set.update.loop" ⟨[.ref Z, .ref it], []⟩) R s := by
  have zw : Z ∉ wr := fun q => zf (W.sub _ q)
  have wz : ∀ b ∈ wr, b ∈ Z :: wr := fun b q => List.mem_cons_of_mem _ q
  have on : ∀ {s s' : Shared}, Moved wr G s s' → (∀ b o, g0.get? b = some o → s.heap.get? b = some o) → ∀ b o, g0.get? b = some o → s'.heap.get? b = some o := fun mv kp b o e =>
    mv.heap b o (fun q => by rw [w0 b q] at e; cases e) (kp b o e)
  intro k
  induction k with
  | zero =>
    intro i s ek ei st kp iv fin
    obtain rfl : i = n := by omega
    refine codeAny_builtin F.entry_set_update_loop ?_; rw [Around.under_plainId F.plain_set_update_loop _]
    show wpAny _ A.in1 (pyNext (.ref it) >>= _) _ _ s
    refine wpAny_bind (W.done s _ _ st fun s' mv => ?_)
    have kp' := on mv kp
    exact wpAny_pure (fin s' (mv.mono wz) (stay _ _ _ iv (fun o e => mv.heap Z o zw e) kp') kp')
  | succ k ih =>
    intro i s ek ei st kp iv fin
    have lt : i < n := by omega
    refine codeAny_builtin F.entry_set_update_loop ?_; rw [Around.under_plainId F.plain_set_update_loop _]
    show wpAny _ A.in1 (pyNext (.ref it) >>= _) _ _ s
    refine wpAny_bind (W.item i s _ _ lt st fun v s' pv st' mv => ?_)
    have kp' := on mv kp
    show wpAny _ A.in1 (holding [v] (setAdd Z v) >>= _) _ _ s'
    refine wpAny_bind (wpAny_holding (add i v s' _ _ lt pv kp' (stay _ _ _ iv (fun o e => mv.heap Z o zw e) kp') fun b h' tk lk sb iv' => ?_))
    have kp2 : ∀ b o, g0.get? b = some o → h'.get? b = some o := fun b o e => (sb.2 b (fun q => by rw [q, z0] at e; cases e)).trans (kp' b o e)
    refine wpAny_pure ⟨plainId_quiet F.plain_set_update_loop _, ih (i + 1) _ (by omega) lt (W.frame _ s' _ _ st' lk fun b q o e => ?_) kp2 iv' fun s2 mv2 iv2 kp3 => ?_⟩
    · rw [sb.2 b (fun q' : b = Z => zf (by rw [← q']; exact q))]; exact e
    · refine fin s2 (Moved.trans W.gtrans ((mv.mono wz).then_heap lk fun b o q e => ?_) mv2) iv2 kp3
      rw [sb.2 b (fun q' : b = Z => q (by rw [q']; exact List.mem_cons_self))]; exact e
set_option maxHeartbeats 3200000 in
/-- set(xs), xs a list: the set at the next free place, by what each add keeps -/
theorem call_set_iv {l : Addr} {items : Array Value} {Q : Value → Shared → Prop} (calm : A.handled = none) (isl : s.heap.IsList l items) (Iv : Nat → Heap → Prop)
    (ini : ∀ h, h.get? s.heap.objs.size = some (freshSet w) → (∀ b o, s.heap.get? b = some o → h.get? b = some o) → Iv 0 h)
    (stay : ∀ i h h', Iv i h → (∀ o, h.get? s.heap.objs.size = some o → h'.get? s.heap.objs.size = some o) → (∀ b o, s.heap.get? b = some o → h'.get? b = some o) → Iv i h')
    (add : ∀ (A' : Around) i v (s1 : Shared) (Q : Bool → Shared → Prop) (E' : Value → Shared → Prop), A'.handled = none → A'.units ≤ A.units + 4 → items[i]? = some v → (∀ b o, s.heap.get? b = some o → s1.heap.get? b = some o) → Iv i s1.heap →
      (∀ b h' tk, s1.toks ≤ tk → Heap.SameBut s.heap.objs.size s1.heap h' → Iv (i + 1) h' → Q b { s1 with heap := h', toks := tk }) → wpAny (model P w) A' (setAdd s.heap.objs.size v) Q E' s1)
    (out : ∀ (h' : Heap) (tk : Nat), Iv items.size h' → (∀ b o, s.heap.get? b = some o → h'.get? b = some o) → Q (.ref s.heap.objs.size) { s with heap := h', toks := tk }) :
    wpAny (model P w) A (call (.type "set") [.ref l]) Q E s := by
  obtain ⟨c, tl, hmro⟩ := F.called_set.mro
  have hmade := F.called_set.made; have hsub := F.called_set.sub
  refine wpAny_call (codeAny_of_tree ?_); show wpAny _ _ (callAny (.type "set") _) _ _ _
  refine wpAny_pure ⟨Code.quiet_builtin _ (by decide +kernel), codeAny_builtin F.entry_type_call ?_⟩; rw [Around.under_plain (weight_type_call_type "set" [.ref l] []) rfl]
  have k1 := F.called_set.notType; have k2 := F.called_set.canCreate; have k3 := F.typeCall_set_1 (.ref l)
  repeat (any_goals (first | assumption | wp_step))
  refine codeAny_mono (code_set_led1 (.ref l) (E := E) (Q₁ := fun obj s₁ => obj = .ref s.heap.objs.size ∧ s₁ = { s with heap := s.heap.push (freshSet w) }) ⟨rfl, rfl⟩) fun r s1 hr => ?_
  cases r with
  | error e => exact hr
  | ok fl =>
    cases fl with
    | ret obj =>
      obtain ⟨rfl, rfl⟩ := hr
      have hZ : (s.heap.push (freshSet w)).get? s.heap.objs.size = some (freshSet w) := Heap.get?_push_size _ rfl
      have hT : Shared.TypeIs { s with heap := s.heap.push (freshSet w) } (.ref s.heap.objs.size) "set" := ⟨_, hZ, rfl⟩
      have k4 := F.called_set.init.lookup; have k5 := F.called_set.init.bind (.ref s.heap.objs.size)
      repeat (any_goals (first | assumption | wp_step))
      refine codeAny_mono (codeAny_call_builtin (R := wants (fun r s₂ => r = .none ∧ ∃ h' tk, s₂ = { s with heap := h', toks := tk } ∧ Iv items.size h' ∧ (∀ b o, s.heap.get? b = some o → h'.get? b = some o)) E) F.called_set.init.plain F.entry_set_init (check_set_init_1 hT ?_)) fun r2 s2 hr2 => ?_
      · obtain ⟨⟨ocls, odict, odata, oslots⟩, hol, hcl, nl, hdl⟩ := isl
        simp only at hcl hdl
        subst hcl hdl
        have hol' : (s.heap.push (freshSet w)).get? l = some { cls := .type "list", dict := odict, data := .seq items nl, slots := oslots } := Heap.get?_push_of_some _ hol
        have k6 := F.sub_list_set; have k7 := F.sub_list_frozenset
        have k8 : (Value.type "list" == Value.type "dict") = false := by decide
        have isl1 : (s.heap.push (freshSet w)).IsList l items := ⟨_, hol', rfl, nl, rfl⟩
        unfold Builtin.«set.__init__» noKeywords Builtin.Frozenset.updateFrom
        generalize hPI : pyIter = PI
        wp_walk; subst hPI
        refine wpAny_pyIter_list isl1 (wpAny_bind (wpAny_runValue ?_))
        have lS : l < s.heap.objs.size := Heap.lt_size hol
        have calm3 : A.in1.in1.in1.handled = none := by simp [calm]
        have neI : l ≠ (s.heap.push (freshSet w)).objs.size := by
          rw [Heap.size_push]; exact Nat.ne_of_lt (Nat.lt_succ_of_lt lS)
        have zf : s.heap.objs.size ∉ [(s.heap.push (freshSet w)).objs.size, l] := by
          rw [Heap.size_push]; simp only [List.mem_cons, List.not_mem_nil, or_false, not_or]
          exact ⟨Nat.ne_of_lt (Nat.lt_succ_self _), Nat.ne_of_gt lS⟩
        have nn : ∀ b, s.heap.objs.size ≤ b → s.heap.get? b = none := fun b hb => by
          cases q : s.heap.get? b with
          | none => rfl
          | some o => exact absurd (Nat.lt_of_lt_of_le (Heap.lt_size q) hb) (Nat.lt_irrefl _)
        have kpp : ∀ b o, s.heap.get? b = some o → ((s.heap.push (freshSet w)).push { cls := .type "list_iterator", data := .fields #[.ref l, .int 0 0] }).get? b = some o := fun b o e => Heap.get?_push_of_some _ (Heap.get?_push_of_some _ e)
        refine upd_loop ((Walks.list calm3 _ l neI items).toS) zf s.heap (nn _ (Nat.le_refl _)) (fun b hb => nn b (by
            rw [List.mem_singleton.mp hb, Heap.size_push]
            exact Nat.le_succ _)) Iv stay (fun i v s3 Q' E' hi pv kp iv q => add _ i v s3 Q' E' (by simp [calm]) ?hu pv kp iv q) (items.size - 0) 0 _ (by omega) (Nat.zero_le _)
          ⟨⟨_, Heap.get?_push_size _ rfl, rfl, rfl⟩, (isl1.push _)⟩ kpp (ini _ (Heap.get?_push_of_some _ hZ) kpp) ?hR
        case hu => first | exact Nat.le_refl _ | (show A.units + _ ≤ A.units + 4; omega) | (show A.units + 1 + 1 + 1 ≤ A.units + 4; omega)
        case hR =>
          intro s' mv iv kp
          obtain ⟨h', g2, d', tk', os'⟩ := s'
          obtain rfl : g2 = s.gens := mv.gens
          obtain rfl : d' = s.drawn := mv.drawn
          obtain rfl : os' = s.os := mv.os
          show wpAny _ _ _ _ _ _
          exact wpAny_pure (wpAny_pure ⟨rfl, h', tk', rfl, iv, kp⟩)
      · cases r2 with
        | error e => exact hr2
        | ok fl2 =>
          cases fl2 with
          | ret r =>
            obtain ⟨rfl, h', tk, rfl, iv, kp⟩ := hr2
            repeat (any_goals (first | assumption | wp_step))
            exact out _ _ iv kp
          | _ => exact hr2.elim
    | _ => exact hr.elim
end
end LB
namespace LB
open PySem PySem.Spec PyProof.Rows L2
/-! ### sets of texts: made of a list, sorted -/
def kx (e : Int × Value) : Str := PyProof.Rows.strOf e.2
structure SetX (P : Program) (w : World) (h : Heap) (a : Addr) (ks : List Str) : Prop where
  ex : ∃ D : Froz.SD, h.get? a = some (Froz.sObj "set" D) ∧ Froz.TxOk P w D ks ∧ Ris D.2.2.place.toList ∧ (w.params.followText "set-order" = true ∨ D.2.2.led = true) ∧ (D.1.toList.map kx).Perm ks ∧ ∀ e ∈ D.1.toList, ∃ x t, e.2 = Value.str x t
  nd : ks.Nodup
theorem tail_ris {ep : Nat} {es : Array (Int × Value)} {t : SetTable} {wd : Bool} (r : Ris t.place.toList) : Ris (Froz.tailTx ep es t wd).2.2.place.toList := by
  unfold Froz.tailTx
  split
  · exact relayAll_ris _ _ _
  · exact r
theorem tail_led {ep : Nat} {es : Array (Int × Value)} {t : SetTable} {wd : Bool} : (Froz.tailTx ep es t wd).2.2.led = t.led := by
  unfold Froz.tailTx
  split
  · exact relayAll_led _ _ _
  · rfl
theorem tail_perm {ep : Nat} {es : Array (Int × Value)} {t : SetTable} {wd : Bool} : (Froz.tailTx ep es t wd).1.toList.Perm es.toList := by
  unfold Froz.tailTx
  split
  · exact relayAll_perm _ _ _
  · exact .refl _
theorem add_ris {D : Froz.SD} {h : Int} {v : Value} (r : Ris D.2.2.place.toList) : Ris (Froz.addTx h v D).2.2.place.toList := by
  unfold Froz.addTx
  refine tail_ris ?_
  by_cases c : (layNew D.2.2 D.1 h v).2.1.plain = true
  · rw [if_pos c]
    exact layNew_ris _ _ _ _ r
  · rw [if_neg c]
    exact layNew_ris _ _ _ _ r
theorem add_led {D : Froz.SD} {h : Int} {v : Value} : (Froz.addTx h v D).2.2.led = D.2.2.led := by
  unfold Froz.addTx
  rw [tail_led]
  by_cases c : (layNew D.2.2 D.1 h v).2.1.plain = true
  · rw [if_pos c]
    exact layNew_led _ _ _ _
  · rw [if_neg c]
    exact layNew_led _ _ _ _
theorem add_perm {D : Froz.SD} {h : Int} {v : Value} : (Froz.addTx h v D).1.toList.Perm ((h, v) :: D.1.toList) := by
  have p := layNew_perm D.2.2 D.1 h v
  rw [Array.toList_push] at p
  exact tail_perm.trans (p.trans (List.perm_append_singleton _ _))
section
variable {P : Program} {w : World} {A : Around} {E : Value → Shared → Prop} {s : Shared}
theorem add_tx {a : Addr} {D : Froz.SD} {l : List Str} {k : Str} {u : Tok} {Q : Bool → Shared → Prop} (ho : s.heap.get? a = some (Froz.sObj "set" D)) (F : Froz.TxOk P w D l) (hb : l.length + 1 < scanBound)
    (q1 : k ∈ l → Q false { s with toks := s.toks + 1 }) (q2 : k ∉ l → Q true { s with heap := s.heap.update a (fun _ => Froz.sObj "set" (Froz.addTx (hashStr w k) (.str k u) D)), toks := s.toks + 1 }) :
    wpAny (model P w) A (setAdd a (.str k u)) Q E s := by
  have ky : (PySem.strKind P w).is k (.str k u) = true := Froz.is_str k u
  unfold setAdd
  refine wpAny_holding (wpAny_bind ((PySem.strKind P w).pyHash ky ?_))
  by_cases hk : k ∈ l
  · obtain ⟨es, ep, t⟩ := D
    have sz : es.size = l.length := F.sz
    obtain ⟨e, he, pe⟩ := (F.mem k).mp hk
    obtain ⟨j, hj⟩ : ∃ j, List.findIdx? (fun e => (PySem.strKind P w).is k e.2) es.toList = some j := by
      cases q : List.findIdx? (fun e => (PySem.strKind P w).is k e.2) es.toList with
      | some j => exact ⟨j, rfl⟩
      | none =>
        have := List.findIdx?_eq_none_iff.mp q e he
        rw [pe] at this
        cases this
    show wpAny (model P w) A (setAddHashed a (.str k u) ((PySem.strKind P w).hash k)) _ _ _
    unfold setAddHashed setAddHashedIn
    refine wpAny_holding (wpAny_bind (wpAny_setState_of (s := { s with toks := s.toks + 1 }) ho rfl F.fit ?_))
    dsimp only
    rw [byScan_of rfl (by show es.size < scanBound; omega) F.el]
    simp only [↓reduceIte]
    unfold setAddByScan
    refine wpAny_bind (wpAny_bind (wpAny_rule (wpAny_bind (wpAny_setScan_of (knd := PySem.strKind P w) (k := k) (s := { s with toks := s.toks + 1 }) ky ho rfl F.fit F.el ?_))))
    rw [hj]
    exact wpAny_pure (wpAny_pure (q1 hk))
  · exact Froz.add_x (s := { s with toks := s.toks + 1 }) ho F hk hb (q2 hk)
theorem setX_fresh {h : Heap} {a : Addr} (e : h.get? a = some (freshSet w)) : SetX P w h a [] :=
  ⟨⟨(#[], 0, .fresh 0 0 (!w.params.followText "set-order")), e, .nil rfl, List.Pairwise.nil, by
    show _ ∨ (!w.params.followText "set-order") = true
    cases w.params.followText "set-order"
    · exact .inr rfl
    · exact .inl rfl, .nil, fun e he => by cases he⟩, .nil⟩
theorem SetX.keep {h h' : Heap} {a : Addr} {ks : List Str} (R : SetX P w h a ks) (k : ∀ o, h.get? a = some o → h'.get? a = some o) : SetX P w h' a ks := by
  obtain ⟨⟨D, e, r⟩, n⟩ := R
  exact ⟨⟨D, k _ e, r⟩, n⟩
/-- set(xs), xs a list of texts -/
theorem call_set_tx {l : Addr} {items : Array Value} {xs : List Str} {Q : Value → Shared → Prop} (calm : A.handled = none) (isl : s.heap.IsList l items) (hx : StrsAre items.toList xs) (few : xs.length + 2 < scanBound)
    (out : ∀ (h' : Heap) (tk : Nat) ks, SetX P w h' s.heap.objs.size ks → (∀ x, x ∈ ks ↔ x ∈ xs) → ks.length ≤ xs.length → (∀ b o, s.heap.get? b = some o → h'.get? b = some o) → Q (.ref s.heap.objs.size) { s with heap := h', toks := tk }) :
    wpAny (model P w) A (call (.type "set") [.ref l]) Q E s := by
  have at_ : ∀ {vs : List Value} {ys : List Str}, StrsAre vs ys → ∀ {i : Nat} {v : Value}, vs[i]? = some v → ∃ y t, ys[i]? = some y ∧ v = .str y t := by
    intro vs ys h
    induction h with
    | nil => intro i v e; simp at e
    | cons y t _ ih =>
      intro i v e
      cases i with
      | zero => simp at e; exact ⟨y, t, rfl, e.symm⟩
      | succ i => simpa using ih (by simpa using e)
  have hlen : items.size = xs.length := by
    have : ∀ {vs : List Value} {ys : List Str}, StrsAre vs ys → vs.length = ys.length := fun h => by
      induction h with
      | nil => rfl
      | cons _ _ _ ih => simp [ih]
    rw [← Array.length_toList]
    exact this hx
  refine call_set_iv calm isl (fun i h => ∃ ks, SetX P w h s.heap.objs.size ks ∧ (∀ x, x ∈ ks ↔ x ∈ xs.take i) ∧ ks.length ≤ i) (fun h e _ => ⟨[], setX_fresh e, fun x => by simp, Nat.le_refl _⟩) (fun i h h' ⟨ks, R, m⟩ k _ => ⟨ks, R.keep k, m⟩) (fun A' i v s1 Q' E' _ _ hv _ ⟨ks, ⟨⟨D, e, F, r, ld, pm, els⟩, nd⟩, m, lk⟩ q => ?_) (fun h' tk ⟨ks, R, m, lk⟩ kp => ?_)
  · obtain ⟨y, t, hy, rfl⟩ := at_ hx (by rw [Array.getElem?_toList]; exact hv)
    have hi : i < xs.length := (List.getElem?_eq_some_iff.mp hy).1
    have tk1 : xs.take (i + 1) = xs.take i ++ [y] := by
      rw [List.take_add_one, hy]
      rfl
    refine add_tx e F (by omega) (fun hk => ?_) (fun hk => ?_)
    · refine q false s1.heap (s1.toks + 1) (Nat.le_succ _) (.refl _ _) ⟨ks, ⟨⟨D, e, F, r, ld, pm, els⟩, nd⟩, fun x => ?_, by omega⟩
      rw [tk1, List.mem_append, List.mem_singleton, ← m x]
      exact ⟨.inl, fun z => z.elim id fun z => by rw [z]; exact hk⟩
    · have pp := add_perm (D := D) (h := hashStr w y) (v := .str y t)
      refine q true _ (s1.toks + 1) (Nat.le_succ _) (Heap.SameBut.update _ _ _) ⟨y :: ks, ⟨⟨_, Froz.get_upd _ e rfl, Froz.add_ok t F, add_ris r, ?_, ?_, ?_⟩, List.nodup_cons.mpr ⟨hk, nd⟩⟩, fun x => ?_, by simp; omega⟩
      · rw [add_led]
        exact ld
      · exact (pp.map kx).trans (.cons y pm)
      · intro e' he'
        rcases List.mem_cons.mp (pp.mem_iff.mp he') with z | z
        · rw [z]
          exact ⟨y, t, rfl⟩
        · exact els e' z
      · rw [tk1, List.mem_append, List.mem_singleton, List.mem_cons, m x]
        exact Or.comm
  · rw [hlen] at m lk
    rw [List.take_length] at m
    exact out h' tk ks R m lk kp
theorem strs_of : ∀ (l : List Value), (∀ v ∈ l, ∃ x t, v = Value.str x t) → StrsAre l (l.map PyProof.Rows.strOf)
  | [], _ => .nil
  | v :: l, h => by
    obtain ⟨x, t, rfl⟩ := h v List.mem_cons_self
    exact .cons x t (strs_of l fun u hu => h u (List.mem_cons_of_mem _ hu))
/-- sorted(a set of texts) -/
theorem sorted_setX {a : Addr} {ks : List Str} {Q : Value → Shared → Prop} (R : SetX P w s.heap a ks) (calm : A.handled = none) (few : ks.length < 4000)
    (q : ∀ s' p (o : Array Value) (c : Nat) (ys : List Str), (∀ b u, s.heap.get? b = some u → s'.heap.get? b = some u) → s'.gens = s.gens → s'.os = s.os → s.heap.objs.size ≤ p →
      s'.heap.get? p = some (seqObj "list" o c) → StrsAre o.toList ys → ys.Perm ks → sortedS ys = true → Q (.ref p) s') :
    wpAny (model P w) A (call (.builtin "sorted") [.ref a]) Q E s := by
  obtain ⟨⟨⟨es, ep, t⟩, e, F, r, ld, pm, els⟩, nd⟩ := R
  have sz : es.size = ks.length := F.sz
  have fw : es.size < scanBound := Nat.lt_of_lt_of_le (by omega : es.size < 4000) (by decide)
  refine Calls.call_function_entry kind_sorted plain_sorted entry_sorted (args_sorted1 _) ?_
  unfold Builtin.«sorted»
  refine wpAny_bind (m := checkCount "sorted" 1 1 _) (wpAny_pure (wpAny_bind (collect_set (A := A.in1) calm ⟨_, e, rfl, rfl⟩ F.fit fw r ld fun s1 vs k1 z1 g1 o1 pv => ?_)))
  have vl : vs.length = ks.length := by rw [pv.length_eq, List.length_map, Array.length_toList]; exact sz
  have hS : StrsAre vs (vs.map PyProof.Rows.strOf) := strs_of vs fun v hv => by
    obtain ⟨e', he', rfl⟩ := List.mem_map.mp (pv.mem_iff.mp hv)
    exact els e' he'
  have pk : (vs.map PyProof.Rows.strOf).Perm ks := by
    have := pv.map PyProof.Rows.strOf
    rw [List.map_map] at this
    exact this.trans pm
  refine wpAny_bind (wpAny_newList ?_ (by rw [vl, sizeLine_eq]; omega))
  have hL : (s1.heap.push (seqObj "list" vs.toArray 0)).get? s1.heap.objs.size = some (seqObj "list" vs.toArray 0) := Heap.get?_push_size _ rfl
  refine wpAny_bind (wpAny_holding (wpAny_call_entry slot_list_sort ⟨_, hL, rfl⟩ entry_list_sort (list_sort_treeKAny strKind_oneLt hL hS.keysOf (fun v₁ v₂ rest z => keyKind_strs (by rw [← z]; exact hS)) (by rw [vl, sizeLine_eq]; omega) fun st' a1 a2 => ⟨_, rfl, ?_⟩) (args_list_sort _)))
  obtain ⟨ys, y1, y2, y3⟩ := sorted_out_str hS a1 a2
  obtain ⟨c, hc⟩ := sortedHeap_at (vs := vs) (out := (arrOf st').map (·.2)) hL
  refine wpAny_pure ⟨_, rfl, q _ s1.heap.objs.size _ c ys (fun b u eb => ?_) g1 o1 z1 hc y1 (y2.trans pk) y3⟩
  have eb1 := k1 b u eb
  have lt := Heap.lt_size eb1
  show (sortedHeap (s1.heap.push (seqObj "list" vs.toArray 0)) s1.heap.objs.size vs _).get? b = some u
  rw [sortedHeap_old (Nat.ne_of_lt lt) (by rw [size_push']; exact Nat.lt_succ_of_lt lt)]
  exact Heap.get?_push_of_some _ eb1
end
/-! ### over the layer -/
def SetXO (P : Program) (w : World) (a : Addr) (ks : List Str) : HO := .ext fun h => SetX P w h a ks
section
variable {X : Cx}
def rSetX (K : PySem.W.Frag) (P : Program) (w : World) : List V → Hp → VK → Prop := fun vs H Q => ∃ (l : Addr) (xs : List Str), vs = [V.ref l] ∧ SqL K H l (xs.map V.str) ∧ xs.length < 2000 ∧
  ∀ a ks, H a = none → ks.Nodup → (∀ x, x ∈ ks ↔ x ∈ xs) → ks.length ≤ xs.length → Q (.ref a) (upd H a (SetXO P w a ks))
theorem cr_setX (hc : X.calm = true) : CallR X (.type "set") (rSetX X.K X.prog X.w) := by
  intro pins s σ H xs us Q I r h
  obtain ⟨l, ys, rfl, hl, few, q⟩ := h
  rw [Vals.ref1 r]
  obtain ⟨its, rv, pl, hz⟩ := I.list hl
  refine call_set_tx (P := X.prog) (w := X.w) (I.ok.hd hc) pl.isList (by simpa using rv.strs) (Nat.lt_of_lt_of_le (by omega : ys.length + 2 < 2002) (by decide)) fun h' tk ks R m lk kp => ?_
  have okS : ObjOk X.prog X.w (upd H s.heap.objs.size (SetXO X.prog X.w s.heap.objs.size ks)) h' s.heap.objs.size (SetXO X.prog X.w s.heap.objs.size ks) := by
    obtain ⟨⟨D, e, _⟩, _⟩ := id R
    exact ⟨R, ⟨_, e⟩, fun g1 g2 R1 k => R1.keep k⟩
  exact ⟨.ref s.heap.objs.size, _, I.laid (t' := tk) kp (Nat.le_refl _) okS, rfl, q _ ks (I.hok.fresh (Nat.le_refl _)) R.nd m lk⟩
def rSortX (P : Program) (w : World) : List V → Hp → VK → Prop := fun vs H Q => ∃ (a : Addr) (ks : List Str), vs = [V.ref a] ∧ H a = some (SetXO P w a ks) ∧ ks.length < 2000 ∧
  ∀ ys p, ys.Perm ks → sortedS ys = true → H p = none → Q (.ref p) (upd H p (.lst (ys.map V.str)))
theorem cr_sortX (hc : X.calm = true) : CallR X (.builtin "sorted") (rSortX X.prog X.w) := by
  intro pins s σ H vs us Q I r h
  obtain ⟨a, ks, rfl, ha, few, q⟩ := h
  have R : SetX X.prog X.w s.heap a ks := (I.hok a _ ha).1
  rw [Vals.ref1 r]
  refine sorted_setX R (I.ok.hd hc) (by omega) fun s' p o c ys k g os hp hg hS pm srt => ?_
  have hlen : (ys.map V.str).length ≤ sizeLine := by rw [List.length_map, pm.length_eq, sizeLine_eq]; omega
  have hn : H p = none := I.hok.fresh hp
  have J : Inv X pins σ (upd H p (.lst (ys.map V.str))) { s with heap := s'.heap, gens := s'.gens, drawn := s'.drawn, toks := s'.toks } :=
    I.call (ch := []) (Un.laid k hp hn) (I.hok.laid k hp ⟨hlen, o.toList, c, vals_of_strs hS, hg⟩) (by rw [g]; exact I.bare) (fun _ z => nomatch z)
  have e : s' = { s with heap := s'.heap, gens := s'.gens, drawn := s'.drawn, toks := s'.toks } := by
    cases s'; cases s; cases os; rfl
  rw [e]
  exact ⟨.ref p, _, J, rfl, q ys p pm srt hn⟩
/-- tuple(..), by name -/
def rTupOf (K : PySem.W.Frag) : List V → Hp → VK → Prop := fun vs H Q => ∃ p ys, vs = [.ref p] ∧ ((SqL K H p ys ∧ ∀ l, H l = none → Q (.ref l) (upd H l (.tup ys))) ∨ (SqT K H p ys ∧ Q (.ref p) H))
theorem cr_tupOf : CallR X (.type "tuple") (rTupOf X.K) := call_tuple_of
def rLenOf (K : PySem.W.Frag) : List V → Hp → VK → Prop := fun vs H Q => ∃ p ys, vs = [.ref p] ∧ (SqL K H p ys ∨ SqT K H p ys) ∧ Q (.int (ys.length : Nat)) H
theorem cr_lenOf : CallR X (.builtin "len") (rLenOf X.K) := call_len_seq
theorem pe_fldK {Kk : PySem.W.Frag} {e : Expr} {f : Str} {pos : Pos} {ta : TE} (he : PE X e ta) (hb : attributeBase e f X.env (eval e X.env) = eval e X.env) (hK : X.K = Kk := by rfl) : PE X (.Attribute e f pos) (tFld Kk ta f) := by
  subst hK
  exact pe_fld he hb
end
end LB
namespace LB
open PySem PySem.Spec PyProof.Rows L2
/-! ### dicts whose keys are tuples: setdefault, values -/
/-! ### two fors in a list: the inner one, the outer one -/
end LB
namespace LB
open PySem PySem.Spec PyProof.Rows L2
/-! ### d.get(z), d a dict of the module with text keys -/
def GotK (r : Option Value) (v0 : V) : Prop := match r with
  | none => v0 = .non
  | some u0 => RelV v0 u0
def tKGet (K : PySem.W.Frag) (w : World) (td ty : TE) : TE := fun σ H Q => td σ H fun x H1 => ∃ d es n, x = .ref d ∧ KDict K w d es n ∧ ty σ H1 fun y H2 => ∃ (z : Str) (r : Option Value) (v0 : V), y = .str z ∧ PySem.W.nsIn K d z = some r ∧ GotK r v0 ∧ Q v0 H2
section
variable {X : Cx} {o e : Expr} {apos cpos : Pos} {td ty : TE}
theorem pe_kget (ho : PE X o td) (he : PE X e ty) (m : M1 X o "get" apos e cpos) : PE X (.Call (.Attribute o "get" apos) [e] [] cpos) (tKGet X.K X.w td ty) := by
  refine ⟨fun pins s σ H Q I h => ?_⟩
  refine wpAny_Call_method m.base m.few m.line PySem.F.plainAttrs_dict PySem.F.slot_dict_get PySem.F.type_dict_get (thn (ho.run pins s σ H _ I h) fun u s1 ⟨x, H1, I1, rx, a, es, n, ex, D, q1⟩ => ?_)
  subst ex
  obtain rfl : u = Value.ref a := rx
  refine ⟨kd_type D I1, fun b q => ?_, ?_⟩
  · cases q
    exact ⟨_, I1.kIn _ _ D.at_, rfl⟩
  rw [m.trees]
  refine Calls.callWith_builtin rfl (Calls.evalArgs_plain (Calls.spliced_cons (thn (he.run pins s1 σ H1 _ I1 q1) fun iv s2 ⟨y, H2, I2, ry, z, r, v0, ey, hn, g, q2⟩ => Calls.spliced_nil ?_)))
  subst ey
  obtain ⟨t, rfl⟩ := ry
  have hm := PySem.W.mapOf_K (prog := X.prog) (w := X.w) I2.kIn D.at_ D.lit
  refine call_meetsIn PySem.F.slot_dict_get hm.typeIs PySem.F.entry_dict_get (PySem.F.args_dict_get_2 _ _) (meets_dict_get (strKind X.prog X.w) a (strKind_is X.prog X.w z t) D.low) ⟨_, hm, ?_⟩
  rw [PySem.W.find_K D.at_ hn]
  refine ⟨v0, H2, I2.tok _, ?_, q2⟩
  cases r with
  | none =>
    have g : v0 = .non := g
    subst g
    exact rfl
  | some u0 => exact g
end
end LB
namespace LB
open PySem PySem.Spec PyProof.Rows L2
/-! ### the first place of a sign from a place on -/
/-! ### where the letters of the small word stand in the great one, each as early as can be -/
def gs : List Nat → List Nat → Nat → Option (List Nat)
  | [], _, _ => some []
  | _ :: _, [], _ => none
  | s :: ss, g :: gg, k => if g = s then (gs ss gg (k + 1)).map (k :: ·) else gs (s :: ss) gg (k + 1)
theorem gs_nil (g : List Nat) (k : Nat) : gs [] g k = some [] := by cases g <;> rfl
theorem gs_len : ∀ {a g : List Nat} {k : Nat} {ps : List Nat}, gs a g k = some ps → ps.length = a.length ∧ a.length ≤ g.length
  | [], g, k, ps, h => by
    rw [gs_nil] at h
    cases h
    exact ⟨rfl, Nat.zero_le _⟩
  | _ :: _, [], _, _, h => by cases h
  | s :: ss, x :: r, k, ps, h => by
    unfold gs at h
    by_cases e : x = s
    · rw [if_pos e] at h
      cases h2 : gs ss r (k + 1) with
      | none => rw [h2] at h; cases h
      | some qs =>
        rw [h2] at h
        cases h
        have := gs_len h2
        simp
        omega
    · rw [if_neg e] at h
      have := gs_len h
      simp at this ⊢
      omega
end LB
namespace LB
open PySem PySem.Spec PyProof.Rows L2
/-! ### data in the heap, up to a depth, apart from some addresses -/
inductive D where
  | non | bl (b : Bool) | int (i : Int) | str (l : List Nat) | lst (ds : List D) | tup (ds : List D)
abbrev ascii (l : List Nat) : Prop := ∀ c ∈ l, c < 128
def flatR : V → D → Prop
  | .non, .non => True
  | .bl a, .bl b => a = b
  | .int i, .int j => i = j
  | .str x, .str l => x = tx l ∧ ascii l
  | _, _ => False
def Rp (av : Addr → Prop) (H : Hp) : Nat → V → D → Prop
  | 0, v, d => flatR v d
  | n + 1, v, d => flatR v d ∨ (∃ a xs ds, v = .ref a ∧ d = .lst ds ∧ ¬ av a ∧ H a = some (.lst xs) ∧ xs.length < 100000 ∧ Paired (Rp av H n) xs ds) ∨
      (∃ a xs ds, v = .ref a ∧ d = .tup ds ∧ ¬ av a ∧ H a = some (.tup xs) ∧ xs.length < 100000 ∧ Paired (Rp av H n) xs ds)
def Kp (av : Addr → Prop) (H H' : Hp) : Prop := ∀ a o, ¬ av a → H a = some o → H' a = some o
section
variable {av av' : Addr → Prop} {H H' H'' : Hp} {b s a p : Addr} {o : HO} {n : Nat} {v w : V} {d : D} {ds : List D} {K : PySem.W.Frag}
theorem Kp.refl : Kp av H H := fun _ _ _ e => e
theorem Kp.trans (x : Kp av H H') (y : Kp av H' H'') : Kp av H H'' := fun a o n e => y a o n (x a o n e)
theorem Same.kp (x : Same H H') : Kp av H H' := fun a o _ e => x a o e
theorem BX.kp (x : BX b s H H') (h : av b) : Kp av H H' := fun a o n e => x.keep a o (fun z => n (z ▸ h)) e
theorem Kp.new (h : H p = none) : Kp av H (upd H p o) := Same.kp (same_new h)
theorem Rp.mv : ∀ {n : Nat} {v : V} {d : D}, Kp av H H' → Rp av H n v d → Rp av H' n v d
  | 0, _, _, _, h => h
  | n + 1, _, _, k, h => by
    rcases h with h | ⟨a, xs, ds, e1, e2, na, ha, hl, p⟩ | ⟨a, xs, ds, e1, e2, na, ha, hl, p⟩
    · exact .inl h
    · exact .inr (.inl ⟨a, xs, ds, e1, e2, na, k _ _ na ha, hl, Paired.mapP p fun _ _ q => Rp.mv k q⟩)
    · exact .inr (.inr ⟨a, xs, ds, e1, e2, na, k _ _ na ha, hl, Paired.mapP p fun _ _ q => Rp.mv k q⟩)
theorem Rp.tup (h : Rp av H (n + 1) v (.tup ds)) : ∃ a xs, v = .ref a ∧ ¬ av a ∧ H a = some (.tup xs) ∧ xs.length < 100000 ∧ Paired (Rp av H n) xs ds := by
  rcases h with h | ⟨a, xs, es, e1, e2, na, ha, hl, p⟩ | ⟨a, xs, es, e1, e2, na, ha, hl, p⟩
  · cases v <;> cases h
  · cases e2
  · cases e2
    exact ⟨a, xs, e1, na, ha, hl, p⟩
theorem Rp.lst (h : Rp av H (n + 1) v (.lst ds)) : ∃ a xs, v = .ref a ∧ ¬ av a ∧ H a = some (.lst xs) ∧ xs.length < 100000 ∧ Paired (Rp av H n) xs ds := by
  rcases h with h | ⟨a, xs, es, e1, e2, na, ha, hl, p⟩ | ⟨a, xs, es, e1, e2, na, ha, hl, p⟩
  · cases v <;> cases h
  · cases e2
    exact ⟨a, xs, e1, na, ha, hl, p⟩
  · cases e2
theorem Rp.str {l : List Nat} (h : Rp av H n v (.str l)) : v = .str (tx l) ∧ ascii l := by
  have go : flatR v (.str l) → v = .str (tx l) ∧ ascii l := fun h => by
    cases v with
    | str x => exact ⟨by rw [h.1], h.2⟩
    | non => cases h
    | bl _ => cases h
    | int _ => cases h
    | byt _ => cases h
    | flt _ => cases h
    | ref _ => cases h
    | ty _ => cases h
  cases n with
  | zero => exact go h
  | succ n =>
    rcases h with h | ⟨_, _, _, _, e, _⟩ | ⟨_, _, _, _, e, _⟩
    · exact go h
    · cases e
    · cases e
/-- a tuple of texts -/
def tupS (ls : List (List Nat)) : D := .tup (ls.map D.str)
end
/-! ### names -/
def isNm (x : List Nat) : Prop := 0 < x.length ∧ x.length ≤ 8 ∧ ∀ c ∈ x, 97 ≤ c ∧ c < 123
structure NameL (ns : List (List Nat)) : Prop where
  nd : ns.Nodup
  ok : ∀ x ∈ ns, isNm x
theorem NameL.take {ns : List (List Nat)} (h : NameL ns) (k : Nat) : NameL (ns.take k) := ⟨h.nd.sublist (List.take_sublist k ns), fun x hx => h.ok x (List.mem_of_mem_take hx)⟩
theorem lett_bd (f b : Int) (k : Nat) : 97 ≤ lett f b k ∧ lett f b k < 123 := by
  unfold lett
  omega
theorem lett_inj {f b : Int} (hb : b ∈ [(1 : Int), 3, 5, 7, 9, 11]) {j k : Nat} (hj : j < 26) (hk : k < 26) (h : lett f b j = lett f b k) : j = k := by
  unfold lett at h
  simp only [List.mem_cons, List.not_mem_nil, or_false] at hb
  rcases hb with rfl | rfl | rfl | rfl | rfl | rfl <;> omega
/-- a letter put into the tail -/
def nmAt (tail : List Nat) (i : Nat) (c : Nat) : List Nat := tail.take i ++ [c] ++ tail.drop i
theorem nmAt_inj {tail : List Nat} {i c d : Nat} (h : nmAt tail i c = nmAt tail i d) : c = d := by
  unfold nmAt at h
  rw [List.append_assoc, List.append_assoc] at h
  have := List.append_cancel_left h
  simpa using this
theorem nmAt_ok {tail : List Nat} {i c : Nat} (ht : tail.length ≤ 7) (ha : ∀ x ∈ tail, 97 ≤ x ∧ x < 123) (hc : 97 ≤ c ∧ c < 123) : isNm (nmAt tail i c) := by
  unfold nmAt isNm
  refine ⟨by simp; omega, by simp; omega, fun x hx => ?_⟩
  simp only [List.append_assoc, List.mem_append, List.mem_singleton] at hx
  rcases hx with hx | rfl | hx
  · exact ha x (List.mem_of_mem_take hx)
  · exact hc
  · exact ha x (List.mem_of_mem_drop hx)
theorem names_ok {tail : List Nat} {i : Nat} {f b : Int} (hb : b ∈ [(1 : Int), 3, 5, 7, 9, 11]) (ht : tail.length ≤ 7) (ha : ∀ x ∈ tail, 97 ≤ x ∧ x < 123) {m : Nat} (hm : m ≤ 26) :
    NameL ((List.range m).map fun k => nmAt tail i (lett f b k)) := by
  refine ⟨?_, fun x hx => ?_⟩
  · refine List.pairwise_map.mpr (List.Pairwise.imp_of_mem ?_ (List.nodup_range (n := m)))
    intro j k hj hk ne e
    have h1 := List.mem_range.mp hj
    have h2 := List.mem_range.mp hk
    exact ne (lett_inj hb (by omega) (by omega) (nmAt_inj e))
  · obtain ⟨k, _, rfl⟩ := List.mem_map.mp hx
    exact nmAt_ok ht ha (lett_bd f b k)
/-! ### data as the library's own, for == and != -/
theorem eqv_nil (qs : List PyData) : PyData.eqv (.list qs) (.list []) = decide (qs.length = 0) := by
  cases qs with
  | nil => rfl
  | cons q r => rfl
/-! ### a drawn plan -/
structure PD where
  letters : List Nat
  machines : List (List Nat × List Nat)
  rows : List (List Nat × List Nat)
  moves : List (List Nat × List Nat × List (List Nat) × List Nat)
  stands : List (List (List Nat))
def pairD (x : List Nat × List Nat) : D := .tup [.str x.1, .str x.2]
def mvD (x : List Nat × List Nat × List (List Nat) × List Nat) : D := .tup [.str x.1, .str x.2.1, tupS x.2.2.1, .str x.2.2.2]
def standD (ss : List (List Nat)) : D := .lst (ss.map D.str)
def letD (c : Nat) : D := .str [c]
def kLetters : Str := Str.ofString "letters"
def kMachines : Str := Str.ofString "machines"
def kRows : Str := Str.ofString "rows"
def kMoves : Str := Str.ofString "moves"
def kStands : Str := Str.ofString "stands"
def planK (l m r v t : Addr) : List (Key × V) := [(.inr kLetters, .ref l), (.inr kMachines, .ref m), (.inr kRows, .ref r), (.inr kMoves, .ref v), (.inr kStands, .ref t)]
structure PlanAt (av : Addr → Prop) (H : Hp) (d l m r v t : Addr) (p : PD) : Prop where
  nd : ¬ av d
  d : H d = some (.dK (planK l m r v t))
  l : Rp av H 1 (.ref l) (.lst (p.letters.map letD))
  m : Rp av H 2 (.ref m) (.lst (p.machines.map pairD))
  r : Rp av H 2 (.ref r) (.lst (p.rows.map pairD))
  v : Rp av H 3 (.ref v) (.lst (p.moves.map mvD))
  t : Rp av H 2 (.ref t) (.lst (p.stands.map standD))
section
variable {av av' : Addr → Prop} {H H' : Hp} {d l m r v t : Addr} {p : PD}
theorem PlanAt.mv (h : PlanAt av H d l m r v t p) (k : Kp av H H') : PlanAt av H' d l m r v t p := ⟨h.nd, k _ _ h.nd h.d, h.l.mv k, h.m.mv k, h.r.mv k, h.v.mv k, h.t.mv k⟩
end
def Plan (av : Addr → Prop) (H : Hp) (d : Addr) (p : PD) : Prop := ∃ l m r v t, PlanAt av H d l m r v t p
theorem Plan.mv {av : Addr → Prop} {H H' : Hp} {d : Addr} {p : PD} (h : Plan av H d p) (k : Kp av H H') : Plan av H' d p := by
  obtain ⟨l, m, r, v, t, h⟩ := h
  exact ⟨l, m, r, v, t, h.mv k⟩
/-- all that is told in H -/
def Old (H : Hp) : Addr → Prop := fun a => H a ≠ none
theorem Old.new {H : Hp} {a : Addr} (h : H a = none) : ¬ Old H a := fun z => z h
theorem Old.of {H : Hp} {a : Addr} {o : HO} (h : H a = some o) : Old H a := fun z => by rw [h] at z; cases z
def wIdle : List Nat := [105, 100, 108, 101]
def wBare : List Nat := [98, 97, 114, 101]
def wSend : List Nat := [115, 101, 110, 100]
def wTake : List Nat := [116, 97, 107, 101]
inductive ActOk (p : PD) : List (List Nat) → Prop
  | idle : ActOk p [wIdle]
  | bare {x : List Nat × List Nat} (h : x ∈ p.rows) : ActOk p [wBare, x.1]
  | send {x : List Nat × List Nat} {c : Nat} (h : x ∈ p.rows) (hc : c ∈ p.letters) : ActOk p [wSend, x.1, [c]]
  | take {x : List Nat × List Nat} {c : Nat} (h : x ∈ p.rows) (hc : c ∈ p.letters) : ActOk p [wTake, x.1, [c]]
theorem ActOk.of {p q : PD} (hr : p.rows = q.rows) (hl : p.letters = q.letters) {a : List (List Nat)} (h : ActOk p a) : ActOk q a := by
  cases h with
  | idle => exact .idle
  | bare h => exact .bare (hr ▸ h)
  | send h hc => exact .send (hr ▸ h) (hl ▸ hc)
  | take h hc => exact .take (hr ▸ h) (hl ▸ hc)
def MvOk (p : PD) (x : List Nat × List Nat × List (List Nat) × List Nat) : Prop :=
  ∃ (i : Nat) (m : List Nat × List Nat) (ss : List (List Nat)), p.machines[i]? = some m ∧ p.stands[i]? = some ss ∧ x.1 = m.1 ∧ x.2.1 ∈ ss ∧ ActOk p x.2.2.1 ∧ x.2.2.2 ∈ ss
/-! ### a plan while it is made -/
structure PB (b cl : Addr) (H0 H : Hp) (d l nm m r v t : Addr) (cs : List Nat) (ns : List (List Nat)) (xm xr xv xt : List V) : Prop where
  bx : BX b cl H0 H
  d : H d = some (.dK (planK l m r v t))
  l : H l = some (.lst (cs.map fun c => V.str (sg c)))
  nm : H nm = some (.lst (ns.map fun l => V.str (tx l)))
  m : H m = some (.lst xm)
  r : H r = some (.lst xr)
  v : H v = some (.lst xv)
  t : H t = some (.lst xt)
structure PAd (H0 : Hp) (d l nm m r v t : Addr) : Prop where
  fd : H0 d = none
  fl : H0 l = none
  fn : H0 nm = none
  fm : H0 m = none
  fr : H0 r = none
  fv : H0 v = none
  ft : H0 t = none
  qdm : d ≠ m
  qdr : d ≠ r
  qdv : d ≠ v
  qdt : d ≠ t
  qlm : l ≠ m
  qlr : l ≠ r
  qlv : l ≠ v
  qlt : l ≠ t
  qnm : nm ≠ m
  qnr : nm ≠ r
  qnv : nm ≠ v
  qnt : nm ≠ t
  qmr : m ≠ r
  qmv : m ≠ v
  qmt : m ≠ t
  qrv : r ≠ v
  qrt : r ≠ t
  qvt : v ≠ t
section
variable {b cl : Addr} {H0 H H' : Hp} {d l nm m r v t : Addr} {cs : List Nat} {ns : List (List Nat)} {xm xr xv xt : List V}
theorem PB.mv (A : PAd H0 d l nm m r v t) (hB : Bag b cl H0) (h : PB b cl H0 H d l nm m r v t cs ns xm xr xv xt) (x : BX b cl H H') : PB b cl H0 H' d l nm m r v t cs ns xm xr xv xt :=
  ⟨h.bx.trans x, x.keep _ _ (hB.nb A.fd) h.d, x.keep _ _ (hB.nb A.fl) h.l, x.keep _ _ (hB.nb A.fn) h.nm, x.keep _ _ (hB.nb A.fm) h.m, x.keep _ _ (hB.nb A.fr) h.r, x.keep _ _ (hB.nb A.fv) h.v, x.keep _ _ (hB.nb A.ft) h.t⟩
end
/-- what is drawn as a plan -/
structure PlanOk (p : PD) (ma st ro mo : Nat) : Prop where
  lm : p.machines.length = ma
  ls : p.stands.length = ma
  lr : p.rows.length = ro
  lv : p.moves.length = if 0 < ma then mo else 0
  ll : 0 < p.letters.length ∧ p.letters.length ≤ 3
  lc : ∀ c ∈ p.letters, 97 ≤ c ∧ c < 123
  nl : p.letters.Nodup
  nms : ∃ ns, NameL ns ∧ ns.length = 12 ∧ p.machines.map (·.1) = ns.take ma ∧ p.rows.map (·.1) = (ns.drop 5).take ro
  ms : ∀ (i : Nat) (x : List Nat × List Nat) (ss : List (List Nat)), p.machines[i]? = some x → p.stands[i]? = some ss → x.2 ∈ ss
  ss : ∀ s ∈ p.stands, NameL s ∧ 0 < s.length ∧ s.length ≤ st
  rw : ∀ x ∈ p.rows, x.2.length ≤ 2 ∧ ∀ c ∈ x.2, c ∈ p.letters
  mv : ∀ x ∈ p.moves, MvOk p x
/-! ### the stands of a machine; scenes -/
def foundIn (name : List Nat) (ms : List (List Nat × List Nat × List (List Nat) × List Nat)) : List (List Nat) := ms.flatMap fun x => if x.1 = name then [x.2.1, x.2.2.2] else []
theorem foundIn_len (name : List Nat) : ∀ ms : List (List Nat × List Nat × List (List Nat) × List Nat), (foundIn name ms).length ≤ 2 * ms.length
  | [] => Nat.le_refl _
  | x :: r => by
    have := foundIn_len name r
    unfold foundIn at this ⊢
    rw [List.flatMap_cons, List.length_append, List.length_cons]
    split
    · show 2 + _ ≤ _
      omega
    · show 0 + _ ≤ _
      omega
end LB
set_option maxHeartbeats 1000000
namespace LB
open PySem PySem.Spec PyProof.Rows L2
/-! ### an own exception with fields, in an except suite: isinstance, its fields -/
/-- what the class D says, for isinstance and for fields -/
structure XC (K : PySem.W.Frag) (D : Addr) : Prop where
  cl : (PySem.W.clsIn K D).isSome = true
  ga : PySem.W.findIn K (.ref D) "__getattribute__" = some (some (.builtin "BaseException.__getattribute__"))
  gg : PySem.W.findIn K (.ref D) "__getattr__" = some none
  ex : PySem.W.subIn K (.ref D) (.type "BaseException") = some true
  ca : PySem.W.findIn K (.ref D) "__class__" = some (some (.builtin "object.__class__"))
  cg : PySem.W.specialIn K (.builtin "object.__class__") "__get__" = some (some (.builtin "getset_descriptor.__get__"))
  ct : PySem.W.takesIn K (.builtin "object.__class__") = some true
  mo : PySem.W.mroIn K D (.type "object") = some true
  hd : PySem.W.hasDictIn K D = true
/-! ### C.m(self, ..): a def of an own class, called by the class's name -/
structure CFn (K : PySem.W.Frag) (C : Addr) (n : Str) (f : Addr) : Prop where
  rd : PySem.W.readsIn K C (.type "type") = true
  ga : PySem.W.specialIn K (.ref C) "__getattribute__" = some (some (.builtin "type.__getattribute__"))
  fn : PySem.W.findCls K (.ref C) (.type "type") n = some (.val (.ref f))
  kp : PySem.W.keepIn K (.ref f) = true
section
variable {X : Cx} {CX : CXT} {k : Nat} {f C : Addr} {fd : FuncData} {ps : List Str} {sp : Sp} {dvs : List V} {ds : List Value} {E : XK} {x n : Str} {p1 p2 pos : Pos} {e : Expr} {es : List Expr} {t : TA}
theorem pe_cfn {pl : Sem Bool} (c : CFn X.K C n f) (F : FnOk X.prog X.w X.K X.mg X.base CX k f fd ps sp) (hr : Room k X.A) (hg : Gl X x) (hm : X.mg x = some (.ref C)) (hb : L2.Binds X.K fd ps ds) (hd : Vals dvs ds) (hx : Passes CX X E) (ha : PA X (e :: es) t)
    (hdb : (x == ("__debug__" : Str)) = false := by decide)
    (hc : eval (.Call (.Attribute (.Name x p1) n p2) (e :: es) [] pos) X.env = (do
      let ov ← eval (.Name x p1) X.env
      standAt p2.atName
      let (f, first) ← holding [ov] (getMethod ov n pl)
      callWith pos f first (backTo pos (starEach (e :: es) X.env)) (backToKw pos (keywordEach [] X.env))) := by rfl)
    (he : starEach (e :: es) X.env = (false, eval e X.env) :: starEach es X.env := by rfl) (hpl : (backTo pos (starEach es X.env)).any (·.1) = false := by rfl) :
    PE X (.Call (.Attribute (.Name x p1) n p2) (e :: es) [] pos) (tCall sp dvs E t) := by
  refine ⟨fun pins s σ H Q I h => ?_⟩
  refine PySem.W.methodCall_KW (ld_glob I hg hm ?_ hdb) hc
  refine PySem.W.method_cls I.kIn c.ga (PySem.W.cls_value I.kIn c.rd c.fn rfl ?_)
  show wpAny _ _ (callWith pos (.ref f) [] (backTo pos (starEach (e :: es) X.env)) []) _ _ _
  refine PySem.W.callWith_K (h₀ := X.base) I.ok.mod.kin c.kp (thn (ha.run pos pins _ σ H _ (I.tok _) h) fun us s1 ⟨vs, H1, I1, r, q⟩ => ⟨I1.kIn, ?_⟩) he hpl
  exact run_fn F hr hb hd hx I1 r q
end
/-! ### C(), C an own exception class whose __init__ takes what is left out -/
section
variable {X : Cx} {p pos : Pos}
theorem pmk_oex0 {CX : CXT} {x : Str} {C fI : Addr} {k : Nat} {fd : FuncData} {ps : List Str} {sp : Sp} {ds : List Value} {dvs : List V} (T : OexC X.K C) (iC : PySem.W.findIn X.K (.ref C) "__init__" = some (some (.ref fI))) (tI : PySem.W.typeIn X.K (.ref fI) = some (.type "function"))
    (F1 : FnOk X.prog X.w X.K X.mg X.base CX k fI fd ps sp) (hr : Room (k + 1) X.A) (hb : L2.Binds X.K fd ps ds) (hd : Vals dvs ds) (hx : Passes CX X (fun _ _ _ => False)) (hg : Gl X x) (hm : X.mg x = some (.ref C)) (hdb : (x == ("__debug__" : Str)) = false := by decide) :
    PMk X (.Call (.Name x p) [] [] pos) (tMkO C sp dvs tNil) := by
  intro pins s σ H Q I h
  obtain ⟨nm, q, N, bs, bm, sn, sub, ab, col, dd, k0, k1, k2, k3, k5, hC, hbm⟩ := T.cls
  refine wpAny_Call_Name_kw (ld_glob I hg hm ?_ hdb)
  refine PySem.W.callWith_K0 I.kIn T.kC ?_
  show wpAny _ _ (call (.ref C) []) _ _ _
  obtain ⟨hp, g, dr, tk, os⟩ := s
  obtain ⟨_, q1⟩ := h
  have sz : hp.objs.size ≤ hp.objs.size + 1 := Nat.le_succ _
  have asked := q1 (hp.objs.size + 1) (I.hok.fresh sz)
  have kk : ∀ b o, hp.get? b = some o → ((hp.push (PySem.W.kdv_tup [])).push (PySem.HandSPX.excO C hp.objs.size)).get? b = some o := fun b o e => Heap.get?_push_of_some _ (Heap.get?_push_of_some _ e)
  have at_ : ((hp.push (PySem.W.kdv_tup [])).push (PySem.HandSPX.excO C hp.objs.size)).get? (hp.objs.size + 1) = some (PySem.HandSPX.excO C hp.objs.size) := by heap_get
  have I2 : Inv X pins σ (upd H (hp.objs.size + 1) (exo (hp.objs.size + 1) C none)) ⟨(hp.push (PySem.W.kdv_tup [])).push (PySem.HandSPX.excO C hp.objs.size), g, dr, tk, os⟩ :=
    I.laid (t' := tk) (a := hp.objs.size + 1) (o := exo (hp.objs.size + 1) C none) (h' := (hp.push (PySem.W.kdv_tup [])).push (PySem.HandSPX.excO C hp.objs.size)) kk sz (exo_ok at_)
  have r2 : Vals (V.ref (hp.objs.size + 1) :: ([] ++ dvs)) ([Value.ref (hp.objs.size + 1)] ++ ds) := .cons rfl hd
  have hl : ([Value.ref (hp.objs.size + 1)] ++ ds).length = ps.length := by
    have e := r2.length
    rw [F1.len _ _ _ _ asked] at e
    exact e.symm
  refine wpAny_call (PySem.HandSPX.call_own PySem.F.excBase_ValueError (fun Y => PySem.HandSPX.refsVE_contains Y bm hbm) (I.kIn _ _ hC) (PySem.W.looks_findIn I.kIn iC) (fun self => PySem.W.bind_fn I.kIn self tI) (Nat.zero_le _)
    (codeAny_mono (F1.run _ X.stack _ _ ⟨[Value.ref (hp.objs.size + 1)], []⟩ ([Value.ref (hp.objs.size + 1)] ++ ds) _ _ (fun _ _ _ => False) (hr.make C [] []) (I2.env0.make C [] []) (hb _ [Value.ref (hp.objs.size + 1)] I2.kIn hl) r2 asked) fun r s' hq' => ?_))
  cases r with
  | error er => exact hx pins σ _ _ er s' I2 hq'
  | ok fl =>
    cases fl with
    | ret u =>
      obtain ⟨v, H2, os2, bare2, un2, hok2, rv, ev, d, fs, ea, ed, hd1, q2⟩ := hq'
      subst ev
      obtain ⟨h2, g2, d2, t2, os'⟩ := s'
      exact ⟨rv, mk_end (raises_own T.exC T.tyC) I sz kk un2 hok2 os2 bare2 ea ed hd1 q2⟩
    | next => exact False.elim hq'
    | brk => exact False.elim hq'
    | cont => exact False.elim hq'
end
end LB
namespace LB
open PySem PySem.Spec PyProof.Rows L2
/-! ### a def that holds lambdas: its own code object is told -/
end LB
set_option maxHeartbeats 200000
/-! Pure runs: values without a heap of tuples, a store of what changes; a run of a def as a function; how it speaks of the hand layer's readings. -/
namespace Pu
open PySem PySem.Spec PyProof.Rows L2 LB
/-! ### values, objects, results -/
inductive PV where
  | non | bl (b : Bool) | int (i : Int) | str (s : List Nat) | ty (n : String) | adr (a : Addr) | ref (n : Nat) | tup (xs : List PV) | tpb (xs : List PV)
mutual
def PV.wf (n : Nat) : PV → Prop
  | .non => True
  | .bl _ => True
  | .int _ => True
  | .str _ => True
  | .ty _ => True
  | .adr _ => True
  | .ref k => k < n
  | .tup xs => PV.wfs n xs
  | .tpb xs => PV.wfs n xs
def PV.wfs (n : Nat) : List PV → Prop
  | [] => True
  | x :: xs => PV.wf n x ∧ PV.wfs n xs
end
/-! a value as a nested key -/
mutual
def nkP : PV → NestedKey
  | .str s => .text (tx s)
  | .tup xs => .tup (nkPs xs)
  | .non => .none
  | .bl _ => .none
  | .int _ => .none
  | .ty _ => .none
  | .adr _ => .none
  | .ref _ => .none
  | .tpb _ => .none
def nkPs : List PV → List NestedKey
  | [] => []
  | x :: xs => nkP x :: nkPs xs
end
inductive PO where
  | lst (xs : List PV)
  | dct (kvs : List (PV × PV))
  | dtt (kvs : List (PV × PV))
  | lck (kvs : List (PV × PV))
  | lct (kvs : List (PV × PV))
  | ins (C : Addr) (fs : List (String × PV))
  | nd (f : List (Addr × NestedKey) → Addr → HO) (ks : List PV)
abbrev PM := List PO
def kvwf (n : Nat) (kvs : List (PV × PV)) : Prop := ∀ p ∈ kvs, p.1.wf n ∧ p.2.wf n
def PO.wf (n : Nat) : PO → Prop
  | .lst xs => PV.wfs n xs
  | .dct kvs => kvwf n kvs
  | .dtt kvs => kvwf n kvs
  | .lck kvs => kvwf n kvs
  | .lct kvs => kvwf n kvs
  | .ins _ fs => ∀ p ∈ fs, p.2.wf n
  | .nd _ ks => PV.wfs n ks
structure Xc where
  C : Addr
  w : Str
  n : Int
inductive Res (α : Type) where
  | ok (a : α) (M : PM)
  | exc (x : Xc) (M : PM)
  | bad
def Res.bnd {α β : Type} (r : Res α) (k : α → PM → Res β) : Res β := match r with
  | .ok a M => k a M
  | .exc x M => .exc x M
  | .bad => .bad
/-- what leaves counts for nothing -/
def Res.nox {α : Type} (r : Res α) : Res α := match r with
  | .ok a M => .ok a M
  | _ => .bad
abbrev PS := List (Option PV)
abbrev FE := PS → PM → Res PV
abbrev FT := PS → PM → Res Bool
abbrev FA := PS → PM → Res (List PV)
abbrev FO := PS → PM → Res (Option Int)
inductive SR where
  | nx (σ : PS) (M : PM)
  | rt (p : PV) (M : PM)
  | bk (σ : PS) (M : PM)
  | ct (σ : PS) (M : PM)
  | exc (x : Xc) (M : PM)
  | bad
abbrev FS := PS → PM → SR
@[simp] theorem bnd_ok {α β : Type} (a : α) (M : PM) (k : α → PM → Res β) : (Res.ok a M).bnd k = k a M := id rfl
@[simp] theorem bnd_exc {α β : Type} (x : Xc) (M : PM) (k : α → PM → Res β) : (Res.exc x M).bnd k = .exc x M := id rfl
@[simp] theorem bnd_bad {α β : Type} (k : α → PM → Res β) : Res.bad.bnd k = .bad := id rfl
@[simp] theorem nox_ok {α : Type} (a : α) (M : PM) : (Res.ok a M).nox = .ok a M := id rfl
/-! ### what stands for what -/
section
variable (ι : Nat → Addr) (N : Nat) (H : Hp)
mutual
def Rv : PV → V → Prop
  | .non, v => v = .non
  | .bl b, v => v = .bl b
  | .int i, v => v = .int i
  | .str s, v => v = .str (tx s)
  | .ty n, v => v = .ty n
  | .adr a, v => v = .ref a
  | .ref k, v => k < N ∧ v = .ref (ι k)
  | .tup ps, v => ∃ a vs, v = .ref a ∧ H a = some (.tup vs) ∧ Rvs ps vs
  | .tpb ps, v => ∃ a vs o, v = .ref a ∧ H a = some (.frz o (.tup vs)) ∧ o.dict = none ∧ Rvs ps vs
def Rvs : List PV → List V → Prop
  | [], vs => vs = []
  | p :: ps, vs => ∃ v r, vs = v :: r ∧ Rv p v ∧ Rvs ps r
end
end
structure Ex (ι ι' : Nat → Addr) (n : Nat) (H H' : Hp) : Prop where
  i : ∀ j, j < n → ι' j = ι j
  t : ∀ a vs, H a = some (.tup vs) → H' a = some (.tup vs)
  z : ∀ a o u, H a = some (.frz o u) → H' a = some (.frz o u)
section
variable {ι ι' ι'' : Nat → Addr} {n n' N N' : Nat} {H H' H'' : Hp}
theorem Ex.refl : Ex ι ι n H H := ⟨fun _ _ => rfl, fun _ _ e => e, fun _ _ _ e => e⟩
theorem Ex.trans (a : Ex ι ι' n H H') (b : Ex ι' ι'' n' H' H'') (h : n ≤ n') : Ex ι ι'' n H H'' :=
  ⟨fun j hj => (b.i j (Nat.lt_of_lt_of_le hj h)).trans (a.i j hj), fun x vs e => b.t x vs (a.t x vs e), fun x o u e => b.z x o u (a.z x o u e)⟩
mutual
theorem Rv.mono (e : Ex ι ι' N H H') (h : N ≤ N') : ∀ {p : PV} {v : V}, Rv ι N H p v → Rv ι' N' H' p v
  | .non, _, q => q
  | .bl _, _, q => q
  | .int _, _, q => q
  | .str _, _, q => q
  | .ty _, _, q => q
  | .adr _, _, q => q
  | .ref k, _, q => by
    unfold Rv at q ⊢
    exact ⟨Nat.lt_of_lt_of_le q.1 h, by rw [e.i k q.1]; exact q.2⟩
  | .tup ps, _, q => by
    unfold Rv at q ⊢
    obtain ⟨a, vs, e1, e2, r⟩ := q
    exact ⟨a, vs, e1, e.t _ _ e2, Rvs.mono e h r⟩
  | .tpb ps, _, q => by
    unfold Rv at q ⊢
    obtain ⟨a, vs, o, e1, e2, e3, r⟩ := q
    exact ⟨a, vs, o, e1, e.z _ _ _ e2, e3, Rvs.mono e h r⟩
theorem Rvs.mono (e : Ex ι ι' N H H') (h : N ≤ N') : ∀ {ps : List PV} {vs : List V}, Rvs ι N H ps vs → Rvs ι' N' H' ps vs
  | [], _, q => q
  | p :: ps, _, q => by
    unfold Rvs at q ⊢
    obtain ⟨v, r, e1, q1, q2⟩ := q
    exact ⟨v, r, e1, Rv.mono e h q1, Rvs.mono e h q2⟩
end
mutual
theorem Rv.wf : ∀ {p : PV} {v : V}, Rv ι N H p v → p.wf N
  | .non, _, _ => by unfold PV.wf; trivial
  | .bl _, _, _ => by unfold PV.wf; trivial
  | .int _, _, _ => by unfold PV.wf; trivial
  | .str _, _, _ => by unfold PV.wf; trivial
  | .ty _, _, _ => by unfold PV.wf; trivial
  | .adr _, _, _ => by unfold PV.wf; trivial
  | .ref k, _, q => by unfold Rv at q; unfold PV.wf; exact q.1
  | .tup ps, _, q => by
    unfold Rv at q
    unfold PV.wf
    obtain ⟨a, vs, e1, e2, r⟩ := q
    exact Rvs.wf r
  | .tpb ps, _, q => by
    unfold Rv at q
    unfold PV.wf
    obtain ⟨a, vs, o, e1, e2, e3, r⟩ := q
    exact Rvs.wf r
theorem Rvs.wf : ∀ {ps : List PV} {vs : List V}, Rvs ι N H ps vs → PV.wfs N ps
  | [], _, _ => by unfold PV.wfs; trivial
  | p :: ps, _, q => by
    unfold Rvs at q
    unfold PV.wfs
    obtain ⟨v, r, e1, q1, q2⟩ := q
    exact ⟨Rv.wf q1, Rvs.wf q2⟩
end
mutual
theorem Rv.cut : ∀ {p : PV} {v : V}, Rv ι N' H p v → p.wf N → Rv ι N H p v
  | .non, _, q, _ => q
  | .bl _, _, q, _ => q
  | .int _, _, q, _ => q
  | .str _, _, q, _ => q
  | .ty _, _, q, _ => q
  | .adr _, _, q, _ => q
  | .ref k, _, q, w => by
    unfold Rv at q ⊢
    unfold PV.wf at w
    exact ⟨w, q.2⟩
  | .tup ps, _, q, w => by
    unfold Rv at q ⊢
    unfold PV.wf at w
    obtain ⟨a, vs, e1, e2, r⟩ := q
    exact ⟨a, vs, e1, e2, Rvs.cut r w⟩
  | .tpb ps, _, q, w => by
    unfold Rv at q ⊢
    unfold PV.wf at w
    obtain ⟨a, vs, o, e1, e2, e3, r⟩ := q
    exact ⟨a, vs, o, e1, e2, e3, Rvs.cut r w⟩
theorem Rvs.cut : ∀ {ps : List PV} {vs : List V}, Rvs ι N' H ps vs → PV.wfs N ps → Rvs ι N H ps vs
  | [], _, q, _ => q
  | p :: ps, _, q, w => by
    unfold Rvs at q ⊢
    unfold PV.wfs at w
    obtain ⟨v, r, e1, q1, q2⟩ := q
    exact ⟨v, r, e1, Rv.cut q1 w.1, Rvs.cut q2 w.2⟩
end
theorem Rvs.pr : ∀ {ps : List PV} {vs : List V}, Rvs ι N H ps vs → Paired (Rv ι N H) ps vs
  | [], _, q => by unfold Rvs at q; subst q; exact .nil
  | p :: ps, _, q => by
    unfold Rvs at q
    obtain ⟨v, r, rfl, q1, q2⟩ := q
    exact .cons q1 q2.pr
theorem Rvs.of : ∀ {ps : List PV} {vs : List V}, Paired (Rv ι N H) ps vs → Rvs ι N H ps vs
  | _, _, .nil => by unfold Rvs; rfl
  | _, _, .cons a b => by unfold Rvs; exact ⟨_, _, rfl, a, Rvs.of b⟩
theorem Rvs.nil : Rvs ι N H [] [] := by unfold Rvs; rfl
theorem Rvs.cons {p : PV} {ps : List PV} {v : V} {vs : List V} (a : Rv ι N H p v) (b : Rvs ι N H ps vs) : Rvs ι N H (p :: ps) (v :: vs) := by unfold Rvs; exact ⟨_, _, rfl, a, b⟩
theorem Rvs.len {ps : List PV} {vs : List V} (h : Rvs ι N H ps vs) : ps.length = vs.length := Paired.length h.pr
theorem Rvs.get {ps : List PV} {vs : List V} (h : Rvs ι N H ps vs) {i : Nat} {p : PV} (e : ps[i]? = some p) : ∃ v, vs[i]? = some v ∧ Rv ι N H p v := by
  have l := h.len
  have li := (List.getElem?_eq_some_iff.mp e).1
  have e2 : vs[i]? = some vs[i] := List.getElem?_eq_getElem (by omega)
  exact ⟨_, e2, paired_get h.pr e e2⟩
theorem Rvs.app : ∀ {ps qs : List PV} {vs ws : List V}, Rvs ι N H ps vs → Rvs ι N H qs ws → Rvs ι N H (ps ++ qs) (vs ++ ws)
  | [], _, _, _, a, b => by unfold Rvs at a; subst a; exact b
  | p :: ps, _, _, _, a, b => by
    unfold Rvs at a
    obtain ⟨v, r, rfl, q1, q2⟩ := a
    exact Rvs.cons q1 (Rvs.app q2 b)
theorem Rvs.take : ∀ {ps : List PV} {vs : List V} (k : Nat), Rvs ι N H ps vs → Rvs ι N H (ps.take k) (vs.take k)
  | _, _, 0, _ => Rvs.nil
  | [], _, k + 1, a => by unfold Rvs at a; subst a; exact Rvs.nil
  | p :: ps, _, k + 1, a => by
    unfold Rvs at a
    obtain ⟨v, r, rfl, q1, q2⟩ := a
    exact Rvs.cons q1 (Rvs.take k q2)
theorem Rvs.drop : ∀ {ps : List PV} {vs : List V} (k : Nat), Rvs ι N H ps vs → Rvs ι N H (ps.drop k) (vs.drop k)
  | _, _, 0, a => a
  | [], _, k + 1, a => by unfold Rvs at a; subst a; exact Rvs.nil
  | p :: ps, _, k + 1, a => by
    unfold Rvs at a
    obtain ⟨v, r, rfl, q1, q2⟩ := a
    exact Rvs.drop k q2
theorem Rvs.set {p : PV} {v : V} (h : Rv ι N H p v) : ∀ {ps : List PV} {vs : List V} (k : Nat), Rvs ι N H ps vs → Rvs ι N H (ps.set k p) (vs.set k v)
  | [], _, _, a => by unfold Rvs at a; subst a; exact Rvs.nil
  | q :: ps, _, 0, a => by
    unfold Rvs at a
    obtain ⟨v, r, rfl, q1, q2⟩ := a
    exact Rvs.cons h q2
  | q :: ps, _, k + 1, a => by
    unfold Rvs at a
    obtain ⟨v, r, rfl, q1, q2⟩ := a
    exact Rvs.cons q1 (Rvs.set h k q2)
theorem Rv.tup_at {ps : List PV} {v : V} (h : Rv ι N H (.tup ps) v) : ∃ a vs, v = .ref a ∧ H a = some (.tup vs) ∧ Rvs ι N H ps vs := by unfold Rv at h; exact h
theorem Rv.mk_tup {ps : List PV} {a : Addr} {vs : List V} (h : H a = some (.tup vs)) (r : Rvs ι N H ps vs) : Rv ι N H (.tup ps) (.ref a) := by unfold Rv; exact ⟨a, vs, rfl, h, r⟩
theorem Rv.tpb_at {ps : List PV} {v : V} (h : Rv ι N H (.tpb ps) v) : ∃ a vs o, v = .ref a ∧ H a = some (.frz o (.tup vs)) ∧ o.dict = none ∧ Rvs ι N H ps vs := by unfold Rv at h; exact h
theorem Rv.mk_tpb {ps : List PV} {a : Addr} {vs : List V} {o : Obj} (h : H a = some (.frz o (.tup vs))) (hd : o.dict = none) (r : Rvs ι N H ps vs) : Rv ι N H (.tpb ps) (.ref a) := by unfold Rv; exact ⟨a, vs, o, rfl, h, hd, r⟩
theorem Rv.ref_at {k : Nat} {v : V} (h : Rv ι N H (.ref k) v) : k < N ∧ v = .ref (ι k) := by unfold Rv at h; exact h
theorem Rv.mk_ref {k : Nat} (h : k < N) : Rv ι N H (.ref k) (.ref (ι k)) := by unfold Rv; exact ⟨h, rfl⟩
theorem Rv.int {i : Int} {v : V} (h : Rv ι N H (.int i) v) : v = .int i := by unfold Rv at h; exact h
theorem Rv.bl {i : Bool} {v : V} (h : Rv ι N H (.bl i) v) : v = .bl i := by unfold Rv at h; exact h
theorem Rv.str {i : List Nat} {v : V} (h : Rv ι N H (.str i) v) : v = .str (tx i) := by unfold Rv at h; exact h
theorem Rv.non {v : V} (h : Rv ι N H .non v) : v = .non := by unfold Rv at h; exact h
theorem Rv.mk_int {i : Int} : Rv ι N H (.int i) (.int i) := by unfold Rv; rfl
theorem Rv.mk_bl {i : Bool} : Rv ι N H (.bl i) (.bl i) := by unfold Rv; rfl
theorem Rv.mk_str {i : List Nat} : Rv ι N H (.str i) (.str (tx i)) := by unfold Rv; rfl
theorem Rv.mk_non : Rv ι N H .non .non := by unfold Rv; rfl
theorem Rv.mk_adr {a : Addr} : Rv ι N H (.adr a) (.ref a) := by unfold Rv; rfl
end
/-- keys of dicts -/
def keyOf : PV → Option Key
  | .int i => some (.inl i)
  | .str s => some (.inr (tx s))
  | _ => none
def keysOf : PV → Option (List Key)
  | .tup xs => xs.mapM keyOf
  | _ => none
def Rk {κ α : Type} (F : κ → α → Prop) (ι : Nat → Addr) (N : Nat) (H : Hp) : κ × PV → α × V → Prop := fun p q => F p.1 q.1 ∧ Rv ι N H p.2 q.2
def fK : PV → Key → Prop := fun p k => keyOf p = some k
def fT : PV → List Key → Prop := fun p k => keysOf p = some k
def fF : String → Str → Prop := fun p k => Str.ofString p = k
def xdF (x : Xc) : List (Str × V) := [(Str.ofString "at", .int x.n), (Str.ofString "word", .str x.w)]
def Ro (ι : Nat → Addr) (N : Nat) (H : Hp) (a : Addr) : PO → Prop
  | .lst xs => ∃ vs, H a = some (.lst vs) ∧ Rvs ι N H xs vs
  | .dct kvs => ∃ kws, H a = some (.dK kws) ∧ Paired (Rk fK ι N H) kvs kws
  | .lck kvs => ∃ o kws, H a = some (.frz o (.dK kws)) ∧ Paired (Rk fK ι N H) kvs kws
  | .dtt kvs => ∃ kws, H a = some (.dT kws) ∧ Paired (Rk fT ι N H) kvs kws
  | .lct kvs => ∃ o kws, H a = some (.frz o (.dT kws)) ∧ Paired (Rk fT ι N H) kvs kws
  | .ins C fs => ∃ dx fw, H a = some (.ins C dx fw) ∧ Paired (Rk fF ι N H) fs fw
  | .nd f ks => ∃ (as : List Addr) (φ : Heap → Prop), H a = some (.ext φ) ∧ HO.ext φ = f (as.zip (nkPs ks)) a ∧ (∀ q, HO.ext φ ≠ LamX.CodeO a q) ∧ Rvs ι N H ks (as.map V.ref)
structure RM (tb : List (Addr × Str)) (ι : Nat → Addr) (M : PM) (H : Hp) : Prop where
  inj : ∀ i j, i < M.length → j < M.length → ι i = ι j → i = j
  obj : ∀ i o, M[i]? = some o → Ro ι M.length H (ι i) o
  tab : LamX.Tabs tb H
def Rs (ι : Nat → Addr) (N : Nat) (H : Hp) (σp : PS) (σ : L2.St) : Prop := σp.length = σ.length ∧ ∀ (i : Nat) (p : PV), σp[i]? = some (some p) → ∃ v, σ[i]? = some (some v) ∧ Rv ι N H p v
section
variable {tb : List (Addr × Str)} {ι ι' ι'' : Nat → Addr} {n n' N N' : Nat} {H H' H'' : Hp} {M M' : PM} {a : Addr} {o : PO}
theorem Ro.mono (e : Ex ι ι' N H H') (h : N ≤ N') (ha : H' a = H a) (r : Ro ι N H a o) : Ro ι' N' H' a o := by
  cases o with
  | lst xs =>
    obtain ⟨vs, e1, r⟩ := r
    exact ⟨vs, ha.trans e1, r.mono e h⟩
  | dct kvs =>
    obtain ⟨vs, e1, r⟩ := r
    exact ⟨vs, ha.trans e1, Paired.mapP r fun _ _ q => ⟨q.1, q.2.mono e h⟩⟩
  | dtt kvs =>
    obtain ⟨vs, e1, r⟩ := r
    exact ⟨vs, ha.trans e1, Paired.mapP r fun _ _ q => ⟨q.1, q.2.mono e h⟩⟩
  | lck kvs =>
    obtain ⟨o, vs, e1, r⟩ := r
    exact ⟨o, vs, ha.trans e1, Paired.mapP r fun _ _ q => ⟨q.1, q.2.mono e h⟩⟩
  | lct kvs =>
    obtain ⟨o, vs, e1, r⟩ := r
    exact ⟨o, vs, ha.trans e1, Paired.mapP r fun _ _ q => ⟨q.1, q.2.mono e h⟩⟩
  | ins C fs =>
    obtain ⟨dx, vs, e1, r⟩ := r
    exact ⟨dx, vs, ha.trans e1, Paired.mapP r fun _ _ q => ⟨q.1, q.2.mono e h⟩⟩
  | nd f ks =>
    obtain ⟨as, φ, e1, e2, e3, r⟩ := r
    exact ⟨as, φ, ha.trans e1, e2, e3, r.mono e h⟩
theorem paired_wf {κ α : Type} {F : κ → α → Prop} : ∀ {kvs : List (κ × PV)} {kws : List (α × V)}, Paired (Rk F ι N H) kvs kws → ∀ p ∈ kvs, p.2.wf N
  | _, _, .nil, p, h => by cases h
  | _, _, .cons a b, p, h => by
    rcases List.mem_cons.mp h with rfl | h
    · exact a.2.wf
    · exact paired_wf b p h
theorem paired_fst {κ α : Type} {F : κ → α → Prop} {G : κ → Prop} (g : ∀ k a, F k a → G k) : ∀ {kvs : List (κ × PV)} {kws : List (α × V)}, Paired (Rk F ι N H) kvs kws → ∀ p ∈ kvs, G p.1
  | _, _, .nil, p, h => by cases h
  | _, _, .cons a b, p, h => by
    rcases List.mem_cons.mp h with rfl | h
    · exact g _ _ a.1
    · exact paired_fst g b p h
theorem keyOf_wf {k : PV} {q : Key} (h : keyOf k = some q) : k.wf n := by
  cases k <;> first | (cases h; done) | (unfold PV.wf; trivial)
theorem keysOf_wf {k : PV} {q : List Key} (h : keysOf k = some q) : k.wf n := by
  cases k <;> first | (cases h; done) | skip
  rename_i xs
  unfold PV.wf
  have h : xs.mapM keyOf = some q := h
  induction xs generalizing q with
  | nil => unfold PV.wfs; trivial
  | cons x xs ih =>
    unfold PV.wfs
    rw [List.mapM_cons] at h
    cases e : keyOf x with
    | none => rw [e] at h; cases h
    | some a =>
      rw [e] at h
      cases e2 : xs.mapM keyOf with
      | none => rw [e2] at h; cases h
      | some b => exact ⟨keyOf_wf e, ih e2 e2⟩
theorem Ro.wf (r : Ro ι N H a o) : o.wf N := by
  cases o with
  | lst xs =>
    obtain ⟨vs, e1, r⟩ := r
    exact r.wf
  | dct kvs =>
    obtain ⟨vs, e1, r⟩ := r
    exact fun p hp => ⟨paired_fst (G := fun k => k.wf N) (fun k a h => keyOf_wf h) r p hp, paired_wf r p hp⟩
  | dtt kvs =>
    obtain ⟨vs, e1, r⟩ := r
    exact fun p hp => ⟨paired_fst (G := fun k => k.wf N) (fun k a h => keysOf_wf h) r p hp, paired_wf r p hp⟩
  | lck kvs =>
    obtain ⟨o, vs, e1, r⟩ := r
    exact fun p hp => ⟨paired_fst (G := fun k => k.wf N) (fun k a h => keyOf_wf h) r p hp, paired_wf r p hp⟩
  | lct kvs =>
    obtain ⟨o, vs, e1, r⟩ := r
    exact fun p hp => ⟨paired_fst (G := fun k => k.wf N) (fun k a h => keysOf_wf h) r p hp, paired_wf r p hp⟩
  | ins C fs =>
    obtain ⟨dx, vs, e1, r⟩ := r
    exact fun p hp => paired_wf r p hp
  | nd f ks =>
    obtain ⟨as, φ, e1, e2, e3, r⟩ := r
    exact r.wf
theorem paired_cut {κ α : Type} {F : κ → α → Prop} : ∀ {kvs : List (κ × PV)} {kws : List (α × V)}, Paired (Rk F ι N' H) kvs kws → (∀ p ∈ kvs, p.2.wf N) → Paired (Rk F ι N H) kvs kws
  | _, _, .nil, _ => .nil
  | _, _, .cons a b, h => .cons ⟨a.1, a.2.cut (h _ List.mem_cons_self)⟩ (paired_cut b fun p hp => h p (List.mem_cons_of_mem _ hp))
theorem Ro.cut (r : Ro ι N' H a o) (w : o.wf N) : Ro ι N H a o := by
  cases o with
  | lst xs =>
    obtain ⟨vs, e1, r⟩ := r
    exact ⟨vs, e1, r.cut w⟩
  | dct kvs =>
    obtain ⟨vs, e1, r⟩ := r
    exact ⟨vs, e1, paired_cut r fun p hp => (w p hp).2⟩
  | dtt kvs =>
    obtain ⟨vs, e1, r⟩ := r
    exact ⟨vs, e1, paired_cut r fun p hp => (w p hp).2⟩
  | lck kvs =>
    obtain ⟨o, vs, e1, r⟩ := r
    exact ⟨o, vs, e1, paired_cut r fun p hp => (w p hp).2⟩
  | lct kvs =>
    obtain ⟨o, vs, e1, r⟩ := r
    exact ⟨o, vs, e1, paired_cut r fun p hp => (w p hp).2⟩
  | ins C fs =>
    obtain ⟨dx, vs, e1, r⟩ := r
    exact ⟨dx, vs, e1, paired_cut r w⟩
  | nd f ks =>
    obtain ⟨as, φ, e1, e2, e3, r⟩ := r
    exact ⟨as, φ, e1, e2, e3, r.cut w⟩
theorem Ro.some (r : Ro ι N H a o) : ∃ x, H a = some x ∧ (∀ vs, x ≠ .tup vs) ∧ (∀ ps, x ≠ .tbl ps) := by
  cases o with
  | lst xs => obtain ⟨vs, e1, r⟩ := r; exact ⟨_, e1, fun _ z => (nomatch z), fun _ z => (nomatch z)⟩
  | dct kvs => obtain ⟨vs, e1, r⟩ := r; exact ⟨_, e1, fun _ z => (nomatch z), fun _ z => (nomatch z)⟩
  | dtt kvs => obtain ⟨vs, e1, r⟩ := r; exact ⟨_, e1, fun _ z => (nomatch z), fun _ z => (nomatch z)⟩
  | lck kvs => obtain ⟨o, vs, e1, r⟩ := r; exact ⟨_, e1, fun _ z => (nomatch z), fun _ z => (nomatch z)⟩
  | lct kvs => obtain ⟨o, vs, e1, r⟩ := r; exact ⟨_, e1, fun _ z => (nomatch z), fun _ z => (nomatch z)⟩
  | ins C fs => obtain ⟨dx, vs, e1, r⟩ := r; exact ⟨_, e1, fun _ z => (nomatch z), fun _ z => (nomatch z)⟩
  | nd f ks => obtain ⟨as, φ, e1, e2, e3, r⟩ := r; exact ⟨_, e1, fun _ z => (nomatch z), fun _ z => (nomatch z)⟩
theorem RM.wf (r : RM tb ι M H) {i : Nat} (h : M[i]? = some o) : o.wf M.length := (r.obj i o h).wf
theorem RM.at (r : RM tb ι M H) {i : Nat} (h : i < M.length) : ∃ x, H (ι i) = some x ∧ (∀ vs, x ≠ .tup vs) ∧ (∀ ps, x ≠ .tbl ps) := (r.obj i _ (List.getElem?_eq_getElem h)).some
theorem RM.ne (r : RM tb ι M H) {i : Nat} (h : i < M.length) {p : Addr} (n : H p = none) : ι i ≠ p := by
  obtain ⟨x, e, _⟩ := r.at h
  exact ne_of_none e n
theorem RM.neT (r : RM tb ι M H) {i : Nat} (h : i < M.length) {p : Addr} {vs : List V} (n : H p = some (.tup vs)) : p ≠ ι i := by
  obtain ⟨x, e, t, _⟩ := r.at h
  intro z
  rw [z, e] at n
  exact t vs (Option.some.inj n)
theorem ex_new {p : Addr} {x : HO} (n : H p = none) : Ex ι ι N H (upd H p x) := ⟨fun _ _ => rfl, fun a vs e => (upd_ne (ne_of_none e n)).trans e, fun a o u e => (upd_ne (ne_of_none e n)).trans e⟩
theorem tabs_new {p : Addr} {x : HO} (n : H p = none) (t : LamX.Tabs tb H) : LamX.Tabs tb (upd H p x) := t.ext (same_new n)
/-- something new beside the store -/
theorem RM.new (r : RM tb ι M H) {p : Addr} {x : HO} (n : H p = none) : RM tb ι M (upd H p x) :=
  ⟨r.inj, fun i o h => (r.obj i o h).mono (ex_new n) (Nat.le_refl _) (upd_ne (r.ne (List.getElem?_eq_some_iff.mp h).1 n)), tabs_new n r.tab⟩
/-- a new object of the store -/
def ext (ι : Nat → Addr) (n : Nat) (p : Addr) : Nat → Addr := fun j => if j = n then p else ι j
theorem ext_same {p : Addr} : ext ι n p n = p := by unfold ext; rw [if_pos rfl]
theorem ext_lt {p : Addr} {j : Nat} (h : j < n) : ext ι n p j = ι j := by unfold ext; rw [if_neg (Nat.ne_of_lt h)]
theorem ex_ext {p : Addr} {x : HO} (n : H p = none) : Ex ι (ext ι N p) N H (upd H p x) := ⟨fun _ h => ext_lt h, fun a vs e => (upd_ne (ne_of_none e n)).trans e, fun a o u e => (upd_ne (ne_of_none e n)).trans e⟩
theorem RM.push (r : RM tb ι M H) {p : Addr} {x : HO} (n : H p = none) (h : Ro (ext ι M.length p) (M.length + 1) (upd H p x) p o) : RM tb (ext ι M.length p) (M ++ [o]) (upd H p x) := by
  have hl : (M ++ [o]).length = M.length + 1 := by simp
  refine ⟨fun i j hi hj e => ?_, fun i o' e => ?_, tabs_new n r.tab⟩
  · rw [hl] at hi hj
    rcases Nat.lt_or_ge i M.length with a | a <;> rcases Nat.lt_or_ge j M.length with b | b
    · rw [ext_lt a, ext_lt b] at e
      exact r.inj i j a b e
    · have : j = M.length := by omega
      subst this
      rw [ext_lt a, ext_same] at e
      exact absurd e (r.ne a n)
    · have : i = M.length := by omega
      subst this
      rw [ext_lt b, ext_same] at e
      exact absurd e.symm (r.ne b n)
    · omega
  · rw [hl]
    rcases Nat.lt_or_ge i M.length with a | a
    · rw [List.getElem?_append_left a] at e
      rw [ext_lt a]
      exact (r.obj i o' e).mono (ex_ext n) (by omega) (upd_ne (r.ne a n))
    · have li := (List.getElem?_eq_some_iff.mp e).1
      rw [hl] at li
      have : i = M.length := by omega
      subst this
      rw [List.getElem?_append_right (Nat.le_refl _), Nat.sub_self] at e
      cases e
      rw [ext_same]
      exact h
/-- an object of the store is changed -/
theorem ex_chg (r : RM tb ι M H) {k : Nat} (hk : k < M.length) {x : HO} (hz : ∀ o u, H (ι k) ≠ some (.frz o u)) : Ex ι ι N H (upd H (ι k) x) := ⟨fun _ _ => rfl, fun a vs e => (upd_ne (r.neT hk e)).trans e, fun a o u e => (upd_ne fun z => hz o u (by rw [← z]; exact e)).trans e⟩
theorem RM.chg (r : RM tb ι M H) {k : Nat} (hk : k < M.length) {x : HO} (hz : ∀ o u, H (ι k) ≠ some (.frz o u)) (h : Ro ι M.length (upd H (ι k) x) (ι k) o) : RM tb ι (M.set k o) (upd H (ι k) x) := by
  have ex : ∀ n, Ex ι ι n H (upd H (ι k) x) := fun n => ex_chg r hk hz
  refine ⟨fun i j hi hj e => r.inj i j (by simpa using hi) (by simpa using hj) e, fun i o' e => ?_, ?_⟩
  · rw [List.length_set]
    by_cases hi : i = k
    · subst hi
      rw [List.getElem?_set_self hk] at e
      cases e
      exact h
    · rw [List.getElem?_set_ne (Ne.symm hi)] at e
      have li := (List.getElem?_eq_some_iff.mp e).1
      exact (r.obj i o' e).mono (ex _) (Nat.le_refl _) (upd_ne fun z => hi (r.inj i k li hk z))
  · intro p hp
    obtain ⟨ps, e1, e2, e3⟩ := r.tab p hp
    obtain ⟨y, e, t, tt⟩ := r.at hk
    refine ⟨ps, (upd_ne fun z => ?_).trans e1, e2, fun pos cv hc => ?_⟩
    · rw [z, e] at e1
      exact tt ps (Option.some.inj e1)
    · obtain ⟨c, e4, e5⟩ := e3 pos cv hc
      refine ⟨c, e4, (upd_ne fun z => ?_).trans e5⟩
      rw [z, e] at e5
      have := Option.some.inj e5
      exact absurd e5 (by
        have o2 := (r.obj k _ (List.getElem?_eq_getElem hk))
        revert o2
        generalize M[k] = oo
        intro o2 z2
        cases oo with
        | lst xs => obtain ⟨vs, q, _⟩ := o2; rw [e] at q; rw [Option.some.inj q] at z2; cases z2
        | dct xs => obtain ⟨vs, q, _⟩ := o2; rw [e] at q; rw [Option.some.inj q] at z2; cases z2
        | dtt xs => obtain ⟨vs, q, _⟩ := o2; rw [e] at q; rw [Option.some.inj q] at z2; cases z2
        | lck xs => obtain ⟨_, vs, q, _⟩ := o2; rw [e] at q; rw [Option.some.inj q] at z2; cases z2
        | lct xs => obtain ⟨_, vs, q, _⟩ := o2; rw [e] at q; rw [Option.some.inj q] at z2; cases z2
        | ins C xs => obtain ⟨_, vs, q, _⟩ := o2; rw [e] at q; rw [Option.some.inj q] at z2; cases z2
        | nd f xs => obtain ⟨_, φ, q, _, nc, _⟩ := o2; rw [e] at q; rw [Option.some.inj q] at z2; exact nc _ (Option.some.inj z2))
theorem Rs.mono {σp : PS} {σ : L2.St} (e : Ex ι ι' N H H') (h : N ≤ N') (r : Rs ι N H σp σ) : Rs ι' N' H' σp σ :=
  ⟨r.1, fun i p q => by
    obtain ⟨v, e1, e2⟩ := r.2 i p q
    exact ⟨v, e1, e2.mono e h⟩⟩
theorem Rs.set {σp : PS} {σ : L2.St} {p : PV} {v : V} (r : Rs ι N H σp σ) (h : Rv ι N H p v) (i : Nat) : Rs ι N H (σp.set i (some p)) (σ.set i (some v)) := by
  refine ⟨by simpa using r.1, fun j q e => ?_⟩
  by_cases hj : j = i
  · subst hj
    have lj : j < (σp.set j (some p)).length := (List.getElem?_eq_some_iff.mp e).1
    rw [List.length_set] at lj
    rw [List.getElem?_set_self lj] at e
    cases e
    exact ⟨v, List.getElem?_set_self (by rw [← r.1]; exact lj), h⟩
  · rw [List.getElem?_set_ne (Ne.symm hj)] at e
    rw [List.getElem?_set_ne (Ne.symm hj)]
    exact r.2 j q e
theorem Rs.non {σp : PS} {σ : L2.St} (r : Rs ι N H σp σ) (i : Nat) : Rs ι N H (σp.set i none) (σ.set i none) := by
  refine ⟨by simpa using r.1, fun j q e => ?_⟩
  by_cases hj : j = i
  · subst hj
    have lj : j < (σp.set j none).length := (List.getElem?_eq_some_iff.mp e).1
    rw [List.length_set] at lj
    rw [List.getElem?_set_self lj] at e
    cases e
  · rw [List.getElem?_set_ne (Ne.symm hj)] at e
    rw [List.getElem?_set_ne (Ne.symm hj)]
    exact r.2 j q e
def wipeP (σ : PS) : List Nat → PS
  | [] => σ
  | v :: vs => (wipeP σ vs).set v none
theorem Rs.wipe {σp : PS} {σ : L2.St} (r : Rs ι N H σp σ) : ∀ vs : List Nat, Rs ι N H (wipeP σp vs) (wipe σ vs)
  | [] => r
  | v :: vs => (Rs.wipe r vs).non v
end
/-! ### what is wanted of a result -/
section
variable (tb : List (Addr × Str))
def Wp {α β : Type} (rel : (Nat → Addr) → Nat → Hp → α → β → Prop) (ι : Nat → Addr) (n : Nat) (H : Hp) (r : Res α) (Q : β → Hp → Prop) (E : XK) : Prop := match r with
  | .ok p M => ∀ ι' H' v, Ex ι ι' n H H' → n ≤ M.length → RM tb ι' M H' → rel ι' M.length H' p v → Q v H'
  | .exc x M => ∀ ι' H' d, Ex ι ι' n H H' → n ≤ M.length → RM tb ι' M H' → H' d = some (.xd (xdF x)) → E (.ref x.C) (some d) H'
  | .bad => False
abbrev rB : (Nat → Addr) → Nat → Hp → Bool → Bool → Prop := fun _ _ _ a b => a = b
abbrev rO : (Nat → Addr) → Nat → Hp → Option Int → Option Int → Prop := fun _ _ _ a b => a = b
def WpS (ι : Nat → Addr) (n : Nat) (H : Hp) (r : SR) (D : Ends) (E : XK) : Prop := match r with
  | .nx s M => ∀ ι' H' σ, Ex ι ι' n H H' → n ≤ M.length → RM tb ι' M H' → Rs ι' M.length H' s σ → D.nx σ H'
  | .rt p M => ∀ ι' H' v, Ex ι ι' n H H' → n ≤ M.length → RM tb ι' M H' → Rv ι' M.length H' p v → D.rt v H'
  | .bk s M => ∀ ι' H' σ, Ex ι ι' n H H' → n ≤ M.length → RM tb ι' M H' → Rs ι' M.length H' s σ → D.bk σ H'
  | .ct s M => ∀ ι' H' σ, Ex ι ι' n H H' → n ≤ M.length → RM tb ι' M H' → Rs ι' M.length H' s σ → D.ct σ H'
  | .exc x M => ∀ ι' H' d, Ex ι ι' n H H' → n ≤ M.length → RM tb ι' M H' → H' d = some (.xd (xdF x)) → E (.ref x.C) (some d) H'
  | .bad => False
variable (E : XK)
def SmE (t : TE) (f : FE) : Prop := ∀ ι M H σp σ Q, RM tb ι M H → Rs ι M.length H σp σ → Wp tb Rv ι M.length H (f σp M) Q E → t σ H Q
def SmT (t : TT) (f : FT) : Prop := ∀ ι M H σp σ Q, RM tb ι M H → Rs ι M.length H σp σ → Wp tb rB ι M.length H (f σp M) Q E → t σ H Q
def SmA (t : TA) (f : FA) : Prop := ∀ ι M H σp σ Q, RM tb ι M H → Rs ι M.length H σp σ → Wp tb Rvs ι M.length H (f σp M) Q E → t σ H Q
def SmO (t : TO) (f : FO) : Prop := ∀ ι M H σp σ Q, RM tb ι M H → Rs ι M.length H σp σ → Wp tb rO ι M.length H (f σp M) Q E → t σ H Q
def SmS (t : TS) (f : FS) : Prop := ∀ ι M H σp σ D, RM tb ι M H → Rs ι M.length H σp σ → WpS tb ι M.length H (f σp M) D E → t D σ H
/-- two values, a heap -/
def SmR (r : R2) (g : PV → PV → PM → Res PV) : Prop := ∀ ι M H p q x y Q, RM tb ι M H → Rv ι M.length H p x → Rv ι M.length H q y → Wp tb Rv ι M.length H (g p q M) Q E → r x y H Q
def SmU (r : V → Hp → VK → Prop) (g : PV → PM → Res PV) : Prop := ∀ ι M H p x Q, RM tb ι M H → Rv ι M.length H p x → Wp tb Rv ι M.length H (g p M) Q E → r x H Q
def SmL (r : List V → Hp → VK → Prop) (g : List PV → PM → Res PV) : Prop := ∀ ι M H ps xs Q, RM tb ι M H → Rvs ι M.length H ps xs → Wp tb Rv ι M.length H (g ps M) Q E → r xs H Q
end
section
variable {tb : List (Addr × Str)} {E : XK} {α β γ δ : Type} {rel : (Nat → Addr) → Nat → Hp → α → β → Prop} {rel2 : (Nat → Addr) → Nat → Hp → γ → δ → Prop} {ι ι' : Nat → Addr} {n n' : Nat} {H H' : Hp} {M : PM}
theorem Wp.back {r : Res α} {Q : β → Hp → Prop} (h : Wp tb rel ι n H r Q E) (e : Ex ι ι' n H H') (l : n ≤ n') : Wp tb rel ι' n' H' r Q E := by
  cases r with
  | ok p M => exact fun ι2 H2 v e2 l2 r2 v2 => h ι2 H2 v (e.trans e2 l) (Nat.le_trans l l2) r2 v2
  | exc x M => exact fun ι2 H2 d e2 l2 r2 d2 => h ι2 H2 d (e.trans e2 l) (Nat.le_trans l l2) r2 d2
  | bad => exact h
theorem WpS.back {r : SR} {D : Ends} (h : WpS tb ι n H r D E) (e : Ex ι ι' n H H') (l : n ≤ n') : WpS tb ι' n' H' r D E := by
  cases r with
  | nx p M => exact fun ι2 H2 v e2 l2 r2 v2 => h ι2 H2 v (e.trans e2 l) (Nat.le_trans l l2) r2 v2
  | rt p M => exact fun ι2 H2 v e2 l2 r2 v2 => h ι2 H2 v (e.trans e2 l) (Nat.le_trans l l2) r2 v2
  | bk p M => exact fun ι2 H2 v e2 l2 r2 v2 => h ι2 H2 v (e.trans e2 l) (Nat.le_trans l l2) r2 v2
  | ct p M => exact fun ι2 H2 v e2 l2 r2 v2 => h ι2 H2 v (e.trans e2 l) (Nat.le_trans l l2) r2 v2
  | exc x M => exact fun ι2 H2 d e2 l2 r2 d2 => h ι2 H2 d (e.trans e2 l) (Nat.le_trans l l2) r2 d2
  | bad => exact h
/-- a run goes on -/
structure On (tb : List (Addr × Str)) (ι : Nat → Addr) (n : Nat) (H : Hp) (ι' : Nat → Addr) (M' : PM) (H' : Hp) : Prop where
  e : Ex ι ι' n H H'
  l : n ≤ M'.length
  r : RM tb ι' M' H'
theorem Wp.bnd {r : Res α} {k : α → PM → Res γ} {Q : δ → Hp → Prop} (h : Wp tb rel2 ι n H (r.bnd k) Q E) : Wp tb rel ι n H r (fun v H' => ∃ ι' M' p, On tb ι n H ι' M' H' ∧ rel ι' M'.length H' p v ∧ Wp tb rel2 ι' M'.length H' (k p M') Q E) E := by
  cases r with
  | ok p M => exact fun ι' H' v e l r v' => ⟨ι', M, p, ⟨e, l, r⟩, v', Wp.back h e l⟩
  | exc x M => exact h
  | bad => exact h
/-- behind a result a statement -/
def Res.go (r : Res α) (k : α → PM → SR) : SR := match r with
  | .ok a M => k a M
  | .exc x M => .exc x M
  | .bad => .bad
@[simp] theorem go_ok (a : α) (M : PM) (k : α → PM → SR) : (Res.ok a M).go k = k a M := id rfl
@[simp] theorem go_exc (x : Xc) (M : PM) (k : α → PM → SR) : (Res.exc x M : Res α).go k = .exc x M := id rfl
@[simp] theorem go_bad (k : α → PM → SR) : (Res.bad : Res α).go k = .bad := id rfl
theorem Wp.go {r : Res α} {k : α → PM → SR} {D : Ends} (h : WpS tb ι n H (r.go k) D E) : Wp tb rel ι n H r (fun v H' => ∃ ι' M' p, On tb ι n H ι' M' H' ∧ rel ι' M'.length H' p v ∧ WpS tb ι' M'.length H' (k p M') D E) E := by
  cases r with
  | ok p M => exact fun ι' H' v e l r v' => ⟨ι', M, p, ⟨e, l, r⟩, v', WpS.back h e l⟩
  | exc x M => exact h
  | bad => exact h
theorem Wp.okNow {Q : β → Hp → Prop} {p : α} {v : β} (h : Wp tb rel ι M.length H (.ok p M) Q E) (r : RM tb ι M H) (q : rel ι M.length H p v) : Q v H := h ι H v .refl (Nat.le_refl _) r q
end
end Pu
namespace Pu
open PySem PySem.Spec PyProof.Rows L2 LB
open Classical
section
variable {tb : List (Addr × Str)} {E : XK} {α β γ δ : Type} {rel : (Nat → Addr) → Nat → Hp → α → β → Prop} {rel2 : (Nat → Addr) → Nat → Hp → γ → δ → Prop} {ι : Nat → Addr} {n : Nat} {H : Hp} {M : PM} {σp : PS} {σ : L2.St}
theorem Wp.mono {r : Res α} {Q Q' : β → Hp → Prop} (h : Wp tb rel ι n H r Q E) (f : ∀ v H', Q v H' → Q' v H') : Wp tb rel ι n H r Q' E := by
  cases r with
  | ok p M => exact fun ι' H' v e l r q => f _ _ (h ι' H' v e l r q)
  | exc x M => exact h
  | bad => exact h
theorem SmE.to {t : TE} {f : FE} (s : SmE tb E t f) (R : RM tb ι M H) (S : Rs ι M.length H σp σ) {k : PV → PM → Res γ} {Q : δ → Hp → Prop} {Q' : VK} (h : Wp tb rel2 ι M.length H ((f σp M).bnd k) Q E)
    (c : ∀ ι1 M1 H1 p v, On tb ι M.length H ι1 M1 H1 → Rs ι1 M1.length H1 σp σ → Rv ι1 M1.length H1 p v → Wp tb rel2 ι1 M1.length H1 (k p M1) Q E → Q' v H1) : t σ H Q' :=
  s ι M H σp σ Q' R S (Wp.mono (Wp.bnd h) fun v H1 ⟨ι1, M1, p, o, rv, w⟩ => c ι1 M1 H1 p v o (S.mono o.e o.l) rv w)
theorem SmE.go {t : TE} {f : FE} (s : SmE tb E t f) (R : RM tb ι M H) (S : Rs ι M.length H σp σ) {k : PV → PM → SR} {D : Ends} {Q' : VK} (h : WpS tb ι M.length H ((f σp M).go k) D E)
    (c : ∀ ι1 M1 H1 p v, On tb ι M.length H ι1 M1 H1 → Rs ι1 M1.length H1 σp σ → Rv ι1 M1.length H1 p v → WpS tb ι1 M1.length H1 (k p M1) D E → Q' v H1) : t σ H Q' :=
  s ι M H σp σ Q' R S (Wp.mono (Wp.go h) fun v H1 ⟨ι1, M1, p, o, rv, w⟩ => c ι1 M1 H1 p v o (S.mono o.e o.l) rv w)
theorem SmT.to {t : TT} {f : FT} (s : SmT tb E t f) (R : RM tb ι M H) (S : Rs ι M.length H σp σ) {k : Bool → PM → Res γ} {Q : δ → Hp → Prop} {Q' : Bool → Hp → Prop} (h : Wp tb rel2 ι M.length H ((f σp M).bnd k) Q E)
    (c : ∀ ι1 M1 H1 p, On tb ι M.length H ι1 M1 H1 → Rs ι1 M1.length H1 σp σ → Wp tb rel2 ι1 M1.length H1 (k p M1) Q E → Q' p H1) : t σ H Q' :=
  s ι M H σp σ Q' R S (Wp.mono (Wp.bnd h) fun v H1 ⟨ι1, M1, p, o, rv, w⟩ => by have e : p = v := rv; subst e; exact c ι1 M1 H1 p o (S.mono o.e o.l) w)
theorem SmT.go {t : TT} {f : FT} (s : SmT tb E t f) (R : RM tb ι M H) (S : Rs ι M.length H σp σ) {k : Bool → PM → SR} {D : Ends} {Q' : Bool → Hp → Prop} (h : WpS tb ι M.length H ((f σp M).go k) D E)
    (c : ∀ ι1 M1 H1 p, On tb ι M.length H ι1 M1 H1 → Rs ι1 M1.length H1 σp σ → WpS tb ι1 M1.length H1 (k p M1) D E → Q' p H1) : t σ H Q' :=
  s ι M H σp σ Q' R S (Wp.mono (Wp.go h) fun v H1 ⟨ι1, M1, p, o, rv, w⟩ => by have e : p = v := rv; subst e; exact c ι1 M1 H1 p o (S.mono o.e o.l) w)
theorem SmA.to {t : TA} {f : FA} (s : SmA tb E t f) (R : RM tb ι M H) (S : Rs ι M.length H σp σ) {k : List PV → PM → Res γ} {Q : δ → Hp → Prop} {Q' : List V → Hp → Prop} (h : Wp tb rel2 ι M.length H ((f σp M).bnd k) Q E)
    (c : ∀ ι1 M1 H1 p v, On tb ι M.length H ι1 M1 H1 → Rs ι1 M1.length H1 σp σ → Rvs ι1 M1.length H1 p v → Wp tb rel2 ι1 M1.length H1 (k p M1) Q E → Q' v H1) : t σ H Q' :=
  s ι M H σp σ Q' R S (Wp.mono (Wp.bnd h) fun v H1 ⟨ι1, M1, p, o, rv, w⟩ => c ι1 M1 H1 p v o (S.mono o.e o.l) rv w)
theorem SmO.to {t : TO} {f : FO} (s : SmO tb E t f) (R : RM tb ι M H) (S : Rs ι M.length H σp σ) {k : Option Int → PM → Res γ} {Q : δ → Hp → Prop} {Q' : Option Int → Hp → Prop} (h : Wp tb rel2 ι M.length H ((f σp M).bnd k) Q E)
    (c : ∀ ι1 M1 H1 p, On tb ι M.length H ι1 M1 H1 → Rs ι1 M1.length H1 σp σ → Wp tb rel2 ι1 M1.length H1 (k p M1) Q E → Q' p H1) : t σ H Q' :=
  s ι M H σp σ Q' R S (Wp.mono (Wp.bnd h) fun v H1 ⟨ι1, M1, p, o, rv, w⟩ => by have e : p = v := rv; subst e; exact c ι1 M1 H1 p o (S.mono o.e o.l) w)
end
/-! ### names, constants -/
def fVar (i : Nat) : FE := fun σ M => match σ[i]? with
  | some (some p) => .ok p M
  | _ => .bad
def fC (p : PV) : FE := fun _ M => .ok p M
def CV (p : PV) (v : V) : Prop := ∀ ι N H, Rv ι N H p v
theorem cv_int {i : Int} : CV (.int i) (.int i) := fun _ _ _ => .mk_int
theorem cv_bl {i : Bool} : CV (.bl i) (.bl i) := fun _ _ _ => .mk_bl
theorem cv_adr {a : Addr} : CV (.adr a) (.ref a) := fun _ _ _ => .mk_adr
theorem cv_str {x : Str} {s : List Nat} (h : x = tx s) : CV (.str s) (.str x) := fun _ _ _ => by rw [h]; exact .mk_str
/-! ### operators -/
def fOp (g : PV → PV → PM → Res PV) (fa fb : FE) : FE := fun σ M => (fa σ M).bnd fun p M1 => (fb σ M1).bnd fun q M2 => g p q M2
def fUn (g : PV → PM → Res PV) (fa : FE) : FE := fun σ M => (fa σ M).bnd g
noncomputable def pI (C : Int → Int → Prop) (g : Int → Int → PV) (p q : PV) (M : PM) : Res PV := match p, q with
  | .int i, .int j => if C i j then .ok (g i j) M else .bad
  | _, _ => .bad
def pI0 (g : Int → Int → PV) (p q : PV) (M : PM) : Res PV := match p, q with
  | .int i, .int j => .ok (g i j) M
  | _, _ => .bad
def pU (g : Int → PV) (p : PV) (M : PM) : Res PV := match p with
  | .int i => .ok (g i) M
  | _ => .bad
def eqS : PV → PV → Option Bool
  | .non, .non => some true
  | .non, .int _ => some false
  | .int _, .non => some false
  | .non, .bl _ => some false
  | .bl _, .non => some false
  | .non, .str _ => some false
  | .str _, .non => some false
  | .int i, .int j => some (decide (i = j))
  | .bl a, .bl b => some (decide (a = b))
  | .str x, .str y => some (decide (x = y))
  | .int _, .str _ => some false
  | .str _, .int _ => some false
  | .bl _, .str _ => some false
  | .str _, .bl _ => some false
  | _, _ => none
def pEq (p q : PV) (M : PM) : Res PV := match eqS p q with
  | some b => .ok (.bl b) M
  | none => .bad
def pNe (p q : PV) (M : PM) : Res PV := match eqS p q with
  | some b => .ok (.bl (!b)) M
  | none => .bad
def isNon : PV → Bool
  | .non => true
  | _ => false
def pIsN (p q : PV) (M : PM) : Res PV := match q with
  | .non => .ok (.bl (isNon p)) M
  | _ => .bad
def pNotN (p q : PV) (M : PM) : Res PV := match q with
  | .non => .ok (.bl (!isNon p)) M
  | _ => .bad
def lim : Nat := 1000000
theorem lim_le {n : Nat} (h : n ≤ lim) : n ≤ sizeLine := by rw [sizeLine_eq]; unfold lim at h; omega
theorem lim_lt {n : Nat} (h : n < lim) : n < sizeLine := by rw [sizeLine_eq]; unfold lim at h; omega
def pAddS (p q : PV) (M : PM) : Res PV := match p, q with
  | .str a, .str b => if a.length + b.length ≤ lim then .ok (.str (a ++ b)) M else .bad
  | _, _ => .bad
/-- a sign in a text -/
def pInS (p q : PV) (M : PM) : Res PV := match p, q with
  | .str [c], .str z => .ok (.bl (decide (c ∈ z))) M
  | _, _ => .bad
def lstAt (M : PM) (p : PV) : Option (List PV) := match p with
  | .ref k => match M[k]? with
    | some (.lst xs) => some xs
    | _ => none
  | _ => none
def pAddL (p q : PV) (M : PM) : Res PV := match lstAt M p, lstAt M q with
  | some a, some b => if a.length + b.length ≤ lim then .ok (.ref M.length) (M ++ [.lst (a ++ b)]) else .bad
  | _, _ => .bad
/-! ### items -/
def pIxL (p q : PV) (M : PM) : Res PV := match lstAt M p, q with
  | some xs, .int i => match atI xs i with
    | some x => .ok x M
    | none => .bad
  | _, _ => .bad
def pIxT (p q : PV) (M : PM) : Res PV := match p, q with
  | .tup xs, .int i => match atI xs i with
    | some x => .ok x M
    | none => .bad
  | _, _ => .bad
def pIxS (p q : PV) (M : PM) : Res PV := match p, q with
  | .str xs, .int i => if xs.length ≤ lim then match atI xs i with
    | some c => .ok (.str [c]) M
    | none => .bad else .bad
  | _, _ => .bad
/-! ### tests -/
def asB (p : PV) (M : PM) : Res Bool := match p with
  | .bl b => .ok b M
  | _ => .bad
def tru (M : PM) : PV → Option Bool
  | .non => some false
  | .bl b => some b
  | .int i => some (i != 0)
  | .str s => if s.length ≤ lim then some (!s.isEmpty) else none
  | .tup xs => some (!xs.isEmpty)
  | .ref k => match M[k]? with
    | some (.lst xs) => some (!xs.isEmpty)
    | some (.dct xs) => some (!xs.isEmpty)
    | _ => none
  | _ => none
def asT (p : PV) (M : PM) : Res Bool := match tru M p with
  | some b => .ok b M
  | none => .bad
def fTest (f : FE) : FT := fun σ M => (f σ M).bnd asB
def fTru (f : FE) : FT := fun σ M => (f σ M).bnd asT
def fNotT (f : FE) : FE := fun σ M => (f σ M).bnd fun p M1 => (asT p M1).bnd fun b M2 => .ok (.bl (!b)) M2
def fAnd (f g : FT) : FT := fun σ M => (f σ M).bnd fun b M1 => if b = true then g σ M1 else .ok false M1
def fOr (f g : FT) : FT := fun σ M => (f σ M).bnd fun b M1 => if b = true then .ok true M1 else g σ M1
def fNot (f : FT) : FT := fun σ M => (f σ M).bnd fun b M1 => .ok (!b) M1
def fYes : FT := fun _ M => .ok true M
def fAndV (f g : FE) : FE := fun σ M => (f σ M).bnd fun p M1 => (asB p M1).bnd fun b M2 => if b = true then g σ M2 else .ok (.bl false) M2
def fOrV (f g : FE) : FE := fun σ M => (f σ M).bnd fun p M1 => (asB p M1).bnd fun b M2 => if b = true then .ok (.bl true) M2 else g σ M2
def fNotV (f : FE) : FE := fun σ M => (f σ M).bnd fun p M1 => (asB p M1).bnd fun b M2 => .ok (.bl (!b)) M2
def fIf (c : FT) (f g : FE) : FE := fun σ M => (c σ M).bnd fun b M1 => if b = true then f σ M1 else g σ M1
def fChain (g g' : PV → PV → PM → Res PV) (fa fb fc : FE) : FE := fun σ M => (fa σ M).bnd fun x M1 => (fb σ M1).bnd fun y M2 => (g x y M2).bnd fun z M3 => (asB z M3).bnd fun k M4 => if k = true then (fc σ M4).bnd fun w M5 => g' y w M5 else .ok (.bl false) M4
/-! ### arguments, displays -/
def fNil : FA := fun _ M => .ok [] M
def fCons (f : FE) (g : FA) : FA := fun σ M => (f σ M).bnd fun p M1 => (g σ M1).bnd fun ps M2 => .ok (p :: ps) M2
def fTup (f : FA) : FE := fun σ M => (f σ M).bnd fun ps M1 => if ps.length ≤ lim then .ok (.tup ps) M1 else .bad
def fLst (f : FA) : FE := fun σ M => (f σ M).bnd fun ps M1 => if ps.length ≤ lim then .ok (.ref M1.length) (M1 ++ [.lst ps]) else .bad
/-! ### slices -/
def cut {α : Type} (xs : List α) (lo hi : Option Int) : List α := (xs.drop (HT.sIx xs.length 0 lo)).take (HT.sIx xs.length xs.length hi - HT.sIx xs.length 0 lo)
def fNoPart : FO := fun _ M => .ok none M
def fPart (f : FE) : FO := fun σ M => (f σ M).bnd fun p M1 => match p with
  | .int i => .ok (some i) M1
  | _ => .bad
def fSl (g : PV → Option Int → Option Int → PM → Res PV) (f : FE) (l h : FO) : FE := fun σ M => (f σ M).bnd fun p M1 => (l σ M1).bnd fun lo M2 => (h σ M2).bnd fun hi M3 => g p lo hi M3
def pSlS (p : PV) (lo hi : Option Int) (M : PM) : Res PV := match p with
  | .str xs => if xs.length ≤ lim then .ok (.str (cut xs lo hi)) M else .bad
  | _ => .bad
def pSlT (p : PV) (lo hi : Option Int) (M : PM) : Res PV := match p with
  | .tup xs => .ok (.tup (cut xs lo hi)) M
  | _ => .bad
def pSlL (p : PV) (lo hi : Option Int) (M : PM) : Res PV := match lstAt M p with
  | some xs => .ok (.ref M.length) (M ++ [.lst (cut xs lo hi)])
  | none => .bad
section
variable {tb : List (Addr × Str)} {E : XK} {ta tb' tc : TE} {fa fb fc : FE} {r r' : R2} {g g' : PV → PV → PM → Res PV} {K : PySem.W.Frag} {ι : Nat → Addr} {N : Nat} {H : Hp} {M : PM}
theorem sm_var {i : Nat} : SmE tb E (tVar i) (fVar i) := by
  intro ι M H σp σ Q R S h
  unfold fVar at h
  split at h
  · rename_i p e
    obtain ⟨v, e1, r⟩ := S.2 i p e
    exact ⟨v, e1, h.okNow R r⟩
  · exact h.elim
theorem sm_c {p : PV} {v : V} (c : CV p v) : SmE tb E (tC v) (fC p) := fun ι M H σp σ Q R S h => Wp.okNow h R (c _ _ _)
theorem sm_op (hr : SmR tb E r g) (ha : SmE tb E ta fa) (hb : SmE tb E tb' fb) : SmE tb E (tOp r ta tb') (fOp g fa fb) := fun ι M H σp σ Q R S h =>
  ha.to R S h fun ι1 M1 H1 p v o1 S1 rv w1 => hb.to o1.r S1 w1 fun ι2 M2 H2 q u o2 S2 ru w2 => hr ι2 M2 H2 p q v u Q o2.r (rv.mono o2.e o2.l) ru w2
theorem sm_un {ru : V → Hp → VK → Prop} {gu : PV → PM → Res PV} (hr : SmU tb E ru gu) (ha : SmE tb E ta fa) : SmE tb E (tUn ru ta) (fUn gu fa) := fun ι M H σp σ Q R S h =>
  ha.to R S h fun ι1 M1 H1 p v o1 S1 rv w1 => hr ι1 M1 H1 p v Q o1.r rv w1
theorem smr_I0 {gi : Int → Int → PV} {gv : Int → Int → V} (c : ∀ i j, CV (gi i j) (gv i j)) : SmR tb E (rI0 gv) (pI0 gi) := by
  intro ι M H p q x y Q R rp rq h
  unfold pI0 at h
  split at h
  · exact ⟨_, _, rp.int, rq.int, h.okNow R (c _ _ _ _ _)⟩
  · exact h.elim
theorem smr_I {C : Int → Int → Prop} {gi : Int → Int → PV} {gv : Int → Int → V} (c : ∀ i j, CV (gi i j) (gv i j)) : SmR tb E (rI C gv) (pI C gi) := by
  intro ι M H p q x y Q R rp rq h
  unfold pI at h
  split at h
  · split at h
    · rename_i hc
      exact ⟨_, _, rp.int, rq.int, hc, h.okNow R (c _ _ _ _ _)⟩
    · exact h.elim
  · exact h.elim
theorem smu_U {gi : Int → PV} {gv : Int → V} (c : ∀ i, CV (gi i) (gv i)) : SmU tb E (rU gv) (pU gi) := by
  intro ι M H p x Q R rp h
  unfold pU at h
  split at h
  · exact ⟨_, rp.int, h.okNow R (c _ _ _ _)⟩
  · exact h.elim
theorem smr_ip {f : Int → Int → Int} : SmR tb E (ipI f) (pI0 fun i j => .int (f i j)) := by
  intro ι M H p q x y Q R rp rq h
  unfold pI0 at h
  split at h
  · exact ⟨_, _, rp.int, rq.int, h.okNow R .mk_int⟩
  · exact h.elim
theorem tx_inj {a b : List Nat} : tx a = tx b ↔ a = b := ⟨fun h => congrArg (fun s : Str => s.cps.toList) h, fun h => by rw [h]⟩
theorem eqS_of {p q : PV} {x y : V} {b : Bool} (rp : Rv ι N H p x) (rq : Rv ι N H q y) (e : eqS p q = some b) : scal x y = true ∧ decide (x = y) = b := by
  cases p <;> cases q <;> first | (cases e; done) | skip
  all_goals (unfold Rv at rp rq; subst rp rq; unfold eqS at e; cases e; refine ⟨rfl, ?_⟩)
  all_goals first | rfl | (simp; done) | skip
  all_goals
    simp only [V.str.injEq]
    exact decide_eq_decide.mpr tx_inj
theorem smr_eq : SmR tb E rEq pEq := by
  intro ι M H p q x y Q R rp rq h
  unfold pEq at h
  split at h
  · rename_i b e
    obtain ⟨s, d⟩ := eqS_of rp rq e
    refine ⟨s, ?_⟩
    rw [d]
    exact h.okNow R .mk_bl
  · exact h.elim
theorem smr_ne : SmR tb E rNe pNe := by
  intro ι M H p q x y Q R rp rq h
  unfold pNe at h
  split at h
  · rename_i b e
    obtain ⟨s, d⟩ := eqS_of rp rq e
    refine ⟨s, ?_⟩
    rw [d]
    exact h.okNow R .mk_bl
  · exact h.elim
theorem smr_addS : SmR tb E (fun x y H Q => ∃ i j, x = .str i ∧ y = .str j ∧ i.length + j.length ≤ sizeLine ∧ Q (.str (i ++ j)) H) pAddS := by
  intro ι M H p q x y Q R rp rq h
  unfold pAddS at h
  split at h
  · split at h
    · rename_i a b hl
      refine ⟨_, _, rp.str, rq.str, by rw [tx_len, tx_len]; exact lim_le hl, ?_⟩
      rw [tx_app]
      exact h.okNow R .mk_str
    · exact h.elim
  · exact h.elim
theorem smr_inS : SmR tb E (fun x y H Q => ∃ (c : Nat) (z : Str), x = .str ⟨#[c]⟩ ∧ y = .str z ∧ Q (.bl (decide (c ∈ z.cps.toList))) H) pInS := by
  intro ι M H p q x y Q R rp rq h
  unfold pInS at h
  split at h
  · exact ⟨_, _, rp.str, rq.str, h.okNow R .mk_bl⟩
  · exact h.elim
theorem lstAt_ref {p : PV} {xs : List PV} (h : lstAt M p = some xs) : ∃ k, p = .ref k ∧ M[k]? = some (.lst xs) := by
  cases p <;> first | (cases h; done) | skip
  rename_i k
  unfold lstAt at h
  simp only at h
  split at h
  · rename_i e
    cases h
    exact ⟨k, rfl, e⟩
  · cases h
theorem lst_at {p : PV} {xs : List PV} {v : V} (R : RM tb ι M H) (h : lstAt M p = some xs) (rp : Rv ι M.length H p v) : ∃ k vs, p = .ref k ∧ k < M.length ∧ v = .ref (ι k) ∧ H (ι k) = some (.lst vs) ∧ Rvs ι M.length H xs vs := by
  obtain ⟨k, rfl, e⟩ := lstAt_ref h
  obtain ⟨lk, rfl⟩ := rp.ref_at
  obtain ⟨vs, e1, e2⟩ := R.obj k _ e
  exact ⟨k, vs, rfl, lk, rfl, e1, e2⟩
/-- a new list -/
theorem RM.lst (R : RM tb ι M H) {xs : List PV} {vs : List V} (r : Rvs ι M.length H xs vs) {p : Addr} (n : H p = none) : RM tb (ext ι M.length p) (M ++ [.lst xs]) (upd H p (.lst vs)) ∧ Rv (ext ι M.length p) (M ++ [PO.lst xs]).length (upd H p (.lst vs)) (.ref M.length) (.ref p) := by
  refine ⟨R.push n ⟨vs, upd_same, r.mono (ex_ext n) (by omega)⟩, ?_⟩
  have := Rv.mk_ref (ι := ext ι M.length p) (N := (M ++ [PO.lst xs]).length) (H := upd H p (.lst vs)) (k := M.length) (by simp)
  rw [ext_same] at this
  exact this
theorem okLst {Q : VK} {xs : List PV} {vs : List V} (h : Wp tb Rv ι M.length H (.ok (.ref M.length) (M ++ [.lst xs])) Q E) (R : RM tb ι M H) (r : Rvs ι M.length H xs vs) {p : Addr} (n : H p = none) : Q (.ref p) (upd H p (.lst vs)) := by
  obtain ⟨a, b⟩ := R.lst r n
  exact h _ _ _ (ex_ext n) (by simp) a b
theorem smr_addL : SmR tb E rCat pAddL := by
  intro ι M H p q x y Q R rp rq h
  unfold pAddL at h
  split at h
  · rename_i as bs e1 e2
    split at h
    · rename_i hl
      obtain ⟨k, vs, rfl, lk, rfl, ha, ra⟩ := lst_at R e1 rp
      obtain ⟨j, ws, rfl, lj, rfl, hb, rb⟩ := lst_at R e2 rq
      refine ⟨_, _, vs, ws, rfl, rfl, ha, hb, by rw [← ra.len, ← rb.len]; exact lim_le hl, fun t nt => okLst h R (ra.app rb) nt⟩
    · exact h.elim
  · exact h.elim
theorem atI_rel {xs : List PV} {vs : List V} (r : Rvs ι N H xs vs) {i : Int} {x : PV} (e : atI xs i = some x) : ∃ v, atI vs i = some v ∧ Rv ι N H x v := by
  unfold atI at e ⊢
  rw [← r.len]
  cases q : ixN xs.length i with
  | none => rw [q] at e; cases e
  | some j =>
    rw [q] at e
    exact r.get e
theorem smr_ixL : SmR tb E (rIxL K) pIxL := by
  intro ι M H p q x y Q R rp rq h
  unfold pIxL at h
  split at h
  · rename_i xs i e1
    split at h
    · rename_i z e2
      obtain ⟨k, vs, rfl, lk, rfl, ha, ra⟩ := lst_at R e1 rp
      obtain ⟨v, e3, rv⟩ := atI_rel ra e2
      exact ⟨_, vs, i, v, rfl, rq.int, .of ha, e3, h.okNow R rv⟩
    · exact h.elim
  · exact h.elim
theorem smr_ixT : SmR tb E (rIxT K) pIxT := by
  intro ι M H p q x y Q R rp rq h
  unfold pIxT at h
  split at h
  · rename_i xs i
    split at h
    · rename_i z e2
      obtain ⟨a, vs, rfl, ha, ra⟩ := rp.tup_at
      obtain ⟨v, e3, rv⟩ := atI_rel ra e2
      exact ⟨_, vs, i, v, rfl, rq.int, .of ha, e3, h.okNow R rv⟩
    · exact h.elim
  · exact h.elim
theorem smr_ixS : SmR tb E rIxS pIxS := by
  intro ι M H p q x y Q R rp rq h
  unfold pIxS at h
  split at h
  · rename_i xs i
    split at h
    · rename_i hl
      split at h
      · rename_i c e2
        exact ⟨tx xs, i, c, rp.str, rq.int, by rw [tx_len]; exact lim_le hl, e2, h.okNow R .mk_str⟩
      · exact h.elim
    · exact h.elim
  · exact h.elim
/-! tests -/
variable {tA tB' : TT} {fA fB : FT}
theorem asB_w {p : PV} {v : V} {γ δ : Type} {rel : (Nat → Addr) → Nat → Hp → γ → δ → Prop} {k : Bool → PM → Res γ} {Q : δ → Hp → Prop} (rp : Rv ι N H p v) (h : Wp tb rel ι N H ((asB p M).bnd k) Q E) : ∃ b, v = .bl b ∧ Wp tb rel ι N H (k b M) Q E := by
  cases p <;> first | exact (h : False).elim | exact ⟨_, rp.bl, h⟩
theorem sm_test (h : SmE tb E ta fa) : SmT tb E (tTest ta) (fTest fa) := fun ι M H σp σ Q R S w =>
  h.to R S w fun ι1 M1 H1 p v o1 S1 rv w1 => by
    cases p <;> first | exact (w1 : False).elim | exact ⟨_, rv.bl, Wp.okNow w1 o1.r rfl⟩
theorem sm_tB (h : SmE tb E ta fa) : SmT tb E (tB ta) (fTest fa) := sm_test h
theorem tru_of {p : PV} {v : V} {b : Bool} (R : RM tb ι M H) (rp : Rv ι M.length H p v) (e : tru M p = some b) : TruV K v H b := by
  cases p with
  | non => unfold Rv at rp; subst rp; cases e; rfl
  | bl x => unfold Rv at rp; subst rp; cases e; rfl
  | int x => unfold Rv at rp; subst rp; cases e; rfl
  | str s =>
    unfold Rv at rp
    subst rp
    have e : (if s.length ≤ lim then some (!s.isEmpty) else none) = some b := e
    split at e
    · rename_i hl
      cases e
      refine ⟨by rw [tx_len]; exact lim_le hl, ?_⟩
      rw [tx_len]
      cases s <;> rfl
    · cases e
  | ty x => cases e
  | adr x => cases e
  | tpb x => cases e
  | tup xs =>
    obtain ⟨a, vs, rfl, ha, ra⟩ := rp.tup_at
    cases e
    refine .inr (.inl ⟨vs, .of ha, ?_⟩)
    have := ra.len
    cases xs <;> cases vs <;> first | rfl | (simp at this)
  | ref k =>
    obtain ⟨lk, rfl⟩ := rp.ref_at
    unfold tru at e
    simp only at e
    split at e
    · rename_i xs e1
      cases e
      obtain ⟨vs, e1, ra⟩ := R.obj k _ e1
      refine .inl ⟨vs, .of e1, ?_⟩
      have := ra.len
      cases xs <;> cases vs <;> first | rfl | (simp at this)
    · rename_i xs e1
      cases e
      obtain ⟨vs, e1, ra⟩ := R.obj k _ e1
      refine .inr (.inr ⟨vs, e1, ?_⟩)
      cases ra <;> rfl
    · cases e
theorem sm_truth (h : SmE tb E ta fa) : SmT tb E (fun σ H Q => ta σ H fun x H' => ∃ k, TruV K x H' k ∧ Q k H') (fTru fa) := fun ι M H σp σ Q R S w =>
  h.to R S w fun ι1 M1 H1 p v o1 S1 rv w1 => by
    unfold asT at w1
    split at w1
    · rename_i b e
      exact ⟨b, tru_of o1.r rv e, Wp.okNow w1 o1.r rfl⟩
    · exact w1.elim
theorem sm_and (ha : SmT tb E tA fA) (hb : SmT tb E tB' fB) : SmT tb E (tAnd tA tB') (fAnd fA fB) := fun ι M H σp σ Q R S w =>
  ha.to R S w fun ι1 M1 H1 p o1 S1 w1 => by
    cases p with
    | true => exact hb ι1 M1 H1 σp σ Q o1.r S1 w1
    | false => exact Wp.okNow w1 o1.r rfl
theorem sm_or (ha : SmT tb E tA fA) (hb : SmT tb E tB' fB) : SmT tb E (tOr tA tB') (fOr fA fB) := fun ι M H σp σ Q R S w =>
  ha.to R S w fun ι1 M1 H1 p o1 S1 w1 => by
    cases p with
    | false => exact hb ι1 M1 H1 σp σ Q o1.r S1 w1
    | true => exact Wp.okNow w1 o1.r rfl
theorem sm_not (ha : SmT tb E tA fA) : SmT tb E (tNot tA) (fNot fA) := fun ι M H σp σ Q R S w =>
  ha.to R S w fun ι1 M1 H1 p o1 S1 w1 => Wp.okNow w1 o1.r rfl
theorem sm_yes : SmT tb E tYes fYes := fun ι M H σp σ Q R S w => Wp.okNow w R rfl
theorem sm_andV (ha : SmE tb E ta fa) (hb : SmE tb E tb' fb) : SmE tb E (tAndV ta tb') (fAndV fa fb) := fun ι M H σp σ Q R S w =>
  ha.to R S w fun ι1 M1 H1 p v o1 S1 rv w1 => by
    obtain ⟨b, rfl, w2⟩ := asB_w rv w1
    refine ⟨b, rfl, ?_⟩
    cases b with
    | true => exact hb ι1 M1 H1 σp σ Q o1.r S1 w2
    | false => exact Wp.okNow w2 o1.r .mk_bl
theorem sm_if (hc : SmT tb E tA fA) (ha : SmE tb E ta fa) (hb : SmE tb E tb' fb) : SmE tb E (tIf tA ta tb') (fIf fA fa fb) := fun ι M H σp σ Q R S w =>
  hc.to R S w fun ι1 M1 H1 p o1 S1 w1 => by
    cases p with
    | true => exact ha ι1 M1 H1 σp σ Q o1.r S1 w1
    | false => exact hb ι1 M1 H1 σp σ Q o1.r S1 w1
theorem SmR.to {ι : Nat → Addr} {M : PM} {H : Hp} {γ δ : Type} {rel : (Nat → Addr) → Nat → Hp → γ → δ → Prop} (s : SmR tb E r g) (R : RM tb ι M H) {p q : PV} {x y : V} (rp : Rv ι M.length H p x) (rq : Rv ι M.length H q y) {k : PV → PM → Res γ} {Q : δ → Hp → Prop} {Q' : VK} (h : Wp tb rel ι M.length H ((g p q M).bnd k) Q E)
    (c : ∀ ι1 M1 H1 p v, On tb ι M.length H ι1 M1 H1 → Rv ι1 M1.length H1 p v → Wp tb rel ι1 M1.length H1 (k p M1) Q E → Q' v H1) : r x y H Q' :=
  s ι M H p q x y Q' R rp rq (Wp.mono (Wp.bnd h) fun v H1 ⟨ι1, M1, p, o, rv, w⟩ => c ι1 M1 H1 p v o rv w)
theorem sm_chain (hr : SmR tb E r g) (hr' : SmR tb E r' g') (ha : SmE tb E ta fa) (hb : SmE tb E tb' fb) (hc : SmE tb E tc fc) : SmE tb E (tChain r r' ta tb' tc) (fChain g g' fa fb fc) := fun ι M H σp σ Q R S h =>
  ha.to R S h fun ι1 M1 H1 p v o1 S1 rv w1 => hb.to o1.r S1 w1 fun ι2 M2 H2 q u o2 S2 ru w2 => hr.to o2.r (rv.mono o2.e o2.l) ru w2 fun ι3 M3 H3 z zv o3 rz w3 => by
    obtain ⟨b, rfl, w4⟩ := asB_w rz w3
    refine ⟨b, rfl, ?_⟩
    cases b with
    | false => exact Wp.okNow w4 o3.r .mk_bl
    | true => exact hc.to o3.r (S2.mono o3.e o3.l) w4 fun ι4 M4 H4 y4 v4 o4 S4 r4 w5 => hr' ι4 M4 H4 q y4 u v4 Q o4.r ((ru.mono o3.e o3.l).mono o4.e o4.l) r4 w5
/-! arguments -/
variable {tr : TA} {fr : FA}
theorem sm_nil : SmA tb E tNil fNil := fun ι M H σp σ Q R S w => Wp.okNow w R Rvs.nil
theorem sm_cons (ha : SmE tb E ta fa) (hb : SmA tb E tr fr) : SmA tb E (tCons ta tr) (fCons fa fr) := fun ι M H σp σ Q R S w =>
  ha.to R S w fun ι1 M1 H1 p v o1 S1 rv w1 => hb.to o1.r S1 w1 fun ι2 M2 H2 ps vs o2 S2 rvs w2 => Wp.okNow w2 o2.r (Rvs.cons (rv.mono o2.e o2.l) rvs)
theorem sm_tup (hb : SmA tb E tr fr) : SmE tb E (tTup tr) (fTup fr) := fun ι M H σp σ Q R S w =>
  hb.to R S w fun ι1 M1 H1 ps vs o1 S1 rvs w1 => by
    split at w1
    · rename_i hl
      refine ⟨by rw [← rvs.len]; exact lim_le hl, fun p np => ?_⟩
      exact w1 ι1 _ _ (ex_new np) (Nat.le_refl _) (o1.r.new np) (.mk_tup upd_same (rvs.mono (ex_new np) (Nat.le_refl _)))
    · exact w1.elim
theorem sm_lst (hb : SmA tb E tr fr) : SmE tb E (tLst tr) (fLst fr) := fun ι M H σp σ Q R S w =>
  hb.to R S w fun ι1 M1 H1 ps vs o1 S1 rvs w1 => by
    split at w1
    · rename_i hl
      exact ⟨by rw [← rvs.len]; exact lim_le hl, fun p np => okLst w1 o1.r rvs np⟩
    · exact w1.elim
/-! slices -/
theorem cut_rel {xs : List PV} {vs : List V} {lo hi : Option Int} (r : Rvs ι N H xs vs) : Rvs ι N H (cut xs lo hi) (cutV vs lo hi) := by
  unfold cut cutV
  rw [← r.len]
  exact (r.drop _).take _
variable {tl th : TO} {fl fh : FO}
theorem sm_noPart : SmO tb E tNoPart fNoPart := fun ι M H σp σ Q R S w => Wp.okNow w R rfl
theorem sm_part (ha : SmE tb E ta fa) : SmO tb E (tPart ta) (fPart fa) := fun ι M H σp σ Q R S w =>
  ha.to R S w fun ι1 M1 H1 p v o1 S1 rv w1 => by
    cases p <;> first | exact (w1 : False).elim | exact ⟨_, rv.int, Wp.okNow w1 o1.r rfl⟩
def SmSl (tb : List (Addr × Str)) (E : XK) (r : V → Option Int → Option Int → Hp → VK → Prop) (g : PV → Option Int → Option Int → PM → Res PV) : Prop := ∀ ι M H p x lo hi Q, RM tb ι M H → Rv ι M.length H p x → Wp tb Rv ι M.length H (g p lo hi M) Q E → r x lo hi H Q
theorem sm_sl {rs : V → Option Int → Option Int → Hp → VK → Prop} {gs : PV → Option Int → Option Int → PM → Res PV} (hr : SmSl tb E rs gs) (ha : SmE tb E ta fa) (hl : SmO tb E tl fl) (hh : SmO tb E th fh) : SmE tb E (tSl rs ta tl th) (fSl gs fa fl fh) := fun ι M H σp σ Q R S w =>
  ha.to R S w fun ι1 M1 H1 p v o1 S1 rv w1 => hl.to o1.r S1 w1 fun ι2 M2 H2 lo o2 S2 w2 => hh.to o2.r S2 w2 fun ι3 M3 H3 hi o3 S3 w3 => hr ι3 M3 H3 p v lo hi Q o3.r ((rv.mono o2.e o2.l).mono o3.e o3.l) w3
theorem sms_S : SmSl tb E rSlS pSlS := by
  intro ι M H p x lo hi Q R rp h
  unfold pSlS at h
  split at h
  · split at h
    · rename_i s hl
      refine ⟨tx s, rp.str, by rw [tx_len]; exact lim_le hl, ?_⟩
      have e : cutS (tx s) lo hi = tx (cut s lo hi) := by
        unfold cutS cut
        rw [tx_len]
      rw [e]
      exact h.okNow R .mk_str
    · exact h.elim
  · exact h.elim
theorem sms_L : SmSl tb E (rSlL K) pSlL := by
  intro ι M H p x lo hi Q R rp h
  unfold pSlL at h
  split at h
  · rename_i xs e
    obtain ⟨k, vs, rfl, lk, rfl, ha, ra⟩ := lst_at R e rp
    exact ⟨_, vs, rfl, .of ha, fun t nt => okLst h R (cut_rel ra) nt⟩
  · exact h.elim
end
end Pu
namespace Pu
open PySem PySem.Spec PyProof.Rows L2 LB
open Classical
/-! ### garbage -/
def keepOk (M M2 : PM) : Prop := M.length ≤ M2.length ∧ ∀ i, i < M.length → M2[i]? = M[i]? ∨ ∃ o, M2[i]? = some o ∧ o.wf M.length
noncomputable def gc (M : PM) (r : Res PV) : Res PV := match r with
  | .ok p M2 => if keepOk M M2 ∧ p.wf M.length then .ok p (M2.take M.length) else match p with
    | .ref k => match M2[k]? with
      | some o => if keepOk M M2 ∧ o.wf M.length ∧ M.length ≤ k then .ok (.ref M.length) (M2.take M.length ++ [o]) else .ok p M2
      | none => .ok p M2
    | _ => .ok p M2
  | .exc x M2 => if keepOk M M2 then .exc x (M2.take M.length) else .exc x M2
  | .bad => .bad
noncomputable def fGc (f : FE) : FE := fun σ M => gc M (f σ M)
section
variable {tb : List (Addr × Str)} {E : XK} {ι ι2 : Nat → Addr} {H H2 : Hp} {M M2 : PM}
theorem RM.cutTo (R : RM tb ι M H) (R2 : RM tb ι2 M2 H2) (k : keepOk M M2) : RM tb ι2 (M2.take M.length) H2 := by
  have hl : (M2.take M.length).length = M.length := by rw [List.length_take]; have := k.1; omega
  refine ⟨fun i j hi hj e => R2.inj i j (by have := k.1; omega) (by have := k.1; omega) e, fun i o e => ?_, R2.tab⟩
  have li := (List.getElem?_eq_some_iff.mp e).1
  rw [hl] at li ⊢
  rw [List.getElem?_take_of_lt li] at e
  have w : o.wf M.length := by
    rcases k.2 i li with h | ⟨o', h, w⟩
    · exact R.wf (h.symm.trans e)
    · rw [h] at e
      cases e
      exact w
  exact (R2.obj i o e).cut w
theorem gc_ok {rel : (Nat → Addr) → Nat → Hp → PV → V → Prop} {Q : VK} (R : RM tb ι M H) {r : Res PV} (h : Wp tb Rv ι M.length H (gc M r) Q E) : Wp tb Rv ι M.length H r Q E := by
  cases r with
  | bad => exact h
  | exc x M2 =>
    unfold gc at h
    simp only at h
    split at h
    · rename_i k
      intro ι2 H2 d e l R2 hd
      have hl : (M2.take M.length).length = M.length := by rw [List.length_take]; have := k.1; omega
      exact h ι2 H2 d e (by rw [hl]; exact Nat.le_refl _) (R.cutTo R2 k) hd
    · exact h
  | ok p M2 =>
    unfold gc at h
    simp only at h
    split at h
    · rename_i k
      intro ι2 H2 v e l R2 rv
      have hl : (M2.take M.length).length = M.length := by rw [List.length_take]; have := k.1.1; omega
      refine h ι2 H2 v e (by rw [hl]; exact Nat.le_refl _) (R.cutTo R2 k.1) ?_
      rw [hl]
      exact rv.cut k.2
    · split at h
      · rename_i j _
        split at h
        · rename_i o eo
          split at h
          · rename_i k
            intro ι2 H2 v e l R2 rv
            obtain ⟨lj, rfl⟩ := rv.ref_at
            have hl : (M2.take M.length).length = M.length := by rw [List.length_take]; have := k.1.1; omega
            have R3 := R.cutTo R2 k.1
            have hl2 : (M2.take M.length ++ [o]).length = M.length + 1 := by rw [List.length_append, hl]; rfl
            have ne : ∀ i, i < M.length → ι2 i ≠ ι2 j := fun i hi z => by
              have := R2.inj i j (by omega) lj z
              omega
            refine h (ext ι2 M.length (ι2 j)) H2 _ ⟨fun i hi => by rw [ext_lt hi]; exact e.i i hi, e.t, e.z⟩ (by rw [hl2]; omega) ⟨fun a b ha hb z => ?_, fun i o' eo' => ?_, R2.tab⟩ ?_
            · rw [hl2] at ha hb
              rcases Nat.lt_or_ge a M.length with a1 | a1 <;> rcases Nat.lt_or_ge b M.length with b1 | b1
              · rw [ext_lt a1, ext_lt b1] at z
                exact R2.inj a b (by omega) (by omega) z
              · have : b = M.length := by omega
                subst this
                rw [ext_lt a1, ext_same] at z
                exact absurd z (ne a a1)
              · have : a = M.length := by omega
                subst this
                rw [ext_lt b1, ext_same] at z
                exact absurd z.symm (ne b b1)
              · omega
            · rw [hl2]
              have ex : Ex ι2 (ext ι2 M.length (ι2 j)) M.length H2 H2 := ⟨fun i hi => ext_lt hi, fun _ _ z => z, fun _ _ _ z => z⟩
              rcases Nat.lt_or_ge i M.length with a | a
              · rw [List.getElem?_append_left (by rw [hl]; exact a)] at eo'
                rw [ext_lt a]
                have := R3.obj i o' eo'
                rw [hl] at this
                exact this.mono ex (by omega) rfl
              · have li := (List.getElem?_eq_some_iff.mp eo').1
                rw [hl2] at li
                have : i = M.length := by omega
                subst this
                rw [List.getElem?_append_right (by rw [hl]; exact Nat.le_refl _), hl, Nat.sub_self] at eo'
                cases eo'
                rw [ext_same]
                exact ((R2.obj j o eo).cut k.2.1).mono ex (by omega) rfl
            · rw [hl2]
              have := Rv.mk_ref (ι := ext ι2 M.length (ι2 j)) (N := M.length + 1) (H := H2) (k := M.length) (by omega)
              rw [ext_same] at this
              exact this
          · exact h
        · exact h
      · exact h
theorem sm_gc {t : TE} {f : FE} (s : SmE tb E t f) : SmE tb E t (fGc f) := fun ι M H σp σ Q R S w => s ι M H σp σ Q R S (gc_ok (rel := Rv) R w)
end
/-! ### plain statements -/
def fNext : FS := fun σ M => .nx σ M
def fSeq (f g : FS) : FS := fun σ M => match f σ M with
  | .nx σ' M' => g σ' M'
  | r => r
def fBreak : FS := fun σ M => .bk σ M
def fCont : FS := fun σ M => .ct σ M
def fDrop (f : FE) : FS := fun σ M => (f σ M).go fun _ M1 => .nx σ M1
def fRet (f : FE) : FS := fun σ M => (f σ M).go fun p M1 => .rt p M1
def fRetN : FS := fun _ M => .rt .non M
def fIfS (c : FT) (f g : FS) : FS := fun σ M => (c σ M).go fun b M1 => if b = true then f σ M1 else g σ M1
def fNever : FS := fun _ _ => .bad
section
variable {tb : List (Addr × Str)} {E : XK} {t u : TS} {f g : FS} {te ta tv : TE} {fe fa fv : FE} {tc : TT} {fc : FT}
theorem sm_next : SmS tb E tNext fNext := fun ι M H σp σ D R S w => w ι H σ .refl (Nat.le_refl _) R S
theorem sm_seq (h1 : SmS tb E t f) (h2 : SmS tb E u g) : SmS tb E (tSeq t u) (fSeq f g) := fun ι M H σp σ D R S w => by
  refine h1 ι M H σp σ _ R S ?_
  unfold fSeq at w
  revert w
  cases f σp M with
  | nx s M1 => exact fun w ι1 H1 σ1 e l R1 S1 => h2 ι1 M1 H1 s σ1 D R1 S1 (w.back e l)
  | rt p M1 => exact fun w => w
  | bk s M1 => exact fun w => w
  | ct s M1 => exact fun w => w
  | exc x M1 => exact fun w => w
  | bad => exact fun w => w
theorem sm_drop (h : SmE tb E te fe) : SmS tb E (tDrop te) (fDrop fe) := fun ι M H σp σ D R S w =>
  h.go R S w fun ι1 M1 H1 p v o S1 rv w1 => w1 ι1 H1 σ .refl (Nat.le_refl _) o.r S1
theorem sm_ret (h : SmE tb E te fe) : SmS tb E (tRet te) (fRet fe) := fun ι M H σp σ D R S w =>
  h.go R S w fun ι1 M1 H1 p v o S1 rv w1 => w1 ι1 H1 v .refl (Nat.le_refl _) o.r rv
theorem sm_ifS (hc : SmT tb E tc fc) (h1 : SmS tb E t f) (h2 : SmS tb E u g) : SmS tb E (tIfS tc t u) (fIfS fc f g) := fun ι M H σp σ D R S w =>
  hc.go R S w fun ι1 M1 H1 p o S1 w1 => by
    cases p with
    | true => exact h1 ι1 M1 H1 σp σ D o.r S1 w1
    | false => exact h2 ι1 M1 H1 σp σ D o.r S1 w1
end
/-! ### targets -/
abbrev FG := PV → PS → Option PS
theorem wipe_get {σ : L2.St} {j : Nat} : ∀ vs : List Nat, (wipe σ vs)[j]? = if j ∈ vs then (if j < σ.length then some none else none) else σ[j]?
  | [] => by simp [wipe]
  | v :: vs => by
    unfold wipe
    rw [List.getElem?_set, wipe_length, wipe_get vs]
    by_cases h : v = j
    · subst h
      simp
    · simp [h, Ne.symm h]
theorem wipe_set {σ : L2.St} {i : Nat} {x : Option V} {vs : List Nat} (h : i ∈ vs) : wipe (σ.set i x) vs = wipe σ vs := by
  apply List.ext_getElem?
  intro j
  rw [wipe_get, wipe_get, List.length_set]
  by_cases hj : j ∈ vs
  · rw [if_pos hj, if_pos hj]
  · rw [if_neg hj, if_neg hj, List.getElem?_set_ne (fun z : i = j => hj (z ▸ h))]
theorem wipe_wipe {σ : L2.St} {vs : List Nat} : wipe (wipe σ vs) vs = wipe σ vs := by
  apply List.ext_getElem?
  intro j
  rw [wipe_get, wipe_get, wipe_length]
  by_cases hj : j ∈ vs
  · rw [if_pos hj, if_pos hj]
  · rw [if_neg hj, if_neg hj]
def SmG (tb : List (Addr × Str)) (g : TG) (fg : FG) (ws : List Nat) : Prop := ∀ ι M H p v σp σ σp' Q, RM tb ι M H → Rv ι M.length H p v → Rs ι M.length H σp σ → fg p σp = some σp' →
  (∀ σ', Rs ι M.length H σp' σ' → (∀ vs, (∀ i ∈ ws, i ∈ vs) → wipe σ' vs = wipe σ vs) → Q σ' H) → g v σ H Q
def SmGs (tb : List (Addr × Str)) (g : TGs) (fg : List PV → PS → Option PS) (ws : List Nat) : Prop := ∀ ι M H ps vs σp σ σp' Q, RM tb ι M H → Rvs ι M.length H ps vs → Rs ι M.length H σp σ → fg ps σp = some σp' →
  (∀ σ', Rs ι M.length H σp' σ' → (∀ vs, (∀ i ∈ ws, i ∈ vs) → wipe σ' vs = wipe σ vs) → Q σ' H) → g vs σ H Q
def gNm (i : Nat) : FG := fun p σ => some (σ.set i (some p))
def gsNil : List PV → PS → Option PS := fun ps σ => match ps with
  | [] => some σ
  | _ => none
def gsCons (g : FG) (gs : List PV → PS → Option PS) : List PV → PS → Option PS := fun ps σ => match ps with
  | p :: r => (g p σ).bind fun σ1 => gs r σ1
  | [] => none
def gTp (gs : List PV → PS → Option PS) : FG := fun p σ => match p with
  | .tup xs => gs xs σ
  | _ => none
section
variable {tb : List (Addr × Str)} {E : XK} {K : PySem.W.Frag} {g : TG} {gs : TGs} {fg : FG} {fgs : List PV → PS → Option PS} {ws ws' : List Nat} {n : Nat}
theorem sg_nm {i : Nat} : SmG tb (gName i) (gNm i) [i] := fun ι M H p v σp σ σp' Q R rp S e c => by
  cases e
  exact c _ (S.set rp i) fun vs hv => wipe_set (hv i (by simp))
theorem sg_nil : SmGs tb gNil gsNil [] := fun ι M H ps vs σp σ σp' Q R rp S e c => by
  cases ps with
  | nil =>
    unfold Rvs at rp
    cases e
    exact ⟨rp, c σ S fun _ _ => rfl⟩
  | cons p r => cases e
theorem sg_cons (h : SmG tb g fg ws) (hs : SmGs tb gs fgs ws') : SmGs tb (gCons g gs) (gsCons fg fgs) (ws ++ ws') := fun ι M H ps vs σp σ σp' Q R rp S e c => by
  cases ps with
  | nil => cases e
  | cons p r =>
    unfold Rvs at rp
    obtain ⟨v, w, rfl, q1, q2⟩ := rp
    unfold gsCons at e
    simp only at e
    cases e1 : fg p σp with
    | none => rw [e1] at e; cases e
    | some σ1 =>
      rw [e1] at e
      refine ⟨v, w, rfl, h ι M H p v σp σ σ1 _ R q1 S e1 fun σ' S' w' => hs ι M H r w σ1 σ' σp' Q R q2 S' e fun σ2 S2 w2 => c σ2 S2 fun vs hv => ?_⟩
      rw [w2 vs fun i hi => hv i (List.mem_append_right _ hi), w' vs fun i hi => hv i (List.mem_append_left _ hi)]
/-- how many -/
theorem gs_len : ∀ {ps : List PV} {σ σ' : PS}, gsNil ps σ = some σ' → ps.length = 0 := fun {ps σ σ'} h => by
  cases ps with
  | nil => rfl
  | cons p r => cases h
def Cnt (fgs : List PV → PS → Option PS) (n : Nat) : Prop := ∀ ps σ σ', fgs ps σ = some σ' → ps.length = n
theorem cnt_nil : Cnt gsNil 0 := fun _ _ _ h => gs_len h
theorem cnt_cons (h : Cnt fgs n) : Cnt (gsCons fg fgs) (n + 1) := fun ps σ σ' e => by
  cases ps with
  | nil => cases e
  | cons p r =>
    unfold gsCons at e
    simp only at e
    cases e1 : fg p σ with
    | none => rw [e1] at e; cases e
    | some σ1 =>
      rw [e1] at e
      rw [List.length_cons, h r σ1 σ' e]
theorem sg_tup (h : SmGs tb gs fgs ws) (c : Cnt fgs n) : SmG tb (gTup K n gs) (gTp fgs) ws := fun ι M H p v σp σ σp' Q R rp S e k => by
  cases p <;> first | (cases e; done) | skip
  rename_i xs
  obtain ⟨a, vs, rfl, ha, ra⟩ := rp.tup_at
  exact ⟨a, vs, rfl, .of ha, by rw [← ra.len]; exact c _ _ _ e, h ι M H xs vs σp σ σp' Q R ra S e k⟩
end
def fAsg (f : FE) (g : FG) : FS := fun σ M => (f σ M).go fun p M1 => match g p σ with
  | some σ' => .nx σ' M1
  | none => .bad
/-- xs[i] = v -/
def setL (o i v : PV) (M : PM) : Option PM := match o, i with
  | .ref k, .int j => match M[k]? with
    | some (.lst xs) => match ixN xs.length j with
      | some n => some (M.set k (.lst (xs.set n v)))
      | none => none
    | _ => none
  | _, _ => none
def fAsgL (f fo fi : FE) : FS := fun σ M => (f σ M).go fun v M1 => (fo σ M1).go fun o M2 => (fi σ M2).go fun i M3 => match setL o i v M3 with
  | some M4 => .nx σ M4
  | none => .bad
def fAugL (fo fi f : FE) (g : PV → PV → PM → Res PV) : FS := fun σ M => (fo σ M).go fun o M1 => (fi σ M1).go fun i M2 => (pIxL o i M2).go fun x M3 => (f σ M3).go fun y M4 => (g x y M4).go fun z M5 => match setL o i z M5 with
  | some M6 => .nx σ M6
  | none => .bad
section
variable {tb : List (Addr × Str)} {E : XK} {K : PySem.W.Frag} {te to ti : TE} {fe fo fi : FE} {g : TG} {fg : FG} {ws : List Nat} {ip : TIp} {pi : PV → PV → PM → Res PV} {ι : Nat → Addr} {M : PM} {H : Hp}
theorem sm_asg (h : SmE tb E te fe) (hg : SmG tb g fg ws) : SmS tb E (tAsg te g) (fAsg fe fg) := fun ι M H σp σ D R S w =>
  h.go R S w fun ι1 M1 H1 p v o S1 rv w1 => by
    split at w1
    · rename_i σ' e
      exact hg ι1 M1 H1 p v σp σ σ' D.nx o.r rv S1 e fun σ2 S2 _ => w1 ι1 H1 σ2 .refl (Nat.le_refl _) o.r S2
    · exact w1.elim
theorem SmR.go {r : R2} {gg : PV → PV → PM → Res PV} (s : SmR tb E r gg) (R : RM tb ι M H) {p q : PV} {x y : V} (rp : Rv ι M.length H p x) (rq : Rv ι M.length H q y) {k : PV → PM → SR} {D : Ends} {Q' : VK} (h : WpS tb ι M.length H ((gg p q M).go k) D E)
    (c : ∀ ι1 M1 H1 p v, On tb ι M.length H ι1 M1 H1 → Rv ι1 M1.length H1 p v → WpS tb ι1 M1.length H1 (k p M1) D E → Q' v H1) : r x y H Q' :=
  s ι M H p q x y Q' R rp rq (Wp.mono (Wp.go h) fun v H1 ⟨ι1, M1, p, o, rv, w⟩ => c ι1 M1 H1 p v o rv w)
theorem setL_ok {o i v : PV} {M' : PM} {xo xi xv : V} (R : RM tb ι M H) (ro : Rv ι M.length H o xo) (ri : Rv ι M.length H i xi) (rv : Rv ι M.length H v xv) (e : setL o i v M = some M') {Q : Hp → Prop} (h : ∀ H', Ex ι ι M.length H H' → M'.length = M.length → RM tb ι M' H' → Q H') : rSetL xo xi xv H Q := by
  unfold setL at e
  split at e
  · rename_i k j
    split at e
    · rename_i xs ek
      split at e
      · rename_i n en
        cases e
        obtain ⟨lk, rfl⟩ := ro.ref_at
        obtain ⟨vs, e1, ra⟩ := R.obj k _ ek
        have ra2 := ra.set rv n
        have hz : ∀ o u, H (ι k) ≠ some (.frz o u) := fun o u z => by rw [e1] at z; cases z
        have ex : Ex ι ι M.length H (upd H (ι k) (.lst (vs.set n xv))) := ex_chg R lk hz
        refine ⟨ι k, vs, j, n, rfl, ri.int, e1, by rw [← ra.len]; exact en, h _ ex (by simp) ?_⟩
        exact R.chg (o := .lst (xs.set n v)) (x := .lst (vs.set n xv)) lk hz ⟨_, upd_same, ra2.mono ex (Nat.le_refl _)⟩
      · cases e
    · cases e
  · cases e
theorem sm_asgL (h : SmE tb E te fe) (ho : SmE tb E to fo) (hi : SmE tb E ti fi) : SmS tb E (tAsg te (gSub to ti rSetL)) (fAsgL fe fo fi) := fun ι M H σp σ D R S w =>
  h.go R S w fun ι1 M1 H1 p v o1 S1 rv w1 => ho.go o1.r S1 w1 fun ι2 M2 H2 q xo o2 S2 ro w2 => hi.go o2.r S2 w2 fun ι3 M3 H3 i xi o3 S3 ri w3 => by
    split at w3
    · rename_i M4 e
      refine setL_ok o3.r (ro.mono o3.e o3.l) ri ((rv.mono o2.e o2.l).mono o3.e o3.l) e fun H4 ex l R4 => ?_
      exact w3 ι3 H4 σ ex (by omega) R4 (by rw [l]; exact S3.mono ex (Nat.le_refl _))
    · exact w3.elim
theorem sm_augL (ho : SmE tb E to fo) (hi : SmE tb E ti fi) (h : SmE tb E te fe) (hr : SmR tb E ip pi) : SmS tb E (tAugS to ti te (rIxL K) ip rSetL) (fAugL fo fi fe pi) := fun ι M H σp σ D R S w =>
  ho.go R S w fun ι1 M1 H1 q xo o1 S1 ro w1 => hi.go o1.r S1 w1 fun ι2 M2 H2 i xi o2 S2 ri w2 => smr_ixL.go o2.r (ro.mono o2.e o2.l) ri w2 fun ι3 M3 H3 x xx o3 rx w3 => h.go o3.r (S2.mono o3.e o3.l) w3 fun ι4 M4 H4 y yv o4 S4 ry w4 =>
    hr.go o4.r (rx.mono o4.e o4.l) ry w4 fun ι5 M5 H5 z zv o5 rz w5 => by
      split at w5
      · rename_i M6 e
        refine setL_ok o5.r ((((ro.mono o2.e o2.l).mono o3.e o3.l).mono o4.e o4.l).mono o5.e o5.l) (((ri.mono o3.e o3.l).mono o4.e o4.l).mono o5.e o5.l) rz e fun H6 ex l R6 => ?_
        exact w5 ι5 H6 σ ex (by omega) R6 (by rw [l]; exact (S4.mono o5.e o5.l).mono ex (Nat.le_refl _))
      · exact w5.elim
end
/-! ### walks -/
structure PIt where
  xs : List PV
  ok : PM → Prop
abbrev FI := PS → PM → Res PIt
def rIt (tb : List (Addr × Str)) : (Nat → Addr) → Nat → Hp → PIt → It → Prop := fun ι N H it J => ∀ (i : Nat) (ι' : Nat → Addr) (M' : PM) (H' : Hp), Ex ι ι' N H H' → N ≤ M'.length → RM tb ι' M' H' → it.ok M' →
  (∀ p, it.xs[i]? = some p → J.go i H' ∧ ∀ x H'', J.yld i H' x H'' → Ex ι' ι' M'.length H' H'' ∧ RM tb ι' M' H'' ∧ Rv ι' M'.length H'' p x) ∧ (it.xs[i]? = none → i = it.xs.length → J.stop i H')
def SmI (tb : List (Addr × Str)) (E : XK) (t : TI) (f : FI) : Prop := ∀ ι M H σp σ Q, RM tb ι M H → Rs ι M.length H σp σ → Wp tb (rIt tb) ι M.length H (f σp M) Q E → t σ H Q
noncomputable def forP (ok : PM → Prop) (g : FG) (b : FS) : List PV → PS → PM → SR
  | [], σ, M => if ok M then .nx σ M else .bad
  | x :: xs, σ, M => if ok M then match g x σ with
    | none => .bad
    | some σ1 => match b σ1 M with
      | .nx σ2 M2 => forP ok g b xs σ2 M2
      | .ct σ2 M2 => forP ok g b xs σ2 M2
      | .bk σ2 M2 => .nx σ2 M2
      | .rt p M2 => .rt p M2
      | .exc e M2 => .exc e M2
      | .bad => .bad
    else .bad
noncomputable def fFor (i : FI) (g : FG) (b : FS) : FS := fun σ M => (i σ M).go fun it M1 => forP it.ok g b it.xs σ M1
section
variable {tb : List (Addr × Str)} {E : XK} {K : PySem.W.Frag} {ti : TI} {fi : FI} {g : TG} {fg : FG} {ws : List Nat} {t : TS} {f : FS} {tc : TT} {fc : FT}
theorem SmI.go {ι : Nat → Addr} {M : PM} {H : Hp} {σp : PS} {σ : L2.St} (s : SmI tb E ti fi) (R : RM tb ι M H) (S : Rs ι M.length H σp σ) {k : PIt → PM → SR} {D : Ends} {Q' : It → Hp → Prop} (h : WpS tb ι M.length H ((fi σp M).go k) D E)
    (c : ∀ ι1 M1 H1 p v, On tb ι M.length H ι1 M1 H1 → Rs ι1 M1.length H1 σp σ → rIt tb ι1 M1.length H1 p v → WpS tb ι1 M1.length H1 (k p M1) D E → Q' v H1) : ti σ H Q' :=
  s ι M H σp σ Q' R S (Wp.mono (Wp.go h) fun v H1 ⟨ι1, M1, p, o, rv, w⟩ => c ι1 M1 H1 p v o (S.mono o.e o.l) rv w)
theorem SmI.to {ι : Nat → Addr} {M : PM} {H : Hp} {σp : PS} {σ : L2.St} {γ δ : Type} {rel2 : (Nat → Addr) → Nat → Hp → γ → δ → Prop} (s : SmI tb E ti fi) (R : RM tb ι M H) (S : Rs ι M.length H σp σ) {k : PIt → PM → Res γ} {Q : δ → Hp → Prop} {Q' : It → Hp → Prop} (h : Wp tb rel2 ι M.length H ((fi σp M).bnd k) Q E)
    (c : ∀ ι1 M1 H1 p v, On tb ι M.length H ι1 M1 H1 → Rs ι1 M1.length H1 σp σ → rIt tb ι1 M1.length H1 p v → Wp tb rel2 ι1 M1.length H1 (k p M1) Q E → Q' v H1) : ti σ H Q' :=
  s ι M H σp σ Q' R S (Wp.mono (Wp.bnd h) fun v H1 ⟨ι1, M1, p, o, rv, w⟩ => c ι1 M1 H1 p v o (S.mono o.e o.l) rv w)
theorem sm_for (hi : SmI tb E ti fi) (hg : SmG tb g fg ws) (hb : SmS tb E t f) : SmS tb E (tFor ti g t) (fFor fi fg f) := fun ι M H σp σ D R S w =>
  hi.go R S w fun ι1 M1 H1 it J o1 S1 rj w1 => by
    refine ⟨fun i m σ' H' => ∃ ι' M' σp', On tb ι1 M1.length H1 ι' M' H' ∧ Rs ι' M'.length H' σp' σ' ∧ m = it.xs.length - i ∧ i ≤ it.xs.length ∧ WpS tb ι' M'.length H' (forP it.ok fg f (it.xs.drop i) σp' M') D E, ⟨_, ι1, M1, σp, ⟨.refl, Nat.le_refl _, o1.r⟩, S1, rfl, Nat.zero_le _, w1⟩, ?_⟩
    rintro i m σ' H' ⟨ι', M', σp', o, S', rfl, li, w'⟩
    rcases Nat.lt_or_ge i it.xs.length with h | h
    · have e : it.xs[i]? = some it.xs[i] := List.getElem?_eq_getElem h
      rw [List.drop_eq_getElem_cons h] at w'
      unfold forP at w'
      split at w'
      · rename_i hok
        split at w'
        · exact w'.elim
        · rename_i σ1 e1
          have q := rj i ι' M' H' o.e o.l o.r hok
          obtain ⟨go, y⟩ := q.1 _ e
          refine .inr ⟨go, fun σ2 H2 => ∃ ι2 M2 σp2, On tb ι1 M1.length H1 ι2 M2 H2 ∧ Rs ι2 M2.length H2 σp2 σ2 ∧ WpS tb ι2 M2.length H2 (forP it.ok fg f (it.xs.drop (i + 1)) σp2 M2) D E, fun σ2 H2 ⟨ι2, M2, σp2, a, b, c⟩ => ⟨it.xs.length - (i + 1), by omega, ι2, M2, σp2, a, b, rfl, h, c⟩, fun x H2 yx => ?_⟩
          obtain ⟨ex, R2, rx⟩ := y x H2 yx
          refine hg ι' M' H2 _ x σp' σ' σ1 _ R2 rx (S'.mono ex (Nat.le_refl _)) e1 fun σ2 S2 _ => ?_
          refine hb ι' M' H2 σ1 σ2 _ R2 S2 ?_
          have on : On tb ι1 M1.length H1 ι' M' H2 := ⟨o.e.trans ex o.l, o.l, R2⟩
          have w2 := WpS.back (n' := M'.length) w' ex (Nat.le_refl _)
          revert w2
          cases f σ1 M' with
          | nx s M3 => exact fun w2 ι3 H3 σ3 e3 l3 R3 S3 => ⟨ι3, M3, s, ⟨on.e.trans e3 on.l, Nat.le_trans on.l l3, R3⟩, S3, WpS.back w2 e3 l3⟩
          | ct s M3 => exact fun w2 ι3 H3 σ3 e3 l3 R3 S3 => ⟨ι3, M3, s, ⟨on.e.trans e3 on.l, Nat.le_trans on.l l3, R3⟩, S3, WpS.back w2 e3 l3⟩
          | bk s M3 => exact fun w2 => w2
          | rt p M3 => exact fun w2 => w2
          | exc x M3 => exact fun w2 => w2
          | bad => exact fun w2 => w2
      · exact w'.elim
    · rw [List.drop_of_length_le h] at w'
      unfold forP at w'
      split at w'
      · rename_i hok
        have q := rj i ι' M' H' o.e o.l o.r hok
        exact .inl ⟨q.2 (List.getElem?_eq_none h) (by omega), w' ι' H' σ' .refl (Nat.le_refl _) o.r S'⟩
      · exact w'.elim
end
end Pu
namespace Pu
open PySem PySem.Spec PyProof.Rows L2 LB
open Classical
abbrev E0 : XK := fun _ _ _ => False
/-! ### list comprehensions -/
noncomputable def lcP (ok : PM → Prop) (g : FG) (ft : FT) (fe : FE) (d : Nat) (σ : PS) : List PV → PM → Res Unit
  | [], M => if ok M then .ok () M else .bad
  | x :: xs, M => if ok M then match g x σ with
    | none => .bad
    | some σ1 => (ft σ1 M).nox.bnd fun b M1 => if b = true then (fe σ1 M1).nox.bnd fun y M2 => match M2[d]? with
        | some (.lst acc) => if acc.length < lim then lcP ok g ft fe d σ xs (M2.set d (.lst (acc ++ [y]))) else .bad
        | _ => .bad
      else lcP ok g ft fe d σ xs M1
    else .bad
noncomputable def fLc (i : FI) (g : FG) (ft : FT) (fe : FE) (vs : List Nat) : FE := fun σ M => (i σ M).bnd fun it M1 => (lcP it.ok g ft fe M1.length (wipeP σ vs) it.xs (M1 ++ [.lst []])).bnd fun _ M2 => .ok (.ref M1.length) M2
/-- a key put, in its place or at the end -/
noncomputable def putP (kvs : List (PV × PV)) (k v : PV) : List (PV × PV) := if ∃ p ∈ kvs, p.1 = k then kvs.map (fun kv => if kv.1 = k then (kv.1, v) else kv) else kvs ++ [(k, v)]
noncomputable def dcP (ok : PM → Prop) (g : FG) (ft : FT) (fk fv : FE) (d : Nat) (σ : PS) : List PV → PM → Res Unit
  | [], M => if ok M then .ok () M else .bad
  | x :: xs, M => if ok M then match g x σ with
    | none => .bad
    | some σ1 => (ft σ1 M).nox.bnd fun b M1 => if b = true then (fk σ1 M1).nox.bnd fun k M2 => (fv σ1 M2).nox.bnd fun y M3 => match M3[d]? with
        | some (.dct kvs) => if kvs.length < lim ∧ (keyOf k).isSome then dcP ok g ft fk fv d σ xs (M3.set d (.dct (putP kvs k y))) else .bad
        | _ => .bad
      else dcP ok g ft fk fv d σ xs M1
    else .bad
noncomputable def fDc (i : FI) (g : FG) (ft : FT) (fk fv : FE) (vs : List Nat) : FE := fun σ M => (i σ M).bnd fun it M1 => (dcP it.ok g ft fk fv M1.length (wipeP σ vs) it.xs (M1 ++ [.dct []])).bnd fun _ M2 => .ok (.ref M1.length) M2
section
variable {tb : List (Addr × Str)} {E : XK} {K : PySem.W.Frag} {ti : TI} {fi : FI} {g : TG} {fg : FG} {ws : List Nat} {tt : TT} {ft : FT} {te tk tv : TE} {fe fk' fv : FE} {ι : Nat → Addr} {n : Nat} {H : Hp} {M : PM} {σp : PS} {σ : L2.St}
theorem Wp.nox {α β : Type} {rel : (Nat → Addr) → Nat → Hp → α → β → Prop} {γ δ : Type} {rel2 : (Nat → Addr) → Nat → Hp → γ → δ → Prop} {r : Res α} {k : α → PM → Res γ} {Q : δ → Hp → Prop} (h : Wp tb rel2 ι n H (r.nox.bnd k) Q E) : Wp tb rel ι n H r (fun v H' => ∃ ι' M' p, On tb ι n H ι' M' H' ∧ rel ι' M'.length H' p v ∧ Wp tb rel2 ι' M'.length H' (k p M') Q E) E0 := by
  cases r with
  | ok p M => exact fun ι' H' v e l r v' => ⟨ι', M, p, ⟨e, l, r⟩, v', Wp.back h e l⟩
  | exc x M => exact (h : False).elim
  | bad => exact h
theorem SmE.nox {γ δ : Type} {rel2 : (Nat → Addr) → Nat → Hp → γ → δ → Prop} {t : TE} {f : FE} (s : SmE tb E0 t f) (R : RM tb ι M H) (S : Rs ι M.length H σp σ) {k : PV → PM → Res γ} {Q : δ → Hp → Prop} {Q' : VK} (h : Wp tb rel2 ι M.length H ((f σp M).nox.bnd k) Q E)
    (c : ∀ ι1 M1 H1 p v, On tb ι M.length H ι1 M1 H1 → Rs ι1 M1.length H1 σp σ → Rv ι1 M1.length H1 p v → Wp tb rel2 ι1 M1.length H1 (k p M1) Q E → Q' v H1) : t σ H Q' :=
  s ι M H σp σ Q' R S (Wp.mono (Wp.nox h) fun v H1 ⟨ι1, M1, p, o, rv, w⟩ => c ι1 M1 H1 p v o (S.mono o.e o.l) rv w)
theorem SmT.nox {γ δ : Type} {rel2 : (Nat → Addr) → Nat → Hp → γ → δ → Prop} {t : TT} {f : FT} (s : SmT tb E0 t f) (R : RM tb ι M H) (S : Rs ι M.length H σp σ) {k : Bool → PM → Res γ} {Q : δ → Hp → Prop} {Q' : Bool → Hp → Prop} (h : Wp tb rel2 ι M.length H ((f σp M).nox.bnd k) Q E)
    (c : ∀ ι1 M1 H1 p, On tb ι M.length H ι1 M1 H1 → Rs ι1 M1.length H1 σp σ → Wp tb rel2 ι1 M1.length H1 (k p M1) Q E → Q' p H1) : t σ H Q' :=
  s ι M H σp σ Q' R S (Wp.mono (Wp.nox h) fun v H1 ⟨ι1, M1, p, o, rv, w⟩ => by have e : p = v := rv; subst e; exact c ι1 M1 H1 p o (S.mono o.e o.l) w)
theorem On.trans {ι1 ι2 : Nat → Addr} {M1 M2 : PM} {H1 H2 : Hp} (a : On tb ι n H ι1 M1 H1) (b : On tb ι1 M1.length H1 ι2 M2 H2) : On tb ι n H ι2 M2 H2 := ⟨a.e.trans b.e a.l, Nat.le_trans a.l b.l, b.r⟩
theorem On.refl (R : RM tb ι M H) : On tb ι M.length H ι M H := ⟨.refl, Nat.le_refl _, R⟩
theorem sm_lc {vs : List Nat} (hi : SmI tb E ti fi) (hg : SmG tb g fg ws) (ht : SmT tb E0 tt ft) (he : SmE tb E0 te fe) (hw : ∀ i ∈ ws, i ∈ vs) : SmE tb E (tLc ti g tt te vs) (fLc fi fg ft fe vs) := fun ι M H σp σ Q R S w =>
  hi.to R S w fun ι1 M1 H1 it J o1 S1 rj w1 => by
    intro D nD
    have Rn := o1.r.lst (xs := []) (vs := []) Rvs.nil nD
    have ex1 : Ex ι1 (ext ι1 M1.length D) M1.length H1 (upd H1 D (.lst [])) := ex_ext nD
    have l0 : (M1 ++ [PO.lst []]).length = M1.length + 1 := by simp
    refine ⟨fun i m H' => ∃ ι' M', On tb (ext ι1 M1.length D) (M1.length + 1) (upd H1 D (.lst [])) ι' M' H' ∧ m = it.xs.length - i ∧ i ≤ it.xs.length ∧ Wp tb Rv ι' M'.length H' ((lcP it.ok fg ft fe M1.length (wipeP σp vs) (it.xs.drop i) M').bnd fun _ M2 => .ok (.ref M1.length) M2) Q E,
      ⟨_, _, _, ⟨.refl, Nat.le_of_eq l0.symm, Rn.1⟩, rfl, Nat.zero_le _, by rw [l0]; exact w1.back ex1 (Nat.le_succ _)⟩, ?_⟩
    rintro i m H' ⟨ι', M', o, rfl, li, w'⟩
    have atD : ι' M1.length = D := (o.e.i _ (Nat.lt_succ_self _)).trans ext_same
    have oE : On tb ι1 M1.length H1 ι' M' H' := ⟨ex1.trans o.e (Nat.le_succ _), Nat.le_trans (Nat.le_succ _) o.l, o.r⟩
    rcases Nat.lt_or_ge i it.xs.length with h | h
    · have e : it.xs[i]? = some it.xs[i] := List.getElem?_eq_getElem h
      rw [List.drop_eq_getElem_cons h] at w'
      unfold lcP at w'
      split at w'
      · rename_i hok
        split at w'
        · exact (w' : False).elim
        · rename_i σ1 e1
          obtain ⟨go, y⟩ := (rj i ι' M' H' oE.e oE.l oE.r hok).1 _ e
          refine .inr ⟨go, fun H2 => ∃ ι2 M2, On tb (ext ι1 M1.length D) (M1.length + 1) (upd H1 D (.lst [])) ι2 M2 H2 ∧ Wp tb Rv ι2 M2.length H2 ((lcP it.ok fg ft fe M1.length (wipeP σp vs) (it.xs.drop (i + 1)) M2).bnd fun _ M2 => .ok (.ref M1.length) M2) Q E,
            fun H2 ⟨ι2, M2, a, b⟩ => ⟨it.xs.length - (i + 1), by omega, ι2, M2, a, rfl, h, b⟩, fun x H2 yx => ?_⟩
          obtain ⟨ex, R2, rx⟩ := y x H2 yx
          have S2 : Rs ι' M'.length H2 (wipeP σp vs) (wipe σ vs) := ((S1.mono oE.e oE.l).mono ex (Nat.le_refl _)).wipe vs
          refine hg ι' M' H2 _ x _ _ σ1 _ R2 rx S2 e1 fun σ2 S3 wp => ⟨(wp vs hw).trans wipe_wipe, ?_⟩
          have o2 : On tb (ext ι1 M1.length D) (M1.length + 1) (upd H1 D (.lst [])) ι' M' H2 := ⟨o.e.trans ex o.l, o.l, R2⟩
          have w2 := Wp.back (n' := M'.length) w' ex (Nat.le_refl _)
          have asc : ∀ (r : Res Bool) (k : Bool → PM → Res Unit), ((r.nox.bnd k).bnd fun _ M2 => Res.ok (PV.ref M1.length) M2) = r.nox.bnd fun b M => (k b M).bnd fun _ M2 => Res.ok (PV.ref M1.length) M2 := fun r k => by cases r <;> rfl
          have asc2 : ∀ (r : Res PV) (k : PV → PM → Res Unit), ((r.nox.bnd k).bnd fun _ M2 => Res.ok (PV.ref M1.length) M2) = r.nox.bnd fun b M => (k b M).bnd fun _ M2 => Res.ok (PV.ref M1.length) M2 := fun r k => by cases r <;> rfl
          rw [asc] at w2
          refine ht.nox R2 S3 w2 fun ι3 M3 H3 b o3 S4 w3 => ?_
          cases b with
          | false => exact ⟨ι3, M3, o2.trans o3, w3⟩
          | true =>
            simp only [if_true] at w3 ⊢
            rw [asc2] at w3
            refine he.nox o3.r S4 w3 fun ι4 M4 H4 y v o4 S5 ry w4 => ?_
            have oo := (o2.trans o3).trans o4
            have d4 : ι4 M1.length = D := (oo.e.i _ (Nat.lt_succ_self _)).trans ext_same
            split at w4
            · rename_i acc ea
              split at w4
              · rename_i hl
                have ld : M1.length < M4.length := oo.l
                obtain ⟨vacc, e5, racc⟩ := o4.r.obj M1.length _ ea
                rw [d4] at e5
                have hz : ∀ o u, H4 (ι4 M1.length) ≠ some (.frz o u) := fun o u z => by rw [d4, e5] at z; cases z
                have ex5 : Ex ι4 ι4 M4.length H4 (upd H4 (ι4 M1.length) (.lst (vacc ++ [v]))) := ex_chg o4.r ld hz
                have R5 := o4.r.chg (o := .lst (acc ++ [y])) (x := .lst (vacc ++ [v])) ld hz ⟨_, upd_same, (racc.app (.cons ry .nil)).mono ex5 (Nat.le_refl _)⟩
                rw [d4] at R5 ex5
                refine ⟨vacc, e5, by rw [← racc.len]; exact lim_lt hl, ι4, _, ⟨oo.e.trans ex5 oo.l, by rw [List.length_set]; exact oo.l, R5⟩, ?_⟩
                rw [List.length_set]
                exact w4.back ex5 (Nat.le_refl _)
              · exact (w4 : False).elim
            · exact (w4 : False).elim
      · exact (w' : False).elim
    · rw [List.drop_of_length_le h] at w'
      unfold lcP at w'
      split at w'
      · rename_i hok
        refine .inl ⟨(rj i ι' M' H' oE.e oE.l oE.r hok).2 (List.getElem?_eq_none h) (by omega), ?_⟩
        refine w' ι' H' _ .refl (Nat.le_refl _) o.r ?_
        have := Rv.mk_ref (ι := ι') (N := M'.length) (H := H') (k := M1.length) o.l
        rw [atD] at this
        exact this
      · exact (w' : False).elim
/-! dict comprehensions -/
theorem keyOf_kV {p : PV} {k : Key} {v : V} (e : keyOf p = some k) (r : Rv ι n H p v) : v = kV k := by
  cases p <;> first | (cases e; done) | skip
  all_goals (unfold Rv at r; subst r; cases e; rfl)
theorem keyOf_inj {p q : PV} {k : Key} (e : keyOf p = some k) (e2 : keyOf q = some k) : p = q := by
  cases p <;> first | (cases e; done) | skip
  all_goals (cases q <;> first | (cases e2; done) | skip)
  all_goals (cases e; cases e2)
  all_goals rfl
theorem keyOf_eq {p q : PV} {k j : Key} (e : keyOf p = some k) (e2 : keyOf q = some j) : p = q ↔ k = j := ⟨fun z => by subst z; exact Option.some.inj (e.symm.trans e2), fun z => by subst z; exact keyOf_inj e e2⟩
theorem mapK_inj : ∀ {xs ys : List PV} {k : List Key}, xs.mapM keyOf = some k → ys.mapM keyOf = some k → xs = ys
  | [], [], _, _, _ => rfl
  | [], y :: ys, _, e, e2 => by
    cases e
    rw [List.mapM_cons] at e2
    cases h : keyOf y with
    | none => rw [h] at e2; cases e2
    | some a =>
      rw [h] at e2
      cases h2 : ys.mapM keyOf with
      | none => rw [h2] at e2; cases e2
      | some b => rw [h2] at e2; cases e2
  | x :: xs, ys, _, e, e2 => by
    rw [List.mapM_cons] at e
    cases h : keyOf x with
    | none => rw [h] at e; cases e
    | some a =>
      rw [h] at e
      cases h1 : xs.mapM keyOf with
      | none => rw [h1] at e; cases e
      | some b =>
        rw [h1] at e
        cases e
        cases ys with
        | nil => cases e2
        | cons y ys =>
          rw [List.mapM_cons] at e2
          cases h2 : keyOf y with
          | none => rw [h2] at e2; cases e2
          | some c =>
            rw [h2] at e2
            cases h3 : ys.mapM keyOf with
            | none => rw [h3] at e2; cases e2
            | some d =>
              rw [h3] at e2
              cases e2
              rw [keyOf_inj h h2, mapK_inj h1 h3]
theorem keysOf_inj {p q : PV} {k : List Key} (e : keysOf p = some k) (e2 : keysOf q = some k) : p = q := by
  cases p <;> first | (cases e; done) | skip
  cases q <;> first | (cases e2; done) | skip
  exact congrArg PV.tup (mapK_inj e e2)
theorem keysOf_eq {p q : PV} {k j : List Key} (e : keysOf p = some k) (e2 : keysOf q = some j) : p = q ↔ k = j := ⟨fun z => by subst z; exact Option.some.inj (e.symm.trans e2), fun z => by subst z; exact keysOf_inj e e2⟩
section
variable {κ : Type} [DecidableEq κ] {F : PV → κ → Prop} (FE' : ∀ p q k j, F p k → F q j → (p = q ↔ k = j))
include FE'
theorem put_rel {kvs : List (PV × PV)} {kws : List (κ × V)} (r : Paired (Rk F ι n H) kvs kws) {k v : PV} {kk : κ} {vv : V} (e : F k kk) (rv : Rv ι n H v vv) : Paired (Rk F ι n H) (putP kvs k v) (putK kws kk vv) := by
  have ha : (∃ p ∈ kvs, p.1 = k) ↔ (kws.any fun kv => decide (kv.1 = kk)) = true := by
    rw [List.any_eq_true]
    constructor
    · rintro ⟨p, hp, rfl⟩
      obtain ⟨i, li, ei⟩ := List.getElem_of_mem hp
      have l := Paired.length r
      have e1 : kvs[i]? = some p := by rw [List.getElem?_eq_getElem li, ei]
      have e2 : kws[i]? = some kws[i] := List.getElem?_eq_getElem (by omega)
      have q := paired_get r e1 e2
      exact ⟨kws[i], List.getElem_mem _, decide_eq_true ((FE' _ _ _ _ q.1 e).mp rfl)⟩
    · rintro ⟨w, hw, ew⟩
      obtain ⟨i, li, ei⟩ := List.getElem_of_mem hw
      have l := Paired.length r
      have e1 : kws[i]? = some w := by rw [List.getElem?_eq_getElem li, ei]
      have e2 : kvs[i]? = some kvs[i] := List.getElem?_eq_getElem (by omega)
      have q := paired_get r e2 e1
      exact ⟨kvs[i], List.getElem_mem _, (FE' _ _ _ _ q.1 e).mpr (of_decide_eq_true ew)⟩
  unfold putP putK
  by_cases h : ∃ p ∈ kvs, p.1 = k
  · rw [if_pos h, if_pos (ha.mp h)]
    clear ha h
    induction r with
    | nil => exact .nil
    | @cons p w ps qs a b ih =>
      refine .cons ?_ ih
      show Rk F ι n H (if p.1 = k then (p.1, v) else p) (if w.1 = kk then (w.1, vv) else w)
      by_cases hk : p.1 = k
      · rw [if_pos hk, if_pos ((FE' _ _ _ _ a.1 e).mp hk)]
        exact ⟨a.1, rv⟩
      · rw [if_neg hk, if_neg fun z => hk ((FE' _ _ _ _ a.1 e).mpr z)]
        exact a
  · rw [if_neg h, if_neg fun z => h (ha.mpr z)]
    clear ha h
    induction r with
    | nil => exact .cons ⟨e, rv⟩ .nil
    | cons a b ih => exact .cons a ih
end
theorem sm_dc {vs : List Nat} (hi : SmI tb E ti fi) (hg : SmG tb g fg ws) (ht : SmT tb E0 tt ft) (hk : SmE tb E0 tk fk') (hv : SmE tb E0 tv fv) (hw : ∀ i ∈ ws, i ∈ vs) : SmE tb E (tDc ti g tt tk tv vs) (fDc fi fg ft fk' fv vs) := fun ι M H σp σ Q R S w =>
  hi.to R S w fun ι1 M1 H1 it J o1 S1 rj w1 => by
    intro D nD
    have ex1 : Ex ι1 (ext ι1 M1.length D) M1.length H1 (upd H1 D (.dK [])) := ex_ext nD
    have Rn : RM tb (ext ι1 M1.length D) (M1 ++ [.dct []]) (upd H1 D (.dK [])) := o1.r.push (o := .dct []) nD ⟨[], upd_same, .nil⟩
    have l0 : (M1 ++ [PO.dct []]).length = M1.length + 1 := by simp
    refine ⟨fun i m H' => ∃ ι' M', On tb (ext ι1 M1.length D) (M1.length + 1) (upd H1 D (.dK [])) ι' M' H' ∧ m = it.xs.length - i ∧ i ≤ it.xs.length ∧ Wp tb Rv ι' M'.length H' ((dcP it.ok fg ft fk' fv M1.length (wipeP σp vs) (it.xs.drop i) M').bnd fun _ M2 => .ok (.ref M1.length) M2) Q E,
      ⟨_, _, _, ⟨.refl, Nat.le_of_eq l0.symm, Rn⟩, rfl, Nat.zero_le _, by rw [l0]; exact w1.back ex1 (Nat.le_succ _)⟩, ?_⟩
    rintro i m H' ⟨ι', M', o, rfl, li, w'⟩
    have atD : ι' M1.length = D := (o.e.i _ (Nat.lt_succ_self _)).trans ext_same
    have oE : On tb ι1 M1.length H1 ι' M' H' := ⟨ex1.trans o.e (Nat.le_succ _), Nat.le_trans (Nat.le_succ _) o.l, o.r⟩
    rcases Nat.lt_or_ge i it.xs.length with h | h
    · have e : it.xs[i]? = some it.xs[i] := List.getElem?_eq_getElem h
      rw [List.drop_eq_getElem_cons h] at w'
      unfold dcP at w'
      split at w'
      · rename_i hok
        split at w'
        · exact (w' : False).elim
        · rename_i σ1 e1
          obtain ⟨go, y⟩ := (rj i ι' M' H' oE.e oE.l oE.r hok).1 _ e
          refine .inr ⟨go, fun H2 => ∃ ι2 M2, On tb (ext ι1 M1.length D) (M1.length + 1) (upd H1 D (.dK [])) ι2 M2 H2 ∧ Wp tb Rv ι2 M2.length H2 ((dcP it.ok fg ft fk' fv M1.length (wipeP σp vs) (it.xs.drop (i + 1)) M2).bnd fun _ M2 => .ok (.ref M1.length) M2) Q E,
            fun H2 ⟨ι2, M2, a, b⟩ => ⟨it.xs.length - (i + 1), by omega, ι2, M2, a, rfl, h, b⟩, fun x H2 yx => ?_⟩
          obtain ⟨ex, R2, rx⟩ := y x H2 yx
          have S2 : Rs ι' M'.length H2 (wipeP σp vs) (wipe σ vs) := ((S1.mono oE.e oE.l).mono ex (Nat.le_refl _)).wipe vs
          refine hg ι' M' H2 _ x _ _ σ1 _ R2 rx S2 e1 fun σ2 S3 wp => ⟨(wp vs hw).trans wipe_wipe, ?_⟩
          have o2 : On tb (ext ι1 M1.length D) (M1.length + 1) (upd H1 D (.dK [])) ι' M' H2 := ⟨o.e.trans ex o.l, o.l, R2⟩
          have w2 := Wp.back (n' := M'.length) w' ex (Nat.le_refl _)
          have asc : ∀ (r : Res Bool) (k : Bool → PM → Res Unit), ((r.nox.bnd k).bnd fun _ M2 => Res.ok (PV.ref M1.length) M2) = r.nox.bnd fun b M => (k b M).bnd fun _ M2 => Res.ok (PV.ref M1.length) M2 := fun r k => by cases r <;> rfl
          have asc2 : ∀ (r : Res PV) (k : PV → PM → Res Unit), ((r.nox.bnd k).bnd fun _ M2 => Res.ok (PV.ref M1.length) M2) = r.nox.bnd fun b M => (k b M).bnd fun _ M2 => Res.ok (PV.ref M1.length) M2 := fun r k => by cases r <;> rfl
          rw [asc] at w2
          refine ht.nox R2 S3 w2 fun ι3 M3 H3 b o3 S4 w3 => ?_
          cases b with
          | false => exact ⟨ι3, M3, o2.trans o3, w3⟩
          | true =>
            simp only [if_true] at w3 ⊢
            rw [asc2] at w3
            refine hk.nox o3.r S4 w3 fun ι4 M4 H4 kp kx o4 S5 rk w4 => ?_
            rw [asc2] at w4
            refine hv.nox o4.r S5 w4 fun ι5 M5 H5 y v o5 S6 ry w5 => ?_
            have oo := ((o2.trans o3).trans o4).trans o5
            have d4 : ι5 M1.length = D := (oo.e.i _ (Nat.lt_succ_self _)).trans ext_same
            split at w5
            · rename_i kvs ea
              split at w5
              · rename_i hl
                obtain ⟨kk, ek⟩ := Option.isSome_iff_exists.mp hl.2
                have ld : M1.length < M5.length := oo.l
                obtain ⟨kws, e5, racc⟩ := o5.r.obj M1.length _ ea
                rw [d4] at e5
                have hz : ∀ o u, H5 (ι5 M1.length) ≠ some (.frz o u) := fun o u z => by rw [d4, e5] at z; cases z
                have ex5 : Ex ι5 ι5 M5.length H5 (upd H5 (ι5 M1.length) (.dK (putK kws kk v))) := ex_chg o5.r ld hz
                have R5 := o5.r.chg (o := .dct (putP kvs kp y)) (x := .dK (putK kws kk v)) ld hz ⟨_, upd_same, Paired.mapP (put_rel (F := fK) (fun _ _ _ _ a b => keyOf_eq a b) racc ek ry) fun _ _ q => ⟨q.1, q.2.mono ex5 (Nat.le_refl _)⟩⟩
                rw [d4] at R5 ex5
                refine ⟨kws, kk, keyOf_kV ek (rk.mono o5.e o5.l), e5, by rw [← Paired.length racc]; exact lim_lt hl.1, ι5, _, ⟨oo.e.trans ex5 oo.l, by rw [List.length_set]; exact oo.l, R5⟩, ?_⟩
                rw [List.length_set]
                exact w5.back ex5 (Nat.le_refl _)
              · exact (w5 : False).elim
            · exact (w5 : False).elim
      · exact (w' : False).elim
    · rw [List.drop_of_length_le h] at w'
      unfold dcP at w'
      split at w'
      · rename_i hok
        refine .inl ⟨(rj i ι' M' H' oE.e oE.l oE.r hok).2 (List.getElem?_eq_none h) (by omega), ?_⟩
        refine w' ι' H' _ .refl (Nat.le_refl _) o.r ?_
        have := Rv.mk_ref (ι := ι') (N := M'.length) (H := H') (k := M1.length) o.l
        rw [atD] at this
        exact this
      · exact (w' : False).elim
end
end Pu
namespace Pu
open PySem PySem.Spec PyProof.Rows L2 LB
open Classical
def itL (p : PV) (M : PM) : Res PIt := match p with
  | .ref k => match M[k]? with
    | some (.lst xs) => .ok ⟨xs, fun M' => M'[k]? = some (.lst xs)⟩ M
    | _ => .bad
  | _ => .bad
def itT (p : PV) (M : PM) : Res PIt := match p with
  | .tup xs => .ok ⟨xs, fun _ => True⟩ M
  | .tpb xs => .ok ⟨xs, fun _ => True⟩ M
  | _ => .bad
def itS (p : PV) (M : PM) : Res PIt := match p with
  | .str s => .ok ⟨s.map fun c => .str [c], fun _ => True⟩ M
  | _ => .bad
def upTo (lo : Int) (n : Nat) : List PV := (List.range n).map fun i => .int (lo + (i : Nat))
def itR1 (ps : List PV) (M : PM) : Res PIt := match ps with
  | [.int j] => if -(2 ^ 62) ≤ j ∧ j < 2 ^ 62 then .ok ⟨upTo 0 j.toNat, fun _ => True⟩ M else .bad
  | _ => .bad
def enumP (xs : List PV) : List PV := xs.zipIdx.map fun x => .tup [.int (x.2 : Nat), x.1]
def zipP (xs ys : List PV) : List PV := (xs.zip ys).map fun x => .tup [x.1, x.2]
def itEL (ps : List PV) (M : PM) : Res PIt := match ps with
  | [.ref k] => match M[k]? with
    | some (.lst xs) => .ok ⟨enumP xs, fun M' => M'[k]? = some (.lst xs)⟩ M
    | _ => .bad
  | _ => .bad
def itET (ps : List PV) (M : PM) : Res PIt := match ps with
  | [.tup xs] => .ok ⟨enumP xs, fun _ => True⟩ M
  | _ => .bad
def itES (ps : List PV) (M : PM) : Res PIt := match ps with
  | [.str s] => .ok ⟨enumP (s.map fun c => .str [c]), fun _ => True⟩ M
  | _ => .bad
def itZ (ps : List PV) (M : PM) : Res PIt := match ps with
  | [.tup xs, .tup ys] => .ok ⟨zipP xs ys, fun _ => True⟩ M
  | [.ref k, .ref j] => match M[k]?, M[j]? with
    | some (.lst xs), some (.lst ys) => .ok ⟨zipP xs ys, fun M' => M'[k]? = some (.lst xs) ∧ M'[j]? = some (.lst ys)⟩ M
    | _, _ => .bad
  | _ => .bad
def itV (p : PV) (M : PM) : Res PIt := match p with
  | .ref k => match M[k]? with
    | some (.lck kvs) => .ok ⟨kvs.map (·.2), fun M' => M'[k]? = some (.lck kvs)⟩ M
    | _ => .bad
  | _ => .bad
def itK (p : PV) (M : PM) : Res PIt := match p with
  | .ref k => match M[k]? with
    | some (.lck kvs) => .ok ⟨kvs.map (·.1), fun M' => M'[k]? = some (.lck kvs)⟩ M
    | _ => .bad
  | _ => .bad
def fI (i : PV → PM → Res PIt) (f : FE) : FI := fun σ M => (f σ M).bnd i
def fIA (i : List PV → PM → Res PIt) (f : FA) : FI := fun σ M => (f σ M).bnd i
section
variable {tb : List (Addr × Str)} {E : XK} {K : PySem.W.Frag} {te : TE} {fe : FE} {ta : TA} {fa : FA} {ι ι' : Nat → Addr} {N : Nat} {H H' : Hp} {M M' : PM}
theorem lst_later {k : Nat} {xs : List PV} (R : RM tb ι' M' H') (e : Ex ι ι' N H H') (hk : k < N) (h : M'[k]? = some (.lst xs)) : ∃ vs, H' (ι k) = some (.lst vs) ∧ Rvs ι' M'.length H' xs vs := by
  obtain ⟨vs, e1, r⟩ := R.obj k _ h
  rw [e.i k hk] at e1
  exact ⟨vs, e1, r⟩
theorem sm_iL (h : SmE tb E te fe) : SmI tb E (iList K te) (fI itL fe) := fun ι M H σp σ Q R S w =>
  h.to R S w fun ι1 M1 H1 p v o S1 rv w1 => by
    unfold itL at w1
    split at w1
    · rename_i k
      split at w1
      · rename_i xs e
        obtain ⟨lk, rfl⟩ := rv.ref_at
        obtain ⟨vs, e1, r1⟩ := o.r.obj k _ e
        refine ⟨ι1 k, rfl, ⟨vs, .of e1⟩, Wp.okNow w1 o.r fun i ι' M' H' ex l R' hok => ?_⟩
        obtain ⟨vs', e2, r2⟩ := lst_later R' ex lk hok
        refine ⟨fun p hp => ?_, fun hn hl => ⟨vs', .of e2, by rw [← r2.len]; exact Nat.le_of_eq hl.symm⟩⟩
        obtain ⟨x, hx, rx⟩ := r2.get hp
        refine ⟨⟨vs', x, .of e2, hx⟩, fun y H'' ⟨e3, e4⟩ => ?_⟩
        subst e3
        have := e4 vs' (.of e2)
        rw [hx] at this
        cases this
        exact ⟨.refl, R', rx⟩
      · exact w1.elim
    · exact w1.elim
theorem sm_iT (h : SmE tb E te fe) : SmI tb E (iTup K te) (fI itT fe) := fun ι M H σp σ Q R S w =>
  h.to R S w fun ι1 M1 H1 p v o S1 rv w1 => by
    unfold itT at w1
    split at w1
    · rename_i xs
      obtain ⟨a, vs, rfl, ha, ra⟩ := rv.tup_at
      refine ⟨a, rfl, ⟨vs, .of ha⟩, Wp.okNow w1 o.r fun i ι' M' H' ex l R' hok => ?_⟩
      have e2 := ex.t _ _ ha
      have r2 := ra.mono ex l
      refine ⟨fun p hp => ?_, fun hn hl => ⟨vs, .of e2, by rw [← r2.len]; exact Nat.le_of_eq hl.symm⟩⟩
      obtain ⟨x, hx, rx⟩ := r2.get hp
      refine ⟨⟨vs, x, .of e2, hx⟩, fun y H'' ⟨e3, e4⟩ => ?_⟩
      subst e3
      have := e4 vs (.of e2)
      rw [hx] at this
      cases this
      exact ⟨.refl, R', rx⟩
    · rename_i xs
      obtain ⟨a, vs, ob, rfl, ha, hd, ra⟩ := rv.tpb_at
      refine ⟨a, rfl, ⟨vs, .inl (.inr ⟨ob, ha⟩)⟩, Wp.okNow w1 o.r fun i ι' M' H' ex l R' hok => ?_⟩
      have e2 := ex.z _ _ _ ha
      have r2 := ra.mono ex l
      refine ⟨fun p hp => ?_, fun hn hl => ⟨vs, .inl (.inr ⟨ob, e2⟩), by rw [← r2.len]; exact Nat.le_of_eq hl.symm⟩⟩
      obtain ⟨x, hx, rx⟩ := r2.get hp
      refine ⟨⟨vs, x, .inl (.inr ⟨ob, e2⟩), hx⟩, fun y H'' ⟨e3, e4⟩ => ?_⟩
      subst e3
      have := e4 vs (.inl (.inr ⟨ob, e2⟩))
      rw [hx] at this
      cases this
      exact ⟨.refl, R', rx⟩
    · exact w1.elim
theorem sm_iS (h : SmE tb E te fe) : SmI tb E (iStr te) (fI itS fe) := fun ι M H σp σ Q R S w =>
  h.to R S w fun ι1 M1 H1 p v o S1 rv w1 => by
    unfold itS at w1
    split at w1
    · rename_i s
      refine ⟨tx s, rv.str, Wp.okNow w1 o.r fun i ι' M' H' ex l R' hok => ?_⟩
      have hsz : (tx s).cps.size = s.length := by show s.toArray.size = _; simp
      refine ⟨fun p hp => ?_, fun hn hl => ?_⟩
      · have li := (List.getElem?_eq_some_iff.mp hp).1
        simp only [List.length_map] at li
        refine ⟨by show i < (tx s).cps.size; omega, fun y H'' ⟨e3, c, hc, ey⟩ => ?_⟩
        subst e3 ey
        have hc : s[i]? = some c := by simpa using hc
        simp only [List.getElem?_map, hc, Option.map_some, Option.some.injEq] at hp
        subst hp
        exact ⟨.refl, R', .mk_str⟩
      · show (tx s).cps.size ≤ i
        rw [hsz]
        simp only [List.length_map] at hl
        omega
    · exact w1.elim
theorem upTo_get {lo : Int} {n i : Nat} {p : PV} (h : (upTo lo n)[i]? = some p) : i < n ∧ p = .int (lo + (i : Nat)) := by
  unfold upTo at h
  have li := (List.getElem?_eq_some_iff.mp h).1
  simp only [List.length_map, List.length_range] at li
  rw [List.getElem?_map, List.getElem?_range li] at h
  cases h
  exact ⟨li, rfl⟩
theorem upTo_len {lo : Int} {n : Nat} : (upTo lo n).length = n := by unfold upTo; simp
theorem rIt_rng {lo : Int} {n : Nat} : rIt tb ι N H ⟨upTo lo n, fun _ => True⟩ (Itr lo n) := fun i ι' M' H' ex l R' hok =>
  ⟨fun p hp => by
    obtain ⟨li, rfl⟩ := upTo_get hp
    refine ⟨li, fun y H'' ⟨e3, e4⟩ => ?_⟩
    subst e3 e4
    exact ⟨.refl, R', .mk_int⟩, fun hn hl => by
    show n ≤ i
    have : i = (upTo lo n).length := hl
    rw [upTo_len] at this
    omega⟩
theorem sm_iR1 (h : SmA tb E ta fa) : SmI tb E (iRng1 ta) (fIA itR1 fa) := fun ι M H σp σ Q R S w =>
  h.to R S w fun ι1 M1 H1 p v o S1 rv w1 => by
    unfold itR1 at w1
    split at w1
    · rename_i j
      split at w1
      · rename_i hj
        unfold Rvs at rv
        obtain ⟨x, r, rfl, rx, rr⟩ := rv
        unfold Rvs at rr
        subst rr
        exact ⟨j, by rw [rx.int], hj.1, hj.2, Wp.okNow w1 o.r rIt_rng⟩
      · exact w1.elim
    · exact w1.elim
theorem enum_get {xs : List PV} {i : Nat} {p : PV} (h : (enumP xs)[i]? = some p) : ∃ x, xs[i]? = some x ∧ p = .tup [.int (i : Nat), x] := by
  unfold enumP at h
  rw [List.getElem?_map, List.getElem?_zipIdx] at h
  cases e : xs[i]? with
  | none => rw [e] at h; cases h
  | some x =>
    rw [e] at h
    simp only [Option.map_some, Option.some.injEq] at h
    subst h
    exact ⟨x, rfl, by simp⟩
theorem enum_len {xs : List PV} : (enumP xs).length = xs.length := by unfold enumP; simp
theorem newPair {R' : RM tb ι' M' H'} {T : Addr} {p q : PV} {x y : V} (n : H' T = none) (rp : Rv ι' M'.length H' p x) (rq : Rv ι' M'.length H' q y) : Ex ι' ι' M'.length H' (upd H' T (.tup [x, y])) ∧ RM tb ι' M' (upd H' T (.tup [x, y])) ∧ Rv ι' M'.length (upd H' T (.tup [x, y])) (.tup [p, q]) (.ref T) :=
  ⟨ex_new n, R'.new n, .mk_tup upd_same (.cons (rp.mono (ex_new n) (Nat.le_refl _)) (.cons (rq.mono (ex_new n) (Nat.le_refl _)) .nil))⟩
theorem sm_iEL (h : SmA tb E ta fa) : SmI tb E (iEnum K ta) (fIA itEL fa) := fun ι M H σp σ Q R S w =>
  h.to R S w fun ι1 M1 H1 p v o S1 rv w1 => by
    unfold itEL at w1
    split at w1
    · rename_i k
      split at w1
      · rename_i xs e
        unfold Rvs at rv
        obtain ⟨x, r, rfl, rx, rr⟩ := rv
        unfold Rvs at rr
        subst rr
        obtain ⟨lk, rfl⟩ := rx.ref_at
        obtain ⟨vs, e1, r1⟩ := o.r.obj k _ e
        refine ⟨ι1 k, vs, rfl, .of e1, Wp.okNow w1 o.r fun i ι' M' H' ex l R' hok => ?_⟩
        obtain ⟨vs', e2, r2⟩ := lst_later R' ex lk hok
        refine ⟨fun p hp => ?_, fun hn hl => ⟨vs', .of e2, ?_⟩⟩
        · obtain ⟨x, hx, rfl⟩ := enum_get hp
          obtain ⟨x', hx', rx⟩ := r2.get hx
          refine ⟨⟨vs', x', .of e2, hx'⟩, fun y H'' ⟨T, z, ey, nT, eH, hz⟩ => ?_⟩
          subst ey eH
          have := hz vs' (.of e2)
          rw [hx'] at this
          cases this
          exact newPair (R' := R') nT .mk_int rx
        · have hl : i = (enumP xs).length := hl
          rw [enum_len, r2.len] at hl
          omega
      · exact w1.elim
    · exact w1.elim
theorem sm_iET (h : SmA tb E ta fa) : SmI tb E (iEnumT K ta) (fIA itET fa) := fun ι M H σp σ Q R S w =>
  h.to R S w fun ι1 M1 H1 p v o S1 rv w1 => by
    unfold itET at w1
    split at w1
    · rename_i xs
      unfold Rvs at rv
      obtain ⟨x, r, rfl, rx, rr⟩ := rv
      unfold Rvs at rr
      subst rr
      obtain ⟨a, vs, rfl, ha, ra⟩ := rx.tup_at
      refine ⟨a, vs, rfl, .of ha, Wp.okNow w1 o.r fun i ι' M' H' ex l R' hok => ?_⟩
      have e2 := ex.t _ _ ha
      have r2 := ra.mono ex l
      refine ⟨fun p hp => ?_, fun hn hl => ⟨vs, .of e2, ?_⟩⟩
      · obtain ⟨x, hx, rfl⟩ := enum_get hp
        obtain ⟨x', hx', rx⟩ := r2.get hx
        refine ⟨⟨vs, x', .of e2, hx'⟩, fun y H'' ⟨T, z, ey, nT, eH, hz⟩ => ?_⟩
        subst ey eH
        have := hz vs (.of e2)
        rw [hx'] at this
        cases this
        exact newPair (R' := R') nT .mk_int rx
      · have hl : i = (enumP xs).length := hl
        rw [enum_len, r2.len] at hl
        omega
    · exact w1.elim
theorem sm_iV (h : SmE tb E te fe) : SmI tb E (iVals te) (fI itV fe) := fun ι M H σp σ Q R S w =>
  h.to R S w fun ι1 M1 H1 p v o S1 rv w1 => by
    unfold itV at w1
    split at w1
    · rename_i k
      split at w1
      · rename_i kvs e
        obtain ⟨lk, rfl⟩ := rv.ref_at
        obtain ⟨ob, kws, e1, r1⟩ := o.r.obj k _ e
        refine ⟨ι1 k, ob, kws, rfl, e1, Wp.okNow w1 o.r fun i ι' M' H' ex l R' hok => ?_⟩
        have e2 := ex.z _ _ _ e1
        have ll := Paired.length r1
        refine ⟨fun p hp => ?_, fun hn hl => ⟨e2, ?_⟩⟩
        · have li := (List.getElem?_eq_some_iff.mp hp).1
          simp only [List.length_map] at li
          refine ⟨⟨e2, by omega⟩, fun y H'' ⟨e3, kk, hk⟩ => ?_⟩
          subst e3
          rw [List.getElem?_map, List.getElem?_eq_getElem li] at hp
          cases hp
          have q := paired_get r1 (List.getElem?_eq_getElem li) hk
          exact ⟨.refl, R', q.2.mono ex l⟩
        · have hl : i = (kvs.map (·.2)).length := hl
          rw [List.length_map] at hl
          omega
      · exact w1.elim
    · exact w1.elim
theorem keyOf_rv {p : PV} {k : Key} (e : keyOf p = some k) : Rv ι N H p (kV k) := by
  cases p <;> first | (cases e; done) | skip
  all_goals (unfold Rv; cases e; rfl)
theorem sm_iK (h : SmE tb E te fe) : SmI tb E (iKeys te) (fI itK fe) := fun ι M H σp σ Q R S w =>
  h.to R S w fun ι1 M1 H1 p v o S1 rv w1 => by
    unfold itK at w1
    split at w1
    · rename_i k
      split at w1
      · rename_i kvs e
        obtain ⟨lk, rfl⟩ := rv.ref_at
        obtain ⟨ob, kws, e1, r1⟩ := o.r.obj k _ e
        refine ⟨ι1 k, ob, rfl, .inl ⟨kws, e1, Wp.okNow w1 o.r fun i ι' M' H' ex l R' hok => ?_⟩⟩
        have e2 := ex.z _ _ _ e1
        have ll := Paired.length r1
        refine ⟨fun p hp => ?_, fun hn hl => ⟨e2, ?_⟩⟩
        · have li := (List.getElem?_eq_some_iff.mp hp).1
          simp only [List.length_map] at li
          refine ⟨⟨e2, by omega⟩, fun y H'' ⟨e3, kk, vv, hk, ey⟩ => ?_⟩
          subst e3 ey
          rw [List.getElem?_map, List.getElem?_eq_getElem li] at hp
          cases hp
          have q := paired_get r1 (List.getElem?_eq_getElem li) hk
          exact ⟨.refl, R', keyOf_rv q.1⟩
        · have hl : i = (kvs.map (·.1)).length := hl
          rw [List.length_map] at hl
          omega
      · exact w1.elim
    · exact w1.elim
end
/-! ### a dict locked while it is walked -/
def fLock (look : PS → PM → Option Nat) (f : FE) : FE := fun σ M => match look σ M with
  | some k => match M[k]? with
    | some (.dct kvs) => (f σ (M.set k (.lck kvs))).nox.bnd fun v M2 => match M2[k]? with
      | some (.lck _) => .ok v (M2.set k (.dct kvs))
      | _ => .bad
    | _ => .bad
  | none => .bad
def lkVar (i : Nat) : PS → PM → Option Nat := fun σ _ => match σ[i]? with
  | some (some (.ref k)) => some k
  | _ => none
section
variable {tb : List (Addr × Str)} {E : XK} {te : TE} {fe : FE}
theorem sm_lock {look : PS → PM → Option Nat} (h : SmE tb E0 te fe) : SmE tb E (tLockE te) (fLock look fe) := fun ι M H σp σ Q R S w => by
  unfold fLock at w
  split at w
  · rename_i k _
    split at w
    · rename_i kvs e
      obtain ⟨kws, e1, r1⟩ := R.obj k _ e
      have lk := (List.getElem?_eq_some_iff.mp e).1
      have hz : ∀ o u, H (ι k) ≠ some (.frz o u) := fun o u z => by rw [e1] at z; cases z
      refine ⟨ι k, .dK kws, e1, trivial, fun od => ?_⟩
      have ex : Ex ι ι M.length H (upd H (ι k) (.frz od (.dK kws))) := ex_chg R lk hz
      have R2 : RM tb ι (M.set k (.lck kvs)) (upd H (ι k) (.frz od (.dK kws))) := R.chg (o := .lck kvs) (x := .frz od (.dK kws)) lk hz ⟨od, kws, upd_same, Paired.mapP r1 fun _ _ q => ⟨q.1, q.2.mono ex (Nat.le_refl _)⟩⟩
      have l2 : (M.set k (.lck kvs)).length = M.length := List.length_set
      refine h ι _ _ σp σ _ R2 (by rw [l2]; exact S.mono ex (Nat.le_refl _)) ?_
      revert w
      cases fe σp (M.set k (.lck kvs)) with
      | bad => exact fun w => (w : False).elim
      | exc x M1 => exact fun w => (w : False).elim
      | ok p M1 =>
      intro w ι1 H1 v oe ol oR rv
      have o : On tb ι (M.set k (.lck kvs)).length (upd H (ι k) (.frz od (.dK kws))) ι1 M1 H1 := ⟨oe, ol, oR⟩
      have w1 : Wp tb Rv ι M.length H (match M1[k]? with
        | some (.lck _) => .ok p (M1.set k (.dct kvs))
        | _ => .bad) Q E := w
      split at w1
      · rename_i kk e2
        have lk1 : k < M1.length := by have := o.l; rw [l2] at this; omega
        have eι : ι1 k = ι k := o.e.i k (by rw [l2]; exact lk)
        have e3 : H1 (ι k) = some (.frz od (.dK kws)) := o.e.z _ _ _ upd_same
        refine ⟨e3, ?_⟩
        have exT : ∀ a vs, H1 a = some (.tup vs) → upd H1 (ι k) (.dK kws) a = some (.tup vs) := fun a vs ea => (upd_ne fun z => by rw [z, e3] at ea; cases ea).trans ea
        have x1 : Ex ι ι1 M.length H (upd H1 (ι k) (.dK kws)) := by
          refine ⟨fun j hj => o.e.i j (by rw [l2]; exact hj), fun a vs ea => ?_, fun a oo u ea => ?_⟩
          · exact exT a vs (o.e.t a vs (ex.t a vs ea))
          · exact (upd_ne fun z => hz oo u (by rw [← z]; exact ea)).trans (o.e.z a oo u (ex.z a oo u ea))
        have tupK : ∀ {n}, ∀ {q : PV} {x : V}, Rv ι1 n H1 q x → Rv ι1 n (upd H1 (ι k) (.dK kws)) q x := by
          intro n q x r
          have : ∀ (H1 H2 : Hp), (∀ a vs, H1 a = some (.tup vs) → H2 a = some (.tup vs)) → (∀ a o vs, H1 a = some (.frz o (.tup vs)) → H2 a = some (.frz o (.tup vs))) → (∀ (q : PV) (x : V), Rv ι1 n H1 q x → Rv ι1 n H2 q x) := by
            intro H1 H2 hh hh2
            intro q
            refine PV.rec (motive_1 := fun q => ∀ x, Rv ι1 n H1 q x → Rv ι1 n H2 q x) (motive_2 := fun qs => ∀ xs, Rvs ι1 n H1 qs xs → Rvs ι1 n H2 qs xs) ?_ ?_ ?_ ?_ ?_ ?_ ?_ ?_ ?_ ?_ ?_ q
            · exact fun _ r => r
            · exact fun _ _ r => r
            · exact fun _ _ r => r
            · exact fun _ _ r => r
            · exact fun _ _ r => r
            · exact fun _ _ r => r
            · exact fun _ x r => r
            · intro xs ih x r
              obtain ⟨a, vs, e1, e2, e3⟩ := r.tup_at
              subst e1
              exact .mk_tup (hh _ _ e2) (ih _ e3)
            · intro xs ih x r
              obtain ⟨a, vs, ob, e1, e2, ed, e3⟩ := r.tpb_at
              subst e1
              exact .mk_tpb (hh2 _ _ _ e2) ed (ih _ e3)
            · exact fun xs r => r
            · intro p ps ih1 ih2 xs r
              unfold Rvs at r
              obtain ⟨v, w, e1, e2, e3⟩ := r
              subst e1
              exact .cons (ih1 _ e2) (ih2 _ e3)
          exact this H1 _ exT (fun a ob vs ea => (upd_ne fun z => by rw [z, e3] at ea; cases ea).trans ea) q x r
        have R3 : RM tb ι1 (M1.set k (.dct kvs)) (upd H1 (ι k) (.dK kws)) := by
          refine ⟨fun i j hi hj e => o.r.inj i j (by simpa using hi) (by simpa using hj) e, fun i o' ei => ?_, fun p hp => ?_⟩
          · rw [List.length_set]
            by_cases hi : i = k
            · subst hi
              rw [List.getElem?_set_self lk1] at ei
              cases ei
              rw [eι]
              refine ⟨kws, upd_same, Paired.mapP r1 fun _ _ q => ⟨q.1, ?_⟩⟩
              exact q.2.mono x1 (by have := o.l; rw [l2] at this; exact this)
            · rw [List.getElem?_set_ne (Ne.symm hi)] at ei
              have li := (List.getElem?_eq_some_iff.mp ei).1
              have ne : ι1 i ≠ ι k := fun z => hi (o.r.inj i k li lk1 (z.trans eι.symm))
              have ob := o.r.obj i o' ei
              revert ob
              cases o' with
              | lst xs => exact fun ⟨vs, a, b⟩ => ⟨vs, (upd_ne ne).trans a, .of (Paired.mapP b.pr fun _ _ q => tupK q)⟩
              | dct xs => exact fun ⟨vs, a, b⟩ => ⟨vs, (upd_ne ne).trans a, Paired.mapP b fun _ _ q => ⟨q.1, tupK q.2⟩⟩
              | dtt xs => exact fun ⟨vs, a, b⟩ => ⟨vs, (upd_ne ne).trans a, Paired.mapP b fun _ _ q => ⟨q.1, tupK q.2⟩⟩
              | lck xs => exact fun ⟨oo, vs, a, b⟩ => ⟨oo, vs, (upd_ne ne).trans a, Paired.mapP b fun _ _ q => ⟨q.1, tupK q.2⟩⟩
              | lct xs => exact fun ⟨oo, vs, a, b⟩ => ⟨oo, vs, (upd_ne ne).trans a, Paired.mapP b fun _ _ q => ⟨q.1, tupK q.2⟩⟩
              | ins C xs => exact fun ⟨oo, vs, a, b⟩ => ⟨oo, vs, (upd_ne ne).trans a, Paired.mapP b fun _ _ q => ⟨q.1, tupK q.2⟩⟩
              | nd f xs => exact fun ⟨as, φ, a, b, nc, r⟩ => ⟨as, φ, (upd_ne ne).trans a, b, nc, .of (Paired.mapP r.pr fun _ _ q => tupK q)⟩
          · obtain ⟨ps, t1, t2, t3⟩ := o.r.tab p hp
            refine ⟨ps, (upd_ne fun z => by rw [z, e3] at t1; cases t1).trans t1, t2, fun pos cv hc => ?_⟩
            obtain ⟨c, t4, t5⟩ := t3 pos cv hc
            exact ⟨c, t4, (upd_ne fun z => by rw [z, e3] at t5; cases t5).trans t5⟩
        exact w1 ι1 _ v x1 (by rw [List.length_set]; have := o.l; rw [l2] at this; exact this) R3 (by rw [List.length_set]; exact tupK rv)
      · exact (w1 : False).elim
    · exact (w : False).elim
  · exact (w : False).elim
end
end Pu
namespace Pu
open PySem PySem.Spec PyProof.Rows L2 LB
open Classical
/-! ### a def as a function -/
def fnRes : SR → Res PV
  | .nx _ M => .ok .non M
  | .rt p M => .ok p M
  | .exc x M => .exc x M
  | _ => .bad
abbrev FF := List PV → PM → Res PV
def startP (n : Nat) (as : List PV) : PS := as.map some ++ List.replicate (n - as.length) none
noncomputable def fnOf (k n : Nat) (B : FS) : FF := fun as M => if as.length = k then gc M (fnRes (B (startP n as) M)) else .bad
def spF (tb : List (Addr × Str)) (F : FF) : Sp := fun vs H Q E => ∃ ι M as, RM tb ι M H ∧ Rvs ι M.length H as vs ∧ Wp tb Rv ι M.length H (F as M) Q E
section
variable {tb : List (Addr × Str)} {E : XK} {B : FS} {k n : Nat}
theorem spF_len {vs : List V} {H : Hp} {Q : VK} (h : spF tb (fnOf k n B) vs H Q E) : vs.length = k := by
  obtain ⟨ι, M, as, R, r, w⟩ := h
  unfold fnOf at w
  split at w
  · rename_i e
    rw [← r.len]
    exact e
  · exact w.elim
theorem fn_sim {N : List Str} {vs : List V} {H : Hp} {Q : VK} {t : TS} (h : spF tb (fnOf k N.length B) vs H Q E) (s : SmS tb E t B) : t { nx := fun _ H' => Q .non H', rt := Q } (L2.start N vs) H := by
  obtain ⟨ι, M, as, R, r, w⟩ := h
  unfold fnOf at w
  split at w
  · have w := gc_ok (rel := Rv) R w
    refine s ι M H (startP N.length as) _ _ R ⟨?_, fun i p e => ?_⟩ ?_
    · unfold startP L2.start
      simp [r.len]
    · unfold startP at e
      unfold L2.start
      rcases Nat.lt_or_ge i as.length with h | h
      · rw [List.getElem?_append_left (by simpa using h), List.getElem?_map, List.getElem?_eq_getElem h] at e
        simp only [Option.map_some, Option.some.injEq] at e
        obtain ⟨v, hv, rv⟩ := r.get (by rw [List.getElem?_eq_getElem h, e] : as[i]? = some p)
        have h2 : i < vs.length := by rw [← r.len]; exact h
        refine ⟨v, ?_, rv⟩
        rw [List.getElem?_append_left (by simpa using h2), List.getElem?_map, hv]
        rfl
      · rw [List.getElem?_append_right (by simpa using h), List.getElem?_replicate] at e
        split at e <;> cases e
    · revert w
      cases B (startP N.length as) M with
      | nx s M1 => exact fun w ι1 H1 σ e l R1 S1 => w ι1 H1 .non e l R1 .mk_non
      | rt p M1 => exact fun w => w
      | bk s M1 => exact fun w => (w : False).elim
      | ct s M1 => exact fun w => (w : False).elim
      | exc x M1 => exact fun w => w
      | bad => exact fun w => (w : False).elim
  · exact w.elim
end
/-- a def that does what F says -/
abbrev FnP (P : Program) (w : World) (K : PySem.W.Frag) (mg : Str → Option Value) (base : Heap) (tb : List (Addr × Str)) (k : Nat) (f : Addr) (fd : FuncData) (ps : List Str) (F : FF) : Prop := FnOk P w K mg base (L2.CX P w) k f fd ps (spF tb F)
theorem FnP.of {P : Program} {w : World} {K : PySem.W.Frag} {mg : Str → Option Value} {base : Heap} {tb : List (Addr × Str)} {x qual : Str} {st : Stmt} {f : Addr} {fd : FuncData} {N ps : List Str} {k : Nat} {B : FS} (F : Fun K x qual st f fd) (S : FnScope N ps (defScope st))
    (hbody : ∀ (cdv : Value) (A : Around) (outer : List Env) (s : Shared) (H : Hp) (E : XK), Room k (A.deeper (envOfC qual (defScope st) s.heap.objs.size f cdv)) →
      ∃ t, PSs (cxOf (L2.CX P w) P w K mg base N qual (defScope st) f cdv A outer s H E) (defBody st) t ∧ SmS tb E t B) : FnP P w K mg base tb (k + 1) f fd ps (fnOf ps.length N.length B) :=
  F.okX S (fun vs H Q E h => spF_len h) fun cdv A outer s H vs Q E hr h => by
    obtain ⟨t, h1, h2⟩ := hbody cdv A outer s H E hr
    exact ⟨t, h1, fn_sim h h2⟩
theorem FnP.ofD {P : Program} {w : World} {K : PySem.W.Frag} {mg : Str → Option Value} {base : Heap} {tb : List (Addr × Str)} {x qual : Str} {params : Arguments} {body : List Stmt} {scope : Scope} {dvs : List V} {kws : List (Str × V)} {f : Addr} {fd : FuncData} {N ps : List Str} {k : Nat} {B : FS} (F : FunD K x qual params body scope dvs kws f fd) (S : FnScope N ps scope)
    (hbody : ∀ (cdv : Value) (A : Around) (outer : List Env) (s : Shared) (H : Hp) (E : XK), Room k (A.deeper (envOfC qual scope s.heap.objs.size f cdv)) →
      ∃ t, PSs (cxOf (L2.CX P w) P w K mg base N qual scope f cdv A outer s H E) body t ∧ SmS tb E t B) : FnP P w K mg base tb (k + 1) f fd ps (fnOf ps.length N.length B) :=
  F.ok S (fun vs H Q E h => spF_len h) fun cdv A outer s H vs Q E hr h => by
    obtain ⟨t, h1, h2⟩ := hbody cdv A outer s H E hr
    exact ⟨t, h1, fn_sim h h2⟩
/-! ### calls -/
def CVs (ps : List PV) (vs : List V) : Prop := ∀ ι N H, Rvs ι N H ps vs
theorem cvs_nil : CVs [] [] := fun _ _ _ => .nil
theorem cvs_cons {p : PV} {v : V} {ps : List PV} {vs : List V} (a : CV p v) (b : CVs ps vs) : CVs (p :: ps) (v :: vs) := fun ι N H => .cons (a ι N H) (b ι N H)
def fCall (F : FF) (das : List PV) (fr : FA) : FE := fun σ M => (fr σ M).bnd fun as M1 => F (as ++ das) M1
def fCallN (F : FF) (das : List PV) (fr : FA) : FE := fun σ M => (fr σ M).bnd fun as M1 => (F (as ++ das) M1).nox
theorem wp_nox {tb : List (Addr × Str)} {E : XK} {ι : Nat → Addr} {n : Nat} {H : Hp} {r : Res PV} {Q : VK} (h : Wp tb Rv ι n H r.nox Q E) : Wp tb Rv ι n H r Q E0 := by
  cases r with
  | ok p M => exact h
  | exc x M => exact (h : False).elim
  | bad => exact h
/-! ### instances -/
theorem ofStr_inj {a b : String} (h : Str.ofString a = Str.ofString b) : a = b := by
  rw [Str.ofString_eq_toList, Str.ofString_eq_toList] at h
  have h2 : a.toList.map Char.toNat = b.toList.map Char.toNat := by simpa using congrArg (fun s : Str => s.cps.toList) h
  have : ∀ {x y : List Char}, x.map Char.toNat = y.map Char.toNat → x = y := by
    intro x
    induction x with
    | nil => intro y h; cases y with
      | nil => rfl
      | cons c r => cases h
    | cons c r ih =>
      intro y h
      cases y with
      | nil => cases h
      | cons d t =>
        rw [List.map_cons, List.map_cons] at h
        have := List.cons.inj h
        rw [Char.toNat_inj.mp this.1, ih this.2]
  exact String.toList_inj.mp (this h2)
def fldP (M : PM) (C : Addr) (f : String) (p : PV) : Option PV := match p with
  | .ref k => match M[k]? with
    | some (.ins C' fs) => if C' = C then fs.lookup f else none
    | _ => none
  | _ => none
def fFld (C : Addr) (f : String) (fa : FE) : FE := fun σ M => (fa σ M).bnd fun p M1 => match fldP M1 C f p with
  | some x => .ok x M1
  | none => .bad
def putS (f : String) (v : PV) : List (String × PV) → List (String × PV)
  | [] => [(f, v)]
  | (g, x) :: r => if g = f then (g, v) :: r else (g, x) :: putS f v r
def setF (M : PM) (C : Addr) (f : String) (p v : PV) : Option PM := match p with
  | .ref k => match M[k]? with
    | some (.ins C' fs) => if C' = C ∧ fs.length < 1000 then some (M.set k (.ins C (putS f v fs))) else none
    | _ => none
  | _ => none
def fSetF (C : Addr) (f : String) (fo fv : FE) : FS := fun σ M => (fv σ M).go fun y M1 => (fo σ M1).go fun o M2 => match setF M2 C f o y with
  | some M3 => .nx σ M3
  | none => .bad
/-- the receiver is an instance of C without an attribute m -/
def hasM (M : PM) (C : Addr) (m : String) (p : PV) : Bool := match p with
  | .ref k => match M[k]? with
    | some (.ins C' fs) => decide (C' = C) && (fs.lookup m).isNone
    | _ => false
  | _ => false
def fMeth (C : Addr) (m : String) (F : FF) (das : List PV) (fo : FE) (fr : FA) : FE := fun σ M => (fo σ M).bnd fun p M1 => if hasM M1 C m p = true then (fr σ M1).bnd fun as M2 => F (p :: (as ++ das)) M2 else .bad
def fMethN (C : Addr) (m : String) (F : FF) (das : List PV) (fo : FE) (fr : FA) : FE := fun σ M => (fo σ M).bnd fun p M1 => if hasM M1 C m p = true then (fr σ M1).bnd fun as M2 => (F (p :: (as ++ das)) M2).nox else .bad
def asN (n : Nat) (v : PV) (M2 : PM) : Res PV := match v with
  | .non => .ok (.ref n) M2
  | _ => .bad
def fMake (C : Addr) (F : FF) (das : List PV) (fr : FA) : FE := fun σ M => (fr σ M).bnd fun as M1 => (F (.ref M1.length :: (as ++ das)) (M1 ++ [.ins C []])).bnd (asN M1.length)
def fMakeN (C : Addr) (F : FF) (das : List PV) (fr : FA) : FE := fun σ M => (fr σ M).bnd fun as M1 => (F (.ref M1.length :: (as ++ das)) (M1 ++ [.ins C []])).nox.bnd (asN M1.length)
section
variable {tb : List (Addr × Str)} {E : XK} {K : PySem.W.Frag} {F : FF} {das : List PV} {dvs : List V} {t tk : TA} {fr fk' : FA} {ta tv : TE} {fa fv : FE} {ι : Nat → Addr} {N : Nat} {M : PM} {H : Hp} {C : Addr}
theorem sm_call (d : CVs das dvs) (h : SmA tb E t fr) : SmE tb E (tCall (spF tb F) dvs E t) (fCall F das fr) := fun ι M H σp σ Q R S w =>
  h.to R S w fun ι1 M1 H1 as vs o S1 rv w1 => ⟨ι1, M1, as ++ das, o.r, rv.app (d _ _ _), w1⟩
theorem sm_callN (d : CVs das dvs) (h : SmA tb E t fr) : SmE tb E (tCall (spF tb F) dvs E0 t) (fCallN F das fr) := fun ι M H σp σ Q R S w =>
  h.to R S w fun ι1 M1 H1 as vs o S1 rv w1 => ⟨ι1, M1, as ++ das, o.r, rv.app (d _ _ _), wp_nox w1⟩
theorem look_rel {fs : List (String × PV)} {fw : List (Str × V)} (r : Paired (Rk fF ι N H) fs fw) (f : String) : (∀ x, fs.lookup f = some x → ∃ v, fw.lookup (Str.ofString f) = some v ∧ Rv ι N H x v) ∧ (fs.lookup f = none → fw.lookup (Str.ofString f) = none) := by
  induction r with
  | nil => exact ⟨fun x h => (by cases h), fun _ => rfl⟩
  | @cons p q ps qs a b ih =>
    obtain ⟨g, y⟩ := p
    obtain ⟨gs, yv⟩ := q
    obtain ⟨e, ry⟩ := a
    have e : Str.ofString g = gs := e
    subst e
    rw [List.lookup_cons, List.lookup_cons]
    by_cases hf : f = g
    · subst hf
      simp only [beq_self_eq_true]
      exact ⟨fun x h => (by cases h; exact ⟨yv, rfl, ry⟩), fun h => (by cases h)⟩
    · have h1 : (f == g) = false := by simpa using hf
      have h2 : (Str.ofString f == Str.ofString g) = false := by
        rw [beq_eq_false_iff_ne]
        exact fun z => hf (ofStr_inj z)
      rw [h1, h2]
      exact ih
theorem put_F {fs : List (String × PV)} {fw : List (Str × V)} (r : Paired (Rk fF ι N H) fs fw) (f : String) {x : PV} {v : V} (rx : Rv ι N H x v) : Paired (Rk fF ι N H) (putS f x fs) (putF (Str.ofString f) v fw) := by
  induction r with
  | nil => exact .cons ⟨rfl, rx⟩ .nil
  | @cons p q ps qs a b ih =>
    obtain ⟨g, y⟩ := p
    obtain ⟨gs, yv⟩ := q
    obtain ⟨e, ry⟩ := a
    have e : Str.ofString g = gs := e
    subst e
    unfold putS putF
    by_cases hf : g = f
    · subst hf
      rw [if_pos rfl, if_pos rfl]
      exact .cons ⟨rfl, rx⟩ b
    · rw [if_neg hf, if_neg fun z => hf (ofStr_inj z)]
      exact .cons ⟨rfl, ry⟩ ih
theorem sm_fld {f : String} (cl : Cls K C) (no : NoAttr K C (Str.ofString f)) (h : SmE tb E ta fa) : SmE tb E (tFld K ta (Str.ofString f)) (fFld C f fa) := fun ι M H σp σ Q R S w =>
  h.to R S w fun ι1 M1 H1 p v o S1 rv w1 => by
    split at w1
    · rename_i x e
      unfold fldP at e
      split at e
      · rename_i k
        split at e
        · rename_i C' fs ek
          split at e
          · rename_i ec
            subst ec
            obtain ⟨lk, rfl⟩ := rv.ref_at
            obtain ⟨dx, fw, e1, rf⟩ := o.r.obj k _ ek
            obtain ⟨y, ey, ry⟩ := (look_rel rf f).1 x e
            exact ⟨ι1 k, C', dx, fw, y, rfl, e1, cl, no, ey, Wp.okNow w1 o.r ry⟩
          · cases e
        · cases e
      · cases e
    · exact w1.elim
theorem sm_setF {f : String} (cl : Cls K C) (no : NoAttr K C (Str.ofString f)) (ho : SmE tb E ta fa) (hv : SmE tb E tv fv) : SmS tb E (sFld K ta tv (Str.ofString f)) (fSetF C f fa fv) := fun ι M H σp σ D R S w =>
  hv.go R S w fun ι1 M1 H1 y yv o S1 ry w1 => ho.go o.r S1 w1 fun ι2 M2 H2 p v o2 S2 rp w2 => by
    split at w2
    · rename_i M3 e
      unfold setF at e
      split at e
      · rename_i k
        split at e
        · rename_i C' fs ek
          split at e
          · rename_i ec
            obtain ⟨ec, hl⟩ := ec
            subst ec
            cases e
            obtain ⟨lk, rfl⟩ := rp.ref_at
            obtain ⟨dx, fw, e1, rf⟩ := o2.r.obj k _ ek
            have hz : ∀ o u, H2 (ι2 k) ≠ some (.frz o u) := fun o u z => by rw [e1] at z; cases z
            have ex : Ex ι2 ι2 M2.length H2 (upd H2 (ι2 k) (.ins C' dx (putF (Str.ofString f) yv fw))) := ex_chg o2.r lk hz
            have R3 := o2.r.chg (o := .ins C' (putS f y fs)) (x := .ins C' dx (putF (Str.ofString f) yv fw)) lk hz ⟨dx, _, upd_same, Paired.mapP (put_F rf f (ry.mono o2.e o2.l)) fun _ _ q => ⟨q.1, q.2.mono ex (Nat.le_refl _)⟩⟩
            refine ⟨ι2 k, C', dx, fw, rfl, e1, cl, no, by rw [← Paired.length rf]; exact hl, w2 ι2 _ σ ex (by rw [List.length_set]; exact Nat.le_refl _) R3 ?_⟩
            rw [List.length_set]
            exact S2.mono ex (Nat.le_refl _)
          · cases e
        · cases e
      · cases e
    · exact w2.elim
theorem hasM_at {m : String} {p : PV} {v : V} (R : RM tb ι M H) (rv : Rv ι M.length H p v) (h : hasM M C m p = true) : ∃ a dx fs, v = .ref a ∧ H a = some (.ins C dx fs) ∧ fs.lookup (Str.ofString m) = none := by
  unfold hasM at h
  split at h
  · rename_i k
    split at h
    · rename_i C' fs ek
      rw [Bool.and_eq_true] at h
      obtain ⟨h1, h2⟩ := h
      have h1 := of_decide_eq_true h1
      subst h1
      obtain ⟨lk, rfl⟩ := rv.ref_at
      obtain ⟨dx, fw, e1, rf⟩ := R.obj k _ ek
      exact ⟨ι k, dx, fw, rfl, e1, (look_rel rf m).2 (by simpa using h2)⟩
    · cases h
  · cases h
theorem sm_meth {m : String} (d : CVs das dvs) (ho : SmE tb E ta fa) (h : SmA tb E t fr) : SmE tb E (tMeth C (Str.ofString m) (spF tb F) dvs E ta t) (fMeth C m F das fa fr) := fun ι M H σp σ Q R S w =>
  ho.to R S w fun ι1 M1 H1 p v o S1 rv w1 => by
    split at w1
    · rename_i hm
      obtain ⟨a, dx, fs, e1, e2, e3⟩ := hasM_at o.r rv hm
      exact ⟨a, dx, fs, e1, e2, e3, h.to o.r S1 w1 fun ι2 M2 H2 as vs o2 S2 ra w2 => ⟨ι2, M2, p :: (as ++ das), o2.r, .cons (rv.mono o2.e o2.l) (ra.app (d _ _ _)), w2⟩⟩
    · exact w1.elim
theorem sm_methN {m : String} (d : CVs das dvs) (ho : SmE tb E ta fa) (h : SmA tb E t fr) : SmE tb E (tMeth C (Str.ofString m) (spF tb F) dvs E0 ta t) (fMethN C m F das fa fr) := fun ι M H σp σ Q R S w =>
  ho.to R S w fun ι1 M1 H1 p v o S1 rv w1 => by
    split at w1
    · rename_i hm
      obtain ⟨a, dx, fs, e1, e2, e3⟩ := hasM_at o.r rv hm
      exact ⟨a, dx, fs, e1, e2, e3, h.to o.r S1 w1 fun ι2 M2 H2 as vs o2 S2 ra w2 => ⟨ι2, M2, p :: (as ++ das), o2.r, .cons (rv.mono o2.e o2.l) (ra.app (d _ _ _)), wp_nox w2⟩⟩
    · exact w1.elim
theorem make_ok {as : List PV} {vs : List V} {Q : VK} {r : FF} (R : RM tb ι M H) (ra : Rvs ι M.length H as vs) (d : CVs das dvs) (E' : XK)
    (w : ∀ ι1 x dx, Ex ι ι1 M.length H (upd (upd H dx (.own x)) x (.ins C dx [])) → Wp tb Rv ι1 (M.length + 1) (upd (upd H dx (.own x)) x (.ins C dx [])) (r (.ref M.length :: (as ++ das)) (M ++ [.ins C []])) (fun v H2 => v = .non ∧ Q (.ref (ι1 M.length)) H2) E') :
    ∀ x dx, H x = none → H dx = none → dx ≠ x → spF tb r (.ref x :: (vs ++ dvs)) (upd (upd H dx (.own x)) x (.ins C dx [])) (fun v H2 => v = .non ∧ Q (.ref x) H2) E' := fun x dx nx nd ne => by
  have nx2 : upd H dx (.own x) x = none := (upd_ne (Ne.symm ne)).trans nx
  have e1 : Ex ι ι M.length H (upd H dx (.own x)) := ex_new nd
  have R1 : RM tb ι M (upd H dx (.own x)) := R.new nd
  have e2 : Ex ι (ext ι M.length x) M.length (upd H dx (.own x)) (upd (upd H dx (.own x)) x (.ins C dx [])) := ex_ext nx2
  have R2 : RM tb (ext ι M.length x) (M ++ [.ins C []]) (upd (upd H dx (.own x)) x (.ins C dx [])) := R1.push (o := .ins C []) nx2 ⟨dx, [], upd_same, .nil⟩
  have ex := e1.trans e2 (Nat.le_refl _)
  have l0 : (M ++ [PO.ins C []]).length = M.length + 1 := by simp
  refine ⟨ext ι M.length x, _, .ref M.length :: (as ++ das), R2, .cons ?_ ((ra.mono ex (by omega)).app (d _ _ _)), ?_⟩
  · have := Rv.mk_ref (ι := ext ι M.length x) (N := (M ++ [PO.ins C []]).length) (H := upd (upd H dx (.own x)) x (.ins C dx [])) (k := M.length) (by omega)
    rw [ext_same] at this
    exact this
  · have := w (ext ι M.length x) x dx ex
    rw [ext_same] at this
    rw [l0]
    exact this
theorem make_end {ι1 : Nat → Addr} {Q : VK} {r : Res PV} {E' : XK} {H1 : Hp} (ex : Ex ι ι1 M.length H H1) (w : Wp tb Rv ι M.length H (r.bnd (asN M.length)) Q E') : Wp tb Rv ι1 (M.length + 1) H1 r (fun v H2 => v = .non ∧ Q (.ref (ι1 M.length)) H2) E' := by
  cases r with
  | bad => exact w
  | exc x M2 => exact fun ι2 H2 d e l R2 hd => w ι2 H2 d (ex.trans e (by omega)) (by omega) R2 hd
  | ok p M2 =>
    intro ι2 H2 v e l R2 rv
    have w : Wp tb Rv ι M.length H (asN M.length p M2) Q E' := w
    unfold asN at w
    split at w
    · refine ⟨rv.non, w ι2 H2 _ (ex.trans e (by omega)) (by omega) R2 ?_⟩
      have := Rv.mk_ref (ι := ι2) (N := M2.length) (H := H2) (k := M.length) (by omega)
      rw [e.i _ (Nat.lt_succ_self _)] at this
      exact this
    · exact w.elim
theorem sm_make (d : CVs das dvs) (h : SmA tb E t fr) : SmE tb E (tMake C (spF tb F) dvs E t) (fMake C F das fr) := fun ι M H σp σ Q R S w =>
  h.to R S w fun ι1 M1 H1 as vs o S1 ra w1 => make_ok o.r ra d E fun ι2 x dx ex => make_end ex w1
theorem sm_makeN (d : CVs das dvs) (h : SmA tb E t fr) : SmE tb E (tMake C (spF tb F) dvs E0 t) (fMakeN C F das fr) := fun ι M H σp σ Q R S w =>
  h.to R S w fun ι1 M1 H1 as vs o S1 ra w1 => make_ok o.r ra d E0 fun ι2 x dx ex => by
    have : Wp tb Rv ι1 M1.length H1 ((F (.ref M1.length :: (as ++ das)) (M1 ++ [.ins C []])).bnd (asN M1.length)) Q E0 := by
      revert w1
      cases F (.ref M1.length :: (as ++ das)) (M1 ++ [.ins C []]) with
      | bad => exact fun w => w
      | exc x M2 => exact fun w => (w : False).elim
      | ok p M2 =>
        intro w
        have w : Wp tb Rv ι1 M1.length H1 (asN M1.length p M2) Q E := w
        show Wp tb Rv ι1 M1.length H1 (asN M1.length p M2) Q E0
        unfold asN at w ⊢
        split at w
        · exact w
        · exact w.elim
    exact make_end ex this
end
/-! ### refusals -/
abbrev xdOf' (n : Int) (w : Str) : List (Str × V) := [(Str.ofString "at", .int n), (Str.ofString "word", .str w)]
def spErr (K : PySem.W.Frag) (w : Str) : Sp := fun vs H Q _ => ∃ (a C : Addr) (n : Int), vs = [.ref a, .int n] ∧ OexC K C ∧ PySem.W.findIn K (.ref C) "word" = some none ∧ PySem.W.findIn K (.ref C) "at" = some none ∧ H a = some (exo a C none) ∧ (n < 0 ∨ (0 ≤ n ∧ n < 512)) ∧ n.natAbs.log2 < 1920 ∧
  ∀ d, H d = none → d ≠ a → Q .non (upd (upd (upd H d (exd d [(Str.ofString "word", .str w)])) a (exo a C (some d))) d (exd d (xdOf' n w)))
theorem exc_heap' {H : Hp} {a d : Addr} {x0 x1 x2 x3 o : HO} (ha : H a = none) (da : d ≠ a) : upd (del (upd (upd (upd (upd H a x0) d x1) a x2) d x3) a) d o = upd H d o := by
  funext b
  by_cases hd : b = d
  · subst hd
    rw [upd_same, upd_same]
  · rw [upd_ne hd, upd_ne hd]
    by_cases hb : b = a
    · subst hb
      rw [del_same, ha]
    · rw [del_ne hb, upd_ne hd, upd_ne hb, upd_ne hd, upd_ne hb]
def fRaise (C : Addr) (w : Str) (das : List PV) (fr : FA) : FS := fun σ M => (fr σ M).go fun as M1 => match as ++ das with
  | [.int n] => if -1000 ≤ n ∧ n < 512 then .exc ⟨C, w, n⟩ M1 else .bad
  | _ => .bad
theorem sm_raise {tb : List (Addr × Str)} {E : XK} {K : PySem.W.Frag} {C : Addr} {w : Str} {das : List PV} {dvs : List V} {t : TA} {fr : FA} (oc : OexC K C) (nw : PySem.W.findIn K (.ref C) "word" = some none) (na : PySem.W.findIn K (.ref C) "at" = some none) (d : CVs das dvs) (h : SmA tb E t fr) :
    SmS tb E (fun _ σ H => tMkO C (spErr K w) dvs t σ H fun cls d H' => E cls d H') (fRaise C w das fr) := fun ι M H σp σ D R S w0 => by
  refine h ι M H σp σ _ R S (Wp.mono (Wp.go w0) fun vs H1 ⟨ι1, M1, as, o, ra, w1⟩ => ?_)
  have rr := ra.app (d ι1 M1.length H1)
  split at w1
  · rename_i n e
    split at w1
    · rename_i hn
      rw [e] at rr
      unfold Rvs at rr
      obtain ⟨x, r, ev, rx, rr⟩ := rr
      unfold Rvs at rr
      subst rr
      have ex := rx.int
      subst ex
      refine ⟨by
        have := congrArg List.length ev
        rw [List.length_append] at this
        simp only [List.length_cons, List.length_nil] at this
        omega, fun a ha => ?_⟩
      rw [ev]
      have ln : n.natAbs.log2 < 1920 := by
        rcases Nat.eq_zero_or_pos n.natAbs with z | z
        · rw [z]
          decide
        · rw [Nat.log2_lt (by omega)]
          exact Nat.lt_of_lt_of_le (show n.natAbs < 2 ^ 10 by omega) (Nat.pow_le_pow_right (by decide) (by decide))
      refine ⟨a, C, n, rfl, oc, nw, na, upd_same, by omega, ln, fun dd nd nda => ⟨rfl, dd, _, (upd_ne nda.symm).trans upd_same, upd_same, ?_, ?_⟩⟩
      · rw [upd_ne nda] at nd
        exact nd
      · rw [exc_heap' ha nda]
        rw [upd_ne nda] at nd
        exact w1 ι1 _ dd (ex_new nd) (Nat.le_refl _) (o.r.new nd) upd_same
    · exact w1.elim
  · exact w1.elim
end Pu
namespace Pu
open PySem PySem.Spec PyProof.Rows L2 LB
open Classical
def asStrs : List PV → Option (List (List Nat))
  | [] => some []
  | .str s :: r => (asStrs r).map (s :: ·)
  | _ :: _ => none
def asInts : List PV → Option (List Int)
  | [] => some []
  | .int s :: r => (asInts r).map (s :: ·)
  | _ :: _ => none
def asBls : List PV → Option (List Bool)
  | [] => some []
  | .bl s :: r => (asBls r).map (s :: ·)
  | _ :: _ => none
theorem asStrs_map (ys : List (List Nat)) : asStrs (ys.map PV.str) = some ys := by
  induction ys with
  | nil => rfl
  | cons y r ih => simp [asStrs, ih]
theorem asInts_map (ys : List Int) : asInts (ys.map PV.int) = some ys := by
  induction ys with
  | nil => rfl
  | cons y r ih => simp [asInts, ih]
theorem asBls_map (ys : List Bool) : asBls (ys.map PV.bl) = some ys := by
  induction ys with
  | nil => rfl
  | cons y r ih => simp [asBls, ih]
section
variable {ι : Nat → Addr} {N : Nat} {H : Hp}
theorem asStrs_rel : ∀ {ps : List PV} {ys : List (List Nat)} {vs : List V}, asStrs ps = some ys → Rvs ι N H ps vs → vs = (ys.map tx).map V.str
  | [], _, _, e, r => by cases e; unfold Rvs at r; exact r
  | p :: ps, ys, _, e, r => by
    cases p <;> first | (cases e; done) | skip
    unfold asStrs at e
    cases e2 : asStrs ps with
    | none => rw [e2] at e; cases e
    | some zs =>
      rw [e2] at e
      cases e
      unfold Rvs at r
      obtain ⟨v, w, rfl, r1, r2⟩ := r
      rw [r1.str, asStrs_rel e2 r2]
      rfl
theorem asBls_rel : ∀ {ps : List PV} {ys : List Bool} {vs : List V}, asBls ps = some ys → Rvs ι N H ps vs → vs = ys.map V.bl
  | [], _, _, e, r => by cases e; unfold Rvs at r; exact r
  | p :: ps, ys, _, e, r => by
    cases p <;> first | (cases e; done) | skip
    unfold asBls at e
    cases e2 : asBls ps with
    | none => rw [e2] at e; cases e
    | some zs =>
      rw [e2] at e
      cases e
      unfold Rvs at r
      obtain ⟨v, w, rfl, r1, r2⟩ := r
      rw [r1.bl, asBls_rel e2 r2]
      rfl
theorem strs_rvs : ∀ {ys : List (List Nat)}, Rvs ι N H (ys.map PV.str) ((ys.map tx).map V.str)
  | [] => .nil
  | y :: r => .cons .mk_str strs_rvs
end
/-! ### built-ins -/
def fB (g : List PV → PM → Res PV) (fr : FA) : FE := fun σ M => (fr σ M).bnd g
/-- a list's or a tuple's items -/
def seqAt (M : PM) (p : PV) : Option (List PV) := match p with
  | .tup xs => some xs
  | _ => lstAt M p
def bLen (as : List PV) (M : PM) : Res PV := match as with
  | [p] => match seqAt M p with
    | some xs => .ok (.int (xs.length : Nat)) M
    | none => .bad
  | _ => .bad
def bLenS (as : List PV) (M : PM) : Res PV := match as with
  | [.str s] => if s.length ≤ lim then .ok (.int (s.length : Nat)) M else .bad
  | _ => .bad
def bAll (as : List PV) (M : PM) : Res PV := match as with
  | [p] => match (lstAt M p).bind asBls with
    | some bs => .ok (.bl (bs.all id)) M
    | none => .bad
  | _ => .bad
def bAny (as : List PV) (M : PM) : Res PV := match as with
  | [p] => match (lstAt M p).bind asBls with
    | some bs => .ok (.bl (bs.any id)) M
    | none => .bad
  | _ => .bad
def bSum (as : List PV) (M : PM) : Res PV := match as with
  | [p] => match (lstAt M p).bind asInts with
    | some ns => .ok (.int ns.sum) M
    | none => .bad
  | _ => .bad
def bTup (as : List PV) (M : PM) : Res PV := match as with
  | [p] => match seqAt M p with
    | some xs => .ok (.tup xs) M
    | none => .bad
  | _ => .bad
def bLst (as : List PV) (M : PM) : Res PV := match as with
  | [p] => match seqAt M p with
    | some xs => .ok (.ref M.length) (M ++ [.lst xs])
    | none => .bad
  | _ => .bad
def bInt (as : List PV) (M : PM) : Res PV := match as with
  | [.int i] => .ok (.int i) M
  | [.bl b] => .ok (.int (if b then 1 else 0)) M
  | _ => .bad
section
variable {tb : List (Addr × Str)} {E : XK} {K : PySem.W.Frag} {r : List V → Hp → VK → Prop} {g : List PV → PM → Res PV} {t : TA} {fr : FA} {ι : Nat → Addr} {M : PM} {H : Hp}
theorem sm_B (hr : SmL tb E r g) (h : SmA tb E t fr) : SmE tb E (tCB r t) (fB g fr) := fun ι M H σp σ Q R S w =>
  h.to R S w fun ι1 M1 H1 as vs o S1 ra w1 => hr ι1 M1 H1 as vs Q o.r ra w1
theorem rvs1 {p : PV} {vs : List V} {n : Nat} (r : Rvs ι n H [p] vs) : ∃ v, vs = [v] ∧ Rv ι n H p v := by
  unfold Rvs at r
  obtain ⟨v, w, rfl, r1, r2⟩ := r
  unfold Rvs at r2
  subst r2
  exact ⟨v, rfl, r1⟩
theorem rvs2 {p q : PV} {vs : List V} {n : Nat} (r : Rvs ι n H [p, q] vs) : ∃ v u, vs = [v, u] ∧ Rv ι n H p v ∧ Rv ι n H q u := by
  unfold Rvs at r
  obtain ⟨v, w, rfl, r1, r2⟩ := r
  obtain ⟨u, rfl, r3⟩ := rvs1 r2
  exact ⟨v, u, rfl, r1, r3⟩
theorem seq_at {p : PV} {xs : List PV} {v : V} (R : RM tb ι M H) (rp : Rv ι M.length H p v) (e : seqAt M p = some xs) : ∃ a vs, v = .ref a ∧ Rvs ι M.length H xs vs ∧ ((H a = some (.lst vs) ∧ lstAt M p = some xs) ∨ (H a = some (.tup vs) ∧ p = .tup xs)) := by
  cases p with
  | tup ys =>
    cases e
    obtain ⟨a, vs, rfl, ha, ra⟩ := rp.tup_at
    exact ⟨a, vs, rfl, ra, .inr ⟨ha, rfl⟩⟩
  | ref k =>
    have e : lstAt M (.ref k) = some xs := e
    obtain ⟨k', vs, h1, lk, rfl, ha, ra⟩ := lst_at R e rp
    exact ⟨_, vs, rfl, ra, .inl ⟨ha, e⟩⟩
  | non => cases e
  | bl _ => cases e
  | int _ => cases e
  | str _ => cases e
  | ty _ => cases e
  | adr _ => cases e
  | tpb _ => cases e
theorem sb_len : SmL tb E (fun xs H Q => ∃ p ys, xs = [.ref p] ∧ (SqL K H p ys ∨ SqT K H p ys) ∧ Q (.int (ys.length : Nat)) H) bLen := by
  intro ι M H ps xs Q R rs h
  unfold bLen at h
  split at h
  · split at h
    · rename_i p ys e
      obtain ⟨v, rfl, rv⟩ := rvs1 rs
      obtain ⟨a, vs, rfl, ra, hh⟩ := seq_at R rv e
      refine ⟨a, vs, rfl, hh.imp (fun z => .of z.1) (fun z => .of z.1), ?_⟩
      rw [← ra.len]
      exact h.okNow R .mk_int
    · exact h.elim
  · exact h.elim
theorem sb_lenS : SmL tb E (fun xs H Q => ∃ z, xs = [.str z] ∧ z.length ≤ sizeLine ∧ Q (.int (z.length : Nat)) H) bLenS := by
  intro ι M H ps xs Q R rs h
  unfold bLenS at h
  split at h
  · split at h
    · rename_i s hl
      obtain ⟨v, rfl, rv⟩ := rvs1 rs
      refine ⟨tx s, by rw [rv.str], by rw [tx_len]; exact lim_le hl, ?_⟩
      rw [tx_len]
      exact h.okNow R .mk_int
    · exact h.elim
  · exact h.elim
theorem bind_at {p : PV} {α : Type} {f : List PV → Option α} {b : α} (e : (lstAt M p).bind f = some b) : ∃ xs, lstAt M p = some xs ∧ f xs = some b := by
  cases h : lstAt M p with
  | none => rw [h] at e; cases e
  | some xs => rw [h] at e; exact ⟨xs, rfl, e⟩
theorem sb_all : SmL tb E (rAll K) bAll := by
  intro ι M H ps xs Q R rs h
  unfold bAll at h
  split at h
  · split at h
    · rename_i p bs e
      obtain ⟨v, rfl, rv⟩ := rvs1 rs
      obtain ⟨ys, e1, e2⟩ := bind_at e
      obtain ⟨k, vs, rfl, lk, rfl, ha, ra⟩ := lst_at R e1 rv
      refine ⟨_, bs, rfl, ?_, h.okNow R .mk_bl⟩
      rw [← asBls_rel e2 ra]
      exact .of ha
    · exact h.elim
  · exact h.elim
theorem sb_any : SmL tb E (rAny K) bAny := by
  intro ι M H ps xs Q R rs h
  unfold bAny at h
  split at h
  · split at h
    · rename_i p bs e
      obtain ⟨v, rfl, rv⟩ := rvs1 rs
      obtain ⟨ys, e1, e2⟩ := bind_at e
      obtain ⟨k, vs, rfl, lk, rfl, ha, ra⟩ := lst_at R e1 rv
      refine ⟨_, bs, rfl, ?_, h.okNow R .mk_bl⟩
      rw [← asBls_rel e2 ra]
      exact .of ha
    · exact h.elim
  · exact h.elim
theorem sb_tup : SmL tb E (fun xs H Q => ∃ p ys, xs = [.ref p] ∧ ((SqL K H p ys ∧ ∀ l, H l = none → Q (.ref l) (upd H l (.tup ys))) ∨ (SqT K H p ys ∧ Q (.ref p) H))) bTup := by
  intro ι M H ps xs Q R rs h
  unfold bTup at h
  split at h
  · split at h
    · rename_i p ys e
      obtain ⟨v, rfl, rv⟩ := rvs1 rs
      obtain ⟨a, vs, rfl, ra, hh⟩ := seq_at R rv e
      refine ⟨a, vs, rfl, ?_⟩
      rcases hh with ⟨ha, _⟩ | ⟨ha, rfl⟩
      · exact .inl ⟨.of ha, fun l nl => h ι _ _ (ex_new nl) (Nat.le_refl _) (R.new nl) (.mk_tup upd_same (ra.mono (ex_new nl) (Nat.le_refl _)))⟩
      · exact .inr ⟨.of ha, h.okNow R rv⟩
    · exact h.elim
  · exact h.elim
theorem sb_lst : SmL tb E (fun xs H Q => ∃ p ys, xs = [.ref p] ∧ (SqL K H p ys ∨ SqT K H p ys) ∧ ∀ l, H l = none → Q (.ref l) (upd H l (.lst ys))) bLst := by
  intro ι M H ps xs Q R rs h
  unfold bLst at h
  split at h
  · split at h
    · rename_i p ys e
      obtain ⟨v, rfl, rv⟩ := rvs1 rs
      obtain ⟨a, vs, rfl, ra, hh⟩ := seq_at R rv e
      exact ⟨a, vs, rfl, hh.imp (fun z => .of z.1) (fun z => .of z.1), fun l nl => okLst h R ra nl⟩
    · exact h.elim
  · exact h.elim
theorem sb_int : SmL tb E (fun xs H Q => (∃ i, xs = [.int i] ∧ Q (.int i) H) ∨ ∃ k, xs = [.bl k] ∧ Q (.int (if k then 1 else 0)) H) bInt := by
  intro ι M H ps xs Q R rs h
  unfold bInt at h
  split at h
  · obtain ⟨v, rfl, rv⟩ := rvs1 rs
    exact .inl ⟨_, by rw [rv.int], h.okNow R .mk_int⟩
  · obtain ⟨v, rfl, rv⟩ := rvs1 rs
    exact .inr ⟨_, by rw [rv.bl], h.okNow R .mk_int⟩
  · exact h.elim
end
/-! ### methods -/
def SmM (tb : List (Addr × Str)) (E : XK) (r : V → List V → Hp → VK → Prop) (g : PV → List PV → PM → Res PV) : Prop := ∀ ι M H p as x vs Q, RM tb ι M H → Rv ι M.length H p x → Rvs ι M.length H as vs → Wp tb Rv ι M.length H (g p as M) Q E → r x vs H Q
def isTyP (M : PM) (T : String) (p : PV) : Bool := match p with
  | .str _ => T == "str"
  | .ref k => match M[k]? with
    | some (.lst _) => T == "list"
    | some (.dct _) => T == "dict"
    | some (.dtt _) => T == "dict"
    | _ => false
  | _ => false
def fBM (T : String) (g : PV → List PV → PM → Res PV) (fo : FE) (fr : FA) : FE := fun σ M => (fo σ M).bnd fun p M1 => if isTyP M1 T p = true then (fr σ M1).bnd fun as M2 => g p as M2 else .bad
def fBM0 (T : String) (g : PV → List PV → PM → Res PV) (fo : FE) : FE := fun σ M => (fo σ M).bnd fun p M1 => if isTyP M1 T p = true then g p [] M1 else .bad
def isS : PV → Bool
  | .str _ => true
  | _ => false
def fM1 (g : PV → List PV → PM → Res PV) (fo fe : FE) : FE := fun σ M => (fo σ M).bnd fun p M1 => if isS p = true then (fe σ M1).bnd fun y M2 => g p [y] M2 else .bad
/-- a list changed -/
def chL (p : PV) (M : PM) (f : List PV → Option (PV × List PV)) : Res PV := match p with
  | .ref k => match M[k]? with
    | some (.lst xs) => match f xs with
      | some (v, ys) => .ok v (M.set k (.lst ys))
      | none => .bad
    | _ => .bad
  | _ => .bad
def mAppend (p : PV) (as : List PV) (M : PM) : Res PV := match as with
  | [y] => chL p M fun xs => if xs.length < lim then some (.non, xs ++ [y]) else none
  | _ => .bad
def mPop (p : PV) (as : List PV) (M : PM) : Res PV := match as with
  | [] => chL p M fun xs => (xs[xs.length - 1]?).map fun y => (y, xs.dropLast)
  | _ => .bad
def mFind3 (p : PV) (as : List PV) (M : PM) : Res PV := match p, as with
  | .str a, [.str b, .int i] => .ok (.int (Txt.find3 (tx a) (tx b) i)) M
  | _, _ => .bad
def joinT (a : List Nat) (ys : List (List Nat)) : List Nat := (Txt.join (tx a) (ys.map tx)).cps.toList
def mJoin (p : PV) (as : List PV) (M : PM) : Res PV := match p, as with
  | .str a, [q] => match (seqAt M q).bind asStrs with
    | some ys => if (ys.map List.length).sum + ys.length * a.length ≤ lim then .ok (.str (joinT a ys)) M else .bad
    | none => .bad
  | _, _ => .bad
def splitT (a b : List Nat) : List (List Nat) := (Txt.split (tx a) (tx b)).map (·.cps.toList)
def mSplit (p : PV) (as : List PV) (M : PM) : Res PV := match p, as with
  | .str a, [.str b] => if b ≠ [] ∧ a.length ≤ lim then .ok (.ref M.length) (M ++ [.lst ((splitT a b).map PV.str)]) else .bad
  | _, _ => .bad
section
variable {tb : List (Addr × Str)} {E : XK} {K : PySem.W.Frag} {r : V → List V → Hp → VK → Prop} {g : PV → List PV → PM → Res PV} {t : TA} {fr : FA} {to te : TE} {fo fe : FE} {ι : Nat → Addr} {M : PM} {H : Hp}
theorem ty_at {T : String} {p : PV} {v : V} (R : RM tb ι M H) (rp : Rv ι M.length H p v) (h : isTyP M T p = true) : tyV K T v H := by
  unfold isTyP at h
  split at h
  · have e : v = V.str _ := rp.str
    subst e
    exact eq_of_beq h
  · rename_i k
    obtain ⟨lk, rfl⟩ := rp.ref_at
    split at h
    · rename_i xs e
      obtain ⟨vs, e1, _⟩ := R.obj k _ e
      exact .inl ⟨eq_of_beq h, vs, .of e1⟩
    · rename_i xs e
      obtain ⟨vs, e1, _⟩ := R.obj k _ e
      exact .inr (.inr (.inl ⟨eq_of_beq h, .inl ⟨vs, e1⟩⟩))
    · rename_i xs e
      obtain ⟨vs, e1, _⟩ := R.obj k _ e
      exact .inr (.inr (.inl ⟨eq_of_beq h, .inr ⟨vs, e1⟩⟩))
    · cases h
  · cases h
theorem sm_BM {T : String} (hr : SmM tb E r g) (ho : SmE tb E to fo) (h : SmA tb E t fr) : SmE tb E (tBM K T r to t) (fBM T g fo fr) := fun ι M H σp σ Q R S w =>
  ho.to R S w fun ι1 M1 H1 p v o S1 rv w1 => by
    split at w1
    · rename_i hp
      exact ⟨ty_at o.r rv hp, h.to o.r S1 w1 fun ι2 M2 H2 as vs o2 S2 ra w2 => hr ι2 M2 H2 p as v vs Q o2.r (rv.mono o2.e o2.l) ra w2⟩
    · exact w1.elim
theorem sm_BM0 {T : String} (hr : SmM tb E r g) (ho : SmE tb E to fo) : SmE tb E (tBM0 K T r to) (fBM0 T g fo) := fun ι M H σp σ Q R S w =>
  ho.to R S w fun ι1 M1 H1 p v o S1 rv w1 => by
    split at w1
    · rename_i hp
      exact ⟨ty_at o.r rv hp, hr ι1 M1 H1 p [] v [] Q o.r rv .nil w1⟩
    · exact w1.elim
theorem sm_M1 (hr : SmM tb E r g) (ho : SmE tb E to fo) (h : SmE tb E te fe) : SmE tb E (tM1 r to te) (fM1 g fo fe) := fun ι M H σp σ Q R S w =>
  ho.to R S w fun ι1 M1 H1 p v o S1 rv w1 => by
    split at w1
    · rename_i hp
      cases p <;> first | (cases hp; done) | skip
      rename_i s
      exact ⟨⟨_, rv.str⟩, h.to o.r S1 w1 fun ι2 M2 H2 y yv o2 S2 ry w2 => hr ι2 M2 H2 _ [y] v [yv] Q o2.r (rv.mono o2.e o2.l) (.cons ry .nil) w2⟩
    · exact w1.elim
theorem chL_ok {p : PV} {v : V} {f : List PV → Option (PV × List PV)} {Q : VK} (R : RM tb ι M H) (rp : Rv ι M.length H p v) (w : Wp tb Rv ι M.length H (chL p M f) Q E) :
    ∃ k xs vs q ys, p = .ref k ∧ v = .ref (ι k) ∧ M[k]? = some (.lst xs) ∧ H (ι k) = some (.lst vs) ∧ Rvs ι M.length H xs vs ∧ f xs = some (q, ys) ∧ ∀ qv ws, Rv ι M.length H q qv → Rvs ι M.length H ys ws → Q qv (upd H (ι k) (.lst ws)) := by
  unfold chL at w
  split at w
  · rename_i k
    split at w
    · rename_i xs e
      split at w
      · rename_i q ys ef
        obtain ⟨lk, rfl⟩ := rp.ref_at
        obtain ⟨vs, e1, r1⟩ := R.obj k _ e
        refine ⟨k, xs, vs, q, ys, rfl, rfl, e, e1, r1, ef, fun qv ws rq rw' => ?_⟩
        have hz : ∀ o u, H (ι k) ≠ some (.frz o u) := fun o u z => by rw [e1] at z; cases z
        have ex : Ex ι ι M.length H (upd H (ι k) (.lst ws)) := ex_chg R lk hz
        have R3 := R.chg (o := .lst ys) (x := .lst ws) lk hz ⟨ws, upd_same, rw'.mono ex (Nat.le_refl _)⟩
        refine w ι _ qv ex (by rw [List.length_set]; exact Nat.le_refl _) R3 ?_
        rw [List.length_set]
        exact rq.mono ex (Nat.le_refl _)
      · exact w.elim
    · exact w.elim
  · exact w.elim
theorem mm_append : SmM tb E rAppend mAppend := by
  intro ι M H p as x vs Q R rp ra w
  unfold mAppend at w
  split at w
  · rename_i y
    obtain ⟨yv, rfl, ry⟩ := rvs1 ra
    obtain ⟨k, xs, us, q, ys, rfl, rfl, e, e1, r1, ef, c⟩ := chL_ok R rp w
    split at ef
    · rename_i hl
      cases ef
      exact ⟨_, us, yv, rfl, rfl, e1, by rw [← r1.len]; exact lim_lt hl, c _ _ .mk_non (r1.app (.cons ry .nil))⟩
    · cases ef
  · exact w.elim
theorem Rvs.dropLast {n : Nat} {xs : List PV} {vs : List V} (r : Rvs ι n H xs vs) : Rvs ι n H xs.dropLast vs.dropLast := by
  rw [List.dropLast_eq_take, List.dropLast_eq_take, ← r.len]
  exact r.take _
theorem mm_pop : SmM tb E rPop mPop := by
  intro ι M H p as x vs Q R rp ra w
  unfold mPop at w
  split at w
  · have : vs = [] := by unfold Rvs at ra; exact ra
    subst this
    obtain ⟨k, xs, us, q, ys, rfl, rfl, e, e1, r1, ef, c⟩ := chL_ok R rp w
    cases h : xs[xs.length - 1]? with
    | none => rw [h] at ef; cases ef
    | some y =>
      rw [h] at ef
      cases ef
      obtain ⟨yv, hy, ry⟩ := r1.get h
      rw [r1.len] at hy
      exact ⟨_, us, yv, rfl, rfl, e1, hy, c _ _ ry r1.dropLast⟩
  · exact w.elim
theorem Rvs.reverse {n : Nat} {xs : List PV} {vs : List V} (r : Rvs ι n H xs vs) : Rvs ι n H xs.reverse vs.reverse := by
  induction xs generalizing vs with
  | nil => unfold Rvs at r; subst r; exact .nil
  | cons p ps ih =>
    unfold Rvs at r
    obtain ⟨v, w, rfl, q1, q2⟩ := r
    rw [List.reverse_cons, List.reverse_cons]
    exact (ih q2).app (.cons q1 .nil)
theorem mm_join : SmM tb E (rJoin K) mJoin := by
  intro ι M H p as x vs Q R rp ra w
  unfold mJoin at w
  split at w
  · rename_i a q
    split at w
    · rename_i ys e
      split at w
      · rename_i hl
        obtain ⟨v, rfl, rv⟩ := rvs1 ra
        obtain ⟨xs, e1, e2⟩ : ∃ xs, seqAt M q = some xs ∧ asStrs xs = some ys := by
          cases h : seqAt M q with
          | none => rw [h] at e; cases e
          | some xs => rw [h] at e; exact ⟨xs, rfl, e⟩
        obtain ⟨b, us, rfl, rb, hh⟩ := seq_at R rv e1
        have eu := asStrs_rel e2 rb
        subst eu
        refine ⟨_, b, ys.map tx, rp.str, rfl, hh.imp (fun z => .of z.1) (fun z => .of z.1), ?_, ?_⟩
        · rw [List.map_map, List.length_map, tx_len]
          have : (ys.map ((fun x : Str => x.length) ∘ tx)) = ys.map List.length := List.map_congr_left fun y _ => tx_len y
          rw [this]
          unfold lim at hl
          omega
        · have := Wp.okNow (v := V.str (tx (joinT a ys))) w R .mk_str
          rw [show tx (joinT a ys) = Txt.join (tx a) (ys.map tx) from (tx_of _).symm] at this
          exact this
      · exact w.elim
    · exact w.elim
  · exact w.elim
theorem mm_split : SmM tb E (fun x xs H Q => ∃ a b, x = .str a ∧ xs = [.str b] ∧ (b.length == 0) = false ∧ a.length + 2 ≤ sizeLine ∧ rNewStrs (Txt.split a b) H Q) mSplit := by
  intro ι M H p as x vs Q R rp ra w
  unfold mSplit at w
  split at w
  · rename_i a b
    split at w
    · rename_i hl
      obtain ⟨v, rfl, rv⟩ := rvs1 ra
      refine ⟨_, _, rp.str, by rw [rv.str], ?_, ?_, fun l nl => ?_⟩
      · rw [tx_len]
        cases b with
        | nil => exact absurd rfl hl.1
        | cons c t => rfl
      · have := hl.2
        unfold lim at this
        rw [tx_len, sizeLine_eq]
        omega
      · have e : Txt.split (tx a) (tx b) = (splitT a b).map tx := by
          unfold splitT
          rw [List.map_map]
          exact ((List.map_congr_left fun z _ => (tx_of z).symm).trans (List.map_id _)).symm
        rw [e]
        exact okLst w R strs_rvs nl
    · exact w.elim
  · exact w.elim
end
end Pu
namespace Pu
open PySem PySem.Spec PyProof.Rows L2 LB
open Classical
/-! ### dicts -/
noncomputable def kfind (kvs : List (PV × PV)) (k : PV) : Option PV := (kvs.find? fun kv => decide (kv.1 = k)).map (·.2)
/-- what a dict has at a key: none where it is no dict or no key -/
noncomputable def dgetP (M : PM) (p k : PV) : Option (Option PV) := match p with
  | .ref j => match M[j]? with
    | some (.dct kvs) => if (keyOf k).isSome then some (kfind kvs k) else none
    | some (.lck kvs) => if (keyOf k).isSome then some (kfind kvs k) else none
    | some (.dtt kvs) => if (keysOf k).isSome then some (kfind kvs k) else none
    | some (.lct kvs) => if (keysOf k).isSome then some (kfind kvs k) else none
    | _ => none
  | _ => none
noncomputable def fDGet (fd fk : FE) : FE := fun σ M => (fd σ M).bnd fun d M1 => (fk σ M1).bnd fun k M2 => match dgetP M2 d k with
  | some (some v) => .ok v M2
  | _ => .bad
noncomputable def fDIn (fk fd : FE) : FE := fun σ M => (fk σ M).bnd fun k M1 => (fd σ M1).bnd fun d M2 => match dgetP M2 d k with
  | some o => .ok (.bl o.isSome) M2
  | none => .bad
noncomputable def fDNotIn (fk fd : FE) : FE := fun σ M => (fk σ M).bnd fun k M1 => (fd σ M1).bnd fun d M2 => match dgetP M2 d k with
  | some o => .ok (.bl (!o.isSome)) M2
  | none => .bad
noncomputable def dputP (M : PM) (p k v : PV) : Option PM := match p with
  | .ref j => match M[j]? with
    | some (.dct kvs) => if (keyOf k).isSome ∧ kvs.length < lim then some (M.set j (.dct (putP kvs k v))) else none
    | some (.dtt kvs) => if (keysOf k).isSome ∧ kvs.length < lim then some (M.set j (.dtt (putP kvs k v))) else none
    | _ => none
  | _ => none
noncomputable def fDPut (fd fk fv : FE) : FS := fun σ M => (fv σ M).go fun v M1 => (fd σ M1).go fun d M2 => (fk σ M2).go fun k M3 => match dputP M3 d k v with
  | some M4 => .nx σ M4
  | none => .bad
def fDNewK : FE := fun _ M => .ok (.ref M.length) (M ++ [.dct []])
def fDNewT : FE := fun _ M => .ok (.ref M.length) (M ++ [.dtt []])
def fPairs : List (FE × FE) → PS → PM → Res (List (PV × PV))
  | [], _, M => .ok [] M
  | (a, b) :: r, σ, M => (a σ M).bnd fun k M1 => (b σ M1).bnd fun v M2 => (fPairs r σ M2).bnd fun kvs M3 => .ok ((k, v) :: kvs) M3
noncomputable def mergeP (kvs more : List (PV × PV)) : List (PV × PV) := more.foldl (fun acc kv => putP acc kv.1 kv.2) kvs
noncomputable def fDisp (fs : List (FE × FE)) : FE := fun σ M => (fPairs fs σ (M ++ [.dct []])).bnd fun kvs M2 => match M2[M.length]? with
  | some (.dct []) => if kvs.length ≤ 15 ∧ ∀ p ∈ kvs, (keyOf p.1).isSome then .ok (.ref M.length) (M2.set M.length (.dct (mergeP [] kvs))) else .bad
  | _ => .bad
section
variable {tb : List (Addr × Str)} {E : XK} {K : PySem.W.Frag} {ι : Nat → Addr} {N : Nat} {M : PM} {H : Hp} {td tk tv tx' : TE} {fd fk' fv fx : FE}
theorem val_rel {κ : Type} [DecidableEq κ] {F : PV → κ → Prop} (FE' : ∀ p q k j, F p k → F q j → (p = q ↔ k = j)) {kvs : List (PV × PV)} {kws : List (κ × V)} (r : Paired (Rk F ι N H) kvs kws) {k : PV} {kk : κ} (e : F k kk) :
    (∀ x, kfind kvs k = some x → ∃ v, valV kws kk = some v ∧ Rv ι N H x v) ∧ (kfind kvs k = none → valV kws kk = none) := by
  unfold kfind valV
  induction r with
  | nil => exact ⟨fun x h => (by cases h), fun _ => rfl⟩
  | @cons p q ps qs a b ih =>
    rw [List.find?_cons, List.find?_cons]
    by_cases h : p.1 = k
    · have h2 : q.1 = kk := (FE' _ _ _ _ a.1 e).mp h
      rw [decide_eq_true h, decide_eq_true h2]
      exact ⟨fun x hx => (by cases hx; exact ⟨q.2, rfl, a.2⟩), fun hx => (by cases hx)⟩
    · have h2 : ¬ q.1 = kk := fun z => h ((FE' _ _ _ _ a.1 e).mpr z)
      rw [decide_eq_false h, decide_eq_false h2]
      exact ih
theorem keys_rel : ∀ {xs : List PV} {k : List Key} {vs : List V}, xs.mapM keyOf = some k → Rvs ι N H xs vs → vs = k.map kV
  | [], _, _, e, r => by cases e; unfold Rvs at r; exact r
  | x :: xs, k, _, e, r => by
    rw [List.mapM_cons] at e
    cases h : keyOf x with
    | none => rw [h] at e; cases e
    | some a =>
      rw [h] at e
      cases h1 : xs.mapM keyOf with
      | none => rw [h1] at e; cases e
      | some b =>
        rw [h1] at e
        cases e
        unfold Rvs at r
        obtain ⟨v, w, rfl, r1, r2⟩ := r
        rw [keyOf_kV h r1, keys_rel h1 r2]
        rfl
theorem keysOf_at {k : PV} {kk : List Key} {v : V} (e : keysOf k = some kk) (r : Rv ι N H k v) : ∃ b, v = .ref b ∧ H b = some (.tup (kk.map kV)) := by
  cases k <;> first | (cases e; done) | skip
  obtain ⟨a, vs, rfl, ha, ra⟩ := r.tup_at
  exact ⟨a, rfl, by rw [ha, keys_rel e ra]⟩
def relO (ι : Nat → Addr) (N : Nat) (H : Hp) : Option PV → Option V → Prop
  | some p, some v => Rv ι N H p v
  | none, none => True
  | _, _ => False
theorem relO_of {o : Option PV} {f : Option V} (h : (∀ x, o = some x → ∃ v, f = some v ∧ Rv ι N H x v) ∧ (o = none → f = none)) : relO ι N H o f := by
  cases o with
  | none => rw [h.2 rfl]; trivial
  | some x =>
    obtain ⟨v, e, r⟩ := h.1 x rfl
    rw [e]
    exact r
theorem dget_ok {p k : PV} {v y : V} {o : Option PV} (R : RM tb ι M H) (rp : Rv ι M.length H p v) (rk : Rv ι M.length H k y) (e : dgetP M p k = some o) : ∃ a ov, v = .ref a ∧ DGet H a y ov ∧ relO ι M.length H o ov := by
  unfold dgetP at e
  split at e
  · rename_i j
    obtain ⟨lj, rfl⟩ := rp.ref_at
    split at e
    · rename_i kvs ek
      split at e
      · rename_i hk
        cases e
        obtain ⟨kk, hk⟩ := Option.isSome_iff_exists.mp hk
        obtain ⟨kws, e1, r1⟩ := R.obj j _ ek
        exact ⟨_, _, rfl, .inl ⟨kws, kk, .inl e1, keyOf_kV hk rk, rfl⟩, relO_of (val_rel (F := fK) (fun _ _ _ _ a b => keyOf_eq a b) r1 hk)⟩
      · cases e
    · rename_i kvs ek
      split at e
      · rename_i hk
        cases e
        obtain ⟨kk, hk⟩ := Option.isSome_iff_exists.mp hk
        obtain ⟨oo, kws, e1, r1⟩ := R.obj j _ ek
        exact ⟨_, _, rfl, .inl ⟨kws, kk, .inr ⟨oo, e1⟩, keyOf_kV hk rk, rfl⟩, relO_of (val_rel (F := fK) (fun _ _ _ _ a b => keyOf_eq a b) r1 hk)⟩
      · cases e
    · rename_i kvs ek
      split at e
      · rename_i hk
        cases e
        obtain ⟨kk, hk⟩ := Option.isSome_iff_exists.mp hk
        obtain ⟨kws, e1, r1⟩ := R.obj j _ ek
        obtain ⟨b, rfl, hb⟩ := keysOf_at hk rk
        exact ⟨_, _, rfl, .inr ⟨kws, kk, b, .inl e1, rfl, hb, rfl⟩, relO_of (val_rel (F := fT) (fun _ _ _ _ a b => keysOf_eq a b) r1 hk)⟩
      · cases e
    · rename_i kvs ek
      split at e
      · rename_i hk
        cases e
        obtain ⟨kk, hk⟩ := Option.isSome_iff_exists.mp hk
        obtain ⟨oo, kws, e1, r1⟩ := R.obj j _ ek
        obtain ⟨b, rfl, hb⟩ := keysOf_at hk rk
        exact ⟨_, _, rfl, .inr ⟨kws, kk, b, .inr ⟨oo, e1⟩, rfl, hb, rfl⟩, relO_of (val_rel (F := fT) (fun _ _ _ _ a b => keysOf_eq a b) r1 hk)⟩
      · cases e
    · cases e
  · cases e
theorem sm_dget (hd : SmE tb E td fd) (hk : SmE tb E tk fk') : SmE tb E (tDGet td tk) (fDGet fd fk') := fun ι M H σp σ Q R S w =>
  hd.to R S w fun ι1 M1 H1 d dv o1 S1 rd w1 => hk.to o1.r S1 w1 fun ι2 M2 H2 k kv o2 S2 rk w2 => by
    split at w2
    · rename_i v e
      obtain ⟨a, ov, e1, g, ro⟩ := dget_ok o2.r (rd.mono o2.e o2.l) rk e
      cases ov with
      | none => exact ro.elim
      | some x => exact ⟨a, x, e1, g, Wp.okNow w2 o2.r ro⟩
    · exact w2.elim
theorem relO_some {o : Option PV} {ov : Option V} (r : relO ι N H o ov) : ov.isSome = o.isSome := by
  cases o <;> cases ov <;> first | rfl | exact r.elim
theorem sm_din (hk : SmE tb E tk fk') (hd : SmE tb E td fd) : SmE tb E (tDIn tk td) (fDIn fk' fd) := fun ι M H σp σ Q R S w =>
  hk.to R S w fun ι1 M1 H1 k kv o1 S1 rk w1 => hd.to o1.r S1 w1 fun ι2 M2 H2 d dv o2 S2 rd w2 => by
    split at w2
    · rename_i o e
      obtain ⟨a, ov, e1, g, ro⟩ := dget_ok o2.r rd (rk.mono o2.e o2.l) e
      refine ⟨a, ov, e1, g, ?_⟩
      rw [relO_some ro]
      exact Wp.okNow w2 o2.r .mk_bl
    · exact w2.elim
theorem sm_dnotin (hk : SmE tb E tk fk') (hd : SmE tb E td fd) : SmE tb E (tDNotIn tk td) (fDNotIn fk' fd) := fun ι M H σp σ Q R S w =>
  hk.to R S w fun ι1 M1 H1 k kv o1 S1 rk w1 => hd.to o1.r S1 w1 fun ι2 M2 H2 d dv o2 S2 rd w2 => by
    split at w2
    · rename_i o e
      obtain ⟨a, ov, e1, g, ro⟩ := dget_ok o2.r rd (rk.mono o2.e o2.l) e
      refine ⟨a, ov, e1, g, ?_⟩
      rw [relO_some ro]
      exact Wp.okNow w2 o2.r .mk_bl
    · exact w2.elim
theorem sm_dput (hd : SmE tb E td fd) (hk : SmE tb E tk fk') (hv : SmE tb E tv fv) : SmS tb E (sDPut td tk tv) (fDPut fd fk' fv) := fun ι M H σp σ D R S w =>
  hv.go R S w fun ι1 M1 H1 v vv o1 S1 rv w1 => hd.go o1.r S1 w1 fun ι2 M2 H2 d dv o2 S2 rd w2 => hk.go o2.r S2 w2 fun ι3 M3 H3 k kv o3 S3 rk w3 => by
    split at w3
    · rename_i M4 e
      have rd3 := rd.mono o3.e o3.l
      have rv3 := (rv.mono o2.e o2.l).mono o3.e o3.l
      unfold dputP at e
      split at e
      · rename_i j
        obtain ⟨lj, rfl⟩ := rd3.ref_at
        split at e
        · rename_i kvs ek
          split at e
          · rename_i hk
            cases e
            obtain ⟨kk, hkk⟩ := Option.isSome_iff_exists.mp hk.1
            obtain ⟨kws, e1, r1⟩ := o3.r.obj j _ ek
            have hz : ∀ o u, H3 (ι3 j) ≠ some (.frz o u) := fun o u z => by rw [e1] at z; cases z
            have ex : Ex ι3 ι3 M3.length H3 (upd H3 (ι3 j) (.dK (putK kws kk vv))) := ex_chg o3.r lj hz
            have R4 := o3.r.chg (o := .dct (putP kvs k v)) (x := .dK (putK kws kk vv)) lj hz ⟨_, upd_same, Paired.mapP (put_rel (F := fK) (fun _ _ _ _ a b => keyOf_eq a b) r1 hkk rv3) fun _ _ q => ⟨q.1, q.2.mono ex (Nat.le_refl _)⟩⟩
            refine ⟨_, _, rfl, .inl ⟨kws, kk, e1, keyOf_kV hkk rk, by rw [← Paired.length r1]; exact lim_lt hk.2, rfl⟩, ?_⟩
            exact w3 ι3 _ σ ex (by rw [List.length_set]; exact Nat.le_refl _) R4 (by rw [List.length_set]; exact S3.mono ex (Nat.le_refl _))
          · cases e
        · rename_i kvs ek
          split at e
          · rename_i hk
            cases e
            obtain ⟨kk, hkk⟩ := Option.isSome_iff_exists.mp hk.1
            obtain ⟨kws, e1, r1⟩ := o3.r.obj j _ ek
            obtain ⟨b, rfl, hb⟩ := keysOf_at hkk rk
            have hz : ∀ o u, H3 (ι3 j) ≠ some (.frz o u) := fun o u z => by rw [e1] at z; cases z
            have ex : Ex ι3 ι3 M3.length H3 (upd H3 (ι3 j) (.dT (putK kws kk vv))) := ex_chg o3.r lj hz
            have R4 := o3.r.chg (o := .dtt (putP kvs k v)) (x := .dT (putK kws kk vv)) lj hz ⟨_, upd_same, Paired.mapP (put_rel (F := fT) (fun _ _ _ _ a b => keysOf_eq a b) r1 hkk rv3) fun _ _ q => ⟨q.1, q.2.mono ex (Nat.le_refl _)⟩⟩
            refine ⟨_, _, rfl, .inr ⟨kws, kk, b, e1, rfl, hb, by rw [← Paired.length r1]; exact lim_lt hk.2, rfl⟩, ?_⟩
            exact w3 ι3 _ σ ex (by rw [List.length_set]; exact Nat.le_refl _) R4 (by rw [List.length_set]; exact S3.mono ex (Nat.le_refl _))
          · cases e
        · cases e
      · cases e
    · exact w3.elim
theorem okNew {Q : VK} {o : PO} {x : HO} {p : Addr} (h : Wp tb Rv ι M.length H (.ok (.ref M.length) (M ++ [o])) Q E) (R : RM tb ι M H) (n : H p = none) (ro : Ro (ext ι M.length p) (M.length + 1) (upd H p x) p o) : Q (.ref p) (upd H p x) := by
  refine h _ _ _ (ex_ext n) (by simp) (R.push n ro) ?_
  have := Rv.mk_ref (ι := ext ι M.length p) (N := (M ++ [o]).length) (H := upd H p x) (k := M.length) (by simp)
  rw [ext_same] at this
  exact this
theorem sm_dnewK : SmE tb E tDNewK fDNewK := fun ι M H σp σ Q R S w p np => okNew w R np ⟨[], upd_same, .nil⟩
/-! displays -/
inductive SmPs (tb : List (Addr × Str)) (E : XK) : List (TE × TE) → List (FE × FE) → Prop
  | nil : SmPs tb E [] []
  | cons {ta tb' : TE} {fa fb : FE} {ts : List (TE × TE)} {fs : List (FE × FE)} : SmE tb E ta fa → SmE tb E tb' fb → SmPs tb E ts fs → SmPs tb E ((ta, tb') :: ts) ((fa, fb) :: fs)
abbrev rKV : (Nat → Addr) → Nat → Hp → List (PV × PV) → List (V × V) → Prop := fun ι N H ps vs => Paired (fun (p : PV × PV) (v : V × V) => Rv ι N H p.1 v.1 ∧ Rv ι N H p.2 v.2) ps vs
theorem sm_pairs : ∀ {ts : List (TE × TE)} {fs : List (FE × FE)}, SmPs tb E ts fs → ∀ ι M H σp σ Q, RM tb ι M H → Rs ι M.length H σp σ → Wp tb rKV ι M.length H (fPairs fs σp M) Q E → tPairs ts σ H Q
  | _, _, .nil, ι, M, H, σp, σ, Q, R, S, w => Wp.okNow w R .nil
  | _, _, .cons ha hb hr, ι, M, H, σp, σ, Q, R, S, w =>
    ha.to R S w fun ι1 M1 H1 k kv o1 S1 rk w1 => hb.to o1.r S1 w1 fun ι2 M2 H2 v vv o2 S2 rv w2 =>
      sm_pairs hr ι2 M2 H2 σp σ _ o2.r S2 (Wp.mono (Wp.bnd w2) fun ps H3 ⟨ι3, M3, kvs, o3, rr, w3⟩ => Wp.okNow w3 o3.r (.cons ⟨(rk.mono o2.e o2.l).mono o3.e o3.l, rv.mono o3.e o3.l⟩ rr))
theorem pairs_keys : ∀ {kvs : List (PV × PV)} {ps : List (V × V)}, rKV ι N H kvs ps → (∀ p ∈ kvs, (keyOf p.1).isSome) → ∃ kws : List (Key × V), ps = kws.map (fun kv => (kV kv.1, kv.2)) ∧ Paired (Rk fK ι N H) kvs kws
  | _, _, .nil, _ => ⟨[], rfl, .nil⟩
  | _, _, @Paired.cons _ _ _ p v ps vs a b, h => by
    obtain ⟨k, hk⟩ := Option.isSome_iff_exists.mp (h p List.mem_cons_self)
    obtain ⟨kws, e, r⟩ := pairs_keys b fun q hq => h q (List.mem_cons_of_mem _ hq)
    refine ⟨(k, v.2) :: kws, ?_, .cons ⟨hk, a.2⟩ r⟩
    rw [e, List.map_cons, ← keyOf_kV hk a.1]
theorem merge_rel : ∀ {more : List (PV × PV)} {rs : List (Key × V)} {kvs : List (PV × PV)} {kws : List (Key × V)}, Paired (Rk fK ι N H) more rs → Paired (Rk fK ι N H) kvs kws → Paired (Rk fK ι N H) (mergeP kvs more) (mergeK kws rs) := by
  intro more rs kvs kws r
  induction r generalizing kvs kws with
  | nil => exact fun q => q
  | @cons p q ps qs a b ih => exact fun z => ih (put_rel (F := fK) (fun _ _ _ _ a b => keyOf_eq a b) z a.1 a.2)
theorem sm_disp {ts : List (TE × TE)} {fs : List (FE × FE)} (h : SmPs tb E ts fs) : SmE tb E (tDisp ts) (fDisp fs) := fun ι M H σp σ Q R S w p np => by
  have ex : Ex ι (ext ι M.length p) M.length H (upd H p (.dK [])) := ex_ext np
  have R1 : RM tb (ext ι M.length p) (M ++ [.dct []]) (upd H p (.dK [])) := R.push (o := .dct []) np ⟨[], upd_same, .nil⟩
  have l0 : (M ++ [PO.dct []]).length = M.length + 1 := by simp
  refine sm_pairs h _ _ _ σp σ _ R1 (by rw [l0]; exact S.mono ex (Nat.le_succ _)) ?_
  rw [l0]
  refine Wp.mono (Wp.bnd (w.back ex (Nat.le_succ _))) fun ps H2 ⟨ι2, M2, kvs, o2, rr, w2⟩ => ?_
  have e2 : ι2 M.length = p := (o2.e.i _ (Nat.lt_succ_self _)).trans ext_same
  split at w2
  · rename_i eo
    split at w2
    · rename_i hk
      obtain ⟨kws0, h0, z0⟩ := o2.r.obj _ _ eo
      rw [e2] at h0
      have : kws0 = [] := by cases z0; rfl
      subst this
      refine ⟨h0, ?_⟩
      obtain ⟨kws, ep, rk⟩ := pairs_keys rr hk.2
      have lp : M.length < M2.length := o2.l
      have hz : ∀ o u, H2 (ι2 M.length) ≠ some (.frz o u) := fun o u z => by rw [e2, h0] at z; cases z
      have ex2 : Ex ι2 ι2 M2.length H2 (upd H2 (ι2 M.length) (.dK (mergeK [] kws))) := ex_chg o2.r lp hz
      have R3 := o2.r.chg (o := .dct (mergeP [] kvs)) (x := .dK (mergeK [] kws)) lp hz ⟨_, upd_same, Paired.mapP (merge_rel rk .nil) fun _ _ q => ⟨q.1, q.2.mono ex2 (Nat.le_refl _)⟩⟩
      rw [e2] at ex2 R3
      refine ⟨kws, ep, by rw [← Paired.length rk]; exact hk.1, w2 ι2 _ _ ex2 (by rw [List.length_set]; exact Nat.le_refl _) R3 ?_⟩
      rw [List.length_set]
      have := Rv.mk_ref (ι := ι2) (N := M2.length) (H := upd H2 p (.dK (mergeK [] kws))) (k := M.length) lp
      rw [e2] at this
      exact this
    · exact w2.elim
  · exact w2.elim
end
def lkFld (C : Addr) (i : Nat) (f : String) : PS → PM → Option Nat := fun σ M => match σ[i]? with
  | some (some p) => match fldP M C f p with
    | some (.ref k) => some k
    | _ => none
  | _ => none
/-! ### equality of data -/
def datF (M : PM) : Nat → PV → Option PyData
  | _, .non => some .none
  | _, .bl b => some (.bool b)
  | _, .int i => some (.int i)
  | _, .str s => if ∀ c ∈ s, c < 128 then some (.str (tx s)) else none
  | n + 1, .tup xs => (xs.mapM (datF M n)).map .tuple
  | n + 1, .tpb xs => (xs.mapM (datF M n)).map .tuple
  | n + 1, .ref k => match M[k]? with
    | some (.lst xs) => (xs.mapM (datF M n)).map .list
    | _ => none
  | _, _ => none
def pEqD (p q : PV) (M : PM) : Res PV := match datF M 60 p, datF M 60 q with
  | some d, some e => .ok (.bl (PyData.eqv d e)) M
  | _, _ => .bad
section
variable {tb : List (Addr × Str)} {E : XK} {K : PySem.W.Frag} {ι : Nat → Addr} {M : PM} {H : Hp}
theorem dat_ok (R : RM tb ι M H) : ∀ (n : Nat) (p : PV) (v : V) (d : PyData), datF M n p = some d → Rv ι M.length H p v → Dp K H v d ∧ PyData.canLay0 d = true ∧ d.depth ≤ n := by
  intro n
  induction n with
  | zero =>
    intro p v d e r
    cases p with
    | non => cases e; rw [r.non]; exact ⟨.non, rfl, Nat.le_refl _⟩
    | bl b => cases e; rw [r.bl]; exact ⟨.bl _, rfl, Nat.le_refl _⟩
    | int i => cases e; rw [r.int]; exact ⟨.int _, rfl, Nat.le_refl _⟩
    | str s =>
      unfold datF at e
      split at e
      · rename_i h
        cases e
        rw [r.str]
        exact ⟨.str _, strOk_tx h, Nat.le_refl _⟩
      · cases e
    | ty _ => cases e
    | adr _ => cases e
    | ref _ => cases e
    | tup _ => cases e
    | tpb _ => cases e
  | succ n ih =>
    have all : ∀ (xs : List PV) (vs : List V) (ds : List PyData), xs.mapM (datF M n) = some ds → Rvs ι M.length H xs vs → DpAll K H vs ds ∧ PyData.canLayAll0 ds = true ∧ PyData.depthAll ds ≤ n := by
      intro xs
      induction xs with
      | nil =>
        intro vs ds e r
        cases e
        unfold Rvs at r
        subst r
        exact ⟨.nil, rfl, Nat.zero_le _⟩
      | cons x xs ihx =>
        intro vs ds e r
        unfold Rvs at r
        obtain ⟨v, w, rfl, r1, r2⟩ := r
        rw [List.mapM_cons] at e
        cases h : datF M n x with
        | none => rw [h] at e; cases e
        | some a =>
          rw [h] at e
          cases h2 : xs.mapM (datF M n) with
          | none => rw [h2] at e; cases e
          | some b =>
            rw [h2] at e
            cases e
            obtain ⟨p1, p2, p3⟩ := ih x v a h r1
            obtain ⟨q1, q2, q3⟩ := ihx w b h2 r2
            refine ⟨.cons p1 q1, ?_, ?_⟩
            · show (PyData.canLay0 a && PyData.canLayAll0 b) = true
              rw [p2, q2]
              rfl
            · show max (PyData.depth a) (PyData.depthAll b) ≤ n
              omega
    intro p v d e r
    cases p with
    | non => cases e; rw [r.non]; exact ⟨.non, rfl, Nat.zero_le _⟩
    | bl b => cases e; rw [r.bl]; exact ⟨.bl _, rfl, Nat.zero_le _⟩
    | int i => cases e; rw [r.int]; exact ⟨.int _, rfl, Nat.zero_le _⟩
    | str s =>
      unfold datF at e
      split at e
      · rename_i h
        cases e
        rw [r.str]
        exact ⟨.str _, strOk_tx h, Nat.zero_le _⟩
      · cases e
    | ty _ => cases e
    | adr _ => cases e
    | tup xs =>
      unfold datF at e
      cases h : xs.mapM (datF M n) with
      | none => rw [h] at e; cases e
      | some ds =>
        rw [h] at e
        cases e
        obtain ⟨a, vs, rfl, ha, ra⟩ := r.tup_at
        obtain ⟨p1, p2, p3⟩ := all xs vs ds h ra
        exact ⟨.tup (.of ha) p1, p2, Nat.succ_le_succ p3⟩
    | tpb xs =>
      unfold datF at e
      cases h : xs.mapM (datF M n) with
      | none => rw [h] at e; cases e
      | some ds =>
        rw [h] at e
        cases e
        obtain ⟨a, vs, ob, rfl, ha, hd, ra⟩ := r.tpb_at
        obtain ⟨p1, p2, p3⟩ := all xs vs ds h ra
        exact ⟨.tup (.inl (.inr ⟨ob, ha⟩)) p1, p2, Nat.succ_le_succ p3⟩
    | ref k =>
      unfold datF at e
      split at e
      · rename_i xs ek
        cases h : xs.mapM (datF M n) with
        | none => rw [h] at e; cases e
        | some ds =>
          rw [h] at e
          cases e
          obtain ⟨lk, rfl⟩ := r.ref_at
          obtain ⟨vs, e1, ra⟩ := R.obj k _ ek
          obtain ⟨p1, p2, p3⟩ := all xs vs ds h ra
          exact ⟨.lst (.of e1) p1, p2, Nat.succ_le_succ p3⟩
      · cases e
theorem dat_shaped {d : PyData} (h : PyData.canLay0 d = true) (hd : d.depth ≤ 60) : SeqAt.shaped d = true := by
  unfold SeqAt.shaped
  rw [h, decide_eq_true (show d.depth ≤ 64 by omega)]
  rfl
theorem smr_eqD : SmR tb E (rEqD K) pEqD := by
  intro ι M H p q x y Q R rp rq h
  unfold pEqD at h
  split at h
  · rename_i d e h1 h2
    obtain ⟨a1, a2, a3⟩ := dat_ok (K := K) R _ _ _ _ h1 rp
    obtain ⟨b1, b2, b3⟩ := dat_ok (K := K) R _ _ _ _ h2 rq
    exact ⟨d, e, a1, b1, dat_shaped a2 a3, dat_shaped b2 b3, h.okNow R .mk_bl⟩
  · exact h.elim
end
/-! ### x in a list or a tuple -/
def flatP : PV → Bool
  | .non => true
  | .bl _ => true
  | .int _ => true
  | .str _ => true
  | _ => false
end Pu
namespace Pu
open PySem PySem.Spec PyProof.Rows L2 LB
open Classical
/-! ### a list, a tuple or a text -/
def pIxQ (p q : PV) (M : PM) : Res PV := match p with
  | .tup _ => pIxT p q M
  | .str _ => pIxS p q M
  | _ => pIxL p q M
def bLenQ (as : List PV) (M : PM) : Res PV := match as with
  | [.str _] => bLenS as M
  | _ => bLen as M
theorem smr_ixQ {tb : List (Addr × Str)} {E : XK} {K : PySem.W.Frag} : SmR tb E (rIx K) pIxQ := by
  intro ι M H p q x y Q R rp rq h
  unfold pIxQ at h
  split at h
  · exact .inr (.inl (smr_ixT ι M H _ q x y Q R rp rq h))
  · exact .inr (.inr (smr_ixS ι M H _ q x y Q R rp rq h))
  · exact .inl (smr_ixL ι M H _ q x y Q R rp rq h)
theorem sb_lenQ {tb : List (Addr × Str)} {E : XK} {K : PySem.W.Frag} : SmL tb E (fun xs H Q => (∃ p ys, xs = [.ref p] ∧ (SqL K H p ys ∨ SqT K H p ys) ∧ Q (.int (ys.length : Nat)) H) ∨ ∃ z, xs = [.str z] ∧ z.length ≤ sizeLine ∧ Q (.int (z.length : Nat)) H) bLenQ := by
  intro ι M H ps xs Q R rs h
  unfold bLenQ at h
  split at h
  · exact .inr (sb_lenS ι M H _ xs Q R rs h)
  · exact .inl (sb_len ι M H _ xs Q R rs h)
/-! ### d.get(text), d a dict of the module -/
def fKGet (kvs : List (List Nat × Int)) (f : FE) : FE := fun σ M => (f σ M).bnd fun p M1 => match p with
  | .str s => .ok (match kvs.lookup s with
    | some n => .int n
    | none => .non) M1
  | _ => .bad
def LkV (K : PySem.W.Frag) (d : Addr) (kvs : List (List Nat × Int)) : Prop := ∀ s n, kvs.lookup s = some n → ∃ t, PySem.W.nsIn K d (tx s) = some (some (.int n t))
def LkN (ks : List Str) (kvs : List (List Nat × Int)) : Prop := ∀ s, kvs.lookup s = none → tx s ∉ ks
theorem lkv_nil {K : PySem.W.Frag} {d : Addr} : LkV K d [] := fun s n h => by cases h
theorem lkn_nil : LkN [] [] := fun s _ h => by cases h
theorem lkv_cons {K : PySem.W.Frag} {d : Addr} {k : List Nat} {n : Int} {z : Str} {kvs : List (List Nat × Int)} (h : ∃ t, PySem.W.nsIn K d z = some (some (.int n t))) (e : tx k = z) (r : LkV K d kvs) : LkV K d ((k, n) :: kvs) := fun s m hs => by
  rw [List.lookup_cons] at hs
  by_cases h1 : s = k
  · subst h1
    rw [beq_self_eq_true] at hs
    cases hs
    rw [e]
    exact h
  · rw [show (s == k) = false by simpa using h1] at hs
    exact r s m hs
theorem lkn_cons {ks : List Str} {k : List Nat} {n : Int} {z : Str} {kvs : List (List Nat × Int)} (e : tx k = z) (r : LkN ks kvs) : LkN (z :: ks) ((k, n) :: kvs) := fun s hs hm => by
  rw [List.lookup_cons] at hs
  by_cases h1 : s = k
  · subst h1
    rw [beq_self_eq_true] at hs
    cases hs
  · rw [show (s == k) = false by simpa using h1] at hs
    rcases List.mem_cons.mp hm with h2 | h2
    · rw [← e] at h2
      exact h1 (tx_inj.mp h2)
    · exact r s hs h2
theorem dic_other {K : PySem.W.Frag} {w : World} {a : Addr} {ks : List Str} (h : He.dicW K a = some (He.keysIn w.params ks)) {z : Str} (hz : z ∉ ks) : PySem.W.nsIn K a z = some none := by
  unfold He.dicW at h
  cases q : K.lookup a with
  | none => rw [q] at h; cases h
  | some o =>
    obtain ⟨oc, od, dt, osl⟩ := o
    rw [q] at h
    cases oc with
    | type c =>
      cases od with
      | none =>
        cases dt with
        | dict es n =>
          have h1 : (match decide (c = "dict") && (osl.isEmpty && !(a == sysModules)) with
            | true => some (es.toList.map He.keyOf)
            | false => none) = some (He.keysIn w.params ks) := h
          split at h1
          · have h2 := Option.some.inj h1
            unfold PySem.W.nsIn
            rw [q]
            have all : ∀ e ∈ es.toList, ∃ x t, e.key = .str x t ∧ x ∈ ks := by
              intro e he
              have : He.keyOf e ∈ He.keysIn w.params ks := by rw [← h2]; exact List.mem_map_of_mem he
              unfold He.keysIn at this
              obtain ⟨k, hk, e2⟩ := List.mem_map.mp this
              unfold He.keyOf at e2
              split at e2
              · rename_i x t ek
                have := (Prod.mk.inj (Option.some.inj e2)).1
                exact ⟨x, t, ek, by rw [← this]; exact hk⟩
              · cases e2
            have nf : es.toList.find? (·.key.isStr z) = none := by
              rw [List.find?_eq_none]
              intro e he
              obtain ⟨x, t, ek, hx⟩ := all e he
              rw [ek, PySem.W.isStr_of]
              intro hh
              obtain ⟨t', e'⟩ := Value.isStrOf_shape (x := z) hh
              injection e' with e1 e2
              exact hz (by rw [← e1]; exact hx)
            have nr : es.toList.any (·.refKey) = false := by
              rw [List.any_eq_false]
              intro e he
              obtain ⟨x, t, ek, hx⟩ := all e he
              unfold DictEntry.refKey
              rw [ek]
              exact fun z => Bool.noConfusion z
            simp only [nf, nr]
            rfl
          · cases h1
        | _ => cases h
      | some _ => cases h
    | _ => cases h
theorem sm_kget {tb : List (Addr × Str)} {E : XK} {K : PySem.W.Frag} {w : World} {d : Addr} {ks : List Str} {kvs : List (List Nat × Int)} {ty : TE} {fy : FE} (h : He.dicW K d = some (He.keysIn w.params ks)) (hv : LkV K d kvs) (hn : LkN ks kvs) (hy : SmE tb E ty fy) : SmE tb E (tKGet K w (tC (.ref d)) ty) (fKGet kvs fy) := fun ι M H σp σ Q R S w' => by
  obtain ⟨es, n, D⟩ := He.dicW_ok h
  refine ⟨d, es, n, rfl, D, hy.to R S w' fun ι1 M1 H1 p v o S1 rv w1 => ?_⟩
  split at w1
  · rename_i s
    cases e : kvs.lookup s with
    | none =>
      rw [e] at w1
      exact ⟨tx s, none, .non, rv.str, dic_other h (hn s e), rfl, Wp.okNow w1 o.r .mk_non⟩
    | some m =>
      rw [e] at w1
      obtain ⟨t, ht⟩ := hv s m e
      exact ⟨tx s, _, .int m, rv.str, ht, ⟨t, rfl⟩, Wp.okNow w1 o.r .mk_int⟩
  · exact w1.elim
/-! ### sorted(set(a list of texts)) -/
def dedup : List (List Nat) → List (List Nat)
  | [] => []
  | x :: r => if x ∈ r then dedup r else x :: dedup r
theorem mem_dedup {x : List Nat} : ∀ {l : List (List Nat)}, x ∈ dedup l ↔ x ∈ l
  | [] => Iff.rfl
  | y :: r => by
    unfold dedup
    split
    · rename_i h
      rw [mem_dedup, List.mem_cons]
      exact ⟨.inr, fun z => z.elim (fun e => by rw [e]; exact h) id⟩
    · rw [List.mem_cons, List.mem_cons, mem_dedup]
theorem nodup_dedup : ∀ {l : List (List Nat)}, (dedup l).Nodup
  | [] => List.nodup_nil
  | y :: r => by
    unfold dedup
    split
    · exact nodup_dedup
    · rename_i h
      exact List.nodup_cons.mpr ⟨fun z => h (mem_dedup.mp z), nodup_dedup⟩
def leT (a b : List Nat) : Bool := decide (a ≤ b)
def sortU (l : List (List Nat)) : List (List Nat) := (dedup l).mergeSort leT
theorem mem_sortU {x : List Nat} {l : List (List Nat)} : x ∈ sortU l ↔ x ∈ l := by
  unfold sortU
  rw [(List.mergeSort_perm _ _).mem_iff, mem_dedup]
theorem nodup_sortU {l : List (List Nat)} : (sortU l).Nodup := (List.mergeSort_perm _ _).nodup_iff.mpr nodup_dedup
theorem sorted_sortU {l : List (List Nat)} : (sortU l).Pairwise (· ≤ ·) := by
  have := List.pairwise_mergeSort (le := leT) (fun a b c h1 h2 => decide_eq_true (List.le_trans (of_decide_eq_true h1) (of_decide_eq_true h2))) (fun a b => by
    rcases List.le_total a b with h | h
    · unfold leT; rw [decide_eq_true h]; rfl
    · unfold leT; rw [decide_eq_true h, Bool.or_true]) (dedup l)
  exact this.imp fun h => of_decide_eq_true h
theorem perm_nodup {α : Type} : ∀ {l m : List α}, l.Nodup → m.Nodup → (∀ x, x ∈ l ↔ x ∈ m) → l.Perm m := by
  intro l m h1 h2 h
  exact (List.perm_ext_iff_of_nodup h1 h2).mpr h
theorem sortU_of {l ys : List (List Nat)} (nd : ys.Nodup) (m : ∀ x, x ∈ ys ↔ x ∈ l) (s : ys.Pairwise (· ≤ ·)) : ys = sortU l :=
  List.Perm.eq_of_pairwise (fun a b _ _ h1 h2 => List.le_antisymm h1 h2) s sorted_sortU (perm_nodup nd nodup_sortU fun x => (m x).trans mem_sortU.symm)
theorem ltCps_lt {a b : List Nat} : ltCps a b = true ↔ a < b := by rw [ltCps_eq, decide_eq_true_iff]
theorem rising_pw : ∀ {r : List Str} {p : Str}, risingS p r = true → ((p :: r).map (·.cps.toList)).Pairwise (· ≤ ·)
  | [], p, _ => by simp
  | x :: r, p, h => by
    have h' : (!ltCps x.cps.toList p.cps.toList && risingS x r) = true := h
    rw [Bool.and_eq_true] at h'
    have ih := rising_pw h'.2
    have hx : p.cps.toList ≤ x.cps.toList := by
      have h1 := h'.1
      rw [Bool.not_eq_true'] at h1
      intro z
      rw [ltCps_lt.mpr z] at h1
      cases h1
    rw [List.map_cons] at ih ⊢
    rw [List.map_cons]
    refine List.pairwise_cons.mpr ⟨fun y hy => ?_, ih⟩
    rcases List.mem_cons.mp hy with e | e
    · rw [e]; exact hx
    · exact List.le_trans hx ((List.pairwise_cons.mp ih).1 y e)
theorem sortedS_pw {ys : List Str} (h : sortedS ys = true) : (ys.map (·.cps.toList)).Pairwise (· ≤ ·) := by
  cases ys with
  | nil => exact .nil
  | cons x r => exact rising_pw h
def bSortSet (p : PV) (M : PM) : Res PV := match (lstAt M p).bind asStrs with
  | some ys => if ys.length < 2000 then .ok (.ref M.length) (M ++ [.lst ((sortU ys).map .str)]) else .bad
  | none => .bad
def fSortSet (f : FE) : FE := fun σ M => (f σ M).bnd bSortSet
theorem sm_sortset {tb : List (Addr × Str)} {E : XK} {K : PySem.W.Frag} {P : Program} {w : World} {te : TE} {fe : FE} (h : SmE tb E te fe) : SmE tb E (tCB (rSortX P w) (tCons (tCB (rSetX K P w) (tCons te tNil)) tNil)) (fSortSet fe) := fun ι M H σp σ Q R S w' =>
  h.to R S w' fun ι1 M1 H1 p v o S1 rv w1 => by
    unfold bSortSet at w1
    split at w1
    · rename_i ys e
      split at w1
      · rename_i hl
        obtain ⟨xs, e1, e2⟩ := bind_at e
        obtain ⟨k, vs, rfl, lk, rfl, ha, ra⟩ := lst_at o.r e1 rv
        have ev := asStrs_rel e2 ra
        subst ev
        refine ⟨_, ys.map tx, rfl, .of ha, by rw [List.length_map]; exact hl, fun a ks na nd mem lk' => ?_⟩
        refine ⟨a, ks, rfl, upd_same, by rw [List.length_map] at lk'; omega, fun zs q pm srt nq => ?_⟩
        have ez : zs.map (·.cps.toList) = sortU ys := by
          refine sortU_of ?_ (fun x => ?_) (sortedS_pw srt)
          · refine List.pairwise_map.mpr ((pm.nodup_iff.mpr nd).imp fun ne e => ne ?_)
            rename_i y1 y2
            rw [tx_of y1, tx_of y2, e]
          · rw [List.mem_map]
            constructor
            · rintro ⟨z, hz, rfl⟩
              obtain ⟨y, hy, e⟩ := List.mem_map.mp ((mem z).mp (pm.mem_iff.mp hz))
              rw [← e]
              exact hy
            · intro hx
              exact ⟨tx x, pm.mem_iff.mpr ((mem (tx x)).mpr (List.mem_map.mpr ⟨x, hx, rfl⟩)), rfl⟩
        have R2 := o.r.new (x := SetXO P w a ks) na
        have ee : zs.map V.str = ((sortU ys).map tx).map V.str := by
          rw [← ez, List.map_map, List.map_map]
          exact List.map_congr_left fun z _ => congrArg V.str (tx_of z)
        rw [ee]
        exact okLst (w1.back (ex_new na) (Nat.le_refl _)) R2 strs_rvs nq
      · exact w1.elim
    · exact w1.elim
end Pu
namespace Pu
open PySem PySem.Spec PyProof.Rows L2 LB
open Classical
/-! ### reckoning with runs -/
@[simp] theorem wf_non (n : Nat) : PV.wf n .non = True := by unfold PV.wf; rfl
@[simp] theorem wf_bl (n : Nat) (b : Bool) : PV.wf n (.bl b) = True := by unfold PV.wf; rfl
@[simp] theorem wf_int (n : Nat) (b : Int) : PV.wf n (.int b) = True := by unfold PV.wf; rfl
@[simp] theorem wf_str (n : Nat) (b : List Nat) : PV.wf n (.str b) = True := by unfold PV.wf; rfl
@[simp] theorem wf_ref (n k : Nat) : PV.wf n (.ref k) = (k < n) := by unfold PV.wf; rfl
@[simp] theorem wf_tup (n : Nat) (xs : List PV) : PV.wf n (.tup xs) = PV.wfs n xs := by rw [PV.wf]
@[simp] theorem wfs_nil (n : Nat) : PV.wfs n [] = True := by unfold PV.wfs; rfl
@[simp] theorem wfs_cons (n : Nat) (x : PV) (xs : List PV) : PV.wfs n (x :: xs) = (x.wf n ∧ PV.wfs n xs) := by rw [PV.wfs]
theorem wfs_iff {n : Nat} : ∀ {xs : List PV}, PV.wfs n xs ↔ ∀ x ∈ xs, x.wf n
  | [] => by simp
  | x :: xs => by rw [wfs_cons, wfs_iff]; simp
theorem wfs_strs {n : Nat} (ys : List (List Nat)) : PV.wfs n (ys.map PV.str) := wfs_iff.mpr fun x hx => by
  obtain ⟨y, _, rfl⟩ := List.mem_map.mp hx
  simp
@[simp] theorem wf_lst (n : Nat) (xs : List PV) : PO.wf n (.lst xs) = PV.wfs n xs := id rfl
@[simp] theorem ev_fC (p : PV) (σ : PS) (M : PM) : fC p σ M = .ok p M := id rfl
@[simp] theorem ev_fOp (g : PV → PV → PM → Res PV) (fa fb : FE) (σ : PS) (M : PM) : fOp g fa fb σ M = (fa σ M).bnd fun p M1 => (fb σ M1).bnd fun q M2 => g p q M2 := id rfl
@[simp] theorem ev_fUn (g : PV → PM → Res PV) (fa : FE) (σ : PS) (M : PM) : fUn g fa σ M = (fa σ M).bnd g := id rfl
@[simp] theorem ev_fTest (f : FE) (σ : PS) (M : PM) : fTest f σ M = (f σ M).bnd asB := id rfl
@[simp] theorem ev_fTru (f : FE) (σ : PS) (M : PM) : fTru f σ M = (f σ M).bnd asT := id rfl
@[simp] theorem ev_fNotT (f : FE) (σ : PS) (M : PM) : fNotT f σ M = (f σ M).bnd fun p M1 => (asT p M1).bnd fun b M2 => .ok (.bl (!b)) M2 := id rfl
@[simp] theorem ev_fAnd (f g : FT) (σ : PS) (M : PM) : fAnd f g σ M = (f σ M).bnd fun b M1 => if b = true then g σ M1 else .ok false M1 := id rfl
@[simp] theorem ev_fOr (f g : FT) (σ : PS) (M : PM) : fOr f g σ M = (f σ M).bnd fun b M1 => if b = true then .ok true M1 else g σ M1 := id rfl
@[simp] theorem ev_fNot (f : FT) (σ : PS) (M : PM) : fNot f σ M = (f σ M).bnd fun b M1 => .ok (!b) M1 := id rfl
@[simp] theorem ev_fYes (σ : PS) (M : PM) : fYes σ M = .ok true M := id rfl
@[simp] theorem ev_fAndV (f g : FE) (σ : PS) (M : PM) : fAndV f g σ M = (f σ M).bnd fun p M1 => (asB p M1).bnd fun b M2 => if b = true then g σ M2 else .ok (.bl false) M2 := id rfl
@[simp] theorem ev_fOrV (f g : FE) (σ : PS) (M : PM) : fOrV f g σ M = (f σ M).bnd fun p M1 => (asB p M1).bnd fun b M2 => if b = true then .ok (.bl true) M2 else g σ M2 := id rfl
@[simp] theorem ev_fNotV (f : FE) (σ : PS) (M : PM) : fNotV f σ M = (f σ M).bnd fun p M1 => (asB p M1).bnd fun b M2 => .ok (.bl (!b)) M2 := id rfl
@[simp] theorem ev_fIf (c : FT) (f g : FE) (σ : PS) (M : PM) : fIf c f g σ M = (c σ M).bnd fun b M1 => if b = true then f σ M1 else g σ M1 := id rfl
@[simp] theorem ev_fChain (g g' : PV → PV → PM → Res PV) (fa fb fc : FE) (σ : PS) (M : PM) : fChain g g' fa fb fc σ M = (fa σ M).bnd fun x M1 => (fb σ M1).bnd fun y M2 => (g x y M2).bnd fun z M3 => (asB z M3).bnd fun k M4 => if k = true then (fc σ M4).bnd fun w M5 => g' y w M5 else .ok (.bl false) M4 := id rfl
@[simp] theorem ev_fNil (σ : PS) (M : PM) : fNil σ M = .ok [] M := id rfl
@[simp] theorem ev_fCons (f : FE) (g : FA) (σ : PS) (M : PM) : fCons f g σ M = (f σ M).bnd fun p M1 => (g σ M1).bnd fun ps M2 => .ok (p :: ps) M2 := id rfl
@[simp] theorem ev_fTup (f : FA) (σ : PS) (M : PM) : fTup f σ M = (f σ M).bnd fun ps M1 => if ps.length ≤ lim then .ok (.tup ps) M1 else .bad := id rfl
@[simp] theorem ev_fLst (f : FA) (σ : PS) (M : PM) : fLst f σ M = (f σ M).bnd fun ps M1 => if ps.length ≤ lim then .ok (.ref M1.length) (M1 ++ [.lst ps]) else .bad := id rfl
@[simp] theorem ev_fNoPart (σ : PS) (M : PM) : fNoPart σ M = .ok none M := id rfl
@[simp] theorem ev_fSl (g : PV → Option Int → Option Int → PM → Res PV) (f : FE) (l h : FO) (σ : PS) (M : PM) : fSl g f l h σ M = (f σ M).bnd fun p M1 => (l σ M1).bnd fun lo M2 => (h σ M2).bnd fun hi M3 => g p lo hi M3 := id rfl
@[simp] theorem ev_fNext (σ : PS) (M : PM) : fNext σ M = .nx σ M := id rfl
@[simp] theorem ev_fBreak (σ : PS) (M : PM) : fBreak σ M = .bk σ M := id rfl
@[simp] theorem ev_fCont (σ : PS) (M : PM) : fCont σ M = .ct σ M := id rfl
@[simp] theorem ev_fDrop (f : FE) (σ : PS) (M : PM) : fDrop f σ M = (f σ M).go fun _ M1 => .nx σ M1 := id rfl
@[simp] theorem ev_fRet (f : FE) (σ : PS) (M : PM) : fRet f σ M = (f σ M).go fun p M1 => .rt p M1 := id rfl
@[simp] theorem ev_fRetN (σ : PS) (M : PM) : fRetN σ M = .rt .non M := id rfl
@[simp] theorem ev_fIfS (c : FT) (f g : FS) (σ : PS) (M : PM) : fIfS c f g σ M = (c σ M).go fun b M1 => if b = true then f σ M1 else g σ M1 := id rfl
@[simp] theorem ev_fNever (σ : PS) (M : PM) : fNever σ M = .bad := id rfl
@[simp] theorem ev_fFor (i : FI) (g : FG) (b : FS) (σ : PS) (M : PM) : fFor i g b σ M = (i σ M).go fun it M1 => forP it.ok g b it.xs σ M1 := id rfl
@[simp] theorem ev_fI (i : PV → PM → Res PIt) (f : FE) (σ : PS) (M : PM) : fI i f σ M = (f σ M).bnd i := id rfl
@[simp] theorem ev_fIA (i : List PV → PM → Res PIt) (f : FA) (σ : PS) (M : PM) : fIA i f σ M = (f σ M).bnd i := id rfl
@[simp] theorem ev_fB (g : List PV → PM → Res PV) (f : FA) (σ : PS) (M : PM) : fB g f σ M = (f σ M).bnd g := id rfl
@[simp] theorem ev_fBM (T : String) (g : PV → List PV → PM → Res PV) (fo : FE) (fr : FA) (σ : PS) (M : PM) : fBM T g fo fr σ M = (fo σ M).bnd fun p M1 => if isTyP M1 T p = true then (fr σ M1).bnd fun as M2 => g p as M2 else .bad := id rfl
@[simp] theorem ev_fBM0 (T : String) (g : PV → List PV → PM → Res PV) (fo : FE) (σ : PS) (M : PM) : fBM0 T g fo σ M = (fo σ M).bnd fun p M1 => if isTyP M1 T p = true then g p [] M1 else .bad := id rfl
@[simp] theorem ev_fM1 (g : PV → List PV → PM → Res PV) (fo fe : FE) (σ : PS) (M : PM) : fM1 g fo fe σ M = (fo σ M).bnd fun p M1 => if isS p = true then (fe σ M1).bnd fun y M2 => g p [y] M2 else .bad := id rfl
@[simp] theorem ev_fCall (F : FF) (das : List PV) (fr : FA) (σ : PS) (M : PM) : fCall F das fr σ M = (fr σ M).bnd fun as M1 => F (as ++ das) M1 := id rfl
@[simp] theorem ev_fCallN (F : FF) (das : List PV) (fr : FA) (σ : PS) (M : PM) : fCallN F das fr σ M = (fr σ M).bnd fun as M1 => (F (as ++ das) M1).nox := id rfl
@[simp] theorem ev_fLc (i : FI) (g : FG) (ft : FT) (fe : FE) (vs : List Nat) (σ : PS) (M : PM) : fLc i g ft fe vs σ M = (i σ M).bnd fun it M1 => (lcP it.ok g ft fe M1.length (wipeP σ vs) it.xs (M1 ++ [.lst []])).bnd fun _ M2 => .ok (.ref M1.length) M2 := id rfl
@[simp] theorem ev_fDc (i : FI) (g : FG) (ft : FT) (fk fv : FE) (vs : List Nat) (σ : PS) (M : PM) : fDc i g ft fk fv vs σ M = (i σ M).bnd fun it M1 => (dcP it.ok g ft fk fv M1.length (wipeP σ vs) it.xs (M1 ++ [.dct []])).bnd fun _ M2 => .ok (.ref M1.length) M2 := id rfl
@[simp] theorem ev_fGc (f : FE) (σ : PS) (M : PM) : fGc f σ M = gc M (f σ M) := id rfl
@[simp] theorem ev_fMake (C : Addr) (F : FF) (das : List PV) (fr : FA) (σ : PS) (M : PM) : fMake C F das fr σ M = (fr σ M).bnd fun as M1 => (F (.ref M1.length :: (as ++ das)) (M1 ++ [.ins C []])).bnd (asN M1.length) := id rfl
@[simp] theorem ev_fMakeN (C : Addr) (F : FF) (das : List PV) (fr : FA) (σ : PS) (M : PM) : fMakeN C F das fr σ M = (fr σ M).bnd fun as M1 => (F (.ref M1.length :: (as ++ das)) (M1 ++ [.ins C []])).nox.bnd (asN M1.length) := id rfl
@[simp] theorem ev_fMeth (C : Addr) (m : String) (F : FF) (das : List PV) (fo : FE) (fr : FA) (σ : PS) (M : PM) : fMeth C m F das fo fr σ M = (fo σ M).bnd fun p M1 => if hasM M1 C m p = true then (fr σ M1).bnd fun as M2 => F (p :: (as ++ das)) M2 else .bad := id rfl
@[simp] theorem ev_fDNewK (σ : PS) (M : PM) : fDNewK σ M = .ok (.ref M.length) (M ++ [.dct []]) := id rfl
@[simp] theorem ev_fDNewT (σ : PS) (M : PM) : fDNewT σ M = .ok (.ref M.length) (M ++ [.dtt []]) := id rfl
@[simp] theorem ev_fSortSet (f : FE) (σ : PS) (M : PM) : fSortSet f σ M = (f σ M).bnd bSortSet := id rfl
/-! garbage -/
theorem keep_app {M ex : PM} : keepOk M (M ++ ex) := ⟨by simp, fun i hi => .inl (List.getElem?_append_left hi)⟩
theorem keep_self {M : PM} : keepOk M M := ⟨Nat.le_refl _, fun i hi => .inl rfl⟩
theorem gc_flat {M ex : PM} {p : PV} (h : p.wf M.length) : gc M (.ok p (M ++ ex)) = .ok p M := by
  unfold gc
  simp only
  rw [if_pos ⟨keep_app, h⟩, List.take_left]
theorem gc_self {M M2 : PM} {p : PV} (h : M2.length = M.length) : gc M (.ok p M2) = .ok p M2 := by
  unfold gc
  simp only
  split
  · rw [← h, List.take_length]
  · split
    · split
      · split
        · rename_i o e k
          have := (List.getElem?_eq_some_iff.mp e).1
          omega
        · rfl
      · rfl
    · rfl
/-- a new list alone is left -/
theorem gc_new {M M2 : PM} {k : Nat} {o : PO} (hk : keepOk M M2) (lk : M.length ≤ k) (e : M2[k]? = some o) (w : o.wf M.length) : gc M (.ok (.ref k) M2) = .ok (.ref M.length) (M2.take M.length ++ [o]) := by
  unfold gc
  simp only
  rw [if_neg fun z => by have := z.2; simp at this; omega, e]
  simp only
  rw [if_pos ⟨hk, w, lk⟩]
theorem gc_keep {M M2 : PM} {p : PV} (hk : keepOk M M2) (w : p.wf M.length) : gc M (.ok p M2) = .ok p (M2.take M.length) := by
  unfold gc
  simp only
  rw [if_pos ⟨hk, w⟩]
theorem gc_exc {M M2 : PM} {x : Xc} (hk : keepOk M M2) : gc M (.exc x M2) = .exc x (M2.take M.length) := by
  unfold gc
  simp only
  rw [if_pos hk]
theorem keep_set {M ex : PM} {b : Nat} {o : PO} (w : o.wf M.length) : keepOk M (M.set b o ++ ex) := by
  refine ⟨by simp, fun i hi => ?_⟩
  rw [List.getElem?_append_left (by simpa using hi)]
  by_cases h : i = b
  · subst h
    exact .inr ⟨o, List.getElem?_set_self hi, w⟩
  · exact .inl (List.getElem?_set_ne (Ne.symm h))
theorem take_set {M ex : PM} {b : Nat} {o : PO} : (M.set b o ++ ex).take M.length = M.set b o := by
  rw [List.take_append_of_le_length (by simp), List.take_of_length_le (by simp)]
/-! loops -/
/-- a for whose body always goes on -/
theorem for_inv {ok : PM → Prop} {g : FG} {b : FS} {xs : List PV} {σ : PS} {M : PM} (I : Nat → PS → PM → Prop) (h0 : I 0 σ M) (hok : ∀ i σ M, i ≤ xs.length → I i σ M → ok M)
    (hs : ∀ i x σ M, xs[i]? = some x → I i σ M → ∃ σ1, g x σ = some σ1 ∧ ∃ σ2 M2, (b σ1 M = .nx σ2 M2 ∨ b σ1 M = .ct σ2 M2) ∧ I (i + 1) σ2 M2) : ∃ σ' M', forP ok g b xs σ M = .nx σ' M' ∧ I xs.length σ' M' := by
  induction xs generalizing σ M I with
  | nil =>
    refine ⟨σ, M, ?_, h0⟩
    unfold forP
    rw [if_pos (hok 0 σ M (Nat.le_refl _) h0)]
  | cons x xs ih =>
    unfold forP
    rw [if_pos (hok 0 σ M (Nat.zero_le _) h0)]
    obtain ⟨σ1, e1, σ2, M2, e2, i2⟩ := hs 0 x σ M rfl h0
    rw [e1]
    have go := ih (σ := σ2) (M := M2) (fun i => I (i + 1)) i2 (fun i σ M hi h => hok (i + 1) σ M (by simpa using hi) h) (fun i y σ M hy h => hs (i + 1) y σ M (by simpa using hy) h)
    simp only
    rcases e2 with e2 | e2 <;> (rw [e2]; exact go)
/-- what a part of a slice must be -/
def asI (p : PV) (M : PM) : Res (Option Int) := match p with
  | .int i => .ok (some i) M
  | _ => .bad
@[simp] theorem asI_int (i : Int) (M : PM) : asI (.int i) M = .ok (some i) M := id rfl
@[simp] theorem ev_fPart (f : FE) (σ : PS) (M : PM) : fPart f σ M = (f σ M).bnd asI := id rfl
def then2 (g : FS) (r : SR) : SR := match r with
  | .nx σ M => g σ M
  | r => r
@[simp] theorem then2_nx (g : FS) (σ : PS) (M : PM) : then2 g (.nx σ M) = g σ M := id rfl
@[simp] theorem then2_rt (g : FS) (p : PV) (M : PM) : then2 g (.rt p M) = .rt p M := id rfl
@[simp] theorem then2_exc (g : FS) (x : Xc) (M : PM) : then2 g (.exc x M) = .exc x M := id rfl
@[simp] theorem then2_bad (g : FS) : then2 g .bad = .bad := id rfl
@[simp] theorem then2_ite (g : FS) (p : Prop) [Decidable p] (a b : SR) : then2 g (if p then a else b) = if p then then2 g a else then2 g b := by split <;> rfl
@[simp] theorem ev_fSeq (f g : FS) (σ : PS) (M : PM) : fSeq f g σ M = then2 g (f σ M) := id rfl
def toSt (M : PM) (o : Option PS) : SR := match o with
  | some σ => .nx σ M
  | none => .bad
@[simp] theorem toSt_some (M : PM) (σ : PS) : toSt M (some σ) = .nx σ M := id rfl
@[simp] theorem ev_fAsg (f : FE) (g : FG) (σ : PS) (M : PM) : fAsg f g σ M = (f σ M).go fun p M1 => toSt M1 (g p σ) := id rfl
@[simp] theorem ev_gNm (i : Nat) (p : PV) (σ : PS) : gNm i p σ = some (σ.set i (some p)) := id rfl
@[simp] theorem ev_gTp (gs : List PV → PS → Option PS) (xs : List PV) (σ : PS) : gTp gs (.tup xs) σ = gs xs σ := id rfl
@[simp] theorem ev_gsNil (σ : PS) : gsNil [] σ = some σ := id rfl
@[simp] theorem ev_gsCons (g : FG) (gs : List PV → PS → Option PS) (p : PV) (r : List PV) (σ : PS) : gsCons g gs (p :: r) σ = (g p σ).bind fun σ1 => gs r σ1 := id rfl
@[simp] theorem bnd_ite {α β : Type} (p : Prop) [Decidable p] (a b : Res α) (k : α → PM → Res β) : (if p then a else b).bnd k = if p then a.bnd k else b.bnd k := by split <;> rfl
@[simp] theorem go_ite {α : Type} (p : Prop) [Decidable p] (a b : Res α) (k : α → PM → SR) : (if p then a else b).go k = if p then a.go k else b.go k := by split <;> rfl
@[simp] theorem asB_bl (b : Bool) (M : PM) : asB (.bl b) M = .ok b M := id rfl
@[simp] theorem pI0_int (g : Int → Int → PV) (i j : Int) (M : PM) : pI0 g (.int i) (.int j) M = .ok (g i j) M := id rfl
theorem pI_int {C : Int → Int → Prop} {g : Int → Int → PV} {i j : Int} {M : PM} (h : C i j) : pI C g (.int i) (.int j) M = .ok (g i j) M := if_pos h
@[simp] theorem pU_int (g : Int → PV) (i : Int) (M : PM) : pU g (.int i) M = .ok (g i) M := id rfl
@[simp] theorem pEq_int (i j : Int) (M : PM) : pEq (.int i) (.int j) M = .ok (.bl (decide (i = j))) M := id rfl
@[simp] theorem pEq_str (i j : List Nat) (M : PM) : pEq (.str i) (.str j) M = .ok (.bl (decide (i = j))) M := id rfl
@[simp] theorem pEq_bl (i j : Bool) (M : PM) : pEq (.bl i) (.bl j) M = .ok (.bl (decide (i = j))) M := id rfl
@[simp] theorem pNe_int (i j : Int) (M : PM) : pNe (.int i) (.int j) M = .ok (.bl (!decide (i = j))) M := id rfl
@[simp] theorem pNe_str (i j : List Nat) (M : PM) : pNe (.str i) (.str j) M = .ok (.bl (!decide (i = j))) M := id rfl
@[simp] theorem pNe_nonint (j : Int) (M : PM) : pNe .non (.int j) M = .ok (.bl true) M := id rfl
@[simp] theorem pIsN_non (p : PV) (M : PM) : pIsN p .non M = .ok (.bl (isNon p)) M := id rfl
@[simp] theorem pNotN_non (p : PV) (M : PM) : pNotN p .non M = .ok (.bl (!isNon p)) M := id rfl
@[simp] theorem isNon_non : isNon .non = true := id rfl
@[simp] theorem isNon_str (s : List Nat) : isNon (.str s) = false := id rfl
@[simp] theorem isNon_tup (s : List PV) : isNon (.tup s) = false := id rfl
@[simp] theorem isNon_int (s : Int) : isNon (.int s) = false := id rfl
theorem pAddS_str {a b : List Nat} {M : PM} (h : a.length + b.length ≤ lim) : pAddS (.str a) (.str b) M = .ok (.str (a ++ b)) M := if_pos h
@[simp] theorem pInS_one (c : Nat) (z : List Nat) (M : PM) : pInS (.str [c]) (.str z) M = .ok (.bl (decide (c ∈ z))) M := id rfl
@[simp] theorem lstAt_ref' (M : PM) (k : Nat) (xs : List PV) (h : M[k]? = some (.lst xs)) : lstAt M (.ref k) = some xs := by unfold lstAt; simp only [h]
theorem pIxT_at {xs : List PV} {i : Int} {x : PV} {M : PM} (h : atI xs i = some x) : pIxT (.tup xs) (.int i) M = .ok x M := by unfold pIxT; simp only [h]
theorem pIxL_at {k : Nat} {xs : List PV} {i : Int} {x : PV} {M : PM} (e : M[k]? = some (.lst xs)) (h : atI xs i = some x) : pIxL (.ref k) (.int i) M = .ok x M := by unfold pIxL; simp only [lstAt_ref' M k xs e, h]
theorem pIxS_at {xs : List Nat} {i : Int} {x : Nat} {M : PM} (hl : xs.length ≤ lim) (h : atI xs i = some x) : pIxS (.str xs) (.int i) M = .ok (.str [x]) M := by unfold pIxS; simp only [if_pos hl, h]
@[simp] theorem bLen_tup (xs : List PV) (M : PM) : bLen [.tup xs] M = .ok (.int (xs.length : Nat)) M := id rfl
theorem bLen_lst {k : Nat} {xs : List PV} {M : PM} (e : M[k]? = some (.lst xs)) : bLen [.ref k] M = .ok (.int (xs.length : Nat)) M := by unfold bLen seqAt; simp only [lstAt_ref' M k xs e]
theorem bLenS_str {s : List Nat} {M : PM} (h : s.length ≤ lim) : bLenS [.str s] M = .ok (.int (s.length : Nat)) M := if_pos h
@[simp] theorem pSlT_tup (xs : List PV) (lo hi : Option Int) (M : PM) : pSlT (.tup xs) lo hi M = .ok (.tup (cut xs lo hi)) M := id rfl
theorem pSlS_str {xs : List Nat} {lo hi : Option Int} {M : PM} (h : xs.length ≤ lim) : pSlS (.str xs) lo hi M = .ok (.str (cut xs lo hi)) M := if_pos h
@[simp] theorem bTup_tup (xs : List PV) (M : PM) : bTup [.tup xs] M = .ok (.tup xs) M := id rfl
theorem bTup_lst {k : Nat} {xs : List PV} {M : PM} (e : M[k]? = some (.lst xs)) : bTup [.ref k] M = .ok (.tup xs) M := by unfold bTup seqAt; simp only [lstAt_ref' M k xs e]
@[simp] theorem itT_tup (xs : List PV) (M : PM) : itT (.tup xs) M = .ok ⟨xs, fun _ => True⟩ M := id rfl
@[simp] theorem itS_str (s : List Nat) (M : PM) : itS (.str s) M = .ok ⟨s.map fun c => .str [c], fun _ => True⟩ M := id rfl
theorem itR1_int {j : Int} {M : PM} (h : -(2 ^ 62) ≤ j ∧ j < 2 ^ 62) : itR1 [.int j] M = .ok ⟨upTo 0 j.toNat, fun _ => True⟩ M := if_pos h
@[simp] theorem itZ_tup (xs ys : List PV) (M : PM) : itZ [.tup xs, .tup ys] M = .ok ⟨zipP xs ys, fun _ => True⟩ M := id rfl
@[simp] theorem itET_tup (xs : List PV) (M : PM) : itET [.tup xs] M = .ok ⟨enumP xs, fun _ => True⟩ M := id rfl
@[simp] theorem itES_str (s : List Nat) (M : PM) : itES [.str s] M = .ok ⟨enumP (s.map fun c => .str [c]), fun _ => True⟩ M := id rfl
@[simp] theorem isTy_str (M : PM) (s : List Nat) : isTyP M "str" (.str s) = true := id rfl
theorem isTy_lst {M : PM} {k : Nat} {xs : List PV} (e : M[k]? = some (.lst xs)) : isTyP M "list" (.ref k) = true := by unfold isTyP; simp only [e]; rfl
@[simp] theorem isS_str (s : List Nat) : isS (.str s) = true := id rfl
@[simp] theorem mFind3_at (a b : List Nat) (i : Int) (M : PM) : mFind3 (.str a) [.str b, .int i] M = .ok (.int (Txt.find3 (tx a) (tx b) i)) M := id rfl
@[simp] theorem fnRes_nx (σ : PS) (M : PM) : fnRes (.nx σ M) = .ok .non M := id rfl
@[simp] theorem fnRes_rt (p : PV) (M : PM) : fnRes (.rt p M) = .ok p M := id rfl
@[simp] theorem fnRes_exc (x : Xc) (M : PM) : fnRes (.exc x M) = .exc x M := id rfl
@[simp] theorem fnRes_ite (p : Prop) [Decidable p] (a b : SR) : fnRes (if p then a else b) = if p then fnRes a else fnRes b := by split <;> rfl
theorem fn_at {k n : Nat} {B : FS} {as : List PV} {M : PM} (h : as.length = k) : fnOf k n B as M = gc M (fnRes (B (startP n as) M)) := if_pos h
@[simp] theorem forP_nil (ok : PM → Prop) (g : FG) (b : FS) (σ : PS) (M : PM) (h : ok M) : forP ok g b [] σ M = .nx σ M := if_pos h
@[simp] theorem gc_id (M : PM) (p : PV) : gc M (.ok p M) = .ok p M := gc_self rfl
@[simp] theorem gc_excId (M : PM) (x : Xc) : gc M (.exc x M) = .exc x M := by rw [gc_exc keep_self, List.take_length]
@[simp] theorem gc_ite (M : PM) (p : Prop) [Decidable p] (a b : Res PV) : gc M (if p then a else b) = if p then gc M a else gc M b := by split <;> rfl
@[simp] theorem ev_fVar0 (p : PV) (r : PS) (M : PM) : fVar 0 (some p :: r) M = .ok p M := id rfl
@[simp] theorem ev_fVarS (i : Nat) (x : Option PV) (r : PS) (M : PM) : fVar (i + 1) (x :: r) M = fVar i r M := id rfl
/-- .. the items as images -/
theorem lc_mapF {α : Type} {ok : PM → Prop} {g : FG} {ft : FT} {fe : FE} {σ : PS} {e h : α → PV} {M : PM} : ∀ {zs : List α} {acc : List PV}, (∀ acc, ok (M ++ [.lst acc])) → acc.length + zs.length ≤ lim →
    (∀ z ∈ zs, ∃ σ1, g (e z) σ = some σ1 ∧ ∀ acc, ft σ1 (M ++ [.lst acc]) = .ok true (M ++ [.lst acc]) ∧ fe σ1 (M ++ [.lst acc]) = .ok (h z) (M ++ [.lst acc])) →
    lcP ok g ft fe M.length σ (zs.map e) (M ++ [.lst acc]) = .ok () (M ++ [.lst (acc ++ zs.map h)])
  | [], acc, hok, _, _ => by
    rw [List.map_nil, List.map_nil, List.append_nil]
    unfold lcP
    rw [if_pos (hok acc)]
  | x :: xs, acc, hok, hl, hs => by
    rw [List.map_cons]
    unfold lcP
    rw [if_pos (hok acc)]
    obtain ⟨σ1, e1, h1⟩ := hs x List.mem_cons_self
    obtain ⟨e2, e3⟩ := h1 acc
    rw [e1]
    simp only
    rw [e2, nox_ok, bnd_ok, if_pos rfl, e3, nox_ok, bnd_ok]
    have e4 : (M ++ [PO.lst acc])[M.length]? = some (.lst acc) := by simp
    rw [e4]
    simp only
    rw [List.length_cons] at hl
    rw [if_pos (by omega : acc.length < lim)]
    have e5 : (M ++ [PO.lst acc]).set M.length (.lst (acc ++ [h x])) = M ++ [.lst (acc ++ [h x])] := by simp
    rw [e5, lc_mapF hok (by simp; omega) (fun y hy => hs y (List.mem_cons_of_mem _ hy))]
    simp
@[simp] theorem bAll_at (M ex : PM) (bs : List Bool) : bAll [.ref M.length] (M ++ .lst (bs.map PV.bl) :: ex) = .ok (.bl (bs.all id)) (M ++ .lst (bs.map PV.bl) :: ex) := by
  have h : lstAt (M ++ .lst (bs.map PV.bl) :: ex) (.ref M.length) = some (bs.map PV.bl) := lstAt_ref' _ _ _ (by simp)
  unfold bAll
  simp only [h, Option.bind_some, asBls_map]
@[simp] theorem bAny_at (M ex : PM) (bs : List Bool) : bAny [.ref M.length] (M ++ .lst (bs.map PV.bl) :: ex) = .ok (.bl (bs.any id)) (M ++ .lst (bs.map PV.bl) :: ex) := by
  have h : lstAt (M ++ .lst (bs.map PV.bl) :: ex) (.ref M.length) = some (bs.map PV.bl) := lstAt_ref' _ _ _ (by simp)
  unfold bAny
  simp only [h, Option.bind_some, asBls_map]
@[simp] theorem bSum_at (M ex : PM) (bs : List Int) : bSum [.ref M.length] (M ++ .lst (bs.map PV.int) :: ex) = .ok (.int bs.sum) (M ++ .lst (bs.map PV.int) :: ex) := by
  have h : lstAt (M ++ .lst (bs.map PV.int) :: ex) (.ref M.length) = some (bs.map PV.int) := lstAt_ref' _ _ _ (by simp)
  unfold bSum
  simp only [h, Option.bind_some, asInts_map]
@[simp] theorem bTup_at (M ex : PM) (xs : List PV) : bTup [.ref M.length] (M ++ .lst xs :: ex) = .ok (.tup xs) (M ++ .lst xs :: ex) := bTup_lst (by simp)
@[simp] theorem bAll_atF {α : Type} (M ex : PM) (f : α → Bool) (zs : List α) : bAll [.ref M.length] (M ++ .lst (zs.map fun z => PV.bl (f z)) :: ex) = .ok (.bl (zs.all f)) (M ++ .lst (zs.map fun z => PV.bl (f z)) :: ex) := by
  have h : zs.map (fun z => PV.bl (f z)) = (zs.map f).map PV.bl := by rw [List.map_map]; rfl
  rw [h, bAll_at, List.all_map]
  rfl
@[simp] theorem bAny_atF {α : Type} (M ex : PM) (f : α → Bool) (zs : List α) : bAny [.ref M.length] (M ++ .lst (zs.map fun z => PV.bl (f z)) :: ex) = .ok (.bl (zs.any f)) (M ++ .lst (zs.map fun z => PV.bl (f z)) :: ex) := by
  have h : zs.map (fun z => PV.bl (f z)) = (zs.map f).map PV.bl := by rw [List.map_map]; rfl
  rw [h, bAny_at, List.any_map]
  rfl
@[simp] theorem bSum_atF {α : Type} (M ex : PM) (f : α → Int) (zs : List α) : bSum [.ref M.length] (M ++ .lst (zs.map fun z => PV.int (f z)) :: ex) = .ok (.int (zs.map f).sum) (M ++ .lst (zs.map fun z => PV.int (f z)) :: ex) := by
  have h : zs.map (fun z => PV.int (f z)) = (zs.map f).map PV.int := by rw [List.map_map]; rfl
  rw [h, bSum_at]
/-- a loop by its word -/
theorem for_word {α : Type} (P : SR → Prop) {ok : PM → Prop} {g : FG} {b : FS} {e : α → PV} {M : PM} {zs : List α} {σ : PS} (I : Nat → PS → PM → Prop) (h0 : I 0 σ M) (hok : ∀ i σ M, i ≤ zs.length → I i σ M → ok M)
    (hs : ∀ i z σ M, zs[i]? = some z → I i σ M → ∃ σ1, g (e z) σ = some σ1 ∧ ∃ σ2 M2, (b σ1 M = .nx σ2 M2 ∨ b σ1 M = .ct σ2 M2) ∧ I (i + 1) σ2 M2) (h1 : ∀ σ' M', I zs.length σ' M' → P (.nx σ' M')) : P (forP ok g b (zs.map e) σ M) := by
  obtain ⟨σ', M', e1, i1⟩ := for_inv (xs := zs.map e) (ok := ok) (g := g) (b := b) I h0 (fun i σ M hi h => hok i σ M (by simpa using hi) h) (fun i x σ M hx h => by
    rw [List.getElem?_map] at hx
    cases hz : zs[i]? with
    | none => rw [hz] at hx; cases hx
    | some z =>
      rw [hz] at hx
      cases hx
      exact hs i z σ M hz h)
  rw [e1]
  rw [List.length_map] at i1
  exact h1 σ' M' i1
def toM (σ : PS) (o : Option PM) : SR := match o with
  | some M => .nx σ M
  | none => .bad
@[simp] theorem toM_some (σ : PS) (M : PM) : toM σ (some M) = .nx σ M := id rfl
/-- .. at any place and store -/
theorem lc_mapE {α : Type} {ok : PM → Prop} {g : FG} {ft : FT} {fe : FE} {σ : PS} {e : α → PV} {d : Nat} {N : PM} {zs : List α} (M : PM) (h : α → PV) (hd : d = M.length) (hN : N = M ++ [.lst []]) (hok : ∀ acc, ok (M ++ [.lst acc])) (hl : zs.length ≤ lim)
    (hs : ∀ z ∈ zs, ∃ σ1, g (e z) σ = some σ1 ∧ ∀ acc, ft σ1 (M ++ [.lst acc]) = .ok true (M ++ [.lst acc]) ∧ fe σ1 (M ++ [.lst acc]) = .ok (h z) (M ++ [.lst acc])) :
    lcP ok g ft fe d σ (zs.map e) N = .ok () (M ++ [.lst (zs.map h)]) := by
  subst hd hN
  rw [lc_mapF (h := h) hok (by simpa using hl) hs, List.nil_append]
end Pu
namespace Pu
open PySem
/-- where the program's classes stand -/
structure CA where
  LeakError : Addr := 0
  BadName : Addr := 0
  BadWord : Addr := 0
  BadAct : Addr := 0
  BadScene : Addr := 0
  BadWish : Addr := 0
  BadBody : Addr := 0
  BadAtom : Addr := 0
  BadDeed : Addr := 0
  BadText : Addr := 0
  Taken : Addr := 0
  Full : Addr := 0
  Heavy : Addr := 0
  NoMachine : Addr := 0
  NoRow : Addr := 0
  NoMove : Addr := 0
  NoLetter : Addr := 0
  NoLab : Addr := 0
  NoWish : Addr := 0
  NoDeed : Addr := 0
  Lab : Addr := 0
  Search : Addr := 0
  Shelf : Addr := 0
  Trail : Addr := 0
  Plan : Addr := 0
  Bench : Addr := 0
  Desk : Addr := 0
  nd : List (Addr × NestedKey) → Addr → L2.HO := fun _ _ => .lst []
  mt : Nat → Addr := fun _ => 0
end Pu
namespace Pu
open PySem PySem.Spec PyProof.Rows L2 LB
/-! ### the end of a law: behind its bag it is a pure run -/
theorem rvs_ints {ι : Nat → Addr} {N : Nat} {H : Hp} : ∀ ns : List Int, Rvs ι N H (ns.map PV.int) (ns.map V.int)
  | [] => .nil
  | n :: ns => .cons .mk_int (rvs_ints ns)
theorem law_cut {X : Cx} {st : Stmt} {rest : List Stmt} {t1 : TS} {tb : List (Addr × Str)} {E : XK} {B : FS} (h1 : L2.PS X st t1) (h2 : ∃ tr, PSs X rest tr ∧ SmS tb E tr B) {D : Ends} {σ : L2.St} {H : Hp} (h3 : ∀ tr, SmS tb E tr B → (tSeq t1 tr) D σ H) : ∃ t, PSs X (st :: rest) t ∧ t D σ H := by
  obtain ⟨tr, h2, h4⟩ := h2
  exact ⟨_, pss_cons h1 h2, h3 tr h4⟩
theorem law_end {tb : List (Addr × Str)} {E : XK} {t : TS} {B : FS} {n : Nat} {a b cl : Addr} {H1 : Hp} {D : Ends} (sm : SmS tb E t B) (hB : Bag b cl H1) (ht : LamX.Tabs tb H1)
    (h : ∀ (ns : List Int) (i r sd ct : Int), 0 ≤ i → ∃ M', B (none :: some (.ref 1) :: List.replicate n none) [.lst (ns.map PV.int), .lst [.ref 0, .int i, .int r, .int sd, .int ct]] = .rt (.bl true) M')
    (q : ∀ H', D.rt (.bl true) H') : t D (some (.ref a) :: some (.ref b) :: List.replicate n none) H1 := by
  obtain ⟨nb, ns, i, r, sd, ct, e1, e2, hl, i0⟩ := hB
  obtain ⟨M', e⟩ := h ns i r sd ct i0
  have R : RM tb (fun k => if k = 0 then cl else b) [.lst (ns.map PV.int), .lst [.ref 0, .int i, .int r, .int sd, .int ct]] H1 := by
    refine ⟨fun j k hj hk e => ?_, fun j o ho => ?_, ht⟩
    · have hj : j < 2 := hj
      have hk : k < 2 := hk
      rcases (show j = 0 ∨ j = 1 by omega) with rfl | rfl <;> rcases (show k = 0 ∨ k = 1 by omega) with rfl | rfl
      · rfl
      · exact absurd e nb
      · exact absurd e.symm nb
      · rfl
    · match j, ho with
      | 0, ho =>
        cases ho
        exact ⟨_, e2, rvs_ints ns⟩
      | 1, ho =>
        cases ho
        exact ⟨_, e1, .cons (.mk_ref (ι := fun k => if k = 0 then cl else b) (k := 0) (by show 0 < 2; decide)) (.cons .mk_int (.cons .mk_int (.cons .mk_int (.cons .mk_int .nil))))⟩
  refine sm _ _ H1 (none :: some (.ref 1) :: List.replicate n none) _ D R ⟨by simp, fun j p hp => ?_⟩ ?_
  · match j, hp with
    | 0, hp => cases hp
    | 1, hp =>
      cases hp
      exact ⟨_, rfl, .mk_ref (ι := fun k => if k = 0 then cl else b) (k := 1) (by show 1 < 2; decide)⟩
    | j + 2, hp =>
      have hp : (List.replicate n (none : Option PV))[j]? = some (some p) := hp
      rw [List.getElem?_replicate] at hp
      split at hp <;> cases hp
  · rw [e]
    exact fun ι' H' v _ _ _ hv => by rw [hv.bl]; exact q H'
end Pu
namespace Pu
open PySem PySem.Spec PyProof.Rows L2 LB
open Classical
/-! ### a def that never raises, where one that raises is asked for -/
theorem fn_any {P : Program} {w : World} {K : PySem.W.Frag} {mg : Str → Option Value} {base : Heap} {CX : CXT} {k : Nat} {f : Addr} {fd : FuncData} {ps : List Str} {sp : Sp} (F : FnOk P w K mg base CX0 k f fd ps sp) : FnOk P w K mg base CX k f fd ps sp :=
  ⟨F.len, fun A outer s H args us vs Q E hr he hb hv hs => codeAny_mono (F.run A outer s H args us vs Q E hr he hb hv hs) fun r s2 h => by
    cases r with
    | ok r => cases r <;> exact h
    | error e => exact (h : False).elim⟩
/-! ### the same data -/
def SamP (M : PM) : Nat → PV → PV → Prop
  | 0, p, q => flatP p = true ∧ p = q
  | n + 1, p, q => (flatP p = true ∧ p = q) ∨ ∃ xs ys, ((p = .tup xs ∧ q = .tup ys) ∨ ∃ i j, p = .ref i ∧ q = .ref j ∧ M[i]? = some (.lst xs) ∧ M[j]? = some (.lst ys)) ∧ xs.length < 100000 ∧ Paired (SamP M n) xs ys
noncomputable def F_same (n : Nat) : FF := fun as M => match as with
  | [p, q] => if SamP M n p q then .ok (.bl true) M else .bad
  | _ => .bad
section
variable {tb : List (Addr × Str)} {ι : Nat → Addr} {M : PM} {H H' : Hp} {K : PySem.W.Frag}
theorem flat_rv {N : Nat} {p : PV} {v w : V} (h : flatP p = true) (a : Rv ι N H p v) (b : Rv ι N H p w) : flat1 v = true ∧ v = w := by
  cases p with
  | non => rw [a.non, b.non]; exact ⟨rfl, rfl⟩
  | bl x => rw [a.bl, b.bl]; exact ⟨rfl, rfl⟩
  | int x => rw [a.int, b.int]; exact ⟨rfl, rfl⟩
  | str x => rw [a.str, b.str]; exact ⟨rfl, rfl⟩
  | ty _ => cases h
  | adr _ => cases h
  | ref _ => cases h
  | tup _ => cases h
  | tpb _ => cases h
theorem paired_two {α β γ δ : Type} {F : α → β → Prop} {G : α → γ → Prop} {I : β → δ → Prop} {J : γ → δ → Prop} (f : ∀ p q v w, F p q → G p v → I q w → J v w) : ∀ {ps : List α} {qs : List β} {vs : List γ} {ws : List δ}, Paired F ps qs → Paired G ps vs → Paired I qs ws → Paired J vs ws
  | _, _, _, _, .nil, .nil, .nil => .nil
  | _, _, _, _, .cons a b, .cons c d, .cons e g => .cons (f _ _ _ _ a c e) (paired_two f b d g)
theorem samP_sam (R : RM tb ι M H) : ∀ {n : Nat} {p q : PV} {v w : V}, SamP M n p q → Rv ι M.length H p v → Rv ι M.length H q w → Sam K H n v w
  | 0, p, q, v, w, h, a, b => by
    obtain ⟨h1, rfl⟩ := h
    exact flat_rv h1 a b
  | n + 1, p, q, v, w, h, a, b => by
    rcases h with ⟨h1, rfl⟩ | ⟨xs, ys, h1, hl, pp⟩
    · exact .inl (flat_rv h1 a b)
    · rcases h1 with ⟨rfl, rfl⟩ | ⟨i, j, rfl, rfl, e1, e2⟩
      · obtain ⟨c, vs, rfl, e1, r1⟩ := a.tup_at
        obtain ⟨d, ws, rfl, e2, r2⟩ := b.tup_at
        exact .inr ⟨c, d, vs, ws, rfl, rfl, .inr ⟨e1, e2⟩, by rw [← r1.len]; exact hl, paired_two (F := SamP M n) (G := Rv ι M.length H) (I := Rv ι M.length H) (J := Sam K H n) (fun _ _ _ _ h a b => samP_sam (n := n) R h a b) pp r1.pr r2.pr⟩
      · obtain ⟨vs, g1, r1⟩ := R.obj i _ e1
        obtain ⟨ws, g2, r2⟩ := R.obj j _ e2
        exact .inr ⟨ι i, ι j, vs, ws, a.ref_at.2, b.ref_at.2, .inl ⟨g1, g2⟩, by rw [← r1.len]; exact hl, paired_two (F := SamP M n) (G := Rv ι M.length H) (I := Rv ι M.length H) (J := Sam K H n) (fun _ _ _ _ h a b => samP_sam (n := n) R h a b) pp r1.pr r2.pr⟩
theorem ex_same {n : Nat} (s : Same H H') : Ex ι ι n H H' := ⟨fun _ _ => rfl, fun a vs e => s _ _ e, fun a o u e => s _ _ e⟩
theorem RM.same (r : RM tb ι M H) (s : Same H H') : RM tb ι M H' :=
  ⟨r.inj, fun i o h => by
    obtain ⟨x, e, _⟩ := (r.obj i o h).some
    exact (r.obj i o h).mono (ex_same s) (Nat.le_refl _) ((s _ _ e).trans e.symm), r.tab.ext s⟩
theorem same_imp {n : Nat} {vs : List V} {Q : VK} {E : XK} (h : spF tb (F_same n) vs H Q E) : ∃ v w, vs = [v, w] ∧ Sam K H n v w ∧ ∀ H', Same H H' → Q (.bl true) H' := by
  obtain ⟨ι, M, as, R, r, w⟩ := h
  unfold F_same at w
  split at w
  · rename_i p q
    split at w
    · rename_i sp
      unfold Rvs at r
      obtain ⟨v, r', rfl, q1, r⟩ := r
      unfold Rvs at r
      obtain ⟨u, r'', rfl, q2, r⟩ := r
      unfold Rvs at r
      subst r
      exact ⟨v, u, rfl, samP_sam R sp q1 q2, fun H' s => w ι H' _ (ex_same s) (Nat.le_refl _) (R.same s) .mk_bl⟩
    · exact w.elim
  · exact w.elim
/-- data of tuples alone -/
def Flt : Nat → PV → Prop
  | _, .non => True
  | _, .bl _ => True
  | _, .int _ => True
  | _, .str _ => True
  | n + 1, .tup xs => xs.length < 100000 ∧ ∀ x ∈ xs, Flt n x
  | _, _ => False
theorem paired_refl {α : Type} {F : α → α → Prop} : ∀ {xs : List α}, (∀ x ∈ xs, F x x) → Paired F xs xs
  | [], _ => .nil
  | x :: xs, h => .cons (h x List.mem_cons_self) (paired_refl fun y hy => h y (List.mem_cons_of_mem _ hy))
theorem samP_refl : ∀ {n : Nat} {p : PV}, Flt n p → SamP M n p p
  | 0, p, h => by cases p <;> first | exact ⟨rfl, rfl⟩ | exact (h : False).elim
  | n + 1, p, h => by
    cases p with
    | tup xs =>
      unfold Flt at h
      exact .inr ⟨xs, xs, .inl ⟨rfl, rfl⟩, h.1, paired_refl fun x hx => samP_refl (h.2 x hx)⟩
    | non => exact .inl ⟨rfl, rfl⟩
    | bl _ => exact .inl ⟨rfl, rfl⟩
    | int _ => exact .inl ⟨rfl, rfl⟩
    | str _ => exact .inl ⟨rfl, rfl⟩
    | ty _ => exact (h : False).elim
    | adr _ => exact (h : False).elim
    | ref _ => exact (h : False).elim
    | tpb _ => exact (h : False).elim
theorem F_same_lst {n i j : Nat} {xs : List PV} (e1 : M[i]? = some (.lst xs)) (e2 : M[j]? = some (.lst xs)) (l : xs.length < 100000) (h : ∀ x ∈ xs, Flt n x) : F_same (n + 1) [.ref i, .ref j] M = .ok (.bl true) M :=
  if_pos (.inr ⟨xs, xs, .inr ⟨i, j, rfl, rfl, e1, e2⟩, l, paired_refl fun x hx => samP_refl (h x hx)⟩)
end
/-! ### a refusal, told -/
noncomputable def toldP (cs : List Addr) (r : Res PV) : Res PV := match r with
  | .ok _ M' => .ok (.tup [.str [108, 101, 116], .int (-1)]) M'
  | .exc x M' => if x.C ∈ cs then .ok (.tup [.str x.w.cps.toList, .int x.n]) M' else .bad
  | .bad => .bad
noncomputable def fRef (cs : List Addr) (fe : FE) : FE := fun σ M => toldP cs (fe σ M)
@[simp] theorem ev_fRef (cs : List Addr) (fe : FE) (σ : PS) (M : PM) : fRef cs fe σ M = toldP cs (fe σ M) := id rfl
end Pu
namespace Pu
open PySem PySem.Spec PyProof.Rows L2 LB
open Classical
/-! ### statements that go on -/
def Goes (b : FS) (σ : PS) (M : PM) (Q : PS → PM → Prop) : Prop := ∃ σ' M', b σ M = .nx σ' M' ∧ Q σ' M'
section
variable {f g b : FS} {σ σ1 : PS} {M M1 : PM} {Q Q' : PS → PM → Prop} {p : PV} {fe : FE} {fg : FG} {c : FT}
theorem goes_seq (h : Goes f σ M fun σ' M' => Goes g σ' M' Q) : Goes (fSeq f g) σ M Q := by
  obtain ⟨σ', M', e, σ2, M2, e2, q⟩ := h
  exact ⟨σ2, M2, by rw [ev_fSeq, e, then2_nx, e2], q⟩
theorem goes_asg (h : fe σ M = .ok p M1) (hg : fg p σ = some σ1) (q : Q σ1 M1) : Goes (fAsg fe fg) σ M Q := ⟨σ1, M1, by rw [ev_fAsg, h, go_ok, hg, toSt_some], q⟩
theorem goes_drop (h : fe σ M = .ok p M1) (q : Q σ M1) : Goes (fDrop fe) σ M Q := ⟨σ, M1, by rw [ev_fDrop, h, go_ok], q⟩
theorem goes_next (q : Q σ M) : Goes fNext σ M Q := ⟨σ, M, rfl, q⟩
theorem goes_F (h : c σ M = .ok false M1) (q : Goes g σ M1 Q) : Goes (fIfS c f g) σ M Q := by
  obtain ⟨σ', M', e, q⟩ := q
  exact ⟨σ', M', by rw [ev_fIfS, h, go_ok, if_neg (by decide), e], q⟩
/-- a test whose end counts for nothing: only the way on -/
theorem goes_no (h : c σ M = .ok false M1) (q : Q σ M1) : Goes (fIfS c f fNext) σ M Q := goes_F h (goes_next q)
theorem goes_for {α : Type} {i : FI} {zs : List α} {e : α → PV} {ok : PM → Prop} (I : Nat → PS → PM → Prop) (hi : i σ M = .ok ⟨zs.map e, ok⟩ M1) (h0 : I 0 σ M1) (hok : ∀ i σ M, I i σ M → ok M)
    (hs : ∀ i z σ N, zs[i]? = some z → I i σ N → ∃ σ1, fg (e z) σ = some σ1 ∧ Goes b σ1 N (I (i + 1))) (h1 : ∀ σ N, I zs.length σ N → Q σ N) : Goes (fFor i fg b) σ M Q := by
  unfold Goes
  rw [ev_fFor, hi, go_ok]
  refine for_word (fun r => ∃ σ' M', r = .nx σ' M' ∧ Q σ' M') I h0 (fun i σ M _ h => hok i σ M h) (fun i z σ N hz h => ?_) (fun σ N h => ⟨σ, N, rfl, h1 σ N h⟩)
  obtain ⟨σ1, e1, σ2, M2, e2, q⟩ := hs i z σ N hz h
  exact ⟨σ1, e1, σ2, M2, .inl e2, q⟩
/-- the same word all along -/
theorem goes_each {α : Type} {i : FI} {zs : List α} {e : α → PV} {ok : PM → Prop} (I : PS → PM → Prop) (hi : i σ M = .ok ⟨zs.map e, ok⟩ M1) (h0 : I σ M1) (hok : ∀ σ M, I σ M → ok M)
    (hs : ∀ z ∈ zs, ∀ σ N, I σ N → ∃ σ1, fg (e z) σ = some σ1 ∧ Goes b σ1 N I) (h1 : ∀ σ N, I σ N → Q σ N) : Goes (fFor i fg b) σ M Q :=
  goes_for (fun _ => I) hi h0 (fun _ => hok) (fun i z σ N hz h => hs z (List.mem_of_getElem? hz) σ N h) h1
end
end Pu
namespace Pu
open PySem PySem.Spec PyProof.Rows L2 LB
open Classical
/-! ### list.index over flat things -/
end Pu
namespace Pu
open PySem PySem.Spec PyProof.Rows L2 LB
/-! ### a, b = x, y -/
end Pu
/-! len(set(a list of texts)) -/
namespace LB
open PySem PySem.Spec PyProof.Rows L2
end LB
namespace Pu
open PySem PySem.Spec PyProof.Rows L2 LB
open Classical
def bLenSet (p : PV) (M : PM) : Res PV := match (lstAt M p).bind asStrs with
  | some xs => if xs.length < 2000 then .ok (.int ((dedup xs).length : Nat)) M else .bad
  | none => .bad
def fLenSet (f : FE) : FE := fun σ M => (f σ M).bnd bLenSet
@[simp] theorem ev_fLenSet (f : FE) (σ : PS) (M : PM) : fLenSet f σ M = (f σ M).bnd bLenSet := id rfl
end Pu
namespace LB
open PySem PySem.Spec PyProof.Rows L2
/-! ### zip(text, text): a new pair of signs at each turn -/
section
variable {prog : Program} {w : World} {A : Around} {E : Value → Shared → Prop} {s : Shared}
variable {q ti to p1 p2 : Addr} {n1 n2 k : Nat} {P1 P2 : Nat → Value → Prop} {S1 S2 : Nat → Heap → Prop} {a b : Value}
abbrev DrA (prog : Program) (w : World) (p : Addr) (n : Nat) (P : Nat → Value → Prop) (S : Nat → Heap → Prop) : Prop := ∀ B : Around, B.handled = none → Draws prog w B p [p] n P S
theorem DrA.kp {p : Addr} {n i : Nat} {P : Nat → Value → Prop} {S : Nat → Heap → Prop} {h h' : Heap} (W : DrA prog w p n P S) (hh : A.handled = none) (st : S i h) (e : ∀ o, h.get? p = some o → h'.get? p = some o) : S i h' :=
  (W A hh).frame i h h' st fun c hc o ho => by
    have ec : c = p := by simpa using hc
    subst ec
    exact e o ho
end
/-! the making of it -/
/-! the rule -/
end LB
namespace Pu
open PySem PySem.Spec PyProof.Rows L2 LB
open Classical
end Pu
/-! zip of a text and a tuple -/
namespace LB
open PySem PySem.Spec PyProof.Rows L2
end LB
namespace Pu
open PySem PySem.Spec PyProof.Rows L2 LB
open Classical
end Pu
/-! o.f += e, o.f -= e of whole numbers. -/
namespace Pu
open PySem PySem.Spec PyProof.Rows L2 LB
open Classical
end Pu
/-! A walk over a list, a tuple, or an empty tuple of the module (a default). -/
namespace L2
open PySem PySem.Spec PyProof.Rows
section
variable {X : Cx} {tg : Expr}
def iSeq (K : PySem.W.Frag) (tl : TE) : TI := fun σ H R => tl σ H fun x H1 => ∃ a, x = .ref a ∧ (((∃ xs, SqL K H1 a xs) ∧ R (Itl K a) H1) ∨ ((∃ xs, SqT K H1 a xs) ∧ R (Itt K a) H1))
theorem pi_seq {l : Expr} {tl : TE} (hl : PE X l tl) : PI X tg l (iSeq X.K tl) := by
  refine ⟨fun pins s σ H R I h => ?_⟩
  refine thn (hl.run pins s σ H _ I h) fun v s1 ⟨x, H1, I1, r1, q1⟩ => ?_
  obtain ⟨a, e, way⟩ := q1
  subst e
  cases r1
  rcases way with ⟨⟨xs, hq⟩, q⟩ | ⟨⟨xs, hq⟩, q⟩
  · obtain ⟨its, rv, p, hz⟩ := I1.list hq
    refine wpAny_pyIter_list p.isList ?_
    refine ⟨s1.heap.objs.size, [s1.heap.objs.size], _, _, H1, rfl, I1.kept (t' := s1.toks) fun b o e => Heap.get?_push_of_some _ e, turn_list a _, ⟨_, Heap.get?_push_size _ rfl, rfl, rfl⟩, fun b hb => ?_, q⟩
    rw [show b = s1.heap.objs.size by simpa using hb]
    exact I1.fpOk (Nat.le_refl _) (I1.hok.fresh (Nat.le_refl _))
  · obtain ⟨its, rv, p, hz⟩ := I1.tuple hq
    refine wpAny_pyIter_tuple (show s1.heap.IsTuple a its.toArray from p) ?_
    refine ⟨s1.heap.objs.size, [s1.heap.objs.size], _, _, H1, rfl, I1.kept (t' := s1.toks) fun b o e => Heap.get?_push_of_some _ e, turn_tuple a _, ⟨_, Heap.get?_push_size _ rfl, rfl, rfl⟩, fun b hb => ?_, q⟩
    rw [show b = s1.heap.objs.size by simpa using hb]
    exact I1.fpOk (Nat.le_refl _) (I1.hok.fresh (Nat.le_refl _))
end
end L2
namespace Pu
open PySem PySem.Spec PyProof.Rows L2 LB
open Classical
noncomputable def itQ (mt : Nat → Addr) (p : PV) (M : PM) : Res PIt := match p with
  | .ref k => match M[k]? with
    | some (.lst xs) => .ok ⟨xs, fun M' => M'[k]? = some (.lst xs)⟩ M
    | _ => .bad
  | .tup xs => .ok ⟨xs, fun _ => True⟩ M
  | .adr a => if ∃ k, mt k = a then .ok ⟨[], fun _ => True⟩ M else .bad
  | _ => .bad
/-- the addresses are empty tuples of the module -/
def MtOk (K : PySem.W.Frag) (mt : Nat → Addr) : Prop := ∀ k H, SqT K H (mt k) []
theorem mt_of {K : PySem.W.Frag} {a : Addr} {o : Obj} {n : Nat} (h : K.lookup a = some o) (hc : o.cls = .type "tuple") (hd : o.data = .seq #[] n) (H : Hp) : SqT K H a [] := .inr ⟨o, #[], n, h, hc, hd, Nat.zero_le _, .nil⟩
def mtOf (a b c : Addr) : Nat → Addr
  | 0 => a
  | 1 => b
  | _ => c
theorem mtOk_of {K : PySem.W.Frag} {a b c : Addr} (ha : ∀ H, SqT K H a []) (hb : ∀ H, SqT K H b []) (hc : ∀ H, SqT K H c []) : MtOk K (mtOf a b c)
  | 0, H => ha H
  | 1, H => hb H
  | _ + 2, H => hc H
/-- a list, a tuple, or an empty tuple of the module -/
def SeqP (mt : Nat → Addr) (M : PM) (p : PV) (xs : List PV) : Prop := (∃ l, p = .ref l ∧ M[l]? = some (.lst xs)) ∨ p = .tup xs ∨ ((∃ k, p = .adr (mt k)) ∧ xs = [])
theorem SeqP.app {mt : Nat → Addr} {M : PM} {p : PV} {xs : List PV} (h : SeqP mt M p xs) (ex : PM) : SeqP mt (M ++ ex) p xs := by
  rcases h with ⟨l, rfl, e⟩ | h | h
  · exact .inl ⟨l, rfl, by rw [List.getElem?_append_left (List.getElem?_eq_some_iff.mp e).1]; exact e⟩
  · exact .inr (.inl h)
  · exact .inr (.inr h)
theorem itQ_at {mt : Nat → Addr} {M : PM} {p : PV} {xs : List PV} (h : SeqP mt M p xs) : ∃ ok, itQ mt p M = .ok ⟨xs, ok⟩ M ∧ ∀ ex, ok (M ++ ex) := by
  rcases h with ⟨l, rfl, e⟩ | rfl | ⟨⟨k, rfl⟩, rfl⟩
  · exact ⟨fun M' => M'[l]? = some (.lst xs), by unfold itQ; simp only [e], fun ex => by show (M ++ ex)[l]? = _; rw [List.getElem?_append_left (List.getElem?_eq_some_iff.mp e).1]; exact e⟩
  · exact ⟨fun _ => True, rfl, fun _ => trivial⟩
  · exact ⟨fun _ => True, by unfold itQ; simp only []; rw [if_pos ⟨k, rfl⟩], fun _ => trivial⟩
section
variable {tb : List (Addr × Str)} {E : XK} {K : PySem.W.Frag} {te : TE} {fe : FE} {ι ι' : Nat → Addr} {N : Nat} {H H' : Hp} {M M' : PM}
theorem sm_iQ {mt : Nat → Addr} (hm : MtOk K mt) (h : SmE tb E te fe) : SmI tb E (iSeq K te) (fI (itQ mt) fe) := fun ι M H σp σ Q R S w =>
  h.to R S w fun ι1 M1 H1 p v o S1 rv w1 => by
    unfold itQ at w1
    split at w1
    · rename_i k
      split at w1
      · rename_i xs e
        obtain ⟨lk, rfl⟩ := rv.ref_at
        obtain ⟨vs, e1, r1⟩ := o.r.obj k _ e
        refine ⟨ι1 k, rfl, .inl ⟨⟨vs, .of e1⟩, Wp.okNow w1 o.r fun i ι' M' H' ex l R' hok => ?_⟩⟩
        obtain ⟨vs', e2, r2⟩ := lst_later R' ex lk hok
        refine ⟨fun p hp => ?_, fun hn hl => ⟨vs', .of e2, by rw [← r2.len]; exact Nat.le_of_eq hl.symm⟩⟩
        obtain ⟨x, hx, rx⟩ := r2.get hp
        refine ⟨⟨vs', x, .of e2, hx⟩, fun y H'' ⟨e3, e4⟩ => ?_⟩
        subst e3
        have := e4 vs' (.of e2)
        rw [hx] at this
        cases this
        exact ⟨.refl, R', rx⟩
      · exact w1.elim
    · rename_i xs
      obtain ⟨a, vs, rfl, ha, ra⟩ := rv.tup_at
      refine ⟨a, rfl, .inr ⟨⟨vs, .of ha⟩, Wp.okNow w1 o.r fun i ι' M' H' ex l R' hok => ?_⟩⟩
      have e2 := ex.t _ _ ha
      have r2 := ra.mono ex l
      refine ⟨fun p hp => ?_, fun hn hl => ⟨vs, .of e2, by rw [← r2.len]; exact Nat.le_of_eq hl.symm⟩⟩
      obtain ⟨x, hx, rx⟩ := r2.get hp
      refine ⟨⟨vs, x, .of e2, hx⟩, fun y H'' ⟨e3, e4⟩ => ?_⟩
      subst e3
      have := e4 vs (.of e2)
      rw [hx] at this
      cases this
      exact ⟨.refl, R', rx⟩
    · rename_i a
      have ea : v = .ref a := by unfold Rv at rv; exact rv
      subst ea
      split at w1
      · rename_i hk
        obtain ⟨k, rfl⟩ := hk
        refine ⟨_, rfl, .inr ⟨⟨[], hm k H1⟩, Wp.okNow w1 o.r fun i ι' M' H' ex l R' hok => ?_⟩⟩
        exact ⟨fun p hp => (by simp at hp), fun hn hl => ⟨[], hm k H', Nat.zero_le _⟩⟩
      · exact w1.elim
    · exact w1.elim
end
end Pu
namespace Pu
open PySem PySem.Spec PyProof.Rows L2 LB
/-! #### is_word -/
noncomputable def B_p_is_word (c : CA) : FS :=
  (fRet (fGc (fB bAll (fCons (fLc (fI itS (fVar 0)) (gNm 1) fYes (fOp pInS (fVar 1) (fC (.str [97, 98, 99, 100, 101, 102, 103, 104, 105, 106, 107, 108, 109, 110, 111, 112, 113, 114, 115, 116, 117, 118, 119, 120, 121, 122]))) [1]) fNil))))
noncomputable def F_p_is_word (c : CA) : FF := fnOf 1 2 (B_p_is_word c)
theorem R_p_is_word (c : CA) (a0 : PV) (M : PM) : F_p_is_word c [a0] M = gc M (fnRes (B_p_is_word c [some a0, none] M)) := fn_at rfl
/-! #### is_name -/
noncomputable def B_p_is_name (c : CA) : FS :=
  (fRet (fAndV (fChain (pI0 fun i j => .bl (decide (i ≤ j))) (pI0 fun i j => .bl (decide (i ≤ j))) (fC (.int 1)) (fB bLenS (fCons (fVar 0) fNil)) (fC (.int 8))) (fCall (F_p_is_word c) [] (fCons (fVar 0) fNil))))
noncomputable def F_p_is_name (c : CA) : FF := fnOf 1 1 (B_p_is_name c)
theorem R_p_is_name (c : CA) (a0 : PV) (M : PM) : F_p_is_name c [a0] M = gc M (fnRes (B_p_is_name c [some a0] M)) := fn_at rfl
/-! #### is_letter -/
noncomputable def B_p_is_letter (c : CA) : FS :=
  (fRet (fAndV (fOp pEq (fB bLenS (fCons (fVar 0) fNil)) (fC (.int 1))) (fCall (F_p_is_word c) [] (fCons (fVar 0) fNil))))
noncomputable def F_p_is_letter (c : CA) : FF := fnOf 1 1 (B_p_is_letter c)
theorem R_p_is_letter (c : CA) (a0 : PV) (M : PM) : F_p_is_letter c [a0] M = gc M (fnRes (B_p_is_letter c [some a0] M)) := fn_at rfl
/-! #### within -/
/-! #### behind -/
/-! #### Lab.has -/
/-! #### check_scene -/
/-! #### step_at -/
/-! #### with_word -/
/-! #### with_stand -/
/-! #### word_after -/
/-! #### best_after -/
/-! #### best -/
/-! #### ways -/
/-! #### is_short_word -/
noncomputable def B_p_is_short_word (c : CA) : FS :=
  (fRet (fAndV (fOp (pI0 fun i j => .bl (decide (i ≤ j))) (fB bLenS (fCons (fVar 0) fNil)) (fC (.int 8))) (fCall (F_p_is_word c) [] (fCons (fVar 0) fNil))))
noncomputable def F_p_is_short_word (c : CA) : FF := fnOf 1 1 (B_p_is_short_word c)
theorem R_p_is_short_word (c : CA) (a0 : PV) (M : PM) : F_p_is_short_word c [a0] M = gc M (fnRes (B_p_is_short_word c [some a0] M)) := fn_at rfl
/-! #### check_machines -/
noncomputable def B_p_check_machines (c : CA) : FS :=
  (fSeq (fAsg fDNewK (gNm 1))
  (fFor (fI itT (fVar 0)) (gTp (gsCons (gNm 2) (gsCons (gNm 3) gsNil))) (fSeq (fIfS (fOr (fNot (fTest (fCall (F_p_is_name c) [] (fCons (fVar 2) fNil)))) (fNot (fTest (fCall (F_p_is_name c) [] (fCons (fVar 3) fNil))))) (fRaise c.BadName (Str.ofString "badname") [(.int (-1))] fNil) fNext)
  (fSeq (fIfS (fTest (fDIn (fVar 2) (fVar 1))) (fRaise c.Taken (Str.ofString "taken") [(.int (-1))] fNil) fNext)
  (fDPut (fVar 1) (fVar 2) (fC (.bl true)))))))
noncomputable def F_p_check_machines (c : CA) : FF := fnOf 1 4 (B_p_check_machines c)
theorem R_p_check_machines (c : CA) (a0 : PV) (M : PM) : F_p_check_machines c [a0] M = gc M (fnRes (B_p_check_machines c [some a0, none, none, none] M)) := fn_at rfl
/-! #### check_rows -/
noncomputable def B_p_check_rows (c : CA) : FS :=
  (fSeq (fAsg fDNewK (gNm 1))
  (fFor (fI itT (fVar 0)) (gTp (gsCons (gNm 2) (gsCons (gNm 3) gsNil))) (fSeq (fIfS (fNot (fTest (fCall (F_p_is_name c) [] (fCons (fVar 2) fNil)))) (fRaise c.BadName (Str.ofString "badname") [(.int (-1))] fNil) fNext)
  (fSeq (fIfS (fTest (fDIn (fVar 2) (fVar 1))) (fRaise c.Taken (Str.ofString "taken") [(.int (-1))] fNil) fNext)
  (fSeq (fIfS (fNot (fTest (fCall (F_p_is_short_word c) [] (fCons (fVar 3) fNil)))) (fRaise c.BadWord (Str.ofString "badword") [(.int (-1))] fNil) fNext)
  (fDPut (fVar 1) (fVar 2) (fC (.bl true))))))))
noncomputable def F_p_check_rows (c : CA) : FF := fnOf 1 4 (B_p_check_rows c)
theorem R_p_check_rows (c : CA) (a0 : PV) (M : PM) : F_p_check_rows c [a0] M = gc M (fnRes (B_p_check_rows c [some a0, none, none, none] M)) := fn_at rfl
/-! #### check_act -/
noncomputable def B_p_check_act (c : CA) : FS :=
  (fSeq (fIfS (fOr (fTest (fOp pEq (fB bLen (fCons (fVar 0) fNil)) (fC (.int 0)))) (fTest (fOp pNe (fKGet [([115, 101, 110, 100], 3), ([116, 97, 107, 101], 3), ([98, 97, 114, 101], 2), ([105, 100, 108, 101], 1)] (fOp pIxT (fVar 0) (fC (.int 0)))) (fB bLen (fCons (fVar 0) fNil))))) (fRaise c.BadAct (Str.ofString "badact") [(.int (-1))] fNil) fNext)
  (fSeq (fIfS (fAnd (fTest (fOp (pI0 fun i j => .bl (decide (j < i))) (fB bLen (fCons (fVar 0) fNil)) (fC (.int 1)))) (fTest (fDNotIn (fOp pIxT (fVar 0) (fC (.int 1))) (fVar 1)))) (fRaise c.NoRow (Str.ofString "norow") [(.int (-1))] fNil) fNext)
  (fIfS (fAnd (fTest (fOp (pI0 fun i j => .bl (decide (j < i))) (fB bLen (fCons (fVar 0) fNil)) (fC (.int 2)))) (fNot (fTest (fCall (F_p_is_letter c) [] (fCons (fOp pIxT (fVar 0) (fC (.int 2))) fNil))))) (fRaise c.BadWord (Str.ofString "badword") [(.int (-1))] fNil) fNext)))
noncomputable def F_p_check_act (c : CA) : FF := fnOf 2 2 (B_p_check_act c)
theorem R_p_check_act (c : CA) (a0 a1 : PV) (M : PM) : F_p_check_act c [a0, a1] M = gc M (fnRes (B_p_check_act c [some a0, some a1] M)) := fn_at rfl
/-! #### check_moves -/
noncomputable def B_p_check_moves (c : CA) : FS :=
  (fFor (fI itT (fVar 0)) (gTp (gsCons (gNm 3) (gsCons (gNm 4) (gsCons (gNm 5) (gsCons (gNm 6) gsNil))))) (fSeq (fIfS (fTest (fDNotIn (fVar 3) (fVar 1))) (fRaise c.NoMachine (Str.ofString "nomachine") [(.int (-1))] fNil) fNext)
  (fSeq (fIfS (fOr (fNot (fTest (fCall (F_p_is_name c) [] (fCons (fVar 4) fNil)))) (fNot (fTest (fCall (F_p_is_name c) [] (fCons (fVar 6) fNil))))) (fRaise c.BadName (Str.ofString "badname") [(.int (-1))] fNil) fNext)
  (fDrop (fCall (F_p_check_act c) [] (fCons (fVar 5) (fCons (fVar 2) fNil)))))))
noncomputable def F_p_check_moves (c : CA) : FF := fnOf 3 7 (B_p_check_moves c)
theorem R_p_check_moves (c : CA) (a0 a1 a2 : PV) (M : PM) : F_p_check_moves c [a0, a1, a2] M = gc M (fnRes (B_p_check_moves c [some a0, some a1, some a2, none, none, none, none] M)) := fn_at rfl
/-! #### places_of -/
noncomputable def B_p_places_of (c : CA) : FS :=
  (fRet (fDc (fIA itET (fCons (fVar 0) fNil)) (gTp (gsCons (gNm 1) (gsCons (gTp (gsCons (gNm 2) (gsCons (gNm 3) gsNil))) gsNil))) fYes (fVar 2) (fVar 1) [1, 2, 3]))
noncomputable def F_p_places_of (c : CA) : FF := fnOf 1 4 (B_p_places_of c)
theorem R_p_places_of (c : CA) (a0 : PV) (M : PM) : F_p_places_of c [a0] M = gc M (fnRes (B_p_places_of c [some a0, none, none, none] M)) := fn_at rfl
/-! #### stands_of -/
noncomputable def B_p_stands_of (c : CA) : FS :=
  (fSeq (fAsg (fDc (fI itT (fVar 0)) (gTp (gsCons (gNm 7) (gsCons (gNm 8) gsNil))) fYes (fVar 7) (fLst (fCons (fVar 8) fNil)) [7, 8]) (gNm 2))
  (fSeq (fFor (fI itT (fVar 1)) (gTp (gsCons (gNm 3) (gsCons (gNm 4) (gsCons (gNm 5) (gsCons (gNm 6) gsNil))))) (fSeq (fDrop (fBM "list" mAppend (fDGet (fVar 2) (fVar 3)) (fCons (fVar 4) fNil)))
  (fDrop (fBM "list" mAppend (fDGet (fVar 2) (fVar 3)) (fCons (fVar 6) fNil)))))
  (fRet (fLock (lkVar 2) (fDc (fI itK (fVar 2)) (gNm 7) fYes (fVar 7) (fB bTup (fCons (fSortSet (fDGet (fVar 2) (fVar 7))) fNil)) [7])))))
noncomputable def F_p_stands_of (c : CA) : FF := fnOf 2 9 (B_p_stands_of c)
theorem R_p_stands_of (c : CA) (a0 a1 : PV) (M : PM) : F_p_stands_of c [a0, a1] M = gc M (fnRes (B_p_stands_of c [some a0, some a1, none, none, none, none, none, none, none] M)) := fn_at rfl
/-! #### step_of -/
noncomputable def B_p_step_of (c : CA) : FS :=
  (fSeq (fAsg (fVar 0) (gTp (gsCons (gNm 3) (gsCons (gNm 4) (gsCons (gNm 5) (gsCons (gNm 6) gsNil))))))
  (fSeq (fAsg (fIf (fTest (fOp (pI0 fun i j => .bl (decide (j < i))) (fB bLen (fCons (fVar 5) fNil)) (fC (.int 1)))) (fDGet (fVar 2) (fOp pIxT (fVar 5) (fC (.int 1)))) (fUn (pU fun i => .int (-i)) (fC (.int 1)))) (gNm 7))
  (fSeq (fAsg (fIf (fTest (fOp (pI0 fun i j => .bl (decide (j < i))) (fB bLen (fCons (fVar 5) fNil)) (fC (.int 2)))) (fOp pIxT (fVar 5) (fC (.int 2))) (fC (.str []))) (gNm 8))
  (fRet (fTup (fCons (fDGet (fVar 1) (fVar 3)) (fCons (fVar 4) (fCons (fOp pIxT (fVar 5) (fC (.int 0))) (fCons (fVar 7) (fCons (fVar 8) (fCons (fVar 6) fNil)))))))))))
noncomputable def F_p_step_of (c : CA) : FF := fnOf 3 9 (B_p_step_of c)
theorem R_p_step_of (c : CA) (a0 a1 a2 : PV) (M : PM) : F_p_step_of c [a0, a1, a2] M = gc M (fnRes (B_p_step_of c [some a0, some a1, some a2, none, none, none, none, none, none] M)) := fn_at rfl
/-! #### Lab.is_over -/
noncomputable def B_Lab_is_over (c : CA) : FS :=
  (fSeq (fIfS (fOr (fTest (fOp (pI0 fun i j => .bl (decide (j < i))) (fB bLen (fCons (fFld c.Lab "machine_pairs" (fVar 0)) fNil)) (fC (.int 3)))) (fTest (fOp (pI0 fun i j => .bl (decide (j < i))) (fB bLen (fCons (fFld c.Lab "row_pairs" (fVar 0)) fNil)) (fC (.int 3))))) (fRet (fC (.bl true))) fNext)
  (fSeq (fIfS (fTest (fOp (pI0 fun i j => .bl (decide (j < i))) (fB bLen (fCons (fFld c.Lab "whole_moves" (fVar 0)) fNil)) (fC (.int 24)))) (fRet (fC (.bl true))) fNext)
  (fRet (fGc (fB bAny (fCons (fLock (lkFld c.Lab 0 "stand_lists") (fLc (fI itV (fFld c.Lab "stand_lists" (fVar 0))) (gNm 1) fYes (fOp (pI0 fun i j => .bl (decide (j < i))) (fB bLen (fCons (fVar 1) fNil)) (fC (.int 6))) [1])) fNil))))))
noncomputable def F_Lab_is_over (c : CA) : FF := fnOf 1 2 (B_Lab_is_over c)
theorem R_Lab_is_over (c : CA) (a0 : PV) (M : PM) : F_Lab_is_over c [a0] M = gc M (fnRes (B_Lab_is_over c [some a0, none] M)) := fn_at rfl
/-! #### Lab.__init__ -/
noncomputable def B_Lab_init (c : CA) : FS :=
  (fSeq (fSetF c.Lab "machine_pairs" (fVar 0) (fGc (fB bTup (fCons (fLc (fI (itQ c.mt) (fVar 1)) (gNm 4) fYes (fB bTup (fCons (fVar 4) fNil)) [4]) fNil))))
  (fSeq (fSetF c.Lab "row_pairs" (fVar 0) (fGc (fB bTup (fCons (fLc (fI (itQ c.mt) (fVar 2)) (gNm 4) fYes (fB bTup (fCons (fVar 4) fNil)) [4]) fNil))))
  (fSeq (fSetF c.Lab "whole_moves" (fVar 0) (fGc (fB bTup (fCons (fLc (fI (itQ c.mt) (fVar 3)) (gTp (gsCons (gNm 5) (gsCons (gNm 6) (gsCons (gNm 7) (gsCons (gNm 8) gsNil))))) fYes (fTup (fCons (fVar 5) (fCons (fVar 6) (fCons (fB bTup (fCons (fVar 7) fNil)) (fCons (fVar 8) fNil))))) [5, 6, 7, 8]) fNil))))
  (fSeq (fDrop (fCall (F_p_check_machines c) [] (fCons (fFld c.Lab "machine_pairs" (fVar 0)) fNil)))
  (fSeq (fDrop (fCall (F_p_check_rows c) [] (fCons (fFld c.Lab "row_pairs" (fVar 0)) fNil)))
  (fSeq (fSetF c.Lab "machine_places" (fVar 0) (fCall (F_p_places_of c) [] (fCons (fFld c.Lab "machine_pairs" (fVar 0)) fNil)))
  (fSeq (fSetF c.Lab "row_places" (fVar 0) (fCall (F_p_places_of c) [] (fCons (fFld c.Lab "row_pairs" (fVar 0)) fNil)))
  (fSeq (fDrop (fCall (F_p_check_moves c) [] (fCons (fFld c.Lab "whole_moves" (fVar 0)) (fCons (fFld c.Lab "machine_places" (fVar 0)) (fCons (fFld c.Lab "row_places" (fVar 0)) fNil)))))
  (fSeq (fSetF c.Lab "stand_lists" (fVar 0) (fCall (F_p_stands_of c) [] (fCons (fFld c.Lab "machine_pairs" (fVar 0)) (fCons (fFld c.Lab "whole_moves" (fVar 0)) fNil))))
  (fSeq (fIfS (fTest (fMeth c.Lab "is_over" (F_Lab_is_over c) [] (fVar 0) fNil)) (fRaise c.Full (Str.ofString "full") [(.int (-1))] fNil) fNext)
  (fSetF c.Lab "steps" (fVar 0) (fGc (fB bTup (fCons (fLc (fI itT (fFld c.Lab "whole_moves" (fVar 0))) (gNm 9) fYes (fCallN (F_p_step_of c) [] (fCons (fVar 9) (fCons (fFld c.Lab "machine_places" (fVar 0)) (fCons (fFld c.Lab "row_places" (fVar 0)) fNil)))) [9]) fNil))))))))))))))
noncomputable def F_Lab_init (c : CA) : FF := fnOf 4 10 (B_Lab_init c)
theorem R_Lab_init (c : CA) (a0 a1 a2 a3 : PV) (M : PM) : F_Lab_init c [a0, a1, a2, a3] M = gc M (fnRes (B_Lab_init c [some a0, some a1, some a2, some a3, none, none, none, none, none, none] M)) := fn_at rfl
/-! #### above -/
/-! #### law: pull -/
noncomputable def B_pull (c : CA) : FS :=
  (fSeq (fAugL (fVar 0) (fC (.int 4)) (fC (.int 1)) (pI0 fun i j => .int (i + j)))
  (fSeq (fIfS (fTest (fOp (pI0 fun i j => .bl (decide (j < i))) (fOp pIxL (fVar 0) (fC (.int 2))) (fC (.int 0)))) (fSeq (fAsg (fOp pIxL (fVar 0) (fC (.int 2))) (gNm 2))
  (fSeq (fAsgL (fOp (pI CDiv fun i j => .int (i / j)) (fVar 2) (fVar 1)) (fVar 0) (fC (.int 2)))
  (fRet (fOp (pI (fun _ j => 0 < j) fun i j => .int (i % j)) (fVar 2) (fVar 1))))) fNext)
  (fSeq (fAsg (fOp pIxL (fVar 0) (fC (.int 3))) (gNm 3))
  (fSeq (fIfS (fTest (fOp (pI0 fun i j => .bl (decide (i < j))) (fOp pIxL (fVar 0) (fC (.int 1))) (fB bLen (fCons (fOp pIxL (fVar 0) (fC (.int 0))) fNil)))) (fSeq (fAsg (fOp pIxL (fOp pIxL (fVar 0) (fC (.int 0))) (fOp pIxL (fVar 0) (fC (.int 1)))) (gNm 3))
  (fAugL (fVar 0) (fC (.int 1)) (fC (.int 1)) (pI0 fun i j => .int (i + j)))) fNext)
  (fSeq (fIfS (fTest (fOp (pI0 fun i j => .bl (decide (j ≤ i))) (fVar 3) (fOp (pI CPow fun i j => .int (i ^ j.toNat)) (fC (.int 10)) (fC (.int 18))))) (fSeq (fAsgL (fOp (pI CDiv fun i j => .int (i / j)) (fVar 3) (fVar 1)) (fVar 0) (fC (.int 2)))
  (fRet (fOp (pI (fun _ j => 0 < j) fun i j => .int (i % j)) (fVar 3) (fVar 1)))) fNext)
  (fSeq (fAsg (fOp (pI (fun _ j => 0 < j) fun i j => .int (i % j)) (fOp (pI0 fun i j => .int (i + j)) (fOp (pI0 fun i j => .int (i + j)) (fOp (pI0 fun i j => .int (i + j)) (fOp (pI CMul fun i j => .int (i * j)) (fVar 3) (fC (.int 48271))) (fOp (pI CMul fun i j => .int (i * j)) (fOp pIxL (fVar 0) (fC (.int 3))) (fC (.int 40503)))) (fOp (pI CMul fun i j => .int (i * j)) (fOp pIxL (fVar 0) (fC (.int 4))) (fC (.int 69621)))) (fC (.int 12345))) (fC (.int 2147483629))) (gNm 4))
  (fSeq (fAsg (fOp (pI (fun _ j => 0 < j) fun i j => .int (i % j)) (fOp (pI0 fun i j => .int (i + j)) (fOp (pI0 fun i j => .int (i + j)) (fOp (pI CMul fun i j => .int (i * j)) (fVar 4) (fOp (pI0 fun i j => .int (i + j)) (fOp (pI (fun _ j => 0 < j) fun i j => .int (i % j)) (fVar 4) (fC (.int 65521))) (fC (.int 11)))) (fOp (pI CMul fun i j => .int (i * j)) (fOp pIxL (fVar 0) (fC (.int 4))) (fC (.int 40692)))) (fOp (pI (fun _ j => 0 < j) fun i j => .int (i % j)) (fOp pIxL (fVar 0) (fC (.int 3))) (fC (.int 104729)))) (fC (.int 998244353))) (gNm 5))
  (fSeq (fAsgL (fOp (pI (fun _ j => 0 < j) fun i j => .int (i % j)) (fOp (pI0 fun i j => .int (i + j)) (fOp (pI CMul fun i j => .int (i * j)) (fOp pIxL (fVar 0) (fC (.int 3))) (fC (.int 16807))) (fVar 5)) (fC (.int 2147483563))) (fVar 0) (fC (.int 3)))
  (fRet (fOp (pI (fun _ j => 0 < j) fun i j => .int (i % j)) (fOp (pI CDiv fun i j => .int (i / j)) (fVar 5) (fC (.int 7))) (fVar 1)))))))))))
noncomputable def F_pull (c : CA) : FF := fnOf 2 6 (B_pull c)
theorem R_pull (c : CA) (a0 a1 : PV) (M : PM) : F_pull c [a0, a1] M = gc M (fnRes (B_pull c [some a0, some a1, none, none, none, none] M)) := fn_at rfl
/-! #### law: of -/
noncomputable def B_of (c : CA) : FS :=
  (fRet (fOp pIxQ (fVar 1) (fCall (F_pull c) [] (fCons (fVar 0) (fCons (fB bLenQ (fCons (fVar 1) fNil)) fNil)))))
noncomputable def F_of (c : CA) : FF := fnOf 2 2 (B_of c)
theorem R_of (c : CA) (a0 a1 : PV) (M : PM) : F_of c [a0, a1] M = gc M (fnRes (B_of c [some a0, some a1] M)) := fn_at rfl
/-! #### law: letters -/
noncomputable def B_letters (c : CA) : FS :=
  (fSeq (fAsg (fC (.str [97, 98, 99, 100, 101, 102, 103, 104, 105, 106, 107, 108, 109, 110, 111, 112, 113, 114, 115, 116, 117, 118, 119, 120, 121, 122])) (gNm 1))
  (fSeq (fAsg (fCall (F_pull c) [] (fCons (fVar 0) (fCons (fC (.int 26)) fNil))) (gNm 2))
  (fSeq (fAsg (fCall (F_of c) [] (fCons (fVar 0) (fCons (fLst (fCons (fC (.int 1)) (fCons (fC (.int 3)) (fCons (fC (.int 5)) (fCons (fC (.int 7)) (fCons (fC (.int 9)) (fCons (fC (.int 11)) fNil))))))) fNil))) (gNm 3))
  (fRet (fLc (fIA itR1 (fCons (fC (.int 3)) fNil)) (gNm 4) fYes (fOp pIxS (fVar 1) (fOp (pI (fun _ j => 0 < j) fun i j => .int (i % j)) (fOp (pI0 fun i j => .int (i + j)) (fVar 2) (fOp (pI CMul fun i j => .int (i * j)) (fVar 3) (fVar 4))) (fC (.int 26)))) [4])))))
noncomputable def F_letters (c : CA) : FF := fnOf 1 5 (B_letters c)
theorem R_letters (c : CA) (a0 : PV) (M : PM) : F_letters c [a0] M = gc M (fnRes (B_letters c [some a0, none, none, none, none] M)) := fn_at rfl
/-! #### law: names -/
noncomputable def B_names (c : CA) : FS :=
  (fSeq (fAsg (fC (.str [97, 98, 99, 100, 101, 102, 103, 104, 105, 106, 107, 108, 109, 110, 111, 112, 113, 114, 115, 116, 117, 118, 119, 120, 121, 122])) (gNm 2))
  (fSeq (fAsg (fGc (fM1 mJoin (fC (.str [])) (fLc (fIA itR1 (fCons (fCall (F_pull c) [] (fCons (fVar 0) (fCons (fC (.int 8)) fNil))) fNil)) (gNm 7) fYes (fCallN (F_of c) [] (fCons (fVar 0) (fCons (fVar 2) fNil))) [7]))) (gNm 3))
  (fSeq (fAsg (fCall (F_pull c) [] (fCons (fVar 0) (fCons (fOp (pI0 fun i j => .int (i + j)) (fB bLenS (fCons (fVar 3) fNil)) (fC (.int 1))) fNil))) (gNm 4))
  (fSeq (fAsg (fCall (F_pull c) [] (fCons (fVar 0) (fCons (fC (.int 26)) fNil))) (gNm 5))
  (fSeq (fAsg (fCall (F_of c) [] (fCons (fVar 0) (fCons (fLst (fCons (fC (.int 1)) (fCons (fC (.int 3)) (fCons (fC (.int 5)) (fCons (fC (.int 7)) (fCons (fC (.int 9)) (fCons (fC (.int 11)) fNil))))))) fNil))) (gNm 6))
  (fRet (fLc (fIA itR1 (fCons (fVar 1) fNil)) (gNm 7) fYes (fOp pAddS (fOp pAddS (fSl pSlS (fVar 3) fNoPart (fPart (fVar 4))) (fOp pIxS (fVar 2) (fOp (pI (fun _ j => 0 < j) fun i j => .int (i % j)) (fOp (pI0 fun i j => .int (i + j)) (fVar 5) (fOp (pI CMul fun i j => .int (i * j)) (fVar 6) (fVar 7))) (fC (.int 26))))) (fSl pSlS (fVar 3) (fPart (fVar 4)) fNoPart)) [7])))))))
noncomputable def F_names (c : CA) : FF := fnOf 2 8 (B_names c)
theorem R_names (c : CA) (a0 a1 : PV) (M : PM) : F_names c [a0, a1] M = gc M (fnRes (B_names c [some a0, some a1, none, none, none, none, none, none] M)) := fn_at rfl
/-! #### law: word -/
noncomputable def B_word (c : CA) : FS :=
  (fRet (fGc (fM1 mJoin (fC (.str [])) (fLc (fIA itR1 (fCons (fCall (F_pull c) [] (fCons (fVar 0) (fCons (fOp (pI0 fun i j => .int (i + j)) (fVar 2) (fC (.int 1))) fNil))) fNil)) (gNm 3) fYes (fCallN (F_of c) [] (fCons (fVar 0) (fCons (fVar 1) fNil))) [3]))))
noncomputable def F_word (c : CA) : FF := fnOf 3 4 (B_word c)
theorem R_word (c : CA) (a0 a1 a2 : PV) (M : PM) : F_word c [a0, a1, a2] M = gc M (fnRes (B_word c [some a0, some a1, some a2, none] M)) := fn_at rfl
/-! #### law: act -/
noncomputable def B_act (c : CA) : FS :=
  (fSeq (fAsg (fCall (F_pull c) [] (fCons (fVar 0) (fCons (fC (.int 9)) fNil))) (gNm 2))
  (fSeq (fIfS (fOr (fTest (fOp pEq (fVar 2) (fC (.int 0)))) (fTest (fOp pEqD (fDGet (fVar 1) (fC (.str [114, 111, 119, 115]))) (fLst fNil)))) (fRet (fTup (fCons (fC (.str [105, 100, 108, 101])) fNil))) fNext)
  (fSeq (fAsg (fOp pIxT (fCall (F_of c) [] (fCons (fVar 0) (fCons (fDGet (fVar 1) (fC (.str [114, 111, 119, 115]))) fNil))) (fC (.int 0))) (gNm 3))
  (fSeq (fIfS (fTest (fOp pEq (fVar 2) (fC (.int 1)))) (fRet (fTup (fCons (fC (.str [98, 97, 114, 101])) (fCons (fVar 3) fNil)))) fNext)
  (fRet (fTup (fCons (fOp pIxL (fLst (fCons (fC (.str [115, 101, 110, 100])) (fCons (fC (.str [116, 97, 107, 101])) fNil))) (fOp (pI (fun _ j => 0 < j) fun i j => .int (i % j)) (fVar 2) (fC (.int 2)))) (fCons (fVar 3) (fCons (fCall (F_of c) [] (fCons (fVar 0) (fCons (fDGet (fVar 1) (fC (.str [108, 101, 116, 116, 101, 114, 115]))) fNil))) fNil)))))))))
noncomputable def F_act (c : CA) : FF := fnOf 2 4 (B_act c)
theorem R_act (c : CA) (a0 a1 : PV) (M : PM) : F_act c [a0, a1] M = gc M (fnRes (B_act c [some a0, some a1, none, none] M)) := fn_at rfl
/-! #### law: move -/
noncomputable def B_move (c : CA) : FS :=
  (fSeq (fAsg (fCall (F_pull c) [] (fCons (fVar 0) (fCons (fB bLen (fCons (fDGet (fVar 1) (fC (.str [109, 97, 99, 104, 105, 110, 101, 115]))) fNil)) fNil))) (gNm 2))
  (fSeq (fAsg (fOp pIxL (fDGet (fVar 1) (fC (.str [115, 116, 97, 110, 100, 115]))) (fVar 2)) (gNm 3))
  (fRet (fTup (fCons (fOp pIxT (fOp pIxL (fDGet (fVar 1) (fC (.str [109, 97, 99, 104, 105, 110, 101, 115]))) (fVar 2)) (fC (.int 0))) (fCons (fCall (F_of c) [] (fCons (fVar 0) (fCons (fVar 3) fNil))) (fCons (fCall (F_act c) [] (fCons (fVar 0) (fCons (fVar 1) fNil))) (fCons (fCall (F_of c) [] (fCons (fVar 0) (fCons (fVar 3) fNil))) fNil))))))))
noncomputable def F_move (c : CA) : FF := fnOf 2 4 (B_move c)
theorem R_move (c : CA) (a0 a1 : PV) (M : PM) : F_move c [a0, a1] M = gc M (fnRes (B_move c [some a0, some a1, none, none] M)) := fn_at rfl
/-! #### law: plan -/
noncomputable def B_plan (c : CA) : FS :=
  (fSeq (fAsg (fCall (F_names c) [] (fCons (fVar 0) (fCons (fC (.int 12)) fNil))) (gNm 5))
  (fSeq (fAsg (fSl pSlL (fCall (F_letters c) [] (fCons (fVar 0) fNil)) fNoPart (fPart (fOp (pI0 fun i j => .int (i + j)) (fC (.int 1)) (fCall (F_pull c) [] (fCons (fVar 0) (fCons (fC (.int 3)) fNil)))))) (gNm 6))
  (fSeq (fAsg (fDisp [((fC (.str [108, 101, 116, 116, 101, 114, 115])), (fVar 6)), ((fC (.str [109, 97, 99, 104, 105, 110, 101, 115])), (fLst fNil)), ((fC (.str [114, 111, 119, 115])), (fLst fNil)), ((fC (.str [109, 111, 118, 101, 115])), (fLst fNil)), ((fC (.str [115, 116, 97, 110, 100, 115])), (fLst fNil))]) (gNm 7))
  (fSeq (fFor (fIA itR1 (fCons (fVar 1) fNil)) (gNm 8) (fSeq (fAsg (fSl pSlL (fCall (F_names c) [] (fCons (fVar 0) (fCons (fC (.int 6)) fNil))) fNoPart (fPart (fOp (pI0 fun i j => .int (i + j)) (fC (.int 1)) (fCall (F_pull c) [] (fCons (fVar 0) (fCons (fVar 2) fNil)))))) (gNm 9))
  (fSeq (fDrop (fBM "list" mAppend (fDGet (fVar 7) (fC (.str [115, 116, 97, 110, 100, 115]))) (fCons (fVar 9) fNil)))
  (fDrop (fBM "list" mAppend (fDGet (fVar 7) (fC (.str [109, 97, 99, 104, 105, 110, 101, 115]))) (fCons (fTup (fCons (fOp pIxL (fVar 5) (fVar 8)) (fCons (fCall (F_of c) [] (fCons (fVar 0) (fCons (fVar 9) fNil))) fNil))) fNil))))))
  (fSeq (fFor (fIA itR1 (fCons (fVar 3) fNil)) (gNm 8) (fDrop (fBM "list" mAppend (fDGet (fVar 7) (fC (.str [114, 111, 119, 115]))) (fCons (fTup (fCons (fOp pIxL (fVar 5) (fOp (pI0 fun i j => .int (i + j)) (fC (.int 5)) (fVar 8))) (fCons (fCall (F_word c) [] (fCons (fVar 0) (fCons (fVar 6) (fCons (fC (.int 2)) fNil)))) fNil))) fNil))))
  (fSeq (fFor (fIA itR1 (fCons (fOp (pI CMul fun i j => .int (i * j)) (fVar 4) (fB bInt (fCons (fOp (pI0 fun i j => .bl (decide (j < i))) (fVar 1) (fC (.int 0))) fNil))) fNil)) (gNm 8) (fDrop (fBM "list" mAppend (fDGet (fVar 7) (fC (.str [109, 111, 118, 101, 115]))) (fCons (fCall (F_move c) [] (fCons (fVar 0) (fCons (fVar 7) fNil))) fNil))))
  (fRet (fVar 7))))))))
noncomputable def F_plan (c : CA) : FF := fnOf 5 10 (B_plan c)
theorem R_plan (c : CA) (a0 a1 a2 a3 a4 : PV) (M : PM) : F_plan c [a0, a1, a2, a3, a4] M = gc M (fnRes (B_plan c [some a0, some a1, some a2, some a3, some a4, none, none, none, none, none] M)) := fn_at rfl
/-! #### law: lab -/
noncomputable def B_lab (c : CA) : FS :=
  (fRet (fMake c.Lab (F_Lab_init c) [] (fCons (fB bLst (fCons (fDGet (fVar 0) (fC (.str [109, 97, 99, 104, 105, 110, 101, 115]))) fNil)) (fCons (fB bLst (fCons (fDGet (fVar 0) (fC (.str [114, 111, 119, 115]))) fNil)) (fCons (fB bLst (fCons (fDGet (fVar 0) (fC (.str [109, 111, 118, 101, 115]))) fNil)) fNil)))))
noncomputable def F_lab (c : CA) : FF := fnOf 1 1 (B_lab c)
theorem R_lab (c : CA) (a0 : PV) (M : PM) : F_lab c [a0] M = gc M (fnRes (B_lab c [some a0] M)) := fn_at rfl
/-! #### law: held -/
/-! #### law: scene -/
/-! #### law: within -/
/-! #### law: above -/
/-! #### law: many_lab -/
/-! #### law: grown -/
end Pu
namespace Pu
open PySem PySem.Spec PyProof.Rows L2 LB
open Classical
/-! ### words -/
def low (c : Nat) : Bool := decide (97 ≤ c ∧ c < 123)
theorem low_in (c : Nat) : decide (c ∈ [97, 98, 99, 100, 101, 102, 103, 104, 105, 106, 107, 108, 109, 110, 111, 112, 113, 114, 115, 116, 117, 118, 119, 120, 121, 122]) = low c := by
  unfold low
  apply decide_eq_decide.mpr
  simp only [List.mem_cons, List.not_mem_nil, or_false]
  omega
variable {c : CA} {M : PM}
theorem F_is_word_eq {s : List Nat} (h : s.length < lim) : F_p_is_word c [.str s] M = .ok (.bl (s.all low)) M := by
  rw [R_p_is_word]
  unfold B_p_is_word
  simp
  rw [lc_mapF (h := fun d => .bl (low d)) (fun _ => trivial) (by simp; omega) (fun d _ => ⟨_, rfl, fun acc => ⟨rfl, by rw [← low_in]; rfl⟩⟩)]
  simp [gc_flat]
def isNam (s : List Nat) : Bool := decide (1 ≤ s.length ∧ s.length ≤ 8) && s.all low
theorem F_is_name_eq {s : List Nat} (h : s.length < lim) : F_p_is_name c [.str s] M = .ok (.bl (isNam s)) M := by
  rw [R_p_is_name]
  unfold B_p_is_name isNam
  simp [bLenS_str (show s.length ≤ lim by omega), F_is_word_eq h]
  by_cases h1 : (1 : Int) ≤ s.length
  · by_cases h2 : (s.length : Int) ≤ 8
    · have : 1 ≤ s.length ∧ s.length ≤ 8 := by omega
      simp [h1, h2, this]
    · have : ¬ (1 ≤ s.length ∧ s.length ≤ 8) := by omega
      simp [h1, h2, this]
  · have : ¬ (1 ≤ s.length ∧ s.length ≤ 8) := by omega
    simp [h1, this]
theorem F_is_letter_eq {s : List Nat} (h : s.length < lim) : F_p_is_letter c [.str s] M = .ok (.bl (decide (s.length = 1) && s.all low)) M := by
  rw [R_p_is_letter]
  unfold B_p_is_letter
  simp [bLenS_str (show s.length ≤ lim by omega), F_is_word_eq h]
  by_cases h1 : s.length = 1
  · simp [h1]
  · have : ¬ (s.length : Int) = 1 := by omega
    simp [h1, this]
theorem F_is_short_eq {s : List Nat} (h : s.length < lim) : F_p_is_short_word c [.str s] M = .ok (.bl (decide (s.length ≤ 8) && s.all low)) M := by
  rw [R_p_is_short_word]
  unfold B_p_is_short_word
  simp [bLenS_str (show s.length ≤ lim by omega), F_is_word_eq h]
  by_cases h1 : s.length ≤ 8
  · have : (s.length : Int) ≤ 8 := by omega
    simp [h1, this]
  · have : ¬ (s.length : Int) ≤ 8 := by omega
    simp [h1, this]
/-! ### what stands behind a letter; scenes -/
theorem cut_drop {α : Type} (xs : List α) (k : Nat) : cut xs (some (k : Int)) none = xs.drop k := by
  unfold cut
  rw [HT.sIx_none, HT.sIx_nat]
  by_cases h : k ≤ xs.length
  · rw [Nat.min_eq_left h, List.take_of_length_le (by rw [List.length_drop]; exact Nat.le_refl _)]
  · rw [Nat.min_eq_right (by omega), List.drop_of_length_le (Nat.le_refl _), List.drop_of_length_le (by omega), List.take_nil]
theorem cut_take' {α : Type} (xs : List α) (k : Nat) : cut xs none (some (k : Int)) = xs.take k := by
  unfold cut
  rw [HT.sIx_none, HT.sIx_nat, List.drop_zero, Nat.sub_zero]
  by_cases h : k ≤ xs.length
  · rw [Nat.min_eq_left h]
  · rw [Nat.min_eq_right (by omega), List.take_length, List.take_of_length_le (by omega)]
/-! ### scenes -/
abbrev tS (l : List (List Nat)) : PV := .tup (l.map PV.str)
abbrev scP (ss ws : List (List Nat)) : PV := .tup [tS ss, tS ws]
/-- texts of small signs -/
def asc (s : List Nat) : Prop := ∀ x ∈ s, x < 128
/-- no refs, no bools: == is equality -/
def Dat : Nat → PV → Prop
  | _, .non => True
  | _, .int _ => True
  | _, .str s => asc s
  | n + 1, .tup xs => ∀ x ∈ xs, Dat n x
  | _, _ => False
theorem dat_tup {n : Nat} {xs : List PV} : Dat (n + 1) (.tup xs) = ∀ x ∈ xs, Dat n x := by rw [Dat]
theorem dat_str {n : Nat} {s : List Nat} : Dat n (.str s) = asc s := by rw [Dat]
theorem dat_tS {n : Nat} {l : List (List Nat)} (h : ∀ s ∈ l, asc s) : Dat (n + 1) (tS l) := by
  rw [dat_tup]
  intro x hx
  obtain ⟨s, hs, rfl⟩ := List.mem_map.mp hx
  rw [dat_str]
  exact h s hs
mutual
def dv : PV → PyData
  | .non => .none
  | .bl b => .bool b
  | .int i => .int i
  | .str s => .str (tx s)
  | .ty _ => .none
  | .adr _ => .none
  | .tpb _ => .none
  | .ref _ => .none
  | .tup xs => .tuple (dvs xs)
def dvs : List PV → List PyData
  | [] => []
  | x :: xs => dv x :: dvs xs
end
theorem mapM_dv {f : PV → Option PyData} : ∀ {xs : List PV}, (∀ x ∈ xs, f x = some (dv x)) → xs.mapM f = some (dvs xs)
  | [], _ => by rw [List.mapM_nil]; unfold dvs; rfl
  | x :: xs, h => by
    rw [List.mapM_cons, h x List.mem_cons_self, mapM_dv fun y hy => h y (List.mem_cons_of_mem _ hy)]
    conv => rhs; unfold dvs
    rfl
theorem datF_dv {M : PM} : ∀ {n : Nat} {p : PV}, Dat n p → datF M n p = some (dv p) := by
  intro n
  induction n with
  | zero =>
    intro p hp
    cases p <;> first | exact (hp : False).elim | (unfold datF dv; rfl) | skip
    rename_i s
    have hp : asc s := hp
    unfold datF dv
    rw [if_pos (show ∀ c, c ∈ s → c < 128 from hp)]
  | succ n ih =>
    intro p hp
    cases p <;> first | exact (hp : False).elim | (unfold datF dv; rfl) | skip
    · rename_i s
      have hp : asc s := hp
      unfold datF dv
      rw [if_pos (show ∀ c, c ∈ s → c < 128 from hp)]
    · rename_i xs
      rw [dat_tup] at hp
      unfold datF dv
      rw [mapM_dv fun x hx => ih (hp x hx)]
      rfl
mutual
theorem eqv_dv : ∀ (p q : PV) (n m : Nat), Dat n p → Dat m q → PyData.eqv (dv p) (dv q) = decide (p = q)
  | .tup xs, q, n, m, hp, hq => by
    cases n with
    | zero => exact (hp : False).elim
    | succ n =>
      cases q with
      | tup ys =>
        cases m with
        | zero => exact (hq : False).elim
        | succ m =>
          rw [dat_tup] at hp hq
          have := eqvs_dv xs ys n m hp hq
          unfold dv
          unfold PyData.eqv
          rw [this]
          exact decide_eq_decide.mpr ⟨fun z => by rw [z], fun z => by injection z⟩
      | non => unfold dv; unfold PyData.eqv; exact (decide_eq_false (fun z => by cases z)).symm
      | int i => unfold dv; unfold PyData.eqv; exact (decide_eq_false (fun z => by cases z)).symm
      | str i => unfold dv; unfold PyData.eqv; exact (decide_eq_false (fun z => by cases z)).symm
      | bl i => cases m <;> exact (hq : False).elim
      | ty i => cases m <;> exact (hq : False).elim
      | adr i => cases m <;> exact (hq : False).elim
      | tpb i => cases m <;> exact (hq : False).elim
      | ref i => cases m <;> exact (hq : False).elim
  | .non, q, n, m, hp, hq => by
    cases q <;> first | (cases m <;> exact (hq : False).elim) | skip
    · unfold dv; unfold PyData.eqv; simp
    all_goals (unfold dv; unfold PyData.eqv; exact (decide_eq_false (fun z => by cases z)).symm)
  | .int i, q, n, m, hp, hq => by
    cases q <;> first | (cases m <;> exact (hq : False).elim) | skip
    · unfold dv; unfold PyData.eqv; exact (decide_eq_false (fun z => by cases z)).symm
    · rename_i j
      unfold dv; unfold PyData.eqv
      rw [Bool.beq_eq_decide_eq]
      exact decide_eq_decide.mpr ⟨fun z => by rw [z], fun z => by injection z⟩
    all_goals (unfold dv; unfold PyData.eqv; exact (decide_eq_false (fun z => by cases z)).symm)
  | .str i, q, n, m, hp, hq => by
    cases q <;> first | (cases m <;> exact (hq : False).elim) | skip
    · unfold dv; unfold PyData.eqv; exact (decide_eq_false (fun z => by cases z)).symm
    · unfold dv; unfold PyData.eqv; exact (decide_eq_false (fun z => by cases z)).symm
    · rename_i j
      unfold dv; unfold PyData.eqv
      rw [Bool.beq_eq_decide_eq]
      exact decide_eq_decide.mpr ⟨fun z => by rw [tx_inj.mp z], fun z => by injection z with z; rw [z]⟩
    all_goals (unfold dv; unfold PyData.eqv; exact (decide_eq_false (fun z => by cases z)).symm)
  | .bl i, q, n, m, hp, hq => by cases n <;> exact (hp : False).elim
  | .ty i, q, n, m, hp, hq => by cases n <;> exact (hp : False).elim
  | .adr i, q, n, m, hp, hq => by cases n <;> exact (hp : False).elim
  | .tpb i, q, n, m, hp, hq => by cases n <;> exact (hp : False).elim
  | .ref i, q, n, m, hp, hq => by cases n <;> exact (hp : False).elim
theorem eqvs_dv : ∀ (ps qs : List PV) (n m : Nat), (∀ x ∈ ps, Dat n x) → (∀ x ∈ qs, Dat m x) → PyData.eqvAll (dvs ps) (dvs qs) = decide (ps = qs)
  | [], [], _, _, _, _ => by unfold dvs; unfold PyData.eqvAll; simp
  | [], _ :: _, _, _, _, _ => by unfold dvs; unfold PyData.eqvAll; simp
  | _ :: _, [], _, _, _, _ => by unfold dvs; unfold PyData.eqvAll; simp
  | x :: xs, y :: ys, n, m, hp, hq => by
    unfold dvs
    unfold PyData.eqvAll
    rw [eqv_dv x y n m (hp x List.mem_cons_self) (hq y List.mem_cons_self), eqvs_dv xs ys n m (fun z hz => hp z (List.mem_cons_of_mem _ hz)) (fun z hz => hq z (List.mem_cons_of_mem _ hz))]
    rw [← Bool.decide_and]
    exact decide_eq_decide.mpr (by simp)
end
theorem pEqD_dat {p q : PV} (hp : Dat 60 p) (hq : Dat 60 q) : pEqD p q M = .ok (.bl (decide (p = q))) M := by
  unfold pEqD
  rw [datF_dv hp, datF_dv hq]
  simp only
  rw [eqv_dv p q _ _ hp hq]
@[simp] theorem mapS_inj {a b : List (List Nat)} : a.map PV.str = b.map PV.str ↔ a = b := List.map_inj_right (fun x y z => by injection z)
theorem tS_inj {a b : List (List Nat)} : tS a = tS b ↔ a = b := by
  constructor
  · intro h
    injection h with h
    exact mapS_inj.mp h
  · intro h; rw [h]
/-- small texts, none too long -/
def Wds (l : List (List Nat)) : Prop := ∀ s ∈ l, asc s ∧ s.length < 1000
/-! ### a word or a stand put in a scene -/
/-! ### what a step does -/
/-- a step: machine, start, act, row, letter, end -/
structure Stp where
  mi : Nat
  st : List Nat
  k : List Nat
  ri : Int
  l : List Nat
  en : List Nat
abbrev Stp.pv (x : Stp) : PV := .tup [.int (x.mi : Nat), .str x.st, .str x.k, .int x.ri, .str x.l, .str x.en]
end Pu
namespace Pu
open PySem PySem.Spec PyProof.Rows L2 LB
open Classical
/-! ### in, over a list of data -/
/-! ### reckoning -/
end Pu
/-! x == y where x is of an own class with its own ==: what that def answers, be it yes or no. -/
namespace L2
open PySem PySem.Spec PyProof.Rows
section
variable {X : Cx}
/-- what y may be, so that x's own == goes first -/
def Beside (C : Addr) (H : Hp) (y : V) : Prop := ∃ b dy gs, y = .ref b ∧ H b = some (.ins C dy gs)
def rOwn (C : Addr) (sp : Sp) (E : XK) : R2 := fun x y H Q => ∃ a dx fs, x = .ref a ∧ H a = some (.ins C dx fs) ∧ Beside C H y ∧ sp [x, y] H (fun v H' => (∃ r, v = .bl r) ∧ Q v H') E
theorem op_own {CX : CXT} {C f : Addr} {fd : FuncData} {ps : List Str} {n : Nat} {sp : Sp} {E : XK} (F : FnOk X.prog X.w X.K X.mg X.base CX n f fd ps sp) (hr : Room n X.A)
    (hs : PySem.W.findIn X.K (.ref C) "__eq__" = some (some (.ref f))) (hf : PySem.W.isFn X.K (.ref f) = true) (hb : Binds X.K fd ps []) (hx : Passes CX X E) : OpR X (compareOp .Eq) (rOwn C sp E) := by
  intro pins s σ H x y v u Q I rx ry hq
  obtain ⟨a, dx, fs, rfl, ha, ⟨b, dy, gs, rfl, hbb⟩, hsp⟩ := hq
  cases rx
  cases ry
  show wpAny (model X.prog X.w) X.A (richCompare .Eq (.ref a) (.ref b)) (EP X pins σ Q) X.xe s
  obtain ⟨mA, J, _⟩ := ins_get I.hok ha
  obtain ⟨mB, J', _⟩ := ins_get I.hok hbb
  obtain ⟨od, J, _⟩ := J.look
  obtain ⟨od', J', _⟩ := J'.look
  obtain ⟨m, hF⟩ := I.fr
  refine PySem.W.cmp_K (op := .Eq) (tb := .ref C) hr.units0 hF I.ok.mod.kin J J'.type (by simp [PySem.W.notFirst]) hs hf ?_
  have hl := F.len _ _ _ _ hsp
  have r2 : Vals [V.ref a, V.ref b] [Value.ref a, Value.ref b] := .cons rfl (.cons rfl .nil)
  refine wpAny_call (codeAny_mono (F.run X.A X.stack s H ⟨[.ref a, .ref b], []⟩ [.ref a, .ref b] [.ref a, .ref b] _ E hr I.env0 (by
    have := hb s [.ref a, .ref b] I.kIn (by simpa using hl)
    simpa using this) r2 hsp) fun r s' hq => ?_)
  cases r with
  | error e => exact hx pins σ H s e s' I hq
  | ok fl =>
    cases fl with
    | ret w =>
      obtain ⟨z, H', I', rz, ⟨r, ez⟩, q⟩ := I.after hq
      subst ez
      cases rz
      exact ⟨.bl r, H', I', rfl, q⟩
    | next => exact False.elim hq
    | brk => exact False.elim hq
    | cont => exact False.elim hq
end
end L2
namespace Pu
open PySem PySem.Spec PyProof.Rows L2 LB
open Classical
def isInsP (M : PM) (C : Addr) (p : PV) : Bool := match p with
  | .ref k => match M[k]? with
    | some (.ins D _) => decide (D = C)
    | _ => false
  | _ => false
noncomputable def pOwn (C : Addr) (F : FF) (p q : PV) (M : PM) : Res PV := if isInsP M C p = true ∧ isInsP M C q = true then (match F [p, q] M with
  | .ok (.bl r) M' => .ok (.bl r) M'
  | _ => .bad) else .bad
section
variable {tb : List (Addr × Str)} {E : XK} {K : PySem.W.Frag} {ι : Nat → Addr} {M : PM} {H : Hp}
theorem isInsP_at {C : Addr} {p : PV} {v : V} (R : RM tb ι M H) (rv : Rv ι M.length H p v) (h : isInsP M C p = true) : ∃ a dx fs, v = .ref a ∧ H a = some (.ins C dx fs) := by
  unfold isInsP at h
  split at h
  · rename_i k
    split at h
    · rename_i D fs e
      have hd := of_decide_eq_true h
      subst hd
      obtain ⟨_, rfl⟩ := rv.ref_at
      obtain ⟨dx, ws, e1, _⟩ := R.obj k _ e
      exact ⟨_, dx, ws, rfl, e1⟩
    · cases h
  · cases h
theorem smr_own {C : Addr} {F : FF} {E0 : XK} : SmR tb E (rOwn C (spF tb F) E0) (pOwn C F) := by
  intro ι M H p q x y Q R rp rq h
  unfold pOwn at h
  split at h
  · rename_i hh
    obtain ⟨a, dx, fs, rfl, ha⟩ := isInsP_at R rp hh.1
    obtain ⟨b, dy, gs, rfl, hb⟩ := isInsP_at R rq hh.2
    split at h
    · rename_i r M' e
      refine ⟨a, dx, fs, rfl, ha, ⟨b, dy, gs, rfl, hb⟩, ι, M, [p, q], R, ?_, ?_⟩
      · exact .cons rp (.cons rq .nil)
      · rw [e]
        exact fun ι' H' v ex hl R' rv => ⟨⟨r, rv.bl⟩, h ι' H' v ex hl R' rv⟩
    · exact h.elim
  · exact h.elim
end
end Pu
/-! x == y with another kind on the right, x != y, len(x), repr(x), str(x) where x is of an own class. -/
namespace L2
open PySem PySem.Spec PyProof.Rows
section
variable {X : Cx}
/-! x != y -/
theorem ifBound_B {M : Model} {A : Around} {E : Value → Shared → Prop} {s : Shared} {K : PySem.W.Frag} {x C : Addr} {ox : Obj} {od : Option Obj} {name : Str} {id : String} {args : List Value} {Q : Option Value → Shared → Prop} (X : K.In s.heap) (I : PySem.W.InstAt s.heap x ox C od)
    (hs : PySem.W.findIn K (.ref C) name = some (some (.builtin id))) (hb : bindSpecial (.builtin id) (.ref x) = pure (.builtin id, [.ref x]))
    (h : wpAny M A (call (.builtin id) (.ref x :: args)) (fun v => Q (some v)) E s) : wpAny M A (callSpecialIfBound? (.ref x) name args) Q E s := by
  simp only [callSpecialIfBound?, bindSpecialIfBound?]
  refine wpAny_holding (wpAny_bind (wpAny_bind (wpAny_bind (I.type.here ((PySem.W.looks_findIn X hs).here ?_)))))
  refine wpAny_bind (wpAny_askSetting (wpAny_ite ?_))
  have fin : wpAny M A (call (.builtin id) ([.ref x] ++ args) >>= fun v => pure (some v)) Q E s := wpAny_bind (wpAny_mono h (fun v s' h' => wpAny_pure h') fun _ _ h' => h')
  split
  · exact wpAny_bind ((PySem.W.Looks.of_pure hb).here (wpAny_pure (by exact fin)))
  · exact wpAny_tryCatch (wpAny_bind ((PySem.W.Looks.of_pure hb).here (wpAny_pure (by exact fin))))
open Builtin in
theorem one_ne {prog : Program} {w : World} {A : Around} {E : Value → Shared → Prop} {s : Shared} {K : PySem.W.Frag} {x y C f : Addr} {ox : Obj} {od : Option Obj} {Q : Value → Shared → Prop} (hu : A.in1.units < cLine) (X : K.In s.heap) (I : PySem.W.InstAt s.heap x ox C od) (hm : PySem.W.mroIn K C (.type "object") = some true)
    (hn : PySem.W.findIn K (.ref C) "__ne__" = some (some (.builtin "object.__ne__"))) (hs : PySem.W.findIn K (.ref C) "__eq__" = some (some (.ref f))) (hf : PySem.W.isFn K (.ref f) = true)
    (h : wpAny (model prog w) A.in1 (call (.ref f) [.ref x, .ref y]) (fun v s' => ∃ b, v = .bool b ∧ Q (.bool (!b)) s') E s) : wpAny (model prog w) A (tryCompare (.ref x) "__ne__" (.ref y)) (fun r s' => ∃ v, r = some v ∧ Q v s') E s := by
  have body : wpAny (model prog w) A (call (.builtin "object.__ne__") [.ref x, .ref y]) (fun v s' => ∃ b, v = .bool b ∧ Q v s') E s := by
    refine wpAny_call (codeAny_call_builtin PySem.F.slot_object_ne.plain PySem.F.entry_object_ne (PySem.W.check_slot (i := "object.__ne__") (owner := "object") (n := "__ne__") (by decide +kernel) (by decide +kernel) (I.type.andThen (PySem.W.looks_mroIn X hm)) (PySem.F.args_object_ne_2 _ _) ?_))
    unfold Builtin.«object.__ne__»
    refine wpAny_bind (m := slotArgs "__ne__" 1 _) (wpAny_pure ?_)
    refine wpAny_bind (m := cRoomFor _ _) (wpAny_cRoomFor hu ?_)
    refine wpAny_bind (m := callSpecialIfBound? (.ref x) (Str.ofString "__eq__") _) (PySem.W.ifBound_K X I hs hf (wpAny_mono h (fun v s' hv => ?_) fun _ _ y => y))
    obtain ⟨b, rfl, q⟩ := hv
    exact wpAny_bind (wpAny_truthy_bool (wpAny_pure ⟨_, rfl, q⟩))
  simp only [tryCompare]
  refine wpAny_bind (ifBound_B X I hn (PySem.F.slot_object_ne.bind _) (wpAny_mono body (fun v s' hv => ?_) fun _ _ y => y))
  obtain ⟨b, rfl, q⟩ := hv
  exact wpAny_pure ⟨_, rfl, q⟩
theorem cmp_ne {prog : Program} {w : World} {A : Around} {E : Value → Shared → Prop} {s : Shared} {K : PySem.W.Frag} {x y C f : Addr} {ox oy : Obj} {od od' : Option Obj} {Q : Value → Shared → Prop} (hu0 : A.units < cLine) (hu : A.in1.units < cLine) (X : K.In s.heap) (I : PySem.W.InstAt s.heap x ox C od) (J : PySem.W.InstAt s.heap y oy C od') (hm : PySem.W.mroIn K C (.type "object") = some true)
    (hn : PySem.W.findIn K (.ref C) "__ne__" = some (some (.builtin "object.__ne__"))) (hs : PySem.W.findIn K (.ref C) "__eq__" = some (some (.ref f))) (hf : PySem.W.isFn K (.ref f) = true)
    (h : wpAny (model prog w) A.in1 (call (.ref f) [.ref x, .ref y]) (fun v s' => ∃ b, v = .bool b ∧ Q (.bool (!b)) s') E s) : wpAny (model prog w) A (richCompare .NotEq (.ref x) (.ref y)) Q E s := by
  have one := one_ne (Q := Q) hu X I hm hn hs hf h
  unfold richCompare
  simp only [oneThing_ref]
  refine wpAny_holding (wpAny_bind (wpAny_cRoomFor hu0 ?_))
  refine wpAny_bind (I.type.here (wpAny_bind (J.type.here ?_)))
  rw [show (Value.ref C != Value.ref C) = false from by simp]
  refine wpAny_bind (wpAny_pure ?_)
  simp only [Bool.false_eq_true, if_false]
  refine wpAny_bind (wpAny_mono one (fun r s' z => ?_) fun _ _ e => e)
  obtain ⟨v, rfl, hq⟩ := z
  exact wpAny_pure hq
def rOwnNe (C : Addr) (sp : Sp) : R2 := fun x y H Q => ∃ a dx fs, x = .ref a ∧ H a = some (.ins C dx fs) ∧ Beside C H y ∧ sp [x, y] H (fun v H' => ∃ r, v = .bl r ∧ Q (.bl (!r)) H') (fun _ _ _ => False)
/-- the last of the facts: what a class's own == has beside it -/
structure OwnNe (K : PySem.W.Frag) (C : Addr) : Prop where
  obj : PySem.W.mroIn K C (.type "object") = some true
  ne : PySem.W.findIn K (.ref C) "__ne__" = some (some (.builtin "object.__ne__"))
theorem op_ownNe {C f : Addr} {fd : FuncData} {ps : List Str} {n : Nat} {sp : Sp} (F : FnOk X.prog X.w X.K X.mg X.base CX0 n f fd ps sp) (hr : Room (n + 1) X.A) (hm : Meth X.K C "__eq__" f) (hn : OwnNe X.K C) (hb : Binds X.K fd ps []) : OpR X (compareOp .NotEq) (rOwnNe C sp) := by
  intro pins s σ H x y v u Q I rx ry hq
  obtain ⟨a, dx, fs, rfl, ha, ⟨b, dy, gs, rfl, hbb⟩, hsp⟩ := hq
  cases rx
  cases ry
  show wpAny (model X.prog X.w) X.A (richCompare .NotEq (.ref a) (.ref b)) (EP X pins σ Q) X.xe s
  obtain ⟨mA, J, _⟩ := ins_get I.hok ha
  obtain ⟨mB, J', _⟩ := ins_get I.hok hbb
  obtain ⟨od, J, _⟩ := J.look
  obtain ⟨od', J', _⟩ := J'.look
  have hl := F.len _ _ _ _ hsp
  have r2 : Vals [V.ref a, V.ref b] [Value.ref a, Value.ref b] := .cons rfl (.cons rfl .nil)
  refine cmp_ne hr.units0 (Room.in1 hr).units0 I.kIn J J' hn.obj hn.ne hm.at_ hm.fn ?_
  refine wpAny_mono (Q := fun v s' => ∃ b, v = .bool b ∧ EP X pins σ Q (.bool (!b)) s') ?_ (fun _ _ z => z) fun _ _ (z : False) => z.elim
  refine wpAny_call (codeAny_mono (F.run X.A.in1 X.stack s H ⟨[.ref a, .ref b], []⟩ [.ref a, .ref b] [.ref a, .ref b] _ _ (Room.in1 hr) I.env0.in1 (by
    have := hb s [.ref a, .ref b] I.kIn (by simpa using hl)
    simpa using this) r2 hsp) fun r s' hq => ?_)
  cases r with
  | error e => exact (hq : False).elim
  | ok fl =>
    cases fl with
    | ret w =>
      obtain ⟨z, H', I', rz, r, ez, q⟩ := I.after hq
      subst ez
      cases rz
      exact ⟨r, rfl, .bl (!r), H', I', rfl, q⟩
    | next => exact False.elim hq
    | brk => exact False.elim hq
    | cont => exact False.elim hq
/-! len(x), repr(x) -/
def rReprOwn (C : Addr) (sp : Sp) : List V → Hp → VK → Prop := fun vs H Q => ∃ a dx fs, vs = [.ref a] ∧ H a = some (.ins C dx fs) ∧ sp [.ref a] H (fun v H' => ∃ x : Str, v = .str x ∧ Q (.str x) H') (fun _ _ _ => False)
end
end L2
/-! isinstance(x, T) of texts, whole numbers, tuples and lists. -/
namespace Pu
open PySem PySem.Spec PyProof.Rows L2 LB
open Classical
def isiNm (M : PM) : PV → Option String
  | .str _ => some "str"
  | .int _ => some "int"
  | .tup _ => some "tuple"
  | .tpb _ => some "tuple"
  | .ref k => match M[k]? with
    | some (.lst _) => some "list"
    | _ => none
  | _ => none
def isiTys : List String := ["str", "int", "tuple", "list"]
section
variable {tb : List (Addr × Str)} {E : XK} {K : PySem.W.Frag} {ι : Nat → Addr} {M : PM} {H : Hp}
theorem isi_ty {p : PV} {v : V} {m : String} (R : RM tb ι M H) (rv : Rv ι M.length H p v) (h : isiNm M p = some m) : m ∈ isiTys ∧ TyX K H v (.type m) := by
  unfold isiNm at h
  split at h
  · cases h
    rw [rv.str]
    exact ⟨by simp [isiTys], .base (.str _)⟩
  · cases h
    rw [rv.int]
    exact ⟨by simp [isiTys], .base (.int _)⟩
  · cases h
    obtain ⟨a, us, rfl, ha, _⟩ := rv.tup_at
    exact ⟨by simp [isiTys], .base (.tup ha)⟩
  · cases h
    obtain ⟨a, us, o, rfl, ha, _⟩ := rv.tpb_at
    exact ⟨by simp [isiTys], .fTuple ha⟩
  · rename_i k
    split at h
    · rename_i xs e
      cases h
      obtain ⟨_, rfl⟩ := rv.ref_at
      obtain ⟨vs, e1, _⟩ := R.obj k _ e
      exact ⟨by simp [isiTys], .base (.lst e1)⟩
    · cases h
  · cases h
end
end Pu
namespace LB
open PySem PySem.Spec PyProof.Rows L2
/-! ### sorted(xs, key=f), f a def whose answers are ints, xs objects, fewer than 64 -/
end LB
namespace LB
open PySem PySem.Spec PyProof.Rows L2
/-! ### sorted(xs, key=f), f a def whose answers are ints, xs objects, any number: stable -/
end LB
/-! sorted(xs, key=f), as a run -/
namespace Pu
open PySem PySem.Spec PyProof.Rows L2 LB
/-! ### stable order by a key -/
def leK {α : Type} (p q : Int × α) : Bool := decide (p.1 ≤ q.1)
def sortK {α : Type} (ks : List Int) (xs : List α) : List α := ((ks.zip xs).mergeSort leK).map (·.2)
/-! ### the run -/
noncomputable def keysP (F : FF) : List PV → PM → Res (List Int)
  | [], M => .ok [] M
  | x :: xs, M => (F [x] M).nox.bnd fun k M1 => match k with
    | .int i => (keysP F xs M1).bnd fun ks M2 => .ok (i :: ks) M2
    | _ => .bad
def isTupP : PV → Bool
  | .tup _ => true
  | _ => false
noncomputable def bSortK (F : FF) (p : PV) (M : PM) : Res PV := match lstAt M p with
  | some xs => if xs.all isTupP = true ∧ xs.length < 100000 then (keysP F xs M).bnd fun ks M1 => .ok (.ref M1.length) (M1 ++ [.lst (sortK ks xs)]) else .bad
  | none => .bad
noncomputable def fSortK (F : FF) (f : FE) : FE := fun σ M => (f σ M).bnd (bSortK F)
@[simp] theorem ev_fSortK (F : FF) (f : FE) (σ : PS) (M : PM) : fSortK F f σ M = (f σ M).bnd (bSortK F) := id rfl
theorem fn_none {P : Program} {w : World} {K : PySem.W.Frag} {mg : Str → Option Value} {base : Heap} {k : Nat} {f : Addr} {fd : FuncData} {ps : List Str} {sp : Sp} (F : FnOk P w K mg base (L2.CX P w) k f fd ps sp) : FnOk P w K mg base CX0 k f fd ps (fun vs H Q _ => sp vs H Q E0) :=
  ⟨fun vs H Q _ h => F.len vs H Q E0 h, fun A outer s H args us vs Q E hr he hb hv hs => codeAny_mono (F.run A outer s H args us vs Q E0 hr he hb hv hs) fun r s2 h => by
    cases r with
    | ok r => cases r <;> exact h
    | error e =>
      obtain ⟨_, _, _, _, _, _, _, _, _, _, _, _, h⟩ := h
      exact h.elim⟩
end Pu
/-! The same as runs: x == y, x != y, len(x), repr(x), isinstance(x, C), C an own class. -/
namespace Pu
open PySem PySem.Spec PyProof.Rows L2 LB
open Classical
/-- what a class with its own == has -/
structure OwnC (K : PySem.W.Frag) (C : Addr) : Prop where
  ic : C8.InsC K C
  ne : PySem.W.findIn K (.ref C) "__ne__" = some (some (.builtin "object.__ne__"))
  ks : PySem.W.kitOne K (.type "str") (.ref C) = some false
  ki : PySem.W.kitOne K (.type "int") (.ref C) = some false
  kt : PySem.W.kitOne K (.type "tuple") (.ref C) = some false
  kl : PySem.W.kitOne K (.type "list") (.ref C) = some false
theorem OwnC.own {K : PySem.W.Frag} {C : Addr} (h : OwnC K C) : L2.OwnNe K C := ⟨h.ic.hm, h.ne⟩
noncomputable def pOwnNe (C : Addr) (F : FF) (p q : PV) (M : PM) : Res PV := if isInsP M C p = true ∧ isInsP M C q = true then (match F [p, q] M with
  | .ok (.bl r) M' => .ok (.bl (!r)) M'
  | _ => .bad) else .bad
noncomputable def bReprOwn (C : Addr) (F : FF) (as : List PV) (M : PM) : Res PV := match as with
  | [p] => if isInsP M C p = true then (match F [p] M with
    | .ok (.str x) M' => .ok (.str x) M'
    | _ => .bad) else .bad
  | _ => .bad
def isiCP (M : PM) (C : Addr) (p : PV) : Option Bool := match p with
  | .str _ => some false
  | .int _ => some false
  | .tup _ => some false
  | .ref k => match M[k]? with
    | some (.lst _) => some false
    | some (.ins D _) => if D = C then some true else none
    | _ => none
  | _ => none
def bIsiC (C : Addr) (as : List PV) (M : PM) : Res PV := match as with
  | [x, .adr D] => if D = C then (match isiCP M C x with
    | some b => .ok (.bl b) M
    | none => .bad) else .bad
  | _ => .bad
section
variable {tb : List (Addr × Str)} {E : XK} {K : PySem.W.Frag} {ι : Nat → Addr} {M : PM} {H : Hp}
theorem smr_ownNe {C : Addr} {F : FF} : SmR tb E (L2.rOwnNe C (fun vs H Q _ => spF tb F vs H Q E0)) (pOwnNe C F) := by
  intro ι M H p q x y Q R rp rq h
  unfold pOwnNe at h
  split at h
  · rename_i hh
    obtain ⟨a, dx, fs, rfl, ha⟩ := isInsP_at R rp hh.1
    obtain ⟨b, dy, gs, rfl, hb⟩ := isInsP_at R rq hh.2
    split at h
    · rename_i r M' e
      refine ⟨a, dx, fs, rfl, ha, ⟨b, dy, gs, rfl, hb⟩, ι, M, [p, q], R, ?_, ?_⟩
      · exact .cons rp (.cons rq .nil)
      · rw [e]
        exact fun ι' H' v ex hl R' rv => ⟨r, rv.bl, h ι' H' (.bl (!r)) ex hl R' .mk_bl⟩
    · exact h.elim
  · exact h.elim
theorem sb_reprOwn {C : Addr} {F : FF} : SmL tb E (L2.rReprOwn C (fun vs H Q _ => spF tb F vs H Q E0)) (bReprOwn C F) := by
  intro ι M H ps xs Q R rs h
  unfold bReprOwn at h
  split at h
  · rename_i p
    split at h
    · rename_i hh
      obtain ⟨v, rfl, rv⟩ := rvs1 rs
      obtain ⟨a, dx, fs, rfl, ha⟩ := isInsP_at R rv hh
      split at h
      · rename_i x M' e
        refine ⟨a, dx, fs, rfl, ha, ι, M, [p], R, .cons rv .nil, ?_⟩
        rw [e]
        exact fun ι' H' v ex hl R' rv => ⟨tx x, rv.str, h ι' H' _ ex hl R' .mk_str⟩
      · exact h.elim
    · exact h.elim
  · exact h.elim
theorem kit_own {K : PySem.W.Frag} {C : Addr} (hC : OwnC K C) {n : String} (hn : n ∈ isiTys) : PySem.W.kitOne K (.type n) (.ref C) = some false := by
  simp only [isiTys, List.mem_cons, List.not_mem_nil, or_false] at hn
  rcases hn with rfl | rfl | rfl | rfl
  · exact hC.ks
  · exact hC.ki
  · exact hC.kt
  · exact hC.kl
theorem sb_isiC {C : Addr} (hC : OwnC K C) : SmL tb E (rIsi K) (bIsiC C) := by
  intro ι M H ps xs Q R rs h
  unfold bIsiC at h
  split at h
  · rename_i p D
    obtain ⟨v, u, rfl, rv, ru⟩ := rvs2 rs
    have eu : u = .ref D := by unfold Rv at ru; exact ru
    subst eu
    split at h
    · rename_i hD
      subst hD
      split at h
      · rename_i b e
        have other : ∀ n, n ∈ isiTys → isiNm M p = some n → b = false → rIsi K [v, .ref D] H Q := fun n hn hp hb => by
          obtain ⟨_, ty⟩ := isi_ty (K := K) R rv hp
          subst hb
          exact ⟨v, .ref D, .type n, .ref D, false, rfl, .own D, ty, kit_own hC hn, h.okNow R .mk_bl⟩
        unfold isiCP at e
        split at e
        · cases e; exact other "str" (by simp [isiTys]) rfl rfl
        · cases e; exact other "int" (by simp [isiTys]) rfl rfl
        · cases e; exact other "tuple" (by simp [isiTys]) rfl rfl
        · rename_i k
          split at e
          · rename_i xs ek
            cases e
            exact other "list" (by simp [isiTys]) (by unfold isiNm; simp only [ek]) rfl
          · rename_i D' fs ek
            split at e
            · rename_i hD
              subst hD
              cases e
              obtain ⟨_, rfl⟩ := rv.ref_at
              obtain ⟨dx, ws, e1, _⟩ := R.obj k _ ek
              exact ⟨_, .ref D', .ref D', .ref D', true, rfl, .own D', .base (.ins e1 hC.ic.cl hC.ic.ha hC.ic.hn hC.ic.htk hC.ic.hm), hC.ic.me, h.okNow R .mk_bl⟩
            · cases e
          · cases e
        · cases e
      · exact h.elim
    · exact h.elim
  · exact h.elim
end
end Pu
/-! max of a list, text.partition, f-texts. -/
namespace Pu
open PySem PySem.Spec PyProof.Rows L2 LB
open Classical
/-- {x} in an f-text: a text, or a whole number -/
def fFmt (f : FE) : FE := fun σ M => (f σ M).bnd fun p M1 => match p with
  | .str s => if s.length ≤ lim then .ok (.str s) M1 else .bad
  | .int i => if i.natAbs < 2 ^ 63 then .ok (.str (toString i : Str).cps.toList) M1 else .bad
  | _ => .bad
def fJs : List FE → List Nat → FE
  | [], acc => fun _ M => .ok (.str acc) M
  | f :: fs, acc => fun σ M => (f σ M).bnd fun p M1 => match p with
    | .str s => if acc.length + s.length ≤ lim then fJs fs (acc ++ s) σ M1 else .bad
    | _ => .bad
@[simp] theorem ev_fFmt (f : FE) (σ : PS) (M : PM) : fFmt f σ M = (f σ M).bnd fun p M1 => match p with
  | .str s => if s.length ≤ lim then .ok (.str s) M1 else .bad
  | .int i => if i.natAbs < 2 ^ 63 then .ok (.str (toString i : Str).cps.toList) M1 else .bad
  | _ => .bad := id rfl
@[simp] theorem ev_fJs0 (acc : List Nat) (σ : PS) (M : PM) : fJs [] acc σ M = .ok (.str acc) M := id rfl
@[simp] theorem ev_fJs (f : FE) (fs : List FE) (acc : List Nat) (σ : PS) (M : PM) : fJs (f :: fs) acc σ M = (f σ M).bnd fun p M1 => match p with
    | .str s => if acc.length + s.length ≤ lim then fJs fs (acc ++ s) σ M1 else .bad
    | _ => .bad := id rfl
section
variable {tb : List (Addr × Str)} {E : XK} {K : PySem.W.Frag} {ι : Nat → Addr} {M : PM} {H : Hp}
theorem sm_fmt {te : TE} {fe : FE} (h : SmE tb E te fe) : SmE tb E (tFmt te) (fFmt fe) := fun ι M H σp σ Q R S w =>
  h.to R S w fun ι1 M1 H1 p v o S1 rv w1 => by
    split at w1
    · rename_i s
      split at w1
      · rename_i hl
        exact .inl ⟨tx s, rv.str, by rw [tx_len]; exact lim_le hl, w1.okNow o.r .mk_str⟩
      · exact w1.elim
    · rename_i i
      split at w1
      · rename_i hl
        refine .inr ⟨i, rv.int, Nat.lt_of_lt_of_le (Nat.lt_of_le_of_lt (Nat.log2_le_self _) hl |> fun h => ?_) (by decide : (64 : Nat) ≤ 1920), ?_⟩
        · by_cases h0 : i.natAbs = 0
          · rw [h0]; decide
          · exact (Nat.log2_lt h0).mpr (Nat.lt_trans hl (by decide))
        · have := w1.okNow o.r (v := .str (toString i : Str)) (by
            have h := Rv.mk_str (ι := ι1) (N := M1.length) (H := H1) (i := (toString i : Str).cps.toList)
            rw [← tx_of] at h
            exact h)
          exact this
      · exact w1.elim
    · exact w1.elim
/-- the parts of an f-text -/
inductive SmJs (tb : List (Addr × Str)) (E : XK) : List TE → List FE → Prop where
  | nil : SmJs tb E [] []
  | cons {t : TE} {f : FE} {ts : List TE} {fs : List FE} (h : SmE tb E t f) (r : SmJs tb E ts fs) : SmJs tb E (t :: ts) (f :: fs)
theorem js_run {ts : List TE} {fs : List FE} (h : SmJs tb E ts fs) : ∀ acc : List Nat, SmE tb E (fun σ H Q => tJs ts (tx acc) σ H fun out H1 => Q (.str out) H1) (fJs fs acc) := by
  induction h with
  | nil => exact fun acc ι M H σp σ Q R S w => Wp.okNow w R .mk_str
  | @cons t f ts fs h r ih =>
    intro acc ι M H σp σ Q R S w
    refine h.to R S w fun ι1 M1 H1 p v o S1 rv w1 => ?_
    split at w1
    · rename_i s
      split at w1
      · rename_i hl
        refine ⟨tx s, rv.str, ?_, ?_⟩
        · rw [tx_app, tx_len, List.length_append]
          exact lim_le hl
        · rw [tx_app]
          exact ih (acc ++ s) ι1 M1 H1 σp σ Q o.r S1 w1
      · exact w1.elim
    · exact w1.elim
theorem sm_js {ts : List TE} {fs : List FE} (h : SmJs tb E ts fs) : SmE tb E (fun σ H Q => tJs ts Str.empty σ H fun out H1 => Q (.str out) H1) (fJs fs []) := js_run h []
end
end Pu
/-! str of a whole number. -/
namespace L2
open PySem PySem.Spec PyProof.Rows
end L2
namespace Pu
open PySem PySem.Spec PyProof.Rows L2 LB
open Classical
end Pu
/-! min of a list, a list backwards. -/
namespace Pu
open PySem PySem.Spec PyProof.Rows L2 LB
open Classical
def fRevL (f : FE) : FE := fun σ M => (f σ M).bnd fun p M1 => match lstAt M1 p with
  | some ys => .ok (.ref M1.length) (M1 ++ [.lst ys.reverse])
  | none => .bad
@[simp] theorem ev_fRevL (f : FE) (σ : PS) (M : PM) : fRevL f σ M = (f σ M).bnd fun p M1 => match lstAt M1 p with
  | some ys => .ok (.ref M1.length) (M1 ++ [.lst ys.reverse])
  | none => .bad := id rfl
end Pu
/-! dict(d): the same keys and values anew. -/
namespace Pu
open PySem PySem.Spec PyProof.Rows L2 LB
open Classical
end Pu
namespace Pu
open PySem PySem.Spec PyProof.Rows L2 LB
/-! #### Lab.moves -/
noncomputable def B_Lab_moves (c : CA) : FS :=
  (fRet (fB bLst (fCons (fFld c.Lab "whole_moves" (fVar 0)) fNil)))
noncomputable def F_Lab_moves (c : CA) : FF := fnOf 1 1 (B_Lab_moves c)
theorem R_Lab_moves (c : CA) (a0 : PV) (M : PM) : F_Lab_moves c [a0] M = gc M (fnRes (B_Lab_moves c [some a0] M)) := fn_at rfl
/-! #### Lab.__eq__ -/
noncomputable def B_Lab_eq (c : CA) : FS :=
  (fRet (fAndV (fB (bIsiC c.Lab) (fCons (fVar 1) (fCons (fC (.adr c.Lab)) fNil))) (fAndV (fOp pEqD (fFld c.Lab "machine_pairs" (fVar 0)) (fFld c.Lab "machine_pairs" (fVar 1))) (fAndV (fOp pEqD (fFld c.Lab "row_pairs" (fVar 0)) (fFld c.Lab "row_pairs" (fVar 1))) (fOp pEqD (fFld c.Lab "whole_moves" (fVar 0)) (fFld c.Lab "whole_moves" (fVar 1)))))))
noncomputable def F_Lab_eq (c : CA) : FF := fnOf 2 2 (B_Lab_eq c)
theorem R_Lab_eq (c : CA) (a0 a1 : PV) (M : PM) : F_Lab_eq c [a0, a1] M = gc M (fnRes (B_Lab_eq c [some a0, some a1] M)) := fn_at rfl
/-! #### Lab.__len__ -/
/-! #### Lab.__repr__ -/
/-! #### law: alike -/
end Pu
namespace LB
open PySem PySem.Spec PyProof.Rows L2
/-! ### sets of nested tuples: what the search asks of a key -/
/-! ### the table's way, step by step -/
/-! ### the set -/
def nrow (w : World) (p : Addr × NestedKey) : Int × Value := (p.2.hash w, .ref p.1)
structure NS (P : Program) (w : World) (h : Heap) (a : Addr) (L : List (Addr × NestedKey)) (es : Array (Int × Value)) (ep : Nat) (t : SetTable) : Prop where
  ob : ∃ o, h.get? a = some o ∧ o.ExactSet ∧ o.data = .set es ep t
  rows : es.toList = L.map (nrow w)
  tab : TabOk t (L.map fun p => p.2.hash w)
  nd : (L.map Prod.snd).Nodup
  led : w.params.followText "set-order" = true ∨ t.led = true
  free : L.length * 5 < t.mask * 3
  few : L.length < 64
section
variable {P : Program} {w : World} {A : Around} {E : Value → Shared → Prop} {s : Shared} {h h' : Heap} {a : Addr} {L : List (Addr × NestedKey)} {es : Array (Int × Value)} {ep : Nat} {t : SetTable}
theorem rows_size (e : es.toList = L.map (nrow w)) : es.size = L.length := by
  rw [← Array.length_toList, e, List.length_map]
theorem NS.pl (R : NS P w h a L es ep t) : t.place.size = es.size := by
  have := R.tab.sz
  rw [List.length_map] at this
  rw [this, rows_size R.rows]
/-! ### adding -/
theorem NS.keep (R : NS P w h a L es ep t) (k : ∀ o, h.get? a = some o → h'.get? a = some o) : NS P w h' a L es ep t := by
  obtain ⟨o, ho, r⟩ := R.ob
  exact ⟨⟨o, k o ho, r⟩, R.rows, R.tab, R.nd, R.led, R.free, R.few⟩
end
end LB
namespace LB
open PySem PySem.Spec PyProof.Rows L2
/-! ### an order of nested keys -/
def rk : NestedKey → Nat
  | .none => 0
  | .num _ => 1
  | .text _ => 2
  | .tup _ => 3
mutual
def klt : NestedKey → NestedKey → Bool
  | .num a, .num b => decide (a < b)
  | .text a, .text b => decide (a.cps.toList < b.cps.toList)
  | .tup a, .tup b => kltL a b
  | .none, b => decide (0 < rk b)
  | .num _, b => decide (1 < rk b)
  | .text _, b => decide (2 < rk b)
  | .tup _, b => decide (3 < rk b)
def kltL : List NestedKey → List NestedKey → Bool
  | [], b => !b.isEmpty
  | _ :: _, [] => false
  | a :: as, b :: bs => if NestedKey.beq a b = true then kltL as bs else klt a b
end
/-! ### < as the program asks it -/
mutual
/-- two keys whose first unlike places are of one kind -/
def alike : NestedKey → NestedKey → Bool
  | .text _, .text _ => true
  | .tup a, .tup b => alikeL a b
  | .none, _ => false
  | .num _, _ => false
  | .text _, _ => false
  | .tup _, _ => false
def alikeL : List NestedKey → List NestedKey → Bool
  | [], _ => true
  | _ :: _, [] => true
  | a :: as, b :: bs => alike a b && alikeL as bs
end
/-! ### sorting them -/
end LB
namespace LB
open PySem PySem.Spec PyProof.Rows L2
/-! ### nested tuples of texts as the layer has them -/
mutual
inductive NV (H : Hp) : NestedKey → V → Prop
  | text (x : Str) : NV H (.text x) (.str x)
  | tup {a : Addr} {vs : List V} {ks : List NestedKey} : H a = some (.tup vs) → NVs H ks vs → NV H (.tup ks) (.ref a)
inductive NVs (H : Hp) : List NestedKey → List V → Prop
  | nil : NVs H [] []
  | cons {k : NestedKey} {v : V} {ks : List NestedKey} {vs : List V} : NV H k v → NVs H ks vs → NVs H (k :: ks) (v :: vs)
end
section
variable {P : Program} {w : World} {H : Hp} {h : Heap}
mutual
theorem NV.is (ok : HOk P w H h) : ∀ (k : NestedKey) (v : V) (u : Value), NV H k v → RelV v u → NestedIs h k u
  | .none, _, _, r, _ => by cases r
  | .num _, _, _, r, _ => by cases r
  | .text x, _, u, r, q => by
    cases r
    obtain ⟨t, rfl⟩ := q
    exact .text x t
  | .tup ks, _, u, r, q => by
    cases r with
    | @tup a vs _ ha hs =>
      cases q
      obtain ⟨_, its, rv, o, ho, hc, n, hd⟩ := ok a _ ha
      exact .tup ho hc hd (by simpa using NVs.are ok ks vs its hs rv)
theorem NVs.are (ok : HOk P w H h) : ∀ (ks : List NestedKey) (vs : List V) (us : List Value), NVs H ks vs → Vals vs us → NestedAll h ks us
  | [], _, _, r, q => by
    cases r
    cases q
    exact .nil
  | k :: ks, _, _, r, q => by
    cases r with
    | cons r1 r2 =>
      cases q with
      | cons q1 q2 => exact .cons (NV.is ok k _ _ r1 q1) (NVs.are ok ks _ _ r2 q2)
end
end
/-! ### the rules -/
/-! ### rising lists of the same keys are the same -/
end LB
/-! sorted(list of nested tuples of texts), as a run -/
namespace Pu
open PySem PySem.Spec PyProof.Rows L2 LB
/-- texts and tuples of them, not too deep -/
def okN : Nat → PV → Prop
  | _, .str _ => True
  | n + 1, .tup xs => ∀ x ∈ xs, okN n x
  | _, _ => False
/-! ### rising -/
def leN (p q : PV) : Bool := !klt (nkP q) (nkP p)
def sortN (xs : List PV) : List PV := xs.mergeSort leN
/-- what the run of sorted asks -/
def SrtP (xs : List PV) : Prop := (∀ p ∈ xs, okN 7 p ∧ ∃ f r, p = .tup (.tup f :: r)) ∧ ∀ p ∈ xs, ∀ q ∈ xs, alike (nkP p) (nkP q) = true
end Pu
/-! Sets of any great number: the masks behind 127. -/
namespace LB
open PySem PySem.Spec PyProof.Rows L2
/-- what of a mask is needed: each slot is met within a round -/
structure MaskG (m : Nat) : Prop where
  met : ∀ y, y ≤ m → ∃ b, b ≤ m ∧ lcgN m b = y
  rnd : lcgN m (m + 1) = 0
  odd : m % 2 = 1
theorem MaskG.of {m : Nat} (h : MaskOk m) : MaskG m := ⟨fun _ hy => lcg_all h hy, lcg_round h, mask_odd h⟩
/-- n places of the round, from x on -/
def orb (m : Nat) : Nat → Nat → List Nat
  | 0, _ => []
  | n + 1, x => x :: orb m n ((x * 5 + 1) % (m + 1))
theorem orb_mem {m : Nat} : ∀ {n a y : Nat}, y ∈ orb m n (lcgN m a) → ∃ b, b < a + n ∧ lcgN m b = y
  | 0, a, y, h => by cases h
  | n + 1, a, y, h => by
    rcases List.mem_cons.mp h with e | e
    · exact ⟨a, by omega, e.symm⟩
    · obtain ⟨b, l, q⟩ := orb_mem (a := a + 1) e
      exact ⟨b, by omega, q⟩
def orbEnd (m : Nat) : Nat → Nat → Nat
  | 0, x => x
  | n + 1, x => orbEnd m n ((x * 5 + 1) % (m + 1))
theorem orbEnd_eq {m : Nat} : ∀ {n a : Nat}, orbEnd m n (lcgN m a) = lcgN m (a + n)
  | 0, a => rfl
  | n + 1, a => by
    have := orbEnd_eq (m := m) (n := n) (a := a + 1)
    rw [show a + 1 + n = a + (n + 1) by omega] at this
    exact this
theorem MaskG.check {m : Nat} (h1 : ((List.range (m + 1)).all fun y => (orb m (m + 1) 0).contains y) = true) (h2 : orbEnd m (m + 1) 0 = 0) (h3 : m % 2 = 1) : MaskG m := by
  refine ⟨fun y hy => ?_, ?_, h3⟩
  · have q := List.all_eq_true.mp h1 y (List.mem_range.mpr (by omega))
    obtain ⟨b, l, e⟩ := orb_mem (m := m) (n := m + 1) (a := 0) (y := y) (show y ∈ orb m (m + 1) 0 by simpa using q)
    exact ⟨b, by omega, e⟩
  · have := orbEnd_eq (m := m) (n := m + 1) (a := 0)
    rw [Nat.zero_add] at this
    exact this.symm.trans h2
theorem mask511 : MaskG 511 := .check (by decide +kernel) (by decide +kernel) rfl
section
variable {m : Nat}
theorem MaskG.wrap (g : MaskG m) : ∀ k, lcgN m (m + 1 + k) = lcgN m k
  | 0 => g.rnd
  | k + 1 => congrArg (fun z => (z * 5 + 1) % (m + 1)) (g.wrap k)
theorem MaskG.from_ (g : MaskG m) {x y : Nat} (hx : x ≤ m) (hy : y ≤ m) : ∃ k, k ≤ m ∧ lcgI m x k = y := by
  obtain ⟨u, lu, rfl⟩ := g.met x hx
  obtain ⟨v, lv, rfl⟩ := g.met y hy
  by_cases c : u ≤ v
  · exact ⟨v - u, by omega, by rw [lcgN_add, show u + (v - u) = v by omega]⟩
  · exact ⟨v + (m + 1) - u, by omega, by rw [lcgN_add, show u + (v + (m + 1) - u) = m + 1 + v by omega, g.wrap]⟩
theorem MaskG.run (g : MaskG m) (h : Int) {y : Nat} (hy : y ≤ m) : ∃ n, n ≤ m + 12 ∧ runI m (SetTable.bits h) n = y := by
  obtain ⟨k, lk, e⟩ := g.from_ (runI_le m (SetTable.bits h) 12) hy
  refine ⟨12 + k, by omega, ?_⟩
  rw [runI_tail (bits_lt h), e]
theorem way_any {h : Int} {k : Nat} : way m h k ≤ m := by
  have b0 : SetTable.bits h % (m + 1) ≤ m := Nat.lt_succ_iff.mp (Nat.mod_lt _ (Nat.succ_pos m))
  have b1 := runEnd_bd b0
  have b2 := nth_in (m := m) k (runAt m (SetTable.bits h % (m + 1)) (SetTable.bits h)) (show SetTable.bits h % (m + 1) + (SetTable.runEnd m (SetTable.bits h % (m + 1)) - SetTable.bits h % (m + 1)) ≤ m by omega)
  exact Nat.le_trans (Nat.le_add_right _ _) b2
end
/-- a table whose slots all are found again, whatever its mask -/
structure TabG (t : SetTable) (gs : List Int) : Prop where
  ris : Ris t.place.toList
  dm : t.dummies = #[]
  sz : t.place.size = gs.length
  mg : MaskG t.mask
  bd : ∀ y ∈ t.place.toList, y ≤ t.mask
  reach : ∀ (i : Nat) (g : Int) (y : Nat), gs[i]? = some g → t.place.toList[i]? = some y → ∃ k, way t.mask g k = y ∧ ∀ d, d < k → way t.mask g d ∈ t.place.toList
theorem TabG.of {t : SetTable} {gs : List Int} (T : TabOk t gs) : TabG t gs := ⟨T.ris, T.dm, T.sz, .of T.mok, T.bd, T.reach⟩
/-! ### laid anew -/
section
variable {m : Nat}
theorem MaskG.free (g : MaskG m) (owner : Array (Option Nat)) (h : Int) {y : Nat} (hy : y ≤ m) (hf : oAt owner y = none) :
    ∃ K, SetTable.layClean.free m owner (SetTable.turns m) (SetTable.bits h % (m + 1)) (SetTable.bits h) = some (way m h K) ∧ oAt owner (way m h K) = none ∧ ∀ d, d < K → oAt owner (way m h d) ≠ none := by
  obtain ⟨n, ln, e⟩ := g.run h hy
  have at_ : way m h (off m (SetTable.bits h % (m + 1)) (SetTable.bits h) n) = y := by
    unfold way
    rw [nth_off, itL_run]
    exact e
  obtain ⟨K, a1, a2, a3⟩ := st_least (p := fun d => oAt owner (way m h d) = none) _ (show oAt owner (way m h (off m (SetTable.bits h % (m + 1)) (SetTable.bits h) n)) = none by rw [at_]; exact hf)
  refine ⟨K, free_spec m owner (SetTable.turns m) n _ _ K (by unfold SetTable.turns; omega) a1 (fun d hd => ?_) ?_, a2, a3⟩
  · exact Option.isNone_eq_false_iff.mpr (Option.isSome_iff_ne_none.mpr (a3 d hd))
  · exact (congrArg Option.isNone (show oAt owner (way m h K) = none from a2)).trans rfl
theorem MaskG.own (g : MaskG m) {done : List Int} {owner : Array (Option Nat)} (W : Own m done owner) (l : done.length ≤ m) (h : Int) :
    ∃ y, SetTable.layClean.free m owner (SetTable.turns m) (SetTable.bits h % (m + 1)) (SetTable.bits h) = some y ∧ Own m (done ++ [h]) (owner.setIfInBounds y (some done.length)) := by
  obtain ⟨ps, lp, inp⟩ := W.ps
  obtain ⟨y0, l0, n0⟩ := st_missing ps (m + 1) (by omega)
  have l0 := Nat.lt_succ_iff.mp l0
  obtain ⟨K, f1, f2, f3⟩ := g.free owner h l0 (Classical.not_not.mp fun z => n0 (inp y0 l0 z))
  have ly : way m h K ≤ m := way_any
  generalize hy : way m h K = y at f1 f2 ly
  have sy : y < owner.size := by rw [W.sz]; omega
  have me := oAt_set_self (some done.length) sy
  have stay : ∀ {i : Nat}, oAt owner i ≠ none → oAt (owner.setIfInBounds y (some done.length)) i ≠ none := fun {i} hi => by
    by_cases c : i = y
    · subst c
      rw [me]
      exact Option.some_ne_none _
    · rwa [oAt_set_ne _ c]
  refine ⟨y, f1, ⟨Array.size_setIfInBounds.trans W.sz, fun j k lj e => ?_, fun k lk => ?_, y :: ps, by simp [lp], fun j lj e => ?_⟩⟩
  · by_cases c : j = y
    · subst c
      rw [me] at e
      cases e
      exact ⟨h, K, List.getElem?_concat_length .., hy, fun d hd => stay (f3 d hd)⟩
    · rw [oAt_set_ne _ c] at e
      obtain ⟨g2, K2, a1, a2, a3⟩ := W.at_ j k lj e
      exact ⟨g2, K2, (List.getElem?_append_left (List.getElem?_eq_some_iff.mp a1).1).trans a1, a2, fun d hd => stay (a3 d hd)⟩
  · rw [List.length_append, List.length_singleton] at lk
    rcases Nat.lt_or_ge k done.length with c | c
    · obtain ⟨j, lj, e⟩ := W.all k c
      refine ⟨j, lj, (oAt_set_ne _ fun z => ?_).trans e⟩
      subst z
      rw [f2] at e
      cases e
    · exact ⟨y, ly, me.trans (congrArg some (by omega))⟩
  · by_cases c : j = y
    · subst c
      exact List.mem_cons_self
    · exact List.mem_cons_of_mem _ (inp j lj (by rwa [oAt_set_ne _ c] at e))
end
end LB
/-! Sets of nested keys, up to 299 of them: NSet over the greater masks. -/
namespace LBG
open PySem PySem.Spec PyProof.Rows L2 LB
/-! ### the set -/
def Mk (m : Nat) : Prop := m = 7 ∨ m = 31 ∨ m = 127 ∨ m = 511
theorem Mk.g {m : Nat} (h : Mk m) : MaskG m := by
  rcases h with e | e | e | e
  · exact .of (.inl e)
  · exact .of (.inr (.inl e))
  · exact .of (.inr (.inr e))
  · subst e
    exact mask511
structure NS (P : Program) (w : World) (h : Heap) (a : Addr) (L : List (Addr × NestedKey)) (es : Array (Int × Value)) (ep : Nat) (t : SetTable) : Prop where
  ob : ∃ o, h.get? a = some o ∧ o.ExactSet ∧ o.data = .set es ep t
  rows : es.toList = L.map (nrow w)
  tab : TabG t (L.map fun p => p.2.hash w)
  nd : (L.map Prod.snd).Nodup
  led : w.params.followText "set-order" = true ∨ t.led = true
  free : L.length * 5 < t.mask * 3
  few : L.length < 300
  mm : Mk t.mask
section
variable {P : Program} {w : World} {A : Around} {E : Value → Shared → Prop} {s : Shared} {h h' : Heap} {a : Addr} {L : List (Addr × NestedKey)} {es : Array (Int × Value)} {ep : Nat} {t : SetTable}
theorem NS.pl (R : NS P w h a L es ep t) : t.place.size = es.size := by
  have := R.tab.sz
  rw [List.length_map] at this
  rw [this, rows_size R.rows]
/-! ### adding -/
theorem NS.keep (R : NS P w h a L es ep t) (k : ∀ o, h.get? a = some o → h'.get? a = some o) : NS P w h' a L es ep t := by
  obtain ⟨o, ho, r⟩ := R.ob
  exact ⟨⟨o, k o ho, r⟩, R.rows, R.tab, R.nd, R.led, R.free, R.few, R.mm⟩
end
end LBG
/-! set(list of nested tuples), sorted(a set of them): up to 298 of them. -/
/-! sorted(set(list of nested tuples of texts)), as a run -/
namespace Pu
open PySem PySem.Spec PyProof.Rows L2 LB
open Classical
/-- each once -/
noncomputable def ddP : List PV → List PV
  | [] => []
  | x :: xs => if x ∈ ddP xs then ddP xs else x :: ddP xs
/-- sorted(set(xs)) -/
noncomputable def sortSN (xs : List PV) : List PV := sortN (ddP xs)
noncomputable def bSortSetN (p : PV) (M : PM) : Res PV := match lstAt M p with
  | some xs => if SrtP xs ∧ xs.length < 299 then .ok (.ref M.length) (M ++ [.lst (sortSN xs)]) else .bad
  | none => .bad
noncomputable def fSortSetN (f : FE) : FE := fun σ M => (f σ M).bnd bSortSetN
@[simp] theorem ev_fSortSetN (f : FE) (σ : PS) (M : PM) : fSortSetN f σ M = (f σ M).bnd bSortSetN := id rfl
end Pu
namespace Pu
open PySem PySem.Spec PyProof.Rows L2 LB
open Classical
/-! ### dicts whose keys are tuples: setdefault, values, locked -/
end Pu
namespace Pu
open PySem PySem.Spec PyProof.Rows L2 LB
open Classical
/-! ### comprehensions of two fors -/
section
variable {tb : List (Addr × Str)} {E : XK} {K : PySem.W.Frag} {ti ti1 : TI} {fi fi1 : FI} {g g1 : TG} {fg fg1 : FG} {ws ws1 : List Nat} {tt tt1 : TT} {ft ft1 : FT} {te : TE} {fe : FE} {ι : Nat → Addr} {n : Nat} {H : Hp} {M : PM} {σp : PS} {σ : L2.St}
theorem SmI.nox {γ δ : Type} {rel2 : (Nat → Addr) → Nat → Hp → γ → δ → Prop} (s : SmI tb E0 ti fi) (R : RM tb ι M H) (S : Rs ι M.length H σp σ) {k : PIt → PM → Res γ} {Q : δ → Hp → Prop} {Q' : It → Hp → Prop} (h : Wp tb rel2 ι M.length H ((fi σp M).nox.bnd k) Q E)
    (c : ∀ ι1 M1 H1 p v, On tb ι M.length H ι1 M1 H1 → Rs ι1 M1.length H1 σp σ → rIt tb ι1 M1.length H1 p v → Wp tb rel2 ι1 M1.length H1 (k p M1) Q E → Q' v H1) : ti σ H Q' :=
  s ι M H σp σ Q' R S (Wp.mono (Wp.nox h) fun v H1 ⟨ι1, M1, p, o, rv, w⟩ => c ι1 M1 H1 p v o (S.mono o.e o.l) rv w)
end
end Pu
namespace Pu
open PySem PySem.Spec PyProof.Rows L2 LB
open Classical
variable {c : CA} {M M' M'' : PM} {b : Nat}
/-! ### the bag -/
def bagO (s : Nat) (i r sd ct : Int) : PO := .lst [.ref s, .int i, .int r, .int sd, .int ct]
def BagAt (M : PM) (b s : Nat) : Prop := s ≠ b ∧ ∃ (ns : List Int) (i r sd ct : Int), M[b]? = some (bagO s i r sd ct) ∧ M[s]? = some (.lst (ns.map PV.int)) ∧ 0 ≤ i
/-- all but the bag is as it was -/
structure Dr (b s : Nat) (M M' : PM) : Prop where
  bag : BagAt M' b s
  e : ∃ i r sd ct, M' = M.set b (bagO s i r sd ct)
theorem BagAt.ltb {s : Nat} (h : BagAt M b s) : b < M.length := by
  obtain ⟨_, ns, i, r, sd, ct, e, _⟩ := h
  exact (List.getElem?_eq_some_iff.mp e).1
theorem BagAt.lts {s : Nat} (h : BagAt M b s) : s < M.length := by
  obtain ⟨_, ns, i, r, sd, ct, _, e, _⟩ := h
  exact (List.getElem?_eq_some_iff.mp e).1
theorem Dr.len {s : Nat} (h : Dr b s M M') : M'.length = M.length := by
  obtain ⟨i, r, sd, ct, e⟩ := h.e
  rw [e, List.length_set]
theorem Dr.get {s k : Nat} (h : Dr b s M M') (hk : k ≠ b) : M'[k]? = M[k]? := by
  obtain ⟨i, r, sd, ct, e⟩ := h.e
  rw [e, List.getElem?_set_ne (Ne.symm hk)]
theorem Dr.trans {s : Nat} (x : Dr b s M M') (y : Dr b s M' M'') : Dr b s M M'' := by
  obtain ⟨i, r, sd, ct, e⟩ := x.e
  obtain ⟨i', r', sd', ct', e'⟩ := y.e
  exact ⟨y.bag, i', r', sd', ct', by rw [e', e, List.set_set]⟩
theorem Dr.refl {s : Nat} (h : BagAt M b s) : Dr b s M M := by
  obtain ⟨n, ns, i, r, sd, ct, e, e2, h0⟩ := id h
  refine ⟨h, i, r, sd, ct, ?_⟩
  have := (List.getElem?_eq_some_iff.mp e)
  rw [← this.2, List.set_getElem_self]
theorem Dr.of {s : Nat} (h : BagAt M b s) {i r sd ct : Int} (h0 : 0 ≤ i) : Dr b s M (M.set b (bagO s i r sd ct)) := by
  obtain ⟨n, ns, i', r', sd', ct', e, e2, _⟩ := id h
  have lb := h.ltb
  exact ⟨⟨n, ns, i, r, sd, ct, List.getElem?_set_self lb, (List.getElem?_set_ne (Ne.symm n)).trans e2, h0⟩, i, r, sd, ct, rfl⟩
theorem BagAt.app {s : Nat} {ex : PM} (h : BagAt M b s) : BagAt (M ++ ex) b s := by
  obtain ⟨n, ns, i, r, sd, ct, e, e2, h0⟩ := id h
  exact ⟨n, ns, i, r, sd, ct, (List.getElem?_append_left h.ltb).trans e, (List.getElem?_append_left h.lts).trans e2, h0⟩
theorem bag_wf {s : Nat} {i r sd ct : Int} {n : Nat} (h : s < n) : (bagO s i r sd ct).wf n := by
  unfold bagO
  simp [h]
/-- drawn beside things that were made -/
theorem Dr.app {s : Nat} {ex N : PM} (hb : b < M.length) (hs : s < M.length) (x : Dr b s (M ++ ex) N) : ∃ M', N = M' ++ ex ∧ Dr b s M M' := by
  obtain ⟨i, r, sd, ct, e⟩ := x.e
  rw [List.set_append_left _ _ hb] at e
  refine ⟨_, e, ?_, i, r, sd, ct, rfl⟩
  obtain ⟨n, ns, i', r', sd', ct', e1, e2, h0⟩ := x.bag
  rw [e] at e1 e2
  rw [List.getElem?_append_left (by simpa using hb)] at e1
  rw [List.getElem?_append_left (by simpa using hs)] at e2
  exact ⟨n, ns, i', r', sd', ct', e1, e2, h0⟩
theorem setL_at {k : Nat} {xs : List PV} {j : Int} {n : Nat} {v : PV} (e : M[k]? = some (.lst xs)) (h : ixN xs.length j = some n) : setL (.ref k) (.int j) v M = some (M.set k (.lst (xs.set n v))) := by
  unfold setL
  simp only [e, h]
@[simp] theorem ev_fAugL (fo fi f : FE) (g : PV → PV → PM → Res PV) (σ : PS) (M : PM) : fAugL fo fi f g σ M = (fo σ M).go fun o M1 => (fi σ M1).go fun i M2 => (pIxL o i M2).go fun x M3 => (f σ M3).go fun y M4 => (g x y M4).go fun z M5 => toM σ (setL o i z M5) := id rfl
@[simp] theorem ev_fAsgL (f fo fi : FE) (σ : PS) (M : PM) : fAsgL f fo fi σ M = (f σ M).go fun v M1 => (fo σ M1).go fun o M2 => (fi σ M2).go fun i M3 => toM σ (setL o i v M3) := id rfl
section
variable {s : Nat} {i r sd ct : Int}
theorem bag_at (hb : b < M.length) : (M.set b (bagO s i r sd ct))[b]? = some (.lst [.ref s, .int i, .int r, .int sd, .int ct]) := List.getElem?_set_self hb
theorem bag0 (hb : b < M.length) : pIxL (.ref b) (.int 0) (M.set b (bagO s i r sd ct)) = .ok (.ref s) (M.set b (bagO s i r sd ct)) := pIxL_at (bag_at hb) rfl
theorem bag1 (hb : b < M.length) : pIxL (.ref b) (.int 1) (M.set b (bagO s i r sd ct)) = .ok (.int i) (M.set b (bagO s i r sd ct)) := pIxL_at (bag_at hb) rfl
theorem bag2 (hb : b < M.length) : pIxL (.ref b) (.int 2) (M.set b (bagO s i r sd ct)) = .ok (.int r) (M.set b (bagO s i r sd ct)) := pIxL_at (bag_at hb) rfl
theorem bag3 (hb : b < M.length) : pIxL (.ref b) (.int 3) (M.set b (bagO s i r sd ct)) = .ok (.int sd) (M.set b (bagO s i r sd ct)) := pIxL_at (bag_at hb) rfl
theorem bag4 (hb : b < M.length) : pIxL (.ref b) (.int 4) (M.set b (bagO s i r sd ct)) = .ok (.int ct) (M.set b (bagO s i r sd ct)) := pIxL_at (bag_at hb) rfl
theorem bset1 (hb : b < M.length) {x : Int} : setL (.ref b) (.int 1) (.int x) (M.set b (bagO s i r sd ct)) = some (M.set b (bagO s x r sd ct)) := by rw [setL_at (n := 1) (bag_at hb) rfl, List.set_set]; rfl
theorem bset2 (hb : b < M.length) {x : Int} : setL (.ref b) (.int 2) (.int x) (M.set b (bagO s i r sd ct)) = some (M.set b (bagO s i x sd ct)) := by rw [setL_at (n := 2) (bag_at hb) rfl, List.set_set]; rfl
theorem bset3 (hb : b < M.length) {x : Int} : setL (.ref b) (.int 3) (.int x) (M.set b (bagO s i r sd ct)) = some (M.set b (bagO s i r x ct)) := by rw [setL_at (n := 3) (bag_at hb) rfl, List.set_set]; rfl
theorem bset4 (hb : b < M.length) {x : Int} : setL (.ref b) (.int 4) (.int x) (M.set b (bagO s i r sd ct)) = some (M.set b (bagO s i r sd x)) := by rw [setL_at (n := 4) (bag_at hb) rfl, List.set_set]; rfl
theorem pI_mod {x y : Int} (h : 0 < y) : pI (fun _ j => 0 < j) (fun i j => .int (i % j)) (.int x) (.int y) M = .ok (.int (x % y)) M := pI_int h
theorem pI_div {x y : Int} (h : 0 < y ∧ y < 1073741824) : pI CDiv (fun i j => .int (i / j)) (.int x) (.int y) M = .ok (.int (x / y)) M := pI_int h
theorem pI_pow : pI CPow (fun i j => .int (i ^ j.toNat)) (.int 10) (.int 18) M = .ok (.int 1000000000000000000) M := pI_int (g := fun i j => PV.int (i ^ j.toNat)) ⟨by decide, by decide, by decide⟩
theorem mod_bd {x n : Int} (h : 0 < n) : 0 ≤ x % n ∧ x % n < n := ⟨Int.emod_nonneg _ (by omega), Int.emod_lt_of_pos _ h⟩
end
theorem pI_mulc {x y : Int} (h : -(2 ^ 64) < y ∧ y < 2 ^ 64) : pI CMul (fun i j => .int (i * j)) (.int x) (.int y) M = .ok (.int (x * y)) M := pI_int (.inr h)
set_option maxHeartbeats 2000000 in
theorem F_pull_eq {s : Nat} (h : BagAt M b s) {n : Int} (h0 : 0 < n) (h1 : n < 1073741824) : ∃ k M', F_pull c [.ref b, .int n] M = .ok (.int k) M' ∧ 0 ≤ k ∧ k < n ∧ Dr b s M M' := by
  obtain ⟨ne, ns, i, r, sd, ct, e1, e2, hi⟩ := id h
  have hb := h.ltb
  have eM : M = M.set b (bagO s i r sd ct) := by
    have := (List.getElem?_eq_some_iff.mp e1)
    rw [← this.2, List.set_getElem_self]
  have go : ∃ (k i' r' sd' ct' : Int), 0 ≤ k ∧ k < n ∧ 0 ≤ i' ∧ B_pull c [some (.ref b), some (.int n), none, none, none, none] (M.set b (bagO s i r sd ct)) = .rt (.int k) (M.set b (bagO s i' r' sd' ct')) := by
    unfold B_pull
    by_cases hr : 0 < r
    · exact ⟨r % n, i, r / n, sd, ct + 1, (mod_bd h0).1, (mod_bd h0).2, hi, by simp [bag4 hb, bset4 hb, bag2 hb, bset2 hb, hr, pI_div ⟨h0, h1⟩, pI_mod h0]⟩
    · have ls : ∀ {i r sd ct : Int}, (M.set b (bagO s i r sd ct))[s]? = some (.lst (ns.map PV.int)) := (List.getElem?_set_ne (Ne.symm ne)).trans e2
      have ln : ∀ {i r sd ct : Int}, bLen [.ref s] (M.set b (bagO s i r sd ct)) = .ok (.int (ns.length : Nat)) (M.set b (bagO s i r sd ct)) := by
        intro i r sd ct
        rw [bLen_lst ls, List.length_map]
      have small : ∀ x : Int, -(2 ^ 64) < x % 65521 + 11 ∧ x % 65521 + 11 < 2 ^ 64 := fun x => by
        have := mod_bd (x := x) (n := 65521) (by decide)
        omega
      have ms : ∀ (x y : Int) (M : PM), pI CMul (fun i j => .int (i * j)) (.int x) (.int (y % 65521 + 11)) M = .ok (.int (x * (y % 65521 + 11))) M := fun x y M => pI_mulc (small y)
      have last : ∀ (cell i' : Int), 0 ≤ i' → ∃ (k i2 r' sd' ct' : Int), 0 ≤ k ∧ k < n ∧ 0 ≤ i2 ∧ (if (1000000000000000000 : Int) ≤ cell then (.rt (.int (cell % n)) (M.set b (bagO s i' (cell / n) sd (ct + 1))) : SR) else
            .rt (.int ((((cell * 48271 + sd * 40503 + (ct + 1) * 69621 + 12345) % 2147483629 * ((cell * 48271 + sd * 40503 + (ct + 1) * 69621 + 12345) % 2147483629 % 65521 + 11) + (ct + 1) * 40692 + sd % 104729) % 998244353) / 7 % n)) (M.set b (bagO s i' r ((sd * 16807 + ((cell * 48271 + sd * 40503 + (ct + 1) * 69621 + 12345) % 2147483629 * ((cell * 48271 + sd * 40503 + (ct + 1) * 69621 + 12345) % 2147483629 % 65521 + 11) + (ct + 1) * 40692 + sd % 104729) % 998244353) % 2147483563) (ct + 1)))) = .rt (.int k) (M.set b (bagO s i2 r' sd' ct')) := fun cell i' h' => by
        by_cases hc : (1000000000000000000 : Int) ≤ cell
        · exact ⟨_, _, _, _, _, (mod_bd h0).1, (mod_bd h0).2, h', if_pos hc⟩
        · exact ⟨_, _, _, _, _, (mod_bd h0).1, (mod_bd h0).2, h', if_neg hc⟩
      by_cases hl : i < (ns.length : Nat)
      · obtain ⟨j, rfl⟩ := Int.eq_ofNat_of_zero_le hi
        have lj : j < ns.length := by omega
        have gc : ∀ {i r sd ct : Int}, pIxL (.ref s) (.int (j : Nat)) (M.set b (bagO s i r sd ct)) = .ok (.int ns[j]) (M.set b (bagO s i r sd ct)) := pIxL_at ls (atI_nat (by rw [List.getElem?_map, List.getElem?_eq_getElem lj]; rfl))
        obtain ⟨k, i2, r', sd', ct', p1, p2, p3, p4⟩ := last ns[j] ((j : Int) + 1) (by omega)
        refine ⟨k, i2, r', sd', ct', p1, p2, p3, ?_⟩
        rw [← p4]
        simp [bag4 hb, bset4 hb, bag3 hb, bset3 hb, bag2 hb, bset2 hb, bag1 hb, bset1 hb, bag0 hb, hr, ln, gc, lj, pI_div ⟨h0, h1⟩, pI_mod h0, pI_pow, pI_mulc, ms, pI_mod (M := _) (show (0 : Int) < 2147483629 by decide), pI_mod (show (0 : Int) < 65521 by decide), pI_mod (show (0 : Int) < 104729 by decide), pI_mod (show (0 : Int) < 998244353 by decide), pI_mod (show (0 : Int) < 2147483563 by decide), pI_div (show (0 : Int) < 7 ∧ (7 : Int) < 1073741824 by decide)]
      · obtain ⟨k, i2, r', sd', ct', p1, p2, p3, p4⟩ := last sd i hi
        refine ⟨k, i2, r', sd', ct', p1, p2, p3, ?_⟩
        rw [← p4]
        simp [bag4 hb, bset4 hb, bag3 hb, bset3 hb, bag2 hb, bset2 hb, bag1 hb, bset1 hb, bag0 hb, hr, ln, hl, pI_div ⟨h0, h1⟩, pI_mod h0, pI_pow, pI_mulc, ms, pI_mod (M := _) (show (0 : Int) < 2147483629 by decide), pI_mod (show (0 : Int) < 65521 by decide), pI_mod (show (0 : Int) < 104729 by decide), pI_mod (show (0 : Int) < 998244353 by decide), pI_mod (show (0 : Int) < 2147483563 by decide), pI_div (show (0 : Int) < 7 ∧ (7 : Int) < 1073741824 by decide)]
  obtain ⟨k, i', r', sd', ct', p1, p2, p3, p4⟩ := go
  refine ⟨k, M.set b (bagO s i' r' sd' ct'), ?_, p1, p2, .of h p3⟩
  rw [R_pull]
  rw [← eM] at p4
  rw [p4, fnRes_rt]
  exact gc_self (by simp)
/-! ### draws -/
@[simp] theorem bLenQ_str {s : List Nat} {M : PM} (h : s.length ≤ lim) : bLenQ [.str s] M = .ok (.int (s.length : Nat)) M := by
  unfold bLenQ
  exact bLenS_str h
theorem bLenQ_lst {k : Nat} {xs : List PV} {M : PM} (e : M[k]? = some (.lst xs)) : bLenQ [.ref k] M = .ok (.int (xs.length : Nat)) M := by
  unfold bLenQ
  exact bLen_lst e
/-- one of a list -/
theorem F_of_lst {s k : Nat} {xs : List PV} (h : BagAt M b s) (hk : k ≠ b) (e : M[k]? = some (.lst xs)) (h0 : 0 < xs.length) (h1 : xs.length < 1000000) : ∃ x M', F_of c [.ref b, .ref k] M = .ok x M' ∧ x ∈ xs ∧ Dr b s M M' := by
  obtain ⟨j, M', e1, j0, j1, d⟩ := F_pull_eq (c := c) h (n := (xs.length : Nat)) (by omega) (by omega)
  obtain ⟨i, rfl⟩ := Int.eq_ofNat_of_zero_le j0
  have li : i < xs.length := by omega
  have ek : M'[k]? = some (.lst xs) := (d.get hk).trans e
  refine ⟨xs[i], M', ?_, List.getElem_mem li, d⟩
  rw [R_of]
  unfold B_of
  have ex : pIxQ (.ref k) (.int (i : Nat)) M' = .ok xs[i] M' := pIxL_at ek (atI_nat (List.getElem?_eq_getElem li))
  simp [bLenQ_lst e, e1, ex]
  exact gc_self d.len
/-- one of a text's signs -/
theorem F_of_str {s : Nat} {z : List Nat} (h : BagAt M b s) (h0 : 0 < z.length) (h1 : z.length < 1000000) : ∃ x M', F_of c [.ref b, .str z] M = .ok (.str [x]) M' ∧ x ∈ z ∧ Dr b s M M' := by
  obtain ⟨j, M', e1, j0, j1, d⟩ := F_pull_eq (c := c) h (n := (z.length : Nat)) (by omega) (by omega)
  obtain ⟨i, rfl⟩ := Int.eq_ofNat_of_zero_le j0
  have li : i < z.length := by omega
  have hz : z.length ≤ lim := by unfold lim; omega
  refine ⟨z[i], M', ?_, List.getElem_mem li, d⟩
  rw [R_of]
  unfold B_of
  have ex : pIxQ (.str z) (.int (i : Nat)) M' = .ok (.str [z[i]]) M' := pIxS_at hz (atI_nat (List.getElem?_eq_getElem li))
  simp [bLenQ_str hz, e1, ex]
  exact gc_self d.len
/-- behind draws what was made is dropped -/
theorem gc_draw {s : Nat} {p : PV} {ex : PM} (h : BagAt M b s) (d : Dr b s M M') (w : p.wf M.length) : gc M (.ok p (M' ++ ex)) = .ok p M' := by
  obtain ⟨i, r, sd, ct, e⟩ := d.e
  rw [e, gc_keep (keep_set (bag_wf h.lts)) w, take_set]
/-- .. a new list alone is left -/
theorem gc_drawL {s k : Nat} {ex : PM} {xs : List PV} (h : BagAt M b s) (d : Dr b s M M') (lk : M.length ≤ k) (e : (M' ++ ex)[k]? = some (.lst xs)) (w : PV.wfs M.length xs) : gc M (.ok (.ref k) (M' ++ ex)) = .ok (.ref M.length) (M' ++ [.lst xs]) := by
  obtain ⟨i, r, sd, ct, e0⟩ := d.e
  subst e0
  rw [gc_new (keep_set (bag_wf h.lts)) lk e w, take_set]
theorem gc_drawLE {s k : Nat} {N : PM} {xs : List PV} (ex : PM) (h : BagAt M b s) (d : Dr b s M M') (hN : N = M' ++ ex) (lk : M.length ≤ k) (e : N[k]? = some (.lst xs)) (w : PV.wfs M.length xs) : gc M (.ok (.ref k) N) = .ok (.ref M.length) (M' ++ [.lst xs]) := by
  subst hN
  exact gc_drawL h d lk e w
/-- a comprehension whose items are drawn -/
theorem lc_draw {α : Type} {s : Nat} {ok : PM → Prop} {g : FG} {ft : FT} {fe : FE} {σ : PS} {e : α → PV} (Good : α → PV → Prop) (hb : BagAt M b s) {zs : List α} (hl : zs.length ≤ lim) (hok : ∀ N ys, Dr b s M N → ok (N ++ [.lst ys]))
    (hs : ∀ z ∈ zs, ∃ σ1, g (e z) σ = some σ1 ∧ ∀ N ys, Dr b s M N → ft σ1 (N ++ [.lst ys]) = .ok true (N ++ [.lst ys]) ∧ ∃ y N', fe σ1 (N ++ [.lst ys]) = .ok y (N' ++ [.lst ys]) ∧ Dr b s N N' ∧ Good z y) :
    ∃ M' ys, lcP ok g ft fe M.length σ (zs.map e) (M ++ [.lst []]) = .ok () (M' ++ [.lst ys]) ∧ Dr b s M M' ∧ Paired Good zs ys := by
  have go : ∀ (zs : List α) (N : PM) (acc : List PV), Dr b s M N → acc.length + zs.length ≤ lim → (∀ z ∈ zs, ∃ σ1, g (e z) σ = some σ1 ∧ ∀ N ys, Dr b s M N → ft σ1 (N ++ [.lst ys]) = .ok true (N ++ [.lst ys]) ∧ ∃ y N', fe σ1 (N ++ [.lst ys]) = .ok y (N' ++ [.lst ys]) ∧ Dr b s N N' ∧ Good z y) →
      ∃ M' ys, lcP ok g ft fe M.length σ (zs.map e) (N ++ [.lst acc]) = .ok () (M' ++ [.lst (acc ++ ys)]) ∧ Dr b s M M' ∧ Paired Good zs ys := by
    intro zs
    induction zs with
    | nil =>
      intro N acc d _ _
      refine ⟨N, [], ?_, d, .nil⟩
      rw [List.map_nil, List.append_nil]
      unfold lcP
      rw [if_pos (hok N acc d)]
    | cons z zs ih =>
      intro N acc d hl hs
      obtain ⟨σ1, e1, h1⟩ := hs z List.mem_cons_self
      obtain ⟨e2, y, N', e3, d', gd⟩ := h1 N acc d
      rw [List.length_cons] at hl
      have dN := d.trans d'
      have lN : N'.length = M.length := dN.len
      obtain ⟨M', ys, e4, d4, p4⟩ := ih N' (acc ++ [y]) dN (by simp; omega) (fun w hw => hs w (List.mem_cons_of_mem _ hw))
      refine ⟨M', y :: ys, ?_, d4, .cons gd p4⟩
      rw [List.map_cons]
      unfold lcP
      rw [if_pos (hok N acc d), e1]
      simp only
      rw [e2, nox_ok, bnd_ok, if_pos rfl, e3, nox_ok, bnd_ok]
      have e5 : (N' ++ [PO.lst acc])[M.length]? = some (.lst acc) := by rw [← lN]; simp
      rw [e5]
      simp only
      rw [if_pos (by omega : acc.length < lim)]
      have e6 : (N' ++ [PO.lst acc]).set M.length (.lst (acc ++ [y])) = N' ++ [.lst (acc ++ [y])] := by rw [← lN]; simp
      rw [e6, e4]
      simp
  obtain ⟨M', ys, h⟩ := go zs M [] (.refl hb) (by simpa using hl) hs
  exact ⟨M', ys, by simpa using h⟩
theorem upTo_map {n : Nat} : upTo 0 n = (List.range n).map fun i => PV.int (i : Nat) := by
  unfold upTo
  exact List.map_congr_left fun i _ => by rw [Int.zero_add]
theorem itR1_nat {n : Nat} (h : n < 1000000) : itR1 [.int (n : Nat)] M = .ok ⟨(List.range n).map fun i => PV.int (i : Nat), fun _ => True⟩ M := by
  rw [itR1_int ⟨by omega, by omega⟩, Int.toNat_natCast, upTo_map]
theorem joinE {ys : List (List Nat)} : joinT [] ys = ys.flatten := by
  unfold joinT
  rw [show (tx [] : Str) = Str.ofString "" from by decide +kernel, join_tx]
theorem paired_strs {α : Type} {Good : α → PV → Prop} (f : ∀ z y, Good z y → ∃ t, y = .str t) : ∀ {zs : List α} {ys : List PV}, Paired Good zs ys → ∃ ts : List (List Nat), ys = ts.map PV.str ∧ Paired (fun z t => Good z (.str t)) zs ts
  | _, _, .nil => ⟨[], rfl, .nil⟩
  | _, _, .cons a r => by
    obtain ⟨t, rfl⟩ := f _ _ a
    obtain ⟨ts, rfl, p⟩ := paired_strs f r
    exact ⟨t :: ts, rfl, .cons a p⟩
theorem paired_all {α β : Type} {F : α → β → Prop} {P : β → Prop} (f : ∀ a b, F a b → P b) : ∀ {xs : List α} {ys : List β}, Paired F xs ys → ∀ y ∈ ys, P y
  | _, _, .nil, y, h => by cases h
  | _, _, .cons a r, y, h => by
    rcases List.mem_cons.mp h with rfl | h
    · exact f _ _ a
    · exact paired_all f r y h
end Pu
namespace Pu
open PySem PySem.Spec PyProof.Rows L2 LB
open Classical
variable {c : CA} {M M' M'' : PM} {b : Nat}
/-- a drawn word -/
theorem word_lc {s k t n : Nat} {cs : List Nat} (h : BagAt M b s) (hk : k ≠ b) (ek : M[k]? = some (.lst (cs.map fun d => PV.str [d]))) (h0 : 0 < cs.length) (h1 : cs.length < 1000) (hn : n < 1000) :
    ∃ M' ys, lcP (fun _ => True) (gNm 3) fYes (fCallN (F_of c) [] (fCons (fVar 0) (fCons (fVar 1) fNil))) M.length [some (.ref b), some (.ref k), some (.int (t : Nat)), none] ((List.range n).map fun i => PV.int (i : Nat)) (M ++ [.lst []]) = .ok () (M' ++ [.lst ys]) ∧ Dr b s M M' ∧ Paired (fun (_ : Nat) y => ∃ x, y = PV.str [x] ∧ x ∈ cs) (List.range n) ys := by
  have lk : k < M.length := (List.getElem?_eq_some_iff.mp ek).1
  refine lc_draw (fun _ y => ∃ x, y = .str [x] ∧ x ∈ cs) h (by rw [List.length_range]; unfold lim; omega) (fun _ _ _ => trivial) (fun z hz => ⟨_, rfl, fun N ys d => ⟨rfl, ?_⟩⟩)
  have eN : (N ++ [PO.lst ys])[k]? = some (.lst (cs.map fun d => PV.str [d])) := by
    rw [List.getElem?_append_left (by rw [d.len]; exact lk), d.get hk, ek]
  obtain ⟨x, X, e3, mx, dX⟩ := F_of_lst (c := c) (d.bag.app (ex := [.lst ys])) hk eN (by rw [List.length_map]; exact h0) (by rw [List.length_map]; omega)
  obtain ⟨N', rfl, dN⟩ := dX.app d.bag.ltb d.bag.lts
  refine ⟨x, N', ?_, dN, ?_⟩
  · simp [e3]
  · obtain ⟨y, hy, rfl⟩ := List.mem_map.mp mx
    exact ⟨y, rfl, hy⟩
theorem F_word_eq {s k : Nat} {cs : List Nat} {t : Nat} (h : BagAt M b s) (hk : k ≠ b) (e : M[k]? = some (.lst (cs.map fun d => PV.str [d]))) (h0 : 0 < cs.length) (h1 : cs.length < 1000) (ht : t < 1000) :
    ∃ w M', F_word c [.ref b, .ref k, .int (t : Nat)] M = .ok (.str w) M' ∧ w.length ≤ t ∧ (∀ x ∈ w, x ∈ cs) ∧ Dr b s M M' := by
  obtain ⟨j, M1, e1, j0, j1, d1⟩ := F_pull_eq (c := c) h (n := (t : Int) + 1) (by omega) (by omega)
  obtain ⟨n, rfl⟩ := Int.eq_ofNat_of_zero_le j0
  have hb1 := d1.bag
  have ek : M1[k]? = some (.lst (cs.map fun d => PV.str [d])) := (d1.get hk).trans e
  have lk : k < M1.length := (List.getElem?_eq_some_iff.mp ek).1
  have lk : k < M1.length := (List.getElem?_eq_some_iff.mp ek).1
  obtain ⟨M2, ys, e2, d2, p2⟩ := word_lc (c := c) (t := t) (n := n) hb1 hk ek h0 h1 (by omega)
  obtain ⟨ts, rfl, p3⟩ := paired_strs (fun z y h => by obtain ⟨x, rfl, _⟩ := h; exact ⟨_, rfl⟩) p2
  have l2 : M2.length = M1.length := d2.len
  have lt : ts.length = n := by
    have := Paired.length p3
    simpa using this.symm
  have one : ∀ y ∈ ts, ∃ x, y = [x] ∧ x ∈ cs := paired_all (fun z y h => by
    obtain ⟨x, hx, hm⟩ := h
    injection hx with hx
    exact ⟨x, hx, hm⟩) p3
  have fl : ts.flatten.length = n := by
    rw [← lt]
    clear lt p3 e2 p2
    induction ts with
    | nil => rfl
    | cons a r ih =>
      obtain ⟨x, rfl, _⟩ := one a List.mem_cons_self
      have := ih (fun y hy => one y (List.mem_cons_of_mem _ hy))
      simp [this]
  have sm : (ts.map List.length).sum = n := by
    rw [← fl, List.length_flatten]
  refine ⟨ts.flatten, M2, ?_, by rw [fl]; omega, fun x hx => ?_, d1.trans d2⟩
  · rw [R_word]
    unfold B_word
    have ej : mJoin (.str []) [.ref M1.length] (M2 ++ [.lst (ts.map PV.str)]) = .ok (.str ts.flatten) (M2 ++ [.lst (ts.map PV.str)]) := by
      have : lstAt (M2 ++ [.lst (ts.map PV.str)]) (.ref M1.length) = some (ts.map PV.str) := lstAt_ref' _ _ _ (by rw [← l2]; simp)
      unfold mJoin seqAt
      simp only [this, Option.bind_some, asStrs_map, joinE]
      rw [if_pos (by rw [sm, List.length_nil]; unfold lim; omega)]
    have ew : wipeP [some (.ref b), some (.ref k), some (.int (t : Nat)), none] [3] = [some (.ref b), some (.ref k), some (.int (t : Nat)), none] := rfl
    simp [e1, itR1_nat (M := M1) (show n < 1000000 by omega)]
    rw [ew, e2]
    simp [ej]
    rw [gc_draw h (d1.trans d2) (by simp)]
    simp
    exact gc_self (d1.trans d2).len
  · obtain ⟨y, hy, hxy⟩ := List.mem_flatten.mp hx
    obtain ⟨z, rfl, hz⟩ := one y hy
    rw [List.mem_singleton.mp hxy]
    exact hz
/-! ### letters and names -/
def alphaL : List Nat := [97, 98, 99, 100, 101, 102, 103, 104, 105, 106, 107, 108, 109, 110, 111, 112, 113, 114, 115, 116, 117, 118, 119, 120, 121, 122]
theorem alphaL_at {i : Int} (h0 : 0 ≤ i) (h1 : i < 26) : atI alphaL i = some (i.toNat + 97) := by
  obtain ⟨k, rfl⟩ := Int.eq_ofNat_of_zero_le h0
  have all : ∀ j : Fin 26, atI alphaL ((j.val : Nat) : Int) = some (j.val + 97) := by decide +kernel
  exact all ⟨k, by omega⟩
theorem alphaL_ix {f y : Int} {k : Nat} : pIxS (.str alphaL) (.int ((f + y * (k : Int)) % 26)) M = .ok (.str [lett f y k]) M := by
  have := mod_bd (x := f + y * (k : Int)) (n := 26) (by decide)
  exact pIxS_at (by decide) (alphaL_at this.1 this.2)
def six : List PV := [.int 1, .int 3, .int 5, .int 7, .int 9, .int 11]
/-- first and step -/
theorem draw_fy {s : Nat} (h : BagAt M b s) : ∃ f y M', 0 ≤ f ∧ f < 26 ∧ y ∈ [(1 : Int), 3, 5, 7, 9, 11] ∧ Dr b s M M' ∧ ∃ M1, F_pull c [.ref b, .int 26] M = .ok (.int f) M1 ∧ M1.length = M.length ∧ F_of c [.ref b, .ref M.length] (M1 ++ [.lst six]) = .ok (.int y) (M' ++ [.lst six]) := by
  obtain ⟨f, M1, e1, f0, f1, d1⟩ := F_pull_eq (c := c) h (n := 26) (by decide) (by decide)
  obtain ⟨x, X, e2, mx, dX⟩ := F_of_lst (c := c) (k := M.length) (xs := six) (d1.bag.app (ex := [.lst six])) (Ne.symm (Nat.ne_of_lt h.ltb)) (by rw [← d1.len]; simp) (by decide) (by decide)
  obtain ⟨M', rfl, d2⟩ := dX.app d1.bag.ltb d1.bag.lts
  have : ∃ y, x = .int y ∧ y ∈ [(1 : Int), 3, 5, 7, 9, 11] := by
    unfold six at mx
    simp only [List.mem_cons, List.not_mem_nil, or_false] at mx
    rcases mx with rfl | rfl | rfl | rfl | rfl | rfl <;> exact ⟨_, rfl, by decide⟩
  obtain ⟨y, rfl, hy⟩ := this
  exact ⟨f, y, M', f0, f1, hy, d1.trans d2, M1, e1, d1.len, e2⟩
theorem F_letters_eq {s : Nat} (h : BagAt M b s) : ∃ f y M', y ∈ [(1 : Int), 3, 5, 7, 9, 11] ∧ Dr b s M M' ∧ F_letters c [.ref b] M = .ok (.ref M.length) (M' ++ [.lst (((List.range 3).map (lett f y)).map fun d => .str [d])]) := by
  obtain ⟨f, y, M', f0, f1, hy, d, M1, e1, l1, e2⟩ := draw_fy (c := c) h
  refine ⟨f, y, M', hy, d, ?_⟩
  rw [R_letters]
  unfold B_letters
  have e3 : itR1 [.int 3] (M' ++ [.lst six]) = .ok ⟨(List.range 3).map fun i => PV.int (i : Nat), fun _ => True⟩ (M' ++ [.lst six]) := itR1_nat (n := 3) (by decide)
  have e2' : F_of c [.ref b, .ref M.length] (M1 ++ [.lst [.int 1, .int 3, .int 5, .int 7, .int 9, .int 11]]) = .ok (.int y) (M' ++ [.lst six]) := e2
  simp [e1, l1, e2', lim, e3]
  rw [lc_mapE (M' ++ [PO.lst six]) (fun k : Nat => .str [lett f y k]) (by simp) (by simp) (fun _ => trivial) (by rw [List.length_range]; decide) (fun k hk => ⟨_, rfl, fun acc => ⟨rfl, by
    have e4 : pIxS (.str [97, 98, 99, 100, 101, 102, 103, 104, 105, 106, 107, 108, 109, 110, 111, 112, 113, 114, 115, 116, 117, 118, 119, 120, 121, 122]) (.int ((f + y * (k : Int)) % 26)) (M' ++ [PO.lst six] ++ [.lst acc]) = _ := alphaL_ix
    have e5 := pI_mulc (M := M' ++ [PO.lst six] ++ [.lst acc]) (x := y) (y := (k : Int)) (by have := List.mem_range.mp hk; omega)
    have e6 := pI_mod (M := M' ++ [PO.lst six] ++ [.lst acc]) (x := f + y * (k : Int)) (y := 26) (by decide)
    simp only [wipeP, List.set_cons_succ, List.set_cons_zero, ev_fOp, ev_fVar0, ev_fVarS, ev_fC, bnd_ok, e5, pI0_int, e6, e4]⟩⟩)]
  rw [bnd_ok, go_ok, fnRes_rt, gc_drawLE (xs := (List.range 3).map fun k => PV.str [lett f y k]) [.lst six, .lst ((List.range 3).map fun k => PV.str [lett f y k])] h d (by simp) (by rw [d.len]; omega) (by simp) (wfs_iff.mpr fun x hx => by obtain ⟨k, _, rfl⟩ := List.mem_map.mp hx; simp)]
  simp [Function.comp_def]
theorem alphaL_mem {x : Nat} (h : x ∈ alphaL) : 97 ≤ x ∧ x < 123 := by
  unfold alphaL at h
  simp only [List.mem_cons, List.not_mem_nil, or_false] at h
  omega
/-- signs drawn from the alphabet, joined -/
theorem tail_lc {s n : Nat} {σ : PS} {i : Nat} (h : BagAt M b s) (hn : n < 1000) (hσ : ∀ x : PV, fVar 0 (σ.set i (some x)) M = .ok (.ref b) M → True) (fe : FE) (hf : ∀ (x : PV) (N : PM), fe (σ.set i (some x)) N = (F_of c [.ref b, .str alphaL] N).nox) :
    ∃ (M' : PM) (ts : List (List Nat)), lcP (fun _ => True) (gNm i) fYes fe M.length σ ((List.range n).map fun i => PV.int (i : Nat)) (M ++ [.lst []]) = .ok () (M' ++ [.lst (ts.map PV.str)]) ∧ Dr b s M M' ∧ ts.length = n ∧ ∀ y ∈ ts, ∃ x, y = [x] ∧ x ∈ alphaL := by
  obtain ⟨M', ys, e1, d1, p⟩ := lc_draw (M := M) (ok := fun _ => True) (g := gNm i) (ft := fYes) (fe := fe) (σ := σ) (e := fun i : Nat => PV.int (i : Nat)) (fun _ y => ∃ x, y = .str [x] ∧ x ∈ alphaL) h (zs := List.range n) (by rw [List.length_range]; unfold lim; omega) (fun _ _ _ => trivial) (fun z hz => ⟨_, rfl, fun N ys d => ⟨rfl, by
    obtain ⟨x, X, e3, mx, dX⟩ := F_of_str (c := c) (z := alphaL) (d.bag.app (ex := [.lst ys])) (by decide) (by decide)
    obtain ⟨N', rfl, dN⟩ := dX.app d.bag.ltb d.bag.lts
    exact ⟨_, N', by rw [hf, e3]; rfl, dN, x, rfl, mx⟩⟩⟩)
  obtain ⟨ts, rfl, p3⟩ := paired_strs (fun z y h => by obtain ⟨x, rfl, _⟩ := h; exact ⟨_, rfl⟩) p
  refine ⟨M', ts, e1, d1, by have := Paired.length p3; simpa using this.symm, paired_all (fun z y h => ?_) p3⟩
  obtain ⟨x, hx, hm⟩ := h
  injection hx with hx
  exact ⟨x, hx, hm⟩
theorem ones_flat : ∀ {ts : List (List Nat)}, (∀ y ∈ ts, ∃ x, y = [x] ∧ x ∈ alphaL) → ts.flatten.length = ts.length ∧ (ts.map List.length).sum = ts.length ∧ ∀ x ∈ ts.flatten, 97 ≤ x ∧ x < 123
  | [], _ => ⟨rfl, rfl, fun x h => by cases h⟩
  | a :: r, h => by
    obtain ⟨x, rfl, hx⟩ := h a List.mem_cons_self
    obtain ⟨h1, h2, h3⟩ := ones_flat fun y hy => h y (List.mem_cons_of_mem _ hy)
    refine ⟨by rw [List.flatten_cons, List.singleton_append, List.length_cons, List.length_cons, h1], by rw [List.map_cons, List.sum_cons, h2, List.length_singleton, List.length_cons]; omega, fun y hy => ?_⟩
    rw [List.flatten_cons, List.singleton_append] at hy
    rcases List.mem_cons.mp hy with e | hy
    · rw [e]; exact alphaL_mem hx
    · exact h3 y hy
theorem mJoin_at {k : Nat} {N : PM} {ts : List (List Nat)} (e : N[k]? = some (.lst (ts.map PV.str))) (h : (ts.map List.length).sum ≤ lim) : mJoin (.str []) [.ref k] N = .ok (.str ts.flatten) N := by
  have : lstAt N (.ref k) = some (ts.map PV.str) := lstAt_ref' _ _ _ e
  unfold mJoin seqAt
  simp only [this, Option.bind_some, asStrs_map, joinE]
  rw [if_pos (by rw [List.length_nil]; omega)]
set_option maxHeartbeats 1000000 in
theorem F_names_eq {s n : Nat} (h : BagAt M b s) (hn : n ≤ 26) : ∃ ns M', NameL ns ∧ ns.length = n ∧ Dr b s M M' ∧ F_names c [.ref b, .int (n : Nat)] M = .ok (.ref M.length) (M' ++ [.lst (ns.map PV.str)]) := by
  obtain ⟨j, M1, e1, j0, j1, d1⟩ := F_pull_eq (c := c) h (n := 8) (by decide) (by decide)
  obtain ⟨m, rfl⟩ := Int.eq_ofNat_of_zero_le j0
  obtain ⟨M2, ts, e2, d2, l2, one⟩ := tail_lc (c := c) (n := m) (i := 7) (σ := [some (.ref b), some (.int (n : Nat)), some (.str alphaL), none, none, none, none, none]) d1.bag (by omega) (fun _ _ => trivial) (fCallN (F_of c) [] (fCons (fVar 0) (fCons (fVar 2) fNil))) (fun x N => by simp)
  obtain ⟨f1, f2, f3⟩ := ones_flat one
  have hj0 : mJoin (.str []) [.ref M1.length] (M2 ++ [.lst (ts.map PV.str)]) = .ok (.str ts.flatten) (M2 ++ [.lst (ts.map PV.str)]) := mJoin_at (by rw [← d2.len]; simp) (by unfold lim; omega)
  generalize ts.flatten = tl at f1 f3 hj0
  have d12 := d1.trans d2
  obtain ⟨a, M3, e3, a0, a1, d3⟩ := F_pull_eq (c := c) d2.bag (n := (tl.length : Int) + 1) (by omega) (by omega)
  obtain ⟨i, rfl⟩ := Int.eq_ofNat_of_zero_le a0
  obtain ⟨f, y, M5, f0, f1', hy, d5, M4, e4, l4, e5⟩ := draw_fy (c := c) d3.bag
  have d := (d12.trans d3).trans d5
  have e5' : F_of c [.ref b, .ref M3.length] (M4 ++ [.lst [.int 1, .int 3, .int 5, .int 7, .int 9, .int 11]]) = .ok (.int y) (M5 ++ [.lst six]) := e5
  have hj := hj0
  have g1 : gc M (.ok (.str tl) (M2 ++ [.lst (ts.map PV.str)])) = .ok (.str tl) M2 := gc_draw h d12 (by simp)
  have lt : tl.length ≤ lim := by unfold lim; omega
  refine ⟨(List.range n).map fun k => nmAt tl i (lett f y k), M5, names_ok hy (by omega) f3 hn, by simp, d, ?_⟩
  rw [R_names]
  unfold B_names
  have e2' : lcP (fun _ => True) (gNm 7) fYes (fCallN (F_of c) [] (fCons (fVar 0) (fCons (fVar 2) fNil))) M1.length (wipeP [some (.ref b), some (.int (n : Nat)), some (.str [97, 98, 99, 100, 101, 102, 103, 104, 105, 106, 107, 108, 109, 110, 111, 112, 113, 114, 115, 116, 117, 118, 119, 120, 121, 122]), none, none, none, none, none] [7]) ((List.range m).map fun i => PV.int (i : Nat)) (M1 ++ [.lst []]) = _ := e2
  have eR := itR1_nat (M := M5 ++ [.lst six]) (n := n) (by omega)
  simp [e1, itR1_nat (M := M1) (show m < 1000000 by omega), e2', hj, g1, bLenS_str lt, e3, e4, l4, e5', lim, eR]
  rw [lc_mapE (M5 ++ [PO.lst six]) (fun k : Nat => .str (nmAt tl i (lett f y k))) (by simp) (by simp) (fun _ => trivial) (by rw [List.length_range]; unfold lim; omega) (fun k hk => ⟨_, rfl, fun acc => ⟨rfl, by
    have e6 : pIxS (.str [97, 98, 99, 100, 101, 102, 103, 104, 105, 106, 107, 108, 109, 110, 111, 112, 113, 114, 115, 116, 117, 118, 119, 120, 121, 122]) (.int ((f + y * (k : Int)) % 26)) (M5 ++ [PO.lst six] ++ [.lst acc]) = _ := alphaL_ix
    have e7 := pI_mulc (M := M5 ++ [PO.lst six] ++ [.lst acc]) (x := y) (y := (k : Int)) (by have := List.mem_range.mp hk; omega)
    have e8 := pI_mod (M := M5 ++ [PO.lst six] ++ [.lst acc]) (x := f + y * (k : Int)) (y := 26) (by decide)
    have s1 := pSlS_str (M := M5 ++ [PO.lst six] ++ [.lst acc]) (lo := none) (hi := some (i : Int)) lt
    have s2 := pSlS_str (M := M5 ++ [PO.lst six] ++ [.lst acc]) (lo := some (i : Int)) (hi := none) lt
    rw [cut_take'] at s1
    rw [cut_drop] at s2
    have l1 : (tl.take i).length ≤ tl.length := by rw [List.length_take]; omega
    have l2 : (tl.drop i).length ≤ tl.length := by rw [List.length_drop]; omega
    have p1 := pAddS_str (M := M5 ++ [PO.lst six] ++ [.lst acc]) (a := tl.take i) (b := [lett f y k]) (by rw [List.length_singleton]; unfold lim; omega)
    have p2 := pAddS_str (M := M5 ++ [PO.lst six] ++ [.lst acc]) (a := tl.take i ++ [lett f y k]) (b := tl.drop i) (by rw [List.length_append, List.length_singleton]; unfold lim; omega)
    simp only [wipeP, List.set_cons_succ, List.set_cons_zero, ev_fOp, ev_fSl, ev_fNoPart, ev_fPart, asI_int, ev_fVar0, ev_fVarS, ev_fC, bnd_ok, e7, pI0_int, e8, e6, s1, s2, p1, p2, nmAt]⟩⟩)]
  rw [bnd_ok, go_ok, fnRes_rt, gc_drawLE (xs := (List.range n).map fun k => PV.str (nmAt tl i (lett f y k))) [.lst six, .lst ((List.range n).map fun k => PV.str (nmAt tl i (lett f y k)))] h d (by simp) (by rw [d.len]; omega) (by simp) (wfs_iff.mpr fun x hx => by obtain ⟨k, _, rfl⟩ := List.mem_map.mp hx; simp)]
  simp [Function.comp_def]
end Pu
namespace Pu
open PySem PySem.Spec PyProof.Rows L2 LB
open Classical
variable {c : CA} {M M' M'' : PM} {b : Nat}
/-! ### a drawn plan -/
def qLetters : List Nat := [108, 101, 116, 116, 101, 114, 115]
def qMachines : List Nat := [109, 97, 99, 104, 105, 110, 101, 115]
def qRows : List Nat := [114, 111, 119, 115]
def qMoves : List Nat := [109, 111, 118, 101, 115]
def qStands : List Nat := [115, 116, 97, 110, 100, 115]
def planD (l m r v t : Nat) : List (PV × PV) := [(.str qLetters, .ref l), (.str qMachines, .ref m), (.str qRows, .ref r), (.str qMoves, .ref v), (.str qStands, .ref t)]
abbrev pairP (x : List Nat × List Nat) : PV := .tup [.str x.1, .str x.2]
abbrev mvP (x : List Nat × List Nat × List (List Nat) × List Nat) : PV := .tup [.str x.1, .str x.2.1, tS x.2.2.1, .str x.2.2.2]
theorem kfind_pos {k v : PV} {r : List (PV × PV)} : kfind ((k, v) :: r) k = some v := by unfold kfind; simp
theorem kfind_neg {k k' v : PV} {r : List (PV × PV)} (h : k' ≠ k) : kfind ((k', v) :: r) k = kfind r k := by unfold kfind; simp [h]
theorem sne {a b : List Nat} (h : a ≠ b) : PV.str a ≠ PV.str b := fun z => h (by injection z)
section
variable {d l m r v t : Nat} (e : M[d]? = some (.dct (planD l m r v t)))
include e
theorem pg_at {k : List Nat} {x : PV} (h : kfind (planD l m r v t) (.str k) = some x) : dgetP M (.ref d) (.str k) = some (some x) := by
  unfold dgetP
  simp only [e]
  rw [if_pos (by rfl), h]
theorem pg_l : dgetP M (.ref d) (.str [108, 101, 116, 116, 101, 114, 115]) = some (some (.ref l)) := pg_at e kfind_pos
theorem pg_m : dgetP M (.ref d) (.str [109, 97, 99, 104, 105, 110, 101, 115]) = some (some (.ref m)) := pg_at e ((kfind_neg (sne (by decide))).trans kfind_pos)
theorem pg_r : dgetP M (.ref d) (.str [114, 111, 119, 115]) = some (some (.ref r)) := pg_at e ((kfind_neg (sne (by decide))).trans ((kfind_neg (sne (by decide))).trans kfind_pos))
theorem pg_v : dgetP M (.ref d) (.str [109, 111, 118, 101, 115]) = some (some (.ref v)) := pg_at e ((kfind_neg (sne (by decide))).trans ((kfind_neg (sne (by decide))).trans ((kfind_neg (sne (by decide))).trans kfind_pos)))
theorem pg_t : dgetP M (.ref d) (.str [115, 116, 97, 110, 100, 115]) = some (some (.ref t)) := pg_at e ((kfind_neg (sne (by decide))).trans ((kfind_neg (sne (by decide))).trans ((kfind_neg (sne (by decide))).trans ((kfind_neg (sne (by decide))).trans kfind_pos))))
end
def asV (M : PM) (o : Option (Option PV)) : Res PV := match o with
  | some (some v) => .ok v M
  | _ => .bad
@[simp] theorem asV_some (M : PM) (v : PV) : asV M (some (some v)) = .ok v M := id rfl
@[simp] theorem ev_fDGet (fd fk : FE) (σ : PS) (M : PM) : fDGet fd fk σ M = (fd σ M).bnd fun d M1 => (fk σ M1).bnd fun k M2 => asV M2 (dgetP M2 d k) := id rfl
/-- all but some is kept -/
structure Kp (E : Nat → Prop) (M M' : PM) : Prop where
  l : M.length ≤ M'.length
  k : ∀ i, i < M.length → ¬ E i → M'[i]? = M[i]?
theorem Kp.refl {E : Nat → Prop} : Kp E M M := ⟨Nat.le_refl _, fun _ _ _ => rfl⟩
theorem Kp.trans {E : Nat → Prop} (x : Kp E M M') (y : Kp E M' M'') : Kp E M M'' := ⟨Nat.le_trans x.l y.l, fun i hi h => (y.k i (Nat.lt_of_lt_of_le hi x.l) h).trans (x.k i hi h)⟩
theorem Kp.at {E : Nat → Prop} (x : Kp E M M') {i : Nat} {o : PO} (e : M[i]? = some o) (h : ¬ E i) : M'[i]? = some o := (x.k i (List.getElem?_eq_some_iff.mp e).1 h).trans e
theorem Kp.app {E : Nat → Prop} {ex : PM} : Kp E M (M ++ ex) := ⟨by simp, fun i hi _ => List.getElem?_append_left hi⟩
theorem Dr.kp {s : Nat} {E : Nat → Prop} (x : Dr b s M M') (h : E b) : Kp E M M' := ⟨Nat.le_of_eq x.len.symm, fun i hi n => x.get fun z => n (z ▸ h)⟩
theorem Kp.set {E : Nat → Prop} {k : Nat} {o : PO} (h : E k) : Kp E M (M.set k o) := ⟨by simp, fun i hi n => List.getElem?_set_ne fun z : k = i => n (z ▸ h)⟩
/-- the plan p in the store; own: its places -/
structure PlanAt (M : PM) (d l m r v t : Nat) (ks : List Nat) (p : PD) : Prop where
  d : M[d]? = some (.dct (planD l m r v t))
  l : M[l]? = some (.lst (p.letters.map fun x => .str [x]))
  m : M[m]? = some (.lst (p.machines.map pairP))
  r : M[r]? = some (.lst (p.rows.map pairP))
  v : M[v]? = some (.lst (p.moves.map mvP))
  t : M[t]? = some (.lst (ks.map PV.ref))
  lk : ks.length = p.stands.length
  ss : ∀ (i : Nat) (k : Nat) (ss : List (List Nat)), ks[i]? = some k → p.stands[i]? = some ss → M[k]? = some (.lst (ss.map PV.str))
def plAd (d l m r v t : Nat) (ks : List Nat) : Nat → Prop := fun i => i = d ∨ i = l ∨ i = m ∨ i = r ∨ i = v ∨ i = t ∨ i ∈ ks
theorem PlanAt.kp {E : Nat → Prop} {d l m r v t : Nat} {ks : List Nat} {p : PD} (h : PlanAt M d l m r v t ks p) (x : Kp E M M') (n : ∀ i, plAd d l m r v t ks i → ¬ E i) : PlanAt M' d l m r v t ks p :=
  ⟨x.at h.d (n _ (.inl rfl)), x.at h.l (n _ (.inr (.inl rfl))), x.at h.m (n _ (.inr (.inr (.inl rfl)))), x.at h.r (n _ (.inr (.inr (.inr (.inl rfl))))), x.at h.v (n _ (.inr (.inr (.inr (.inr (.inl rfl)))))), x.at h.t (n _ (.inr (.inr (.inr (.inr (.inr (.inl rfl))))))), h.lk, fun i k ss h1 h2 => x.at (h.ss i k ss h1 h2) (n _ (.inr (.inr (.inr (.inr (.inr (.inr (List.mem_of_getElem? h1))))))))⟩
/-! ### a drawn act, a drawn move -/
theorem eqNil {k : Nat} {xs : List PV} {M : PM} (e : M[k]? = some (.lst xs)) (hd : ∀ x ∈ xs, Dat 59 x) : pEqD (.ref k) (.ref M.length) (M ++ [.lst []]) = .ok (.bl (decide (xs = []))) (M ++ [.lst []]) := by
  have lk := (List.getElem?_eq_some_iff.mp e).1
  unfold pEqD
  have e1 : datF (M ++ [.lst []]) 60 (.ref k) = some (.list (dvs xs)) := by
    unfold datF
    rw [List.getElem?_append_left lk, e]
    simp only
    rw [mapM_dv fun x hx => datF_dv (hd x hx)]
    rfl
  have e2 : datF (M ++ [.lst []]) 60 (.ref M.length) = some (.list []) := by
    unfold datF
    simp
  rw [e1, e2]
  simp only
  rw [eqv_nil]
  cases xs with
  | nil => unfold dvs; rfl
  | cons x r => unfold dvs; rfl
theorem dat_pair {x : List Nat × List Nat} (h1 : asc x.1) (h2 : asc x.2) {n : Nat} : Dat (n + 1) (pairP x) := by
  rw [dat_tup]
  intro y hy
  simp only [List.mem_cons, List.not_mem_nil, or_false] at hy
  rcases hy with rfl | rfl
  · rw [dat_str]; exact h1
  · rw [dat_str]; exact h2
theorem gc_of {s : Nat} {p : PV} (d : Dr b s M M') : gc M (.ok p M') = .ok p M' := gc_self d.len
theorem atT2 {x y : PV} : atI [x, y] 0 = some x ∧ atI [x, y] 1 = some y := ⟨rfl, rfl⟩
set_option maxHeartbeats 1000000 in
theorem F_act_eq {s d l m r v t : Nat} {ks : List Nat} {p : PD} (h : BagAt M b s) (P : PlanAt M d l m r v t ks p) (nb : ∀ i, plAd d l m r v t ks i → i ≠ b) (hr : ∀ x ∈ p.rows, asc x.1 ∧ asc x.2) (lr : p.rows.length < 100) (ll : 0 < p.letters.length ∧ p.letters.length ≤ 3) :
    ∃ a M', F_act c [.ref b, .ref d] M = .ok (tS a) M' ∧ Dr b s M M' ∧ ActOk p a := by
  obtain ⟨k, M1, e1, k0, k1, d1⟩ := F_pull_eq (c := c) h (n := 9) (by decide) (by decide)
  have P1 := P.kp (d1.kp (E := (· = b)) rfl) (fun i hi => nb i hi)
  have eq := eqNil P1.r (fun x hx => by
    obtain ⟨y, hy, rfl⟩ := List.mem_map.mp hx
    exact dat_pair (hr y hy).1 (hr y hy).2)
  have gM : ∀ {q : PV}, q.wf M.length → gc M (.ok q (M1 ++ [.lst []])) = .ok q M1 := fun w => gc_draw h d1 w
  by_cases c1 : k = 0 ∨ p.rows = []
  · refine ⟨[wIdle], M1, ?_, d1, .idle⟩
    rw [R_act]
    unfold B_act
    by_cases h0 : k = 0
    · simp [e1, h0, lim, wIdle]
      exact gc_of d1
    · have hr0 : p.rows = [] := c1.resolve_left h0
      rw [hr0] at eq
      simp [e1, h0, pg_r P1.d, eq, lim, wIdle]
      exact gM (by simp)
  · have h0 : ¬ k = 0 := fun z => c1 (.inl z)
    have hr0 : ¬ p.rows = [] := fun z => c1 (.inr z)
    have eq2 : pEqD (.ref r) (.ref M1.length) (M1 ++ [.lst []]) = .ok (.bl false) (M1 ++ [.lst []]) := by
      rw [eq]
      simp [hr0]
    have pos : 0 < (p.rows.map pairP).length := by
      rw [List.length_map]
      cases hh : p.rows with
      | nil => exact absurd hh hr0
      | cons a q => simp
    have rb : r ≠ b := nb r (.inr (.inr (.inr (.inl rfl))))
    have eR : (M1 ++ [PO.lst []])[r]? = some (.lst (p.rows.map pairP)) := by rw [List.getElem?_append_left (List.getElem?_eq_some_iff.mp P1.r).1]; exact P1.r
    obtain ⟨x, X, e2, mx, dX⟩ := F_of_lst (c := c) (d1.bag.app (ex := [.lst []])) rb eR pos (by rw [List.length_map]; omega)
    obtain ⟨M2, rfl, d2⟩ := dX.app d1.bag.ltb d1.bag.lts
    obtain ⟨y, hy, rfl⟩ := List.mem_map.mp mx
    have d12 := d1.trans d2
    have P2 := P.kp (d12.kp (E := (· = b)) rfl) (fun i hi => nb i hi)
    have eD : (M1 ++ [PO.lst []])[d]? = some (.dct (planD l m r v t)) := by rw [List.getElem?_append_left (List.getElem?_eq_some_iff.mp P1.d).1]; exact P1.d
    have i0 := pIxT_at (M := M2 ++ [PO.lst []]) (xs := [.str y.1, .str y.2]) (i := 0) atT2.1
    by_cases h1 : k = 1
    · refine ⟨[wBare, y.1], M2, ?_, d12, .bare hy⟩
      rw [R_act]
      unfold B_act
      simp [e1, h1, pg_r P1.d, eq2, pg_r eD, e2, i0, lim, wBare]
      exact gc_draw h d12 (by simp)
    · have kk : k % 2 = 0 ∨ k % 2 = 1 := by omega
      have lb : l ≠ b := nb l (.inr (.inl rfl))
      have m2 := pI_mod (M := M2 ++ [PO.lst []] ++ [.lst [.str [115, 101, 110, 100], .str [116, 97, 107, 101]]]) (x := k) (y := 2) (by decide)
      have eL : (M2 ++ [PO.lst []] ++ [PO.lst [.str [115, 101, 110, 100], .str [116, 97, 107, 101]]])[l]? = some (.lst (p.letters.map fun x => .str [x])) := by
        rw [List.append_assoc, List.getElem?_append_left (List.getElem?_eq_some_iff.mp P2.l).1]
        exact P2.l
      have eD2 : (M2 ++ [PO.lst []] ++ [PO.lst [.str [115, 101, 110, 100], .str [116, 97, 107, 101]]])[d]? = some (.dct (planD l m r v t)) := by
        rw [List.append_assoc, List.getElem?_append_left (List.getElem?_eq_some_iff.mp P2.d).1]
        exact P2.d
      have eS : (M2 ++ [PO.lst []] ++ [PO.lst [.str [115, 101, 110, 100], .str [116, 97, 107, 101]]])[M2.length + 1]? = some (.lst [.str [115, 101, 110, 100], .str [116, 97, 107, 101]]) := by simp
      obtain ⟨z, X, e3, mz, dX⟩ := F_of_lst (c := c) ((d2.bag.app (ex := [.lst []])).app (ex := [.lst [.str [115, 101, 110, 100], .str [116, 97, 107, 101]]])) lb eL (by rw [List.length_map]; exact ll.1) (by rw [List.length_map]; omega)
      obtain ⟨X', rfl, dX'⟩ := dX.app (d2.bag.app (ex := [.lst []])).ltb (d2.bag.app (ex := [.lst []])).lts
      obtain ⟨M3, rfl, d3⟩ := dX'.app d2.bag.ltb d2.bag.lts
      obtain ⟨x, hx, rfl⟩ := List.mem_map.mp mz
      have d13 := d12.trans d3
      rcases kk with h2 | h2
      · have i2 := pIxL_at (M := M2 ++ [PO.lst []] ++ [PO.lst [.str [115, 101, 110, 100], .str [116, 97, 107, 101]]]) eS (i := 0) atT2.1
        refine ⟨[wSend, y.1, [x]], M3, ?_, d13, .send hy hx⟩
        rw [R_act]
        unfold B_act
        simp at m2 i2 e3 eD2
        simp [e1, h0, h1, pg_r P1.d, eq2, pg_r eD, e2, i0, lim, wSend, m2, h2, i2, pg_l eD2, e3]
        exact gc_draw h d13 (by simp)
      · have i2 := pIxL_at (M := M2 ++ [PO.lst []] ++ [PO.lst [.str [115, 101, 110, 100], .str [116, 97, 107, 101]]]) eS (i := 1) atT2.2
        refine ⟨[wTake, y.1, [x]], M3, ?_, d13, .take hy hx⟩
        rw [R_act]
        unfold B_act
        simp at m2 i2 e3 eD2
        simp [e1, h0, h1, pg_r P1.d, eq2, pg_r eD, e2, i0, lim, wTake, m2, h2, i2, pg_l eD2, e3]
        exact gc_draw h d13 (by simp)
set_option maxHeartbeats 1000000 in
theorem F_move_eq {s d l m r v t : Nat} {ks : List Nat} {p : PD} (h : BagAt M b s) (P : PlanAt M d l m r v t ks p) (nb : ∀ i, plAd d l m r v t ks i → i ≠ b) (hr : ∀ x ∈ p.rows, asc x.1 ∧ asc x.2) (lr : p.rows.length < 100) (ll : 0 < p.letters.length ∧ p.letters.length ≤ 3)
    (lm : 0 < p.machines.length ∧ p.machines.length < 100) (ls : p.stands.length = p.machines.length) (hs : ∀ ss ∈ p.stands, 0 < ss.length ∧ ss.length < 100) :
    ∃ x M', F_move c [.ref b, .ref d] M = .ok (mvP x) M' ∧ Dr b s M M' ∧ MvOk p x := by
  have bl := bLen_lst (M := M) P.m
  rw [List.length_map] at bl
  obtain ⟨k, M1, e1, k0, k1, d1⟩ := F_pull_eq (c := c) h (n := (p.machines.length : Nat)) (by omega) (by omega)
  obtain ⟨i, rfl⟩ := Int.eq_ofNat_of_zero_le k0
  have P1 := P.kp (d1.kp (E := (· = b)) rfl) (fun i hi => nb i hi)
  have li : i < p.machines.length := by omega
  have li2 : i < p.stands.length := by omega
  have li3 : i < ks.length := by rw [P.lk]; exact li2
  have em : p.machines[i]? = some p.machines[i] := List.getElem?_eq_getElem li
  have es : p.stands[i]? = some p.stands[i] := List.getElem?_eq_getElem li2
  have ek : ks[i]? = some ks[i] := List.getElem?_eq_getElem li3
  have ix : pIxL (.ref t) (.int (i : Nat)) M1 = .ok (.ref ks[i]) M1 := pIxL_at P1.t (atI_nat (by rw [List.getElem?_map, ek]; rfl))
  have im : pIxL (.ref m) (.int (i : Nat)) M1 = .ok (pairP p.machines[i]) M1 := pIxL_at P1.m (atI_nat (by rw [List.getElem?_map, em]; rfl))
  have i0 := pIxT_at (M := M1) (xs := [.str p.machines[i].1, .str p.machines[i].2]) (i := 0) atT2.1
  have kb : ks[i] ≠ b := nb _ (.inr (.inr (.inr (.inr (.inr (.inr (List.getElem_mem li3)))))))
  have hss := hs _ (List.getElem_mem li2)
  obtain ⟨x1, M2, e2, mx1, d2⟩ := F_of_lst (c := c) d1.bag kb (P1.ss i _ _ ek es) (by rw [List.length_map]; exact hss.1) (by rw [List.length_map]; omega)
  have d12 := d1.trans d2
  have P2 := P.kp (d12.kp (E := (· = b)) rfl) (fun i hi => nb i hi)
  obtain ⟨a, M3, e3, d3, ha⟩ := F_act_eq (c := c) d2.bag P2 nb hr lr ll
  have d13 := d12.trans d3
  have P3 := P.kp (d13.kp (E := (· = b)) rfl) (fun i hi => nb i hi)
  obtain ⟨x2, M4, e4, mx2, d4⟩ := F_of_lst (c := c) d3.bag kb (P3.ss i _ _ ek es) (by rw [List.length_map]; exact hss.1) (by rw [List.length_map]; omega)
  have d14 := d13.trans d4
  obtain ⟨y1, hy1, rfl⟩ := List.mem_map.mp mx1
  obtain ⟨y2, hy2, rfl⟩ := List.mem_map.mp mx2
  refine ⟨(p.machines[i].1, y1, a, y2), M4, ?_, d14, i, p.machines[i], p.stands[i], em, es, rfl, hy1, ha, hy2⟩
  rw [R_move]
  unfold B_move
  simp [pg_m P.d, bl, e1, pg_t P1.d, ix, pg_m P1.d, im, i0, e2, e3, e4, lim]
  exact gc_of d14
/-! ### the plan while it is made -/
structure PB (M : PM) (b s : Nat) (N : PM) (nm d l m r v t : Nat) (ks : List Nat) (ns : List (List Nat)) (p : PD) : Prop where
  bag : BagAt N b s
  kp : Kp (· = b) M N
  P : PlanAt N d l m r v t ks p
  nms : N[nm]? = some (.lst (ns.map PV.str))
  new : ∀ i, plAd d l m r v t ks i → M.length ≤ i
  nn : M.length ≤ nm
  ne : nm ≠ d ∧ nm ≠ m ∧ nm ≠ r ∧ nm ≠ v ∧ nm ≠ t ∧ l ≠ d ∧ l ≠ m ∧ l ≠ r ∧ l ≠ v ∧ l ≠ t ∧ d ≠ m ∧ d ≠ r ∧ d ≠ v ∧ d ≠ t ∧ m ≠ r ∧ m ≠ v ∧ m ≠ t ∧ r ≠ v ∧ r ≠ t ∧ v ≠ t
  nk : ∀ k ∈ ks, k ≠ m ∧ k ≠ r ∧ k ≠ v ∧ k ≠ t ∧ k ≠ d
theorem PB.nb {s nm d l m r v t : Nat} {ks : List Nat} {ns : List (List Nat)} {p : PD} {N : PM} (h : PB M b s N nm d l m r v t ks ns p) (hb : b < M.length) : ∀ i, plAd d l m r v t ks i → i ≠ b := fun i hi z => by
  have := h.new i hi
  omega
/-- drawn -/
theorem PB.dr {s nm d l m r v t : Nat} {ks : List Nat} {ns : List (List Nat)} {p : PD} {N N' : PM} (h : PB M b s N nm d l m r v t ks ns p) (hb : b < M.length) (x : Dr b s N N') : PB M b s N' nm d l m r v t ks ns p :=
  ⟨x.bag, h.kp.trans (x.kp rfl), h.P.kp (x.kp (E := (· = b)) rfl) (h.nb hb), (x.get (fun z => by have := h.nn; omega)).trans h.nms, h.new, h.nn, h.ne, h.nk⟩
/-- something made beside -/
theorem PB.app {s nm d l m r v t : Nat} {ks : List Nat} {ns : List (List Nat)} {p : PD} {N : PM} (h : PB M b s N nm d l m r v t ks ns p) (ex : PM) : PB M b s (N ++ ex) nm d l m r v t ks ns p :=
  ⟨h.bag.app, h.kp.trans .app, h.P.kp (E := fun _ => False) .app (fun _ _ z => z), (Kp.app (E := fun _ => False)).at h.nms (fun z => z), h.new, h.nn, h.ne, h.nk⟩
theorem BagAt.set {s k : Nat} {o : PO} (h : BagAt M b s) (h1 : k ≠ b) (h2 : k ≠ s) : BagAt (M.set k o) b s := by
  obtain ⟨n, ns, i, r, sd, ct, e1, e2, h0⟩ := h
  exact ⟨n, ns, i, r, sd, ct, (List.getElem?_set_ne h1).trans e1, (List.getElem?_set_ne h2).trans e2, h0⟩
section
variable {s nm d l m r v t : Nat} {ks : List Nat} {ns : List (List Nat)} {p : PD} {N : PM} (h : PB M b s N nm d l m r v t ks ns p) (hb : b < M.length) (hs : s < M.length)
include h hb hs
theorem PB.setR (x : List Nat × List Nat) : PB M b s (N.set r (.lst ((p.rows.map pairP) ++ [pairP x]))) nm d l m r v t ks ns { p with rows := p.rows ++ [x] } := by
  obtain ⟨n1, n2, n3, n4, n5, n6, n7, n8, n9, n10, n11, n12, n13, n14, n15, n16, n17, n18, n19, n20⟩ := h.ne
  have lr := (List.getElem?_eq_some_iff.mp h.P.r).1
  have nr := h.new r (.inr (.inr (.inr (.inl rfl))))
  refine ⟨h.bag.set (by omega) (by omega), ⟨by rw [List.length_set]; exact h.kp.l, fun i hi hn => (List.getElem?_set_ne (by omega)).trans (h.kp.k i hi hn)⟩, ⟨(List.getElem?_set_ne (Ne.symm n12)).trans h.P.d, (List.getElem?_set_ne (Ne.symm n8)).trans h.P.l, (List.getElem?_set_ne (Ne.symm n15)).trans h.P.m, ?_, (List.getElem?_set_ne n18).trans h.P.v, (List.getElem?_set_ne n19).trans h.P.t, h.P.lk, fun i k ss h1 h2 => (List.getElem?_set_ne (Ne.symm (h.nk k (List.mem_of_getElem? h1)).2.1)).trans (h.P.ss i k ss h1 h2)⟩, (List.getElem?_set_ne (Ne.symm n3)).trans h.nms, h.new, h.nn, h.ne, h.nk⟩
  rw [List.getElem?_set_self lr, List.map_append]
  rfl
theorem PB.setV (x : List Nat × List Nat × List (List Nat) × List Nat) : PB M b s (N.set v (.lst ((p.moves.map mvP) ++ [mvP x]))) nm d l m r v t ks ns { p with moves := p.moves ++ [x] } := by
  obtain ⟨n1, n2, n3, n4, n5, n6, n7, n8, n9, n10, n11, n12, n13, n14, n15, n16, n17, n18, n19, n20⟩ := h.ne
  have lv := (List.getElem?_eq_some_iff.mp h.P.v).1
  have nv := h.new v (.inr (.inr (.inr (.inr (.inl rfl)))))
  refine ⟨h.bag.set (by omega) (by omega), ⟨by rw [List.length_set]; exact h.kp.l, fun i hi hn => (List.getElem?_set_ne (by omega)).trans (h.kp.k i hi hn)⟩, ⟨(List.getElem?_set_ne (Ne.symm n13)).trans h.P.d, (List.getElem?_set_ne (Ne.symm n9)).trans h.P.l, (List.getElem?_set_ne (Ne.symm n16)).trans h.P.m, (List.getElem?_set_ne (Ne.symm n18)).trans h.P.r, ?_, (List.getElem?_set_ne n20).trans h.P.t, h.P.lk, fun i k ss h1 h2 => (List.getElem?_set_ne (Ne.symm (h.nk k (List.mem_of_getElem? h1)).2.2.1)).trans (h.P.ss i k ss h1 h2)⟩, (List.getElem?_set_ne (Ne.symm n4)).trans h.nms, h.new, h.nn, h.ne, h.nk⟩
  rw [List.getElem?_set_self lv, List.map_append]
  rfl
theorem PB.setM (x : List Nat × List Nat) : PB M b s (N.set m (.lst ((p.machines.map pairP) ++ [pairP x]))) nm d l m r v t ks ns { p with machines := p.machines ++ [x] } := by
  obtain ⟨n1, n2, n3, n4, n5, n6, n7, n8, n9, n10, n11, n12, n13, n14, n15, n16, n17, n18, n19, n20⟩ := h.ne
  have lm := (List.getElem?_eq_some_iff.mp h.P.m).1
  have nm' := h.new m (.inr (.inr (.inl rfl)))
  refine ⟨h.bag.set (by omega) (by omega), ⟨by rw [List.length_set]; exact h.kp.l, fun i hi hn => (List.getElem?_set_ne (by omega)).trans (h.kp.k i hi hn)⟩, ⟨(List.getElem?_set_ne (Ne.symm n11)).trans h.P.d, (List.getElem?_set_ne (Ne.symm n7)).trans h.P.l, ?_, (List.getElem?_set_ne n15).trans h.P.r, (List.getElem?_set_ne n16).trans h.P.v, (List.getElem?_set_ne n17).trans h.P.t, h.P.lk, fun i k ss h1 h2 => (List.getElem?_set_ne (Ne.symm (h.nk k (List.mem_of_getElem? h1)).1)).trans (h.P.ss i k ss h1 h2)⟩, (List.getElem?_set_ne (Ne.symm n2)).trans h.nms, h.new, h.nn, h.ne, h.nk⟩
  rw [List.getElem?_set_self lm, List.map_append]
  rfl
theorem PB.setT {k : Nat} {ss : List (List Nat)} (ek : N[k]? = some (.lst (ss.map PV.str))) (nk : M.length ≤ k) (nk2 : k ≠ m ∧ k ≠ r ∧ k ≠ v ∧ k ≠ t ∧ k ≠ d) : PB M b s (N.set t (.lst ((ks.map PV.ref) ++ [.ref k]))) nm d l m r v t (ks ++ [k]) ns { p with stands := p.stands ++ [ss] } := by
  obtain ⟨n1, n2, n3, n4, n5, n6, n7, n8, n9, n10, n11, n12, n13, n14, n15, n16, n17, n18, n19, n20⟩ := h.ne
  have lt := (List.getElem?_eq_some_iff.mp h.P.t).1
  have nt := h.new t (.inr (.inr (.inr (.inr (.inr (.inl rfl))))))
  refine ⟨h.bag.set (by omega) (by omega), ⟨by rw [List.length_set]; exact h.kp.l, fun i hi hn => (List.getElem?_set_ne (by omega)).trans (h.kp.k i hi hn)⟩, ⟨(List.getElem?_set_ne (Ne.symm n14)).trans h.P.d, (List.getElem?_set_ne (Ne.symm n10)).trans h.P.l, (List.getElem?_set_ne (Ne.symm n17)).trans h.P.m, (List.getElem?_set_ne (Ne.symm n19)).trans h.P.r, (List.getElem?_set_ne (Ne.symm n20)).trans h.P.v, ?_, by simp [h.P.lk], fun i k' ss' h1 h2 => ?_⟩, (List.getElem?_set_ne (Ne.symm n5)).trans h.nms, fun i hi => ?_, h.nn, h.ne, fun k' hk => ?_⟩
  · rw [List.getElem?_set_self lt, List.map_append]
    rfl
  · rcases Nat.lt_or_ge i ks.length with a | a
    · rw [List.getElem?_append_left a] at h1
      rw [List.getElem?_append_left (by rw [← h.P.lk]; exact a)] at h2
      exact (List.getElem?_set_ne (Ne.symm (h.nk k' (List.mem_of_getElem? h1)).2.2.2.1)).trans (h.P.ss i k' ss' h1 h2)
    · have li := (List.getElem?_eq_some_iff.mp h1).1
      rw [List.length_append, List.length_singleton] at li
      have : i = ks.length := by omega
      subst this
      rw [List.getElem?_append_right (Nat.le_refl _), Nat.sub_self] at h1
      rw [h.P.lk, List.getElem?_append_right (Nat.le_refl _), Nat.sub_self] at h2
      cases h1
      cases h2
      exact (List.getElem?_set_ne (Ne.symm nk2.2.2.2.1)).trans ek
  · rcases hi with hi | hi | hi | hi | hi | hi | hi
    · exact h.new i (.inl hi)
    · exact h.new i (.inr (.inl hi))
    · exact h.new i (.inr (.inr (.inl hi)))
    · exact h.new i (.inr (.inr (.inr (.inl hi))))
    · exact h.new i (.inr (.inr (.inr (.inr (.inl hi)))))
    · exact h.new i (.inr (.inr (.inr (.inr (.inr (.inl hi))))))
    · rcases List.mem_append.mp hi with hi | hi
      · exact h.new i (.inr (.inr (.inr (.inr (.inr (.inr hi))))))
      · rw [List.mem_singleton.mp hi]; exact nk
  · rcases List.mem_append.mp hk with hk | hk
    · exact h.nk k' hk
    · rw [List.mem_singleton.mp hk]; exact nk2
end
end Pu
namespace Pu
open PySem PySem.Spec PyProof.Rows L2 LB
open Classical
variable {c : CA} {M M' M'' : PM} {b : Nat}
theorem mAppend_at {k : Nat} {xs : List PV} {y : PV} (e : M[k]? = some (.lst xs)) (h : xs.length < lim) : mAppend (.ref k) [y] M = .ok .non (M.set k (.lst (xs ++ [y]))) := by
  unfold mAppend chL
  simp only [e]
  rw [if_pos h]
theorem pSlL_at {k : Nat} {xs : List PV} {lo hi : Option Int} (e : M[k]? = some (.lst xs)) : pSlL (.ref k) lo hi M = .ok (.ref M.length) (M ++ [.lst (cut xs lo hi)]) := by
  unfold pSlL
  simp only [lstAt_ref' M k xs e]
theorem putP_new {kvs : List (PV × PV)} {k v : PV} (h : ∀ p ∈ kvs, p.1 ≠ k) : putP kvs k v = kvs ++ [(k, v)] := by
  unfold putP
  rw [if_neg fun ⟨p, hp, e⟩ => h p hp e]
theorem merge_plan {l m r v t : Nat} : mergeP [] (planD l m r v t) = planD l m r v t := by
  unfold mergeP planD
  simp only [List.foldl_cons, List.foldl_nil]
  rw [putP_new (kvs := []) (by simp), List.nil_append, putP_new (kvs := [(PV.str qLetters, PV.ref l)]) (by simp [qLetters, qMachines])]
  simp only [List.cons_append, List.nil_append]
  rw [putP_new (kvs := [(PV.str qLetters, PV.ref l), (PV.str qMachines, PV.ref m)]) (by simp [qLetters, qMachines, qRows])]
  simp only [List.cons_append, List.nil_append]
  rw [putP_new (kvs := [(PV.str qLetters, PV.ref l), (PV.str qMachines, PV.ref m), (PV.str qRows, PV.ref r)]) (by simp [qLetters, qMachines, qRows, qMoves])]
  simp only [List.cons_append, List.nil_append]
  rw [putP_new (kvs := [(PV.str qLetters, PV.ref l), (PV.str qMachines, PV.ref m), (PV.str qRows, PV.ref r), (PV.str qMoves, PV.ref v)]) (by simp [qLetters, qMachines, qRows, qMoves, qStands])]
  rfl
/-- the new plan -/
theorem disp_plan {σ : PS} {l : Nat} (h6 : ∀ N, fVar 6 σ N = .ok (.ref l) N) :
    fDisp [((fC (.str [108, 101, 116, 116, 101, 114, 115])), (fVar 6)), ((fC (.str [109, 97, 99, 104, 105, 110, 101, 115])), (fLst fNil)), ((fC (.str [114, 111, 119, 115])), (fLst fNil)), ((fC (.str [109, 111, 118, 101, 115])), (fLst fNil)), ((fC (.str [115, 116, 97, 110, 100, 115])), (fLst fNil))] σ M =
      .ok (.ref M.length) (M ++ [.dct (planD l (M.length + 1) (M.length + 2) (M.length + 3) (M.length + 4)), .lst [], .lst [], .lst [], .lst []]) := by
  unfold fDisp
  have e : fPairs [((fC (.str [108, 101, 116, 116, 101, 114, 115])), (fVar 6)), ((fC (.str [109, 97, 99, 104, 105, 110, 101, 115])), (fLst fNil)), ((fC (.str [114, 111, 119, 115])), (fLst fNil)), ((fC (.str [109, 111, 118, 101, 115])), (fLst fNil)), ((fC (.str [115, 116, 97, 110, 100, 115])), (fLst fNil))] σ (M ++ [.dct []]) = .ok (planD l (M.length + 1) (M.length + 2) (M.length + 3) (M.length + 4)) (M ++ [.dct [], .lst [], .lst [], .lst [], .lst []]) := by
    simp [fPairs, h6, lim, planD, qLetters, qMachines, qRows, qMoves, qStands]
  rw [e, bnd_ok]
  have e2 : (M ++ [PO.dct [], .lst [], .lst [], .lst [], .lst []])[M.length]? = some (.dct []) := by simp
  rw [e2]
  simp only
  rw [if_pos ⟨by simp [planD], by simp [planD, keyOf]⟩, merge_plan]
  congr 1
  simp
set_option maxHeartbeats 2000000 in
/-- a machine with its stands -/
theorem plan_m {s nm d l m r v t i : Nat} {ks : List Nat} {ns : List (List Nat)} {p : PD} {N : PM} {st : Nat} {x8 x9 a1 a3 a4 : Option PV} (hM : BagAt M b s) (h : PB M b s N nm d l m r v t ks ns p) (hi : i < ns.length) (l12 : ns.length < 100) (hst : 0 < st ∧ st ≤ 6) (lm : p.machines.length < 100) (lk : ks.length < 100) :
    ∃ N' k x ss, (fSeq (fAsg (fSl pSlL (fCall (F_names c) [] (fCons (fVar 0) (fCons (fC (.int 6)) fNil))) fNoPart (fPart (fOp (pI0 fun i j => .int (i + j)) (fC (.int 1)) (fCall (F_pull c) [] (fCons (fVar 0) (fCons (fVar 2) fNil)))))) (gNm 9))
  (fSeq (fDrop (fBM "list" mAppend (fDGet (fVar 7) (fC (.str [115, 116, 97, 110, 100, 115]))) (fCons (fVar 9) fNil)))
  (fDrop (fBM "list" mAppend (fDGet (fVar 7) (fC (.str [109, 97, 99, 104, 105, 110, 101, 115]))) (fCons (fTup (fCons (fOp pIxL (fVar 5) (fVar 8)) (fCons (fCall (F_of c) [] (fCons (fVar 0) (fCons (fVar 9) fNil))) fNil))) fNil))))) [some (.ref b), a1, some (.int (st : Nat)), a3, a4, some (.ref nm), some (.ref l), some (.ref d), some (.int (i : Nat)), x9] N
      = .nx [some (.ref b), a1, some (.int (st : Nat)), a3, a4, some (.ref nm), some (.ref l), some (.ref d), some (.int (i : Nat)), some (.ref k)] N' ∧
    PB M b s N' nm d l m r v t (ks ++ [k]) ns { p with machines := p.machines ++ [(ns[i], x)], stands := p.stands ++ [ss] } ∧ NameL ss ∧ 0 < ss.length ∧ ss.length ≤ st ∧ x ∈ ss := by
  have hb := hM.ltb
  have hs := hM.lts
  obtain ⟨nn, N1, nl, ln, d1, e1⟩ := F_names_eq (c := c) (n := 6) h.bag (by decide)
  have h1 := (h.dr hb d1).app [.lst (nn.map PV.str)]
  obtain ⟨j, X, e2, j0, j1, dX⟩ := F_pull_eq (c := c) h1.bag (n := (st : Nat)) (by omega) (by omega)
  have h2 := h1.dr hb dX
  obtain ⟨N2, rfl, d2⟩ := dX.app d1.bag.ltb d1.bag.lts
  obtain ⟨q, rfl⟩ := Int.eq_ofNat_of_zero_le j0
  have lN2 : N2.length = N.length := (d1.trans d2).len
  have sl : pSlL (.ref N.length) none (some (1 + (q : Int))) (N2 ++ [.lst (nn.map PV.str)]) = .ok (.ref (N.length + 1)) (N2 ++ [.lst (nn.map PV.str)] ++ [.lst ((nn.take (1 + q)).map PV.str)]) := by
    rw [pSlL_at (xs := nn.map PV.str) (by rw [← lN2]; simp), show (1 + (q : Int)) = ((1 + q : Nat) : Int) by omega, cut_take', ← List.map_take]
    simp [lN2]
  generalize hss : nn.take (1 + q) = ss at sl
  have h3 := h2.app [.lst (ss.map PV.str)]
  have nss : NameL ss := by rw [← hss]; exact nl.take _
  have lss : 0 < ss.length ∧ ss.length ≤ st := by rw [← hss, List.length_take]; omega
  have ek : (N2 ++ [PO.lst (nn.map PV.str)] ++ [PO.lst (ss.map PV.str)])[N.length + 1]? = some (.lst (ss.map PV.str)) := by rw [← lN2]; simp
  have big : ∀ i, plAd d l m r v t ks i → i < N.length := fun i hi => by
    rcases hi with rfl | rfl | rfl | rfl | rfl | rfl | hi
    · exact (List.getElem?_eq_some_iff.mp h.P.d).1
    · exact (List.getElem?_eq_some_iff.mp h.P.l).1
    · exact (List.getElem?_eq_some_iff.mp h.P.m).1
    · exact (List.getElem?_eq_some_iff.mp h.P.r).1
    · exact (List.getElem?_eq_some_iff.mp h.P.v).1
    · exact (List.getElem?_eq_some_iff.mp h.P.t).1
    · obtain ⟨w, lw, ew⟩ := List.getElem_of_mem hi
      have := h.P.ss w _ _ (List.getElem?_eq_getElem lw) (List.getElem?_eq_getElem (by rw [← h.P.lk]; exact lw))
      rw [ew] at this
      exact (List.getElem?_eq_some_iff.mp this).1
  have kM : M.length ≤ N.length := h.kp.l
  have nk : N.length + 1 ≠ m ∧ N.length + 1 ≠ r ∧ N.length + 1 ≠ v ∧ N.length + 1 ≠ t ∧ N.length + 1 ≠ d := by
    have a1 := big m (.inr (.inr (.inl rfl)))
    have a2 := big r (.inr (.inr (.inr (.inl rfl))))
    have a3 := big v (.inr (.inr (.inr (.inr (.inl rfl)))))
    have a4 := big t (.inr (.inr (.inr (.inr (.inr (.inl rfl))))))
    have a5 := big d (.inl rfl)
    omega
  have h4 := h3.setT hb hs ek (by omega) nk
  have ap1 := mAppend_at (y := .ref (N.length + 1)) h3.P.t (by rw [List.length_map]; unfold lim; omega)
  have ty1 := isTy_lst h3.P.t
  have gt1 := pg_t h3.P.d
  generalize hN4 : (N2 ++ [PO.lst (nn.map PV.str)] ++ [PO.lst (ss.map PV.str)]).set t (.lst ((ks.map PV.ref) ++ [.ref (N.length + 1)])) = N4 at h4 ap1
  have ek4 : N4[N.length + 1]? = some (.lst (ss.map PV.str)) := by
    rw [← hN4, List.getElem?_set_ne (Ne.symm nk.2.2.2.1)]
    exact ek
  have ixn : pIxL (.ref nm) (.int (i : Nat)) N4 = .ok (.str ns[i]) N4 := pIxL_at h4.nms (atI_nat (by rw [List.getElem?_map, List.getElem?_eq_getElem hi]; rfl))
  obtain ⟨y, N5, e5, my, d5⟩ := F_of_lst (c := c) h4.bag (show N.length + 1 ≠ b by omega) ek4 (by rw [List.length_map]; exact lss.1) (by rw [List.length_map]; omega)
  obtain ⟨x, hx, rfl⟩ := List.mem_map.mp my
  have h5 := h4.dr hb d5
  have ap2 := mAppend_at (y := pairP (ns[i], x)) h5.P.m (by rw [List.length_map]; show p.machines.length < lim; unfold lim; omega)
  have h6 := h5.setM hb hs (ns[i], x)
  refine ⟨_, N.length + 1, x, ss, ?_, h6, nss, lss.1, lss.2, hx⟩
  have ty4 := isTy_lst h4.P.m
  have gm4 := pg_m h4.P.d
  have e1' : F_names c [.ref b, .int 6] N = .ok (.ref N.length) (N1 ++ [.lst (nn.map PV.str)]) := e1
  simp only [List.append_assoc, List.cons_append, List.nil_append] at ap1 ty1 gt1 sl
  simp [e1', e2, sl, gt1, ty1, ap1, gm4, ty4, ixn, e5, lim]
  have ap2' : mAppend (.ref m) [.tup [.str ns[i], .str x]] N5 = _ := ap2
  rw [ap2']
  simp
end Pu
namespace Pu
open PySem PySem.Spec PyProof.Rows L2 LB
open Classical
variable {c : CA} {M M' M'' : PM} {b : Nat}
theorem gc_no {k : Nat} {N : PM} {o : PO} (lk : M.length ≤ k) (e : N[k]? = some o) (w : ¬ o.wf M.length) : gc M (.ok (.ref k) N) = .ok (.ref k) N := by
  unfold gc
  simp only
  rw [if_neg fun z => by have := z.2; simp at this; omega, e]
  simp only
  rw [if_neg fun z => w z.2.1]
theorem for_then {α : Type} (Q : SR → Prop) {k : FS} {ok : PM → Prop} {g : FG} {b : FS} {e : α → PV} {M : PM} {zs : List α} {σ : PS} (I : Nat → PS → PM → Prop) (h0 : I 0 σ M) (hok : ∀ i σ M, i ≤ zs.length → I i σ M → ok M)
    (hs : ∀ i z σ M, zs[i]? = some z → I i σ M → ∃ σ1, g (e z) σ = some σ1 ∧ ∃ σ2 M2, (b σ1 M = .nx σ2 M2 ∨ b σ1 M = .ct σ2 M2) ∧ I (i + 1) σ2 M2) (h1 : ∀ σ' M', I zs.length σ' M' → Q (k σ' M')) : Q (then2 k (forP ok g b (zs.map e) σ M)) :=
  for_word (fun r => Q (then2 k r)) I h0 hok hs h1
theorem take_snoc {α : Type} {l : List α} {i : Nat} (h : i < l.length) : l.take i ++ [l[i]] = l.take (i + 1) := by
  rw [List.take_add_one, List.getElem?_eq_getElem h]
  rfl
theorem isNm_asc {x : List Nat} (h : isNm x) : asc x := fun y hy => by have := h.2.2 y hy; omega
/-- the end of a plan's making -/
structure PlanE (M : PM) (b s : Nat) (N : PM) (d l m r v t : Nat) (ks : List Nat) (p : PD) (ma st ro mo : Nat) : Prop where
  bag : BagAt N b s
  kp : Kp (· = b) M N
  P : PlanAt N d l m r v t ks p
  new : ∀ i, plAd d l m r v t ks i → M.length ≤ i
  ok : PlanOk p ma st ro mo
structure P1 (cs : List Nat) (ns : List (List Nat)) (st i : Nat) (p : PD) : Prop where
  l : p.letters = cs
  r : p.rows = []
  v : p.moves = []
  lm : p.machines.length = i
  ls : p.stands.length = i
  nm : p.machines.map (·.1) = ns.take i
  ms : ∀ (j : Nat) (x : List Nat × List Nat) (ss : List (List Nat)), p.machines[j]? = some x → p.stands[j]? = some ss → x.2 ∈ ss
  ss : ∀ s ∈ p.stands, NameL s ∧ 0 < s.length ∧ s.length ≤ st
theorem P1.step {cs : List Nat} {ns : List (List Nat)} {st i : Nat} {p : PD} (h : P1 cs ns st i p) (hi : i < ns.length) {x : List Nat} {ss : List (List Nat)} (n : NameL ss) (l0 : 0 < ss.length) (l1 : ss.length ≤ st) (hx : x ∈ ss) :
    P1 cs ns st (i + 1) { p with machines := p.machines ++ [(ns[i], x)], stands := p.stands ++ [ss] } := by
  refine ⟨h.l, h.r, h.v, by simp [h.lm], by simp [h.ls], by simp [h.nm, take_snoc hi], fun j y zs h1 h2 => ?_, fun s hs => ?_⟩
  · rcases Nat.lt_or_ge j i with a | a
    · rw [List.getElem?_append_left (by rw [h.lm]; exact a)] at h1
      rw [List.getElem?_append_left (by rw [h.ls]; exact a)] at h2
      exact h.ms j y zs h1 h2
    · have lj := (List.getElem?_eq_some_iff.mp h1).1
      rw [List.length_append, List.length_singleton, h.lm] at lj
      have : j = i := by omega
      subst this
      rw [List.getElem?_append_right (by rw [h.lm]; exact Nat.le_refl _), h.lm, Nat.sub_self] at h1
      rw [List.getElem?_append_right (by rw [h.ls]; exact Nat.le_refl _), h.ls, Nat.sub_self] at h2
      cases h1
      cases h2
      exact hx
  · rcases List.mem_append.mp hs with hs | hs
    · exact h.ss s hs
    · rw [List.mem_singleton.mp hs]
      exact ⟨n, l0, l1⟩
theorem pSlL_take {k n : Nat} {zs : List Nat} {N : PM} (e : N[k]? = some (.lst (zs.map fun x => PV.str [x]))) : pSlL (.ref k) none (some (1 + (n : Int))) N = .ok (.ref N.length) (N ++ [.lst ((zs.take (1 + n)).map fun x => PV.str [x])]) := by
  rw [pSlL_at e, show (1 + (n : Int)) = ((1 + n : Nat) : Int) by omega, cut_take', ← List.map_take]
set_option maxHeartbeats 4000000 in
theorem F_plan_eq {s ma st ro mo : Nat} (h : BagAt M b s) (hma : ma ≤ 5) (hst : 0 < st ∧ st ≤ 6) (hro : ro ≤ 7) (hmo : mo < 100) :
    ∃ N d l m r v t ks p, F_plan c [.ref b, .int (ma : Nat), .int (st : Nat), .int (ro : Nat), .int (mo : Nat)] M = .ok (.ref d) N ∧ PlanE M b s N d l m r v t ks p ma st ro mo := by
  have hb := h.ltb
  have hs := h.lts
  obtain ⟨ns, N1, nl, ln, d1, e1⟩ := F_names_eq (c := c) (n := 12) h (by decide)
  have e1' : F_names c [.ref b, .int 12] M = _ := e1
  have b1 : BagAt (N1 ++ [.lst (ns.map PV.str)]) b s := d1.bag.app
  obtain ⟨f, y, X, hy, dX, e2⟩ := F_letters_eq (c := c) b1
  obtain ⟨N2, rfl, d2⟩ := dX.app d1.bag.ltb d1.bag.lts
  generalize hcs0 : (List.range 3).map (lett f y) = cs0 at e2
  have lcs0 : cs0.length = 3 := by rw [← hcs0]; simp
  have b2 : BagAt (N2 ++ [.lst (ns.map PV.str)] ++ [.lst (cs0.map fun d => .str [d])]) b s := (d2.bag.app).app
  obtain ⟨q0, X, e3, q0', q1, dX⟩ := F_pull_eq (c := c) b2 (n := 3) (by decide) (by decide)
  obtain ⟨q, rfl⟩ := Int.eq_ofNat_of_zero_le q0'
  obtain ⟨X', rfl, dX'⟩ := dX.app (d2.bag.app).ltb (d2.bag.app).lts
  obtain ⟨N3, rfl, d3⟩ := dX'.app d2.bag.ltb d2.bag.lts
  have d13 := (d1.trans d2).trans d3
  have l3 : N3.length = M.length := d13.len
  have l12 : N1.length = M.length := d1.len
  have sl : pSlL (.ref (M.length + 1)) none (some (1 + (q : Int))) (N3 ++ [.lst (ns.map PV.str)] ++ [.lst (cs0.map fun d => .str [d])]) = .ok (.ref (M.length + 2)) (N3 ++ [.lst (ns.map PV.str)] ++ [.lst (cs0.map fun d => .str [d])] ++ [.lst ((cs0.take (1 + q)).map fun x => .str [x])]) := by
    rw [pSlL_take (zs := cs0) (by rw [← l3]; simp)]
    simp [l3]
  have hcs : ∀ x ∈ cs0.take (1 + q), 97 ≤ x ∧ x < 123 := fun x hx => by
    have := List.mem_of_mem_take hx
    rw [← hcs0] at this
    obtain ⟨k, _, rfl⟩ := List.mem_map.mp this
    exact lett_bd f y k
  have ndcs : (cs0.take (1 + q)).Nodup := by
    refine List.Nodup.sublist (List.take_sublist _ _) ?_
    rw [← hcs0]
    exact List.pairwise_map.mpr ((List.nodup_range (n := 3)).imp_of_mem fun {i j} hi hj ne h => ne (lett_inj hy (by have := List.mem_range.mp hi; omega) (by have := List.mem_range.mp hj; omega) h))
  have lcs : 0 < (cs0.take (1 + q)).length ∧ (cs0.take (1 + q)).length ≤ 3 := by rw [List.length_take, lcs0]; omega
  generalize cs0.take (1 + q) = cs at sl hcs lcs ndcs
  generalize hA : N3 ++ [.lst (ns.map PV.str)] ++ [.lst (cs0.map fun d => .str [d])] ++ [PO.lst (cs.map fun x => .str [x])] = A at sl
  have lA : A.length = M.length + 3 := by rw [← hA]; simp [l3]
  have gA : ∀ i, i < M.length → i ≠ b → A[i]? = M[i]? := fun i hi n => by
    rw [← hA, List.append_assoc, List.append_assoc, List.getElem?_append_left (by omega)]
    exact d13.get n
  have bA : BagAt A b s := by
    rw [← hA]
    exact ((d3.bag.app).app).app
  have gn : A[M.length]? = some (.lst (ns.map PV.str)) := by rw [← hA, ← l3]; simp
  have gl : A[M.length + 2]? = some (.lst (cs.map fun x => .str [x])) := by rw [← hA, ← l3]; simp
  -- the dict
  have disp := disp_plan (M := A) (l := M.length + 2) (σ := [some (.ref b), some (.int (ma : Nat)), some (.int (st : Nat)), some (.int (ro : Nat)), some (.int (mo : Nat)), some (.ref M.length), some (.ref (M.length + 2)), none, none, none]) (fun N => by simp)
  rw [lA] at disp
  generalize hB : A ++ [PO.dct (planD (M.length + 2) (M.length + 3 + 1) (M.length + 3 + 2) (M.length + 3 + 3) (M.length + 3 + 4)), .lst [], .lst [], .lst [], .lst []] = B at disp
  have PB0 : PB M b s B M.length (M.length + 3) (M.length + 2) (M.length + 4) (M.length + 5) (M.length + 6) (M.length + 7) [] ns ⟨cs, [], [], [], []⟩ := by
    have gB : ∀ i, i < A.length → B[i]? = A[i]? := fun i hi => by rw [← hB]; exact List.getElem?_append_left hi
    have gX : ∀ j, B[M.length + 3 + j]? = [PO.dct (planD (M.length + 2) (M.length + 3 + 1) (M.length + 3 + 2) (M.length + 3 + 3) (M.length + 3 + 4)), .lst [], .lst [], .lst [], .lst []][j]? := fun j => by
      rw [← hB, List.getElem?_append_right (by omega), lA]
      congr 1
      omega
    refine ⟨by rw [← hB]; exact bA.app, ⟨by rw [← hB]; simp; omega, fun i hi n => (gB i (by omega)).trans (gA i hi n)⟩, ⟨gX 0, (gB _ (by omega)).trans gl, gX 1, gX 2, gX 3, gX 4, rfl, fun i k ss h1 => by simp at h1⟩, (gB _ (by omega)).trans gn, fun i hi => ?_, Nat.le_refl _, by omega, fun k hk => by cases hk⟩
    unfold plAd at hi
    simp only [List.not_mem_nil, or_false] at hi
    omega
  -- the run
  have run : ∃ N ks p, B_plan c [some (.ref b), some (.int (ma : Nat)), some (.int (st : Nat)), some (.int (ro : Nat)), some (.int (mo : Nat)), none, none, none, none, none] M = .rt (.ref (M.length + 3)) N ∧ PB M b s N M.length (M.length + 3) (M.length + 2) (M.length + 4) (M.length + 5) (M.length + 6) (M.length + 7) ks ns p ∧ PlanOk p ma st ro mo := by
    unfold B_plan
    simp only [ev_fSeq, ev_fAsg, ev_fCall, ev_fCons, ev_fVar0, ev_fVarS, ev_fC, ev_fNil, bnd_ok, List.append_nil, e1', go_ok, ev_gNm, toSt_some, then2_nx, List.set_cons_succ, List.set_cons_zero]
    have e2' : F_letters c [.ref b] (N1 ++ [.lst (ns.map PV.str)]) = .ok (.ref (M.length + 1)) (N2 ++ [.lst (ns.map PV.str)] ++ [.lst (cs0.map fun d => .str [d])]) := by
      rw [e2]
      simp [l12]
    simp only [ev_fSl, ev_fCall, ev_fCons, ev_fVar0, ev_fVarS, ev_fC, ev_fNil, bnd_ok, List.append_nil, e2', ev_fNoPart, ev_fPart, ev_fOp, e3, pI0_int, asI_int, sl, go_ok, ev_gNm, toSt_some, then2_nx, List.set_cons_succ, List.set_cons_zero]
    rw [ev_fSeq, ev_fAsg, disp]
    simp only [ev_fSeq, ev_fIA, go_ok, ev_gNm, toSt_some, then2_nx, List.set_cons_succ, List.set_cons_zero, ev_fFor, ev_fCons, ev_fVar0, ev_fVarS, ev_fNil, bnd_ok, itR1_nat (M := B) (show ma < 1000000 by omega)]
    refine for_then (fun r => ∃ N ks p, r = .rt (.ref (M.length + 3)) N ∧ PB M b s N M.length (M.length + 3) (M.length + 2) (M.length + 4) (M.length + 5) (M.length + 6) (M.length + 7) ks ns p ∧ PlanOk p ma st ro mo)
      (fun i σ N => ∃ x8 x9 ks p, σ = [some (.ref b), some (.int (ma : Nat)), some (.int (st : Nat)), some (.int (ro : Nat)), some (.int (mo : Nat)), some (.ref M.length), some (.ref (M.length + 2)), some (.ref (M.length + 3)), x8, x9] ∧ PB M b s N M.length (M.length + 3) (M.length + 2) (M.length + 4) (M.length + 5) (M.length + 6) (M.length + 7) ks ns p ∧ P1 cs ns st i p)
      ⟨none, none, [], _, rfl, PB0, rfl, rfl, rfl, rfl, rfl, rfl, fun j x ss h1 => by simp at h1, fun s hs => by cases hs⟩ (fun _ _ _ _ _ => trivial) (fun i z σ N hz hI => ?_) (fun σ N hI => ?_)
    · obtain ⟨x8, x9, ks, p, rfl, hP, h1⟩ := hI
      have li := (List.getElem?_eq_some_iff.mp hz).1
      rw [List.length_range] at li
      rw [List.getElem?_range li] at hz
      cases hz
      obtain ⟨N', k, x, ss, er, hP', n1, n2, n3, hx⟩ := plan_m (c := c) (i := i) (x8 := x8) (x9 := x9) (a1 := some (.int (ma : Nat))) (a3 := some (.int (ro : Nat))) (a4 := some (.int (mo : Nat))) h hP (by omega) (by omega) hst (by rw [h1.lm]; omega) (by rw [hP.P.lk, h1.ls]; omega)
      exact ⟨_, rfl, _, _, .inl er, _, _, _, _, rfl, hP', h1.step (by omega) n1 n2 n3 hx⟩
    · obtain ⟨x8, x9, ks, p1, rfl, hP1, h1⟩ := hI
      rw [List.length_range] at h1
      simp only [then2_nx, ev_fSeq, ev_fIA, ev_fFor, ev_fCons, ev_fVar0, ev_fVarS, ev_fNil, bnd_ok, go_ok, itR1_nat (M := N) (show ro < 1000000 by omega)]
      refine for_then (fun r => ∃ N ks p, r = .rt (.ref (M.length + 3)) N ∧ PB M b s N M.length (M.length + 3) (M.length + 2) (M.length + 4) (M.length + 5) (M.length + 6) (M.length + 7) ks ns p ∧ PlanOk p ma st ro mo)
        (fun i σ N => ∃ x8 rs, σ = [some (.ref b), some (.int (ma : Nat)), some (.int (st : Nat)), some (.int (ro : Nat)), some (.int (mo : Nat)), some (.ref M.length), some (.ref (M.length + 2)), some (.ref (M.length + 3)), x8, x9] ∧ PB M b s N M.length (M.length + 3) (M.length + 2) (M.length + 4) (M.length + 5) (M.length + 6) (M.length + 7) ks ns { p1 with rows := rs } ∧ rs.length = i ∧ rs.map (·.1) = (ns.drop 5).take i ∧ ∀ x ∈ rs, x.2.length ≤ 2 ∧ ∀ y ∈ x.2, y ∈ cs)
        ⟨x8, [], rfl, by have := h1.r; cases p1; cases this; exact hP1, rfl, rfl, fun x hx => by cases hx⟩ (fun _ _ _ _ _ => trivial) (fun i z σ N hz hI => ?_) (fun σ N hI => ?_)
      · obtain ⟨x8, rs, rfl, hP, lrs, nrs, wrs⟩ := hI
        have li := (List.getElem?_eq_some_iff.mp hz).1
        rw [List.length_range] at li
        rw [List.getElem?_range li] at hz
        cases hz
        have eL := hP.P.l
        have hl : p1.letters = cs := h1.l
        simp only [hl] at eL
        have i5 : 5 + i < ns.length := by omega
        have ixn : pIxL (.ref M.length) (.int (5 + (i : Int))) N = .ok (.str ns[5 + i]) N := by
          rw [show (5 + (i : Int)) = ((5 + i : Nat) : Int) by omega]
          exact pIxL_at hP.nms (atI_nat (by rw [List.getElem?_map, List.getElem?_eq_getElem i5]; rfl))
        obtain ⟨w, N', ew, lw, mw, dw⟩ := F_word_eq (c := c) (k := M.length + 2) (t := 2) hP.bag (by omega) eL (by omega) (by omega) (by decide)
        have ew' : F_word c [.ref b, .ref (M.length + 2), .int 2] N = _ := ew
        have hP' := hP.dr hb dw
        have ap := mAppend_at (y := pairP (ns[5 + i], w)) hP'.P.r (by rw [List.length_map]; show rs.length < lim; unfold lim; omega)
        have hP'' := hP'.setR hb hs (ns[5 + i], w)
        refine ⟨_, rfl, _, _, .inl ?_, some (.int (i : Nat)), rs ++ [(ns[5 + i], w)], rfl, hP'', by simp [lrs], ?_, fun x hx => ?_⟩
        · have ap' : mAppend (.ref (M.length + 5)) [.tup [.str ns[5 + i], .str w]] N' = _ := ap
          simp [pg_r hP.P.d, isTy_lst hP.P.r, ixn, ew', lim]
          rw [ap']
          simp
        · rw [List.map_append, nrs]
          have : (ns.drop 5)[i]'(by rw [List.length_drop]; omega) = ns[5 + i] := by rw [List.getElem_drop]
          rw [List.map_cons, List.map_nil, ← this, take_snoc]
        · rcases List.mem_append.mp hx with hx | hx
          · exact wrs x hx
          · rw [List.mem_singleton.mp hx]
            exact ⟨lw, mw⟩
      · obtain ⟨x8, rs, rfl, hP2, lrs, nrs, wrs⟩ := hI
        rw [List.length_range] at lrs nrs
        have hl : p1.letters = cs := h1.l
        have rok : ∀ x ∈ rs, asc x.1 ∧ asc x.2 := fun x hx => by
          refine ⟨isNm_asc (nl.ok _ ?_), fun z hz => ?_⟩
          · have : x.1 ∈ rs.map (·.1) := List.mem_map_of_mem hx
            rw [nrs] at this
            exact List.mem_of_mem_drop (List.mem_of_mem_take this)
          · have := hcs z ((wrs x hx).2 z hz)
            omega
        have count : (pI CMul fun i j => PV.int (i * j)) (.int (mo : Nat)) (.int (if (0 : Int) < (ma : Nat) then 1 else 0)) N = .ok (.int ((if 0 < ma then mo else 0 : Nat) : Int)) N := by
          rw [pI_mulc (by split <;> decide)]
          by_cases z : 0 < ma
          · have : (0 : Int) < (ma : Nat) := by omega
            simp [z, this]
          · have : ¬ (0 : Int) < (ma : Nat) := by omega
            simp [z, this]
        have bi : bInt [.bl (decide ((0 : Int) < (ma : Nat)))] N = .ok (.int (if (0 : Int) < (ma : Nat) then 1 else 0)) N := by
          unfold bInt
          by_cases z : (0 : Int) < (ma : Nat) <;> simp [z]
        simp only [then2_nx, ev_fSeq, ev_fIA, ev_fFor, ev_fB, ev_fOp, ev_fC, ev_fCons, ev_fVar0, ev_fVarS, ev_fNil, bnd_ok, go_ok, pI0_int, bi, count, itR1_nat (M := N) (n := if 0 < ma then mo else 0) (by split <;> omega)]
        refine for_then (fun r => ∃ N ks p, r = .rt (.ref (M.length + 3)) N ∧ PB M b s N M.length (M.length + 3) (M.length + 2) (M.length + 4) (M.length + 5) (M.length + 6) (M.length + 7) ks ns p ∧ PlanOk p ma st ro mo)
          (fun i σ N => ∃ x8 mv, σ = [some (.ref b), some (.int (ma : Nat)), some (.int (st : Nat)), some (.int (ro : Nat)), some (.int (mo : Nat)), some (.ref M.length), some (.ref (M.length + 2)), some (.ref (M.length + 3)), x8, x9] ∧ PB M b s N M.length (M.length + 3) (M.length + 2) (M.length + 4) (M.length + 5) (M.length + 6) (M.length + 7) ks ns { p1 with rows := rs, moves := mv } ∧ mv.length = i ∧ ∀ x ∈ mv, MvOk { p1 with rows := rs } x)
          ⟨x8, [], rfl, by have := h1.v; cases p1; cases this; exact hP2, rfl, fun x hx => by cases hx⟩ (fun _ _ _ _ _ => trivial) (fun i z σ N hz hI => ?_) (fun σ N hI => ?_)
        · obtain ⟨x8, mv, rfl, hP, lmv, okm⟩ := hI
          have li := (List.getElem?_eq_some_iff.mp hz).1
          rw [List.length_range] at li
          have ma0 : 0 < ma := by
            by_cases z : 0 < ma
            · exact z
            · rw [if_neg z] at li; omega
          rw [if_pos ma0] at li
          obtain ⟨x, N', ex, dx, okx⟩ := F_move_eq (c := c) hP.bag hP.P (hP.nb hb) rok (show rs.length < 100 by omega) (by show 0 < p1.letters.length ∧ p1.letters.length ≤ 3; rw [hl]; exact lcs) (by show 0 < p1.machines.length ∧ p1.machines.length < 100; rw [h1.lm]; omega) (by show p1.stands.length = p1.machines.length; rw [h1.lm, h1.ls]) (fun ss hss => by have := h1.ss ss hss; omega)
          have hP' := hP.dr hb dx
          have ap := mAppend_at (y := mvP x) hP'.P.v (by rw [List.length_map]; show mv.length < lim; unfold lim; omega)
          have hP'' := hP'.setV hb hs x
          refine ⟨_, rfl, _, _, .inl ?_, some (.int (z : Nat)), mv ++ [x], rfl, hP'', by simp [lmv], fun y hy => ?_⟩
          · simp [pg_v hP.P.d, isTy_lst hP.P.v, ex]
            rw [ap]
            simp
          · rcases List.mem_append.mp hy with hy | hy
            · exact okm y hy
            · rw [List.mem_singleton.mp hy]
              obtain ⟨j, m', ss, a1, a2, a3, a4, a5, a6⟩ := okx
              exact ⟨j, m', ss, a1, a2, a3, a4, ActOk.of (by rfl) (by rfl) a5, a6⟩
        · obtain ⟨x8, mv, rfl, hP, lmv, okm⟩ := hI
          rw [List.length_range] at lmv
          refine ⟨N, ks, _, by simp, hP, h1.lm, h1.ls, lrs, lmv, by show 0 < p1.letters.length ∧ p1.letters.length ≤ 3; rw [hl]; exact lcs, by show ∀ x ∈ p1.letters, _; rw [hl]; exact hcs, by show p1.letters.Nodup; rw [hl]; exact ndcs, ⟨ns, nl, ln, h1.nm, nrs⟩, h1.ms, h1.ss, fun x hx => ?_, fun x hx => ?_⟩
          · refine ⟨(wrs x hx).1, fun y hy => ?_⟩
            show y ∈ p1.letters
            rw [hl]
            exact (wrs x hx).2 y hy
          · obtain ⟨j, m', ss, a1, a2, a3, a4, a5, a6⟩ := okm x hx
            exact ⟨j, m', ss, a1, a2, a3, a4, ActOk.of (by rfl) (by rfl) a5, a6⟩
  obtain ⟨N, ks, p, er, hP, ok⟩ := run
  refine ⟨N, _, _, _, _, _, _, ks, p, ?_, hP.bag, hP.kp, hP.P, hP.new, ok⟩
  rw [R_plan, er, fnRes_rt]
  refine gc_no (by omega) hP.P.d fun w => ?_
  have := (w (.str qLetters, .ref (M.length + 2)) (by simp [planD])).2
  simp at this
  omega
end Pu
namespace Pu
open PySem PySem.Spec PyProof.Rows L2 LB
open Classical
variable {c : CA} {M M' M'' : PM} {b : Nat}
/-! ### a lab with many moves -/
/-! ### dicts of names -/
def asBo (g : Bool → Bool) (M : PM) (o : Option (Option PV)) : Res PV := match o with
  | some o => .ok (.bl (g o.isSome)) M
  | none => .bad
@[simp] theorem asBo_some (g : Bool → Bool) (M : PM) (o : Option PV) : asBo g M (some o) = .ok (.bl (g o.isSome)) M := id rfl
@[simp] theorem ev_fDIn (fd fk : FE) (σ : PS) (M : PM) : fDIn fk fd σ M = (fk σ M).bnd fun k M1 => (fd σ M1).bnd fun d M2 => asBo (fun z => z) M2 (dgetP M2 d k) := id rfl
@[simp] theorem ev_fDNotIn (fd fk : FE) (σ : PS) (M : PM) : fDNotIn fk fd σ M = (fk σ M).bnd fun k M1 => (fd σ M1).bnd fun d M2 => asBo (fun z => !z) M2 (dgetP M2 d k) := id rfl
@[simp] theorem ev_fDPut (fd fk fv : FE) (σ : PS) (M : PM) : fDPut fd fk fv σ M = (fv σ M).go fun v M1 => (fd σ M1).go fun d M2 => (fk σ M2).go fun k M3 => toM σ (dputP M3 d k v) := id rfl
theorem kfind_map {α : Type} (k : α → List Nat) (v : α → PV) (n : List Nat) : ∀ xs : List α, kfind (xs.map fun x => (.str (k x), v x)) (.str n) = (xs.find? fun x => decide (k x = n)).map v
  | [] => rfl
  | x :: r => by
    rw [List.map_cons]
    by_cases e : k x = n
    · rw [e, kfind_pos, List.find?_cons_of_pos (by simpa using e)]
      rfl
    · rw [kfind_neg (sne e), List.find?_cons_of_neg (by simpa using e)]
      exact kfind_map k v n r
theorem dget_at {d : Nat} {kvs : List (PV × PV)} {n : List Nat} (e : M[d]? = some (.dct kvs)) : dgetP M (.ref d) (.str n) = some (kfind kvs (.str n)) := by
  unfold dgetP
  simp only [e]
  rw [if_pos (by rfl)]
theorem dput_at {d : Nat} {kvs : List (PV × PV)} {n : List Nat} {v : PV} (e : M[d]? = some (.dct kvs)) (l : kvs.length < lim) (h : ∀ p ∈ kvs, p.1 ≠ .str n) : dputP M (.ref d) (.str n) v = some (M.set d (.dct (kvs ++ [(.str n, v)]))) := by
  unfold dputP
  simp only [e]
  rw [if_pos ⟨by rfl, l⟩, putP_new h]
theorem isNam_of {x : List Nat} (h : isNm x) : isNam x = true := by
  unfold isNam
  rw [Bool.and_eq_true, decide_eq_true_iff, List.all_eq_true]
  exact ⟨⟨h.1, h.2.1⟩, fun y hy => by unfold low; exact decide_eq_true (h.2.2 y hy)⟩
theorem nm_lim {x : List Nat} (h : isNm x) : x.length < lim := by have := h.2.1; unfold lim; omega
theorem set_last {N : PM} {o o' : PO} : (N ++ [o]).set N.length o' = N ++ [o'] := by simp
/-- names seen so far -/
def seenD (ps : List (List Nat × List Nat)) : List (PV × PV) := ps.map fun x => (PV.str x.1, PV.bl true)
theorem seen_no {ps : List (List Nat × List Nat)} {i : Nat} (nd : (ps.map (·.1)).Nodup) (hi : i < ps.length) : ∀ x ∈ ps.take i, x.1 ≠ ps[i].1 := fun x hx e => by
  obtain ⟨j, hj, rfl⟩ := List.mem_iff_getElem.mp hx
  rw [List.length_take] at hj
  rw [List.getElem_take] at e
  have := List.pairwise_iff_getElem.mp nd j i (by rw [List.length_map]; omega) (by rw [List.length_map]; exact hi) (by omega)
  rw [List.getElem_map, List.getElem_map] at this
  exact this e
theorem seen_find {ps : List (List Nat × List Nat)} {i : Nat} (nd : (ps.map (·.1)).Nodup) (hi : i < ps.length) : kfind (seenD (ps.take i)) (.str ps[i].1) = none := by
  rw [seenD, kfind_map (fun x : List Nat × List Nat => x.1) (fun _ => PV.bl true), List.find?_eq_none.mpr fun x hx => by simpa using seen_no nd hi x hx]
  rfl
theorem seen_step {ps : List (List Nat × List Nat)} {i : Nat} (l : ps.length < lim) (nd : (ps.map (·.1)).Nodup) (hi : i < ps.length) : dgetP (M ++ [.dct (seenD (ps.take i))]) (.ref M.length) (.str ps[i].1) = some none ∧ dputP (M ++ [.dct (seenD (ps.take i))]) (.ref M.length) (.str ps[i].1) (.bl true) = some (M ++ [.dct (seenD (ps.take (i + 1)))]) := by
  have g : (M ++ [PO.dct (seenD (ps.take i))])[M.length]? = some (.dct (seenD (ps.take i))) := by simp
  refine ⟨by rw [dget_at g, seen_find nd hi], ?_⟩
  rw [dput_at g (by rw [seenD, List.length_map, List.length_take]; omega) fun p hp => by
    obtain ⟨x, hx, rfl⟩ := List.mem_map.mp hp
    exact sne (seen_no nd hi x hx), set_last, ← take_snoc hi, seenD, seenD, List.map_append]
  rfl
theorem F_check_machines_eq {ps : List (List Nat × List Nat)} (l : ps.length < lim) (nd : (ps.map (·.1)).Nodup) (ok : ∀ x ∈ ps, isNm x.1 ∧ isNm x.2) : F_p_check_machines c [.tup (ps.map pairP)] M = .ok .non M := by
  rw [R_p_check_machines]
  unfold B_p_check_machines
  simp only [ev_fSeq, ev_fAsg, ev_fDNewK, go_ok, ev_gNm, toSt_some, then2_nx, List.set_cons_succ, List.set_cons_zero, ev_fFor, ev_fI, ev_fVar0, bnd_ok, itT_tup]
  refine for_word (fun r => gc M (fnRes r) = .ok .non M) (fun i σ N => ∃ x2 x3, σ = [some (.tup (ps.map pairP)), some (.ref M.length), x2, x3] ∧ N = M ++ [.dct (seenD (ps.take i))]) ⟨_, _, rfl, rfl⟩ (fun _ _ _ _ _ => trivial) (fun i z σ N hz hI => ?_) (fun σ N hI => ?_)
  · obtain ⟨x2, x3, rfl, rfl⟩ := hI
    obtain ⟨hi, rfl⟩ := List.getElem?_eq_some_iff.mp hz
    have o := ok _ (List.getElem_mem hi)
    refine ⟨_, rfl, _, _, .inl ?_, some (.str ps[i].1), some (.str ps[i].2), rfl, rfl⟩
    have st := seen_step (M := M) l nd hi
    generalize M ++ [PO.dct (seenD (ps.take i))] = N at st
    simp [F_is_name_eq (nm_lim o.1), F_is_name_eq (nm_lim o.2), isNam_of o.1, isNam_of o.2, st.1, st.2]
  · obtain ⟨x2, x3, rfl, rfl⟩ := hI
    exact gc_flat (by trivial)
theorem F_check_rows_eq {ps : List (List Nat × List Nat)} (l : ps.length < lim) (nd : (ps.map (·.1)).Nodup) (ok : ∀ x ∈ ps, isNm x.1 ∧ x.2.length ≤ 8 ∧ ∀ y ∈ x.2, 97 ≤ y ∧ y < 123) : F_p_check_rows c [.tup (ps.map pairP)] M = .ok .non M := by
  rw [R_p_check_rows]
  unfold B_p_check_rows
  simp only [ev_fSeq, ev_fAsg, ev_fDNewK, go_ok, ev_gNm, toSt_some, then2_nx, List.set_cons_succ, List.set_cons_zero, ev_fFor, ev_fI, ev_fVar0, bnd_ok, itT_tup]
  refine for_word (fun r => gc M (fnRes r) = .ok .non M) (fun i σ N => ∃ x2 x3, σ = [some (.tup (ps.map pairP)), some (.ref M.length), x2, x3] ∧ N = M ++ [.dct (seenD (ps.take i))]) ⟨_, _, rfl, rfl⟩ (fun _ _ _ _ _ => trivial) (fun i z σ N hz hI => ?_) (fun σ N hI => ?_)
  · obtain ⟨x2, x3, rfl, rfl⟩ := hI
    obtain ⟨hi, rfl⟩ := List.getElem?_eq_some_iff.mp hz
    have o := ok _ (List.getElem_mem hi)
    refine ⟨_, rfl, _, _, .inl ?_, some (.str ps[i].1), some (.str ps[i].2), rfl, rfl⟩
    have st := seen_step (M := M) l nd hi
    generalize M ++ [PO.dct (seenD (ps.take i))] = N at st
    have sh : F_p_is_short_word c [.str ps[i].2] N = .ok (.bl true) N := by
      rw [F_is_short_eq (by unfold lim; omega), decide_eq_true o.2.1, List.all_eq_true.mpr fun y hy => by unfold low; exact decide_eq_true (o.2.2 y hy)]
      rfl
    simp [F_is_name_eq (nm_lim o.1), isNam_of o.1, sh, st.1, st.2]
  · obtain ⟨x2, x3, rfl, rfl⟩ := hI
    exact gc_flat (by trivial)
/-! ### acts and moves -/
/-- a dict has a name -/
def HasN (M : PM) (d : Nat) (n : List Nat) : Prop := ∃ x, dgetP M (.ref d) (.str n) = some (some x)
inductive ActP (has : List Nat → Prop) : List (List Nat) → Prop where
  | idle : ActP has [wIdle]
  | bare {r : List Nat} (h : has r) : ActP has [wBare, r]
  | send {r : List Nat} {x : Nat} (h : has r) (hx : 97 ≤ x ∧ x < 123) : ActP has [wSend, r, [x]]
  | take {r : List Nat} {x : Nat} (h : has r) (hx : 97 ≤ x ∧ x < 123) : ActP has [wTake, r, [x]]
theorem ixT0 {x : PV} {r : List PV} : pIxT (.tup (x :: r)) (.int 0) M = .ok x M := pIxT_at (atI_nat (xs := x :: r) (j := 0) rfl)
theorem ixT1 {x y : PV} {r : List PV} : pIxT (.tup (x :: y :: r)) (.int 1) M = .ok y M := pIxT_at (atI_nat (xs := x :: y :: r) (j := 1) rfl)
theorem ixT2 {x y z : PV} {r : List PV} : pIxT (.tup (x :: y :: z :: r)) (.int 2) M = .ok z M := pIxT_at (atI_nat (xs := x :: y :: z :: r) (j := 2) rfl)
abbrev actS : List (List Nat × Int) := [([115, 101, 110, 100], 3), ([116, 97, 107, 101], 3), ([98, 97, 114, 101], 2), ([105, 100, 108, 101], 1)]
theorem lk1 : List.lookup [105, 100, 108, 101] actS = some 1 := by rfl
theorem lk2 : List.lookup [98, 97, 114, 101] actS = some 2 := by rfl
theorem lk3 : List.lookup [115, 101, 110, 100] actS = some 3 := by rfl
theorem lk4 : List.lookup [116, 97, 107, 101] actS = some 3 := by rfl
theorem let1 {x : Nat} (h : 97 ≤ x ∧ x < 123) : F_p_is_letter c [.str [x]] M = .ok (.bl true) M := by
  rw [F_is_letter_eq (by simp [lim])]
  simp [low, h]
theorem F_check_act_eq {d : Nat} {a : List (List Nat)} (h : ActP (HasN M d) a) : F_p_check_act c [tS a, .ref d] M = .ok .non M := by
  rw [R_p_check_act]
  unfold B_p_check_act
  cases h with
  | idle => simp [tS, wIdle, fKGet, ixT0, ixT1, ixT2, lk1, lk2, lk3, lk4]
  | bare h =>
    obtain ⟨x, e⟩ := h
    simp [tS, wBare, fKGet, ixT0, ixT1, ixT2, lk1, lk2, lk3, lk4, e]
  | send h hx =>
    obtain ⟨x, e⟩ := h
    simp [tS, wSend, fKGet, ixT0, ixT1, ixT2, lk1, lk2, lk3, lk4, e, let1 hx]
  | take h hx =>
    obtain ⟨x, e⟩ := h
    simp [tS, wTake, fKGet, ixT0, ixT1, ixT2, lk1, lk2, lk3, lk4, e, let1 hx]
theorem F_check_moves_eq {d1 d2 : Nat} {ms : List (List Nat × List Nat × List (List Nat) × List Nat)} (ok : ∀ x ∈ ms, HasN M d1 x.1 ∧ isNm x.2.1 ∧ ActP (HasN M d2) x.2.2.1 ∧ isNm x.2.2.2) : F_p_check_moves c [.tup (ms.map mvP), .ref d1, .ref d2] M = .ok .non M := by
  rw [R_p_check_moves]
  unfold B_p_check_moves
  simp only [ev_fFor, ev_fI, ev_fVar0, bnd_ok, go_ok, itT_tup]
  refine for_word (fun r => gc M (fnRes r) = .ok .non M) (fun i σ N => ∃ x3 x4 x5 x6, σ = [some (.tup (ms.map mvP)), some (.ref d1), some (.ref d2), x3, x4, x5, x6] ∧ N = M) ⟨_, _, _, _, rfl, rfl⟩ (fun _ _ _ _ _ => trivial) (fun i z σ N hz hI => ?_) (fun σ N hI => ?_)
  · obtain ⟨x3, x4, x5, x6, rfl, rfl⟩ := hI
    obtain ⟨⟨x, e⟩, o2, o3, o4⟩ := ok _ (List.mem_of_getElem? hz)
    refine ⟨_, rfl, _, _, .inl ?_, some (.str z.1), some (.str z.2.1), some (tS z.2.2.1), some (.str z.2.2.2), rfl, rfl⟩
    simp [F_is_name_eq (nm_lim o2), F_is_name_eq (nm_lim o4), isNam_of o2, isNam_of o4, e, F_check_act_eq o3]
  · obtain ⟨x3, x4, x5, x6, rfl, rfl⟩ := hI
    exact gc_id _ _
/-! ### dict comprehensions -/
theorem dc_inv {α : Type} {ok : PM → Prop} {g : FG} {ft : FT} {fk fv : FE} {d : Nat} {σ : PS} {e : α → PV} : ∀ {zs : List α} {M : PM} (I : Nat → PM → Prop), I 0 M → (∀ i N, i ≤ zs.length → I i N → ok N) →
    (∀ i z N, zs[i]? = some z → I i N → ∃ σ1 k y N1 kvs, g (e z) σ = some σ1 ∧ ft σ1 N = .ok true N ∧ fk σ1 N = .ok k N ∧ fv σ1 N = .ok y N1 ∧ N1[d]? = some (.dct kvs) ∧ kvs.length < lim ∧ (keyOf k).isSome ∧ I (i + 1) (N1.set d (.dct (putP kvs k y)))) →
    ∃ N, dcP ok g ft fk fv d σ (zs.map e) M = .ok () N ∧ I zs.length N
  | [], M, I, h0, hok, _ => by
    refine ⟨M, ?_, h0⟩
    rw [List.map_nil]
    unfold dcP
    rw [if_pos (hok 0 M (Nat.le_refl _) h0)]
  | z :: zs, M, I, h0, hok, hs => by
    obtain ⟨σ1, k, y, N1, kvs, e1, e2, e3, e4, e5, l1, l2, h1⟩ := hs 0 z M rfl h0
    obtain ⟨N, e6, h2⟩ := dc_inv (ok := ok) (g := g) (ft := ft) (fk := fk) (fv := fv) (d := d) (σ := σ) (e := e) (zs := zs) (fun i => I (i + 1)) h1 (fun i N hi => hok (i + 1) N (by simp; omega)) (fun i w N hw => hs (i + 1) w N (by simpa using hw))
    refine ⟨N, ?_, h2⟩
    rw [List.map_cons]
    unfold dcP
    rw [if_pos (hok 0 M (Nat.zero_le _) h0), e1]
    simp only
    rw [e2, nox_ok, bnd_ok, if_pos rfl, e3, nox_ok, bnd_ok, e4, nox_ok, bnd_ok, e5]
    simp only
    rw [if_pos ⟨l1, l2⟩, e6]
/-! ### places -/
def plcD (ps : List (List Nat × List Nat)) : List (PV × PV) := ps.zipIdx.map fun x => (PV.str x.1.1, PV.int (x.2 : Nat))
theorem plc_len {ps : List (List Nat × List Nat)} : (plcD ps).length = ps.length := by simp [plcD]
theorem plc_snoc {ps : List (List Nat × List Nat)} {i : Nat} (hi : i < ps.length) : plcD (ps.take (i + 1)) = plcD (ps.take i) ++ [(PV.str ps[i].1, PV.int (i : Nat))] := by
  rw [← take_snoc hi]
  unfold plcD
  rw [List.zipIdx_append, List.map_append, List.length_take, Nat.min_eq_left (by omega)]
  simp
theorem plc_no {ps : List (List Nat × List Nat)} {i : Nat} (nd : (ps.map (·.1)).Nodup) (hi : i < ps.length) : ∀ p ∈ plcD (ps.take i), p.1 ≠ PV.str ps[i].1 := fun p hp => by
  obtain ⟨x, hx, rfl⟩ := List.mem_map.mp hp
  exact sne (seen_no nd hi x.1 (List.fst_mem_of_mem_zipIdx hx))
theorem F_places_of_eq {ps : List (List Nat × List Nat)} (l : ps.length < lim) (nd : (ps.map (·.1)).Nodup) : F_p_places_of c [.tup (ps.map pairP)] M = .ok (.ref M.length) (M ++ [.dct (plcD ps)]) := by
  rw [R_p_places_of]
  unfold B_p_places_of
  have e : enumP (ps.map pairP) = ps.zipIdx.map fun z => PV.tup [.int (z.2 : Nat), pairP z.1] := by
    unfold enumP
    rw [List.zipIdx_map, List.map_map]
    rfl
  have hw : wipeP [some (.tup (ps.map pairP)), none, none, none] [1, 2, 3] = [some (.tup (ps.map pairP)), none, none, none] := rfl
  simp only [ev_fRet, ev_fDc, ev_fIA, ev_fCons, ev_fVar0, ev_fNil, bnd_ok, itET_tup, e, hw]
  obtain ⟨N, e1, rfl⟩ := dc_inv (ok := fun _ => True) (g := gTp (gsCons (gNm 1) (gsCons (gTp (gsCons (gNm 2) (gsCons (gNm 3) gsNil))) gsNil))) (ft := fYes) (fk := fVar 2) (fv := fVar 1) (d := M.length) (σ := [some (.tup (ps.map pairP)), none, none, none]) (e := fun z : (List Nat × List Nat) × Nat => PV.tup [.int (z.2 : Nat), pairP z.1]) (zs := ps.zipIdx) (M := M ++ [.dct []]) (fun i N => N = M ++ [.dct (plcD (ps.take i))]) rfl (fun _ _ _ _ => trivial) (fun i z N hz hI => by
    subst hI
    have hi := (List.getElem?_eq_some_iff.mp hz).1
    rw [List.length_zipIdx] at hi
    rw [List.getElem?_zipIdx, List.getElem?_eq_getElem hi] at hz
    cases hz
    refine ⟨[some (.tup (ps.map pairP)), some (.int (i : Nat)), some (.str ps[i].1), some (.str ps[i].2)], .str ps[i].1, .int (i : Nat), M ++ [.dct (plcD (ps.take i))], plcD (ps.take i), by simp, by simp, by simp, by simp, by simp, by rw [plc_len, List.length_take]; omega, rfl, ?_⟩
    rw [putP_new (plc_no nd hi), ← plc_snoc hi, set_last])
  rw [e1]
  simp only [bnd_ok, go_ok, fnRes_rt]
  rw [List.length_zipIdx, List.take_length]
  rw [gc_new (o := .dct (plcD ps)) keep_app (Nat.le_refl _) (by simp) fun p hp => by
    obtain ⟨x, hx, rfl⟩ := List.mem_map.mp hp
    exact ⟨trivial, trivial⟩]
  simp
end Pu
namespace Pu
open PySem PySem.Spec PyProof.Rows L2 LB
open Classical
variable {c : CA} {M M' M'' : PM} {b : Nat}
@[simp] theorem lim0 : ((0 : Nat) ≤ lim) = True := eq_true (by decide)
@[simp] theorem lim1 : ((1 : Nat) ≤ lim) = True := eq_true (by decide)
@[simp] theorem lim2 : ((2 : Nat) ≤ lim) = True := eq_true (by decide)
@[simp] theorem lim3 : ((3 : Nat) ≤ lim) = True := eq_true (by decide)
@[simp] theorem lim4 : ((4 : Nat) ≤ lim) = True := eq_true (by decide)
@[simp] theorem lim5 : ((5 : Nat) ≤ lim) = True := eq_true (by decide)
@[simp] theorem lim6 : ((6 : Nat) ≤ lim) = True := eq_true (by decide)
theorem asStrs_str : ∀ xs : List (List Nat), asStrs (xs.map PV.str) = some xs
  | [] => rfl
  | x :: r => by
    rw [List.map_cons]
    unfold asStrs
    rw [asStrs_str r]
    rfl
theorem sortset_at {k : Nat} {xs : List (List Nat)} (e : M[k]? = some (.lst (xs.map PV.str))) (l : xs.length < 2000) : bSortSet (.ref k) M = .ok (.ref M.length) (M ++ [.lst ((sortU xs).map .str)]) := by
  unfold bSortSet lstAt
  simp only [e, Option.bind_some, asStrs_str]
  rw [if_pos l]
theorem itL_at {k : Nat} {xs : List PV} (e : M[k]? = some (.lst xs)) : itL (.ref k) M = .ok ⟨xs, fun M' => M'[k]? = some (.lst xs)⟩ M := by
  unfold itL
  simp only [e]
theorem foundIn_snoc {n : List Nat} {ms : List (List Nat × List Nat × List (List Nat) × List Nat)} {i : Nat} (h : i < ms.length) : foundIn n (ms.take (i + 1)) = foundIn n (ms.take i) ++ if ms[i].1 = n then [ms[i].2.1, ms[i].2.2.2] else [] := by
  rw [← take_snoc h]
  unfold foundIn
  rw [List.flatMap_append]
  simp
end Pu
namespace Pu
open PySem PySem.Spec PyProof.Rows L2 LB
open Classical
variable {c : CA} {M M' M'' : PM} {b : Nat}
abbrev Mv := List Nat × List Nat × List (List Nat) × List Nat
abbrev Pr := List Nat × List Nat
/-! ### fields, dicts that are locked -/
def asF (M : PM) (o : Option PV) : Res PV := match o with
  | some x => .ok x M
  | none => .bad
@[simp] theorem asF_some (M : PM) (x : PV) : asF M (some x) = .ok x M := id rfl
@[simp] theorem ev_fFld (C : Addr) (f : String) (fa : FE) (σ : PS) (M : PM) : fFld C f fa σ M = (fa σ M).bnd fun p M1 => asF M1 (fldP M1 C f p) := id rfl
@[simp] theorem ev_fSetF (C : Addr) (f : String) (fo fv : FE) (σ : PS) (M : PM) : fSetF C f fo fv σ M = (fv σ M).go fun y M1 => (fo σ M1).go fun o M2 => toM σ (setF M2 C f o y) := id rfl
theorem fld_at {k : Nat} {C : Addr} {fs : List (String × PV)} {f : String} {x : PV} (e : M[k]? = some (.ins C fs)) (h : fs.lookup f = some x) : fldP M C f (.ref k) = some x := by
  unfold fldP
  simp only [e, if_true, h]
theorem setF_at {k : Nat} {C : Addr} {fs : List (String × PV)} {f : String} {x : PV} (e : M[k]? = some (.ins C fs)) (l : fs.length < 1000) : setF M C f (.ref k) x = some (M.set k (.ins C (putS f x fs))) := by
  unfold setF
  simp only [e]
  rw [if_pos ⟨trivial, l⟩]
theorem set_back {k : Nat} {o o' : PO} {ex : PM} (e : M[k]? = some o') : (M.set k o ++ ex).set k o' = M ++ ex := by
  have l := (List.getElem?_eq_some_iff.mp e).1
  rw [List.set_append_left _ _ (by simpa using l), List.set_set]
  congr 1
  apply List.ext_getElem? 
  intro i
  by_cases h : i = k
  · subst h
    rw [List.getElem?_set_self l, e]
  · rw [List.getElem?_set_ne (Ne.symm h)]
theorem lock_at {look : PS → PM → Option Nat} {f : FE} {σ : PS} {k : Nat} {kvs : List (PV × PV)} {v : PV} {ex : PM} (e : look σ M = some k) (ek : M[k]? = some (.dct kvs)) (h : f σ (M.set k (.lck kvs)) = .ok v (M.set k (.lck kvs) ++ ex)) : fLock look f σ M = .ok v (M ++ ex) := by
  have l := (List.getElem?_eq_some_iff.mp ek).1
  unfold fLock
  simp only [e, ek, h, nox_ok, bnd_ok]
  have e2 : (M.set k (.lck kvs) ++ ex)[k]? = some (.lck kvs) := by
    rw [List.getElem?_append_left (by simpa using l)]
    exact List.getElem?_set_self l
  simp only [e2]
  rw [set_back ek]
theorem dget_lck {d : Nat} {kvs : List (PV × PV)} {n : List Nat} (e : M[d]? = some (.lck kvs)) : dgetP M (.ref d) (.str n) = some (kfind kvs (.str n)) := by
  unfold dgetP
  simp only [e]
  rw [if_pos (by rfl)]
theorem itK_at {k : Nat} {kvs : List (PV × PV)} (e : M[k]? = some (.lck kvs)) : itK (.ref k) M = .ok ⟨kvs.map (·.1), fun M' => M'[k]? = some (.lck kvs)⟩ M := by
  unfold itK
  simp only [e]
theorem itV_at {k : Nat} {kvs : List (PV × PV)} (e : M[k]? = some (.lck kvs)) : itV (.ref k) M = .ok ⟨kvs.map (·.2), fun M' => M'[k]? = some (.lck kvs)⟩ M := by
  unfold itV
  simp only [e]
/-! ### the stands of each machine -/
def stOf (mv : List Mv) (x : Pr) : List (List Nat) := sortU (x.2 :: foundIn x.1 mv)
def stD (ms : List Pr) (mv : List Mv) : List (PV × PV) := ms.map fun x => (PV.str x.1, tS (stOf mv x))
/-- names and the lists that stand for them -/
def fdD (ms : List Pr) (D : Nat) : List (PV × PV) := ms.zipIdx.map fun x => (PV.str x.1.1, PV.ref (D + x.2))
def fdL (ms : List Pr) (mv : List Mv) : PM := ms.map fun x => .lst ((x.2 :: foundIn x.1 mv).map PV.str)
theorem fd_len {ms : List Pr} {D : Nat} : (fdD ms D).length = ms.length := by simp [fdD]
theorem fd_snoc {ms : List Pr} {i D : Nat} (hi : i < ms.length) : fdD (ms.take (i + 1)) D = fdD (ms.take i) D ++ [(PV.str ms[i].1, PV.ref (D + i))] := by
  rw [← take_snoc hi]
  unfold fdD
  rw [List.zipIdx_append, List.map_append, List.length_take, Nat.min_eq_left (by omega)]
  simp
theorem fd_no {ms : List Pr} {i D : Nat} (nd : (ms.map (·.1)).Nodup) (hi : i < ms.length) : ∀ p ∈ fdD (ms.take i) D, p.1 ≠ PV.str ms[i].1 := fun p hp => by
  obtain ⟨x, hx, rfl⟩ := List.mem_map.mp hp
  exact sne (seen_no nd hi x.1 (List.fst_mem_of_mem_zipIdx hx))
/-- a dict over distinct names, read at one of them -/
theorem kfind_zip {ms : List Pr} {v : Nat → PV} (nd : (ms.map (·.1)).Nodup) : ∀ {i : Nat} (k : Nat) (hi : i < ms.length), kfind ((ms.zipIdx k).map fun x => (PV.str x.1.1, v x.2)) (.str ms[i].1) = some (v (k + i)) := by
  induction ms with
  | nil => intro i k hi; simp at hi
  | cons m ms ih =>
    intro i k hi
    rw [List.zipIdx_cons, List.map_cons]
    cases i with
    | zero => exact kfind_pos
    | succ i =>
      rw [List.map_cons, List.nodup_cons] at nd
      have hi' : i < ms.length := by simpa using hi
      have ne : m.1 ≠ ms[i].1 := fun z => nd.1 (by rw [z]; exact List.mem_map_of_mem (List.getElem_mem hi'))
      rw [List.getElem_cons_succ]
      rw [kfind_neg (sne ne), ih nd.2 (k + 1) hi']
      congr 2
      omega
theorem fd_find {ms : List Pr} {D i : Nat} (nd : (ms.map (·.1)).Nodup) (hi : i < ms.length) : kfind (fdD ms D) (.str ms[i].1) = some (.ref (D + i)) := by
  have := kfind_zip (v := fun j => .ref (D + j)) nd 0 hi
  rw [Nat.zero_add] at this
  exact this
theorem plc_find {ms : List Pr} {i : Nat} (nd : (ms.map (·.1)).Nodup) (hi : i < ms.length) : kfind (plcD ms) (.str ms[i].1) = some (.int (i : Nat)) := by
  have := kfind_zip (v := fun j => .int (j : Nat)) nd 0 hi
  rw [Nat.zero_add] at this
  exact this
theorem at_app {ex : PM} {i : Nat} : (M ++ ex)[M.length + i]? = ex[i]? := by
  rw [List.getElem?_append_right (by omega)]
  congr 1
  omega
theorem at_app0 {ex : PM} : (M ++ ex)[M.length]? = ex[0]? := at_app (i := 0)
theorem set_app {ex : PM} {i : Nat} {o : PO} : (M ++ ex).set (M.length + i) o = M ++ ex.set i o := by
  rw [List.set_append_right _ _ (by omega)]
  congr 2
  omega
theorem set_app0 {ex : PM} {o : PO} : (M ++ ex).set M.length o = M ++ ex.set 0 o := set_app (i := 0)
theorem fdL_at {ms : List Pr} {mv : List Mv} {i : Nat} (hi : i < ms.length) : (fdL ms mv)[i]? = some (.lst ((ms[i].2 :: foundIn ms[i].1 mv).map PV.str)) := by
  unfold fdL
  rw [List.getElem?_map, List.getElem?_eq_getElem hi]
  rfl
theorem nd_get {ms : List Pr} (nd : (ms.map (·.1)).Nodup) {i j : Nat} (hi : i < ms.length) (hj : j < ms.length) (e : ms[i].1 = ms[j].1) : i = j := by
  by_cases h : i = j
  · exact h
  · rcases Nat.lt_or_gt_of_ne h with h | h
    · have := List.pairwise_iff_getElem.mp nd i j (by rw [List.length_map]; exact hi) (by rw [List.length_map]; exact hj) h
      rw [List.getElem_map, List.getElem_map] at this
      exact absurd e this
    · have := List.pairwise_iff_getElem.mp nd j i (by rw [List.length_map]; exact hj) (by rw [List.length_map]; exact hi) h
      rw [List.getElem_map, List.getElem_map] at this
      exact absurd e.symm this
theorem fdL_step {ms : List Pr} {mv : List Mv} {i j : Nat} (nd : (ms.map (·.1)).Nodup) (hi : i < ms.length) (hj : j < mv.length) (e : mv[j].1 = ms[i].1) :
    (fdL ms (mv.take j)).set i (.lst ((ms[i].2 :: foundIn ms[i].1 (mv.take j)).map PV.str ++ [.str mv[j].2.1] ++ [.str mv[j].2.2.2])) = fdL ms (mv.take (j + 1)) := by
  apply List.ext_getElem?
  intro k
  by_cases h : k = i
  · subst h
    rw [List.getElem?_set_self (by simpa [fdL] using hi), fdL_at hi, foundIn_snoc hj, if_pos e]
    simp
  · rw [List.getElem?_set_ne (Ne.symm h)]
    by_cases hk : k < ms.length
    · rw [fdL_at hk, fdL_at hk, foundIn_snoc hj, if_neg fun z => h (nd_get nd hk hi (z.symm.trans e)), List.append_nil]
    · rw [List.getElem?_eq_none (by simp [fdL]; omega), List.getElem?_eq_none (by simp [fdL]; omega)]
theorem st_no {ms : List Pr} {mv : List Mv} {i : Nat} (nd : (ms.map (·.1)).Nodup) (hi : i < ms.length) : ∀ p ∈ stD (ms.take i) mv, p.1 ≠ PV.str ms[i].1 := fun p hp => by
  obtain ⟨x, hx, rfl⟩ := List.mem_map.mp hp
  exact sne (seen_no nd hi x hx)
theorem st_snoc {ms : List Pr} {mv : List Mv} {i : Nat} (hi : i < ms.length) : stD (ms.take (i + 1)) mv = stD (ms.take i) mv ++ [(PV.str ms[i].1, tS (stOf mv ms[i]))] := by
  rw [← take_snoc hi]
  unfold stD
  rw [List.map_append]
  rfl
theorem st_wf {ms : List Pr} {mv : List Mv} {n : Nat} : kvwf n (stD ms mv) := fun p hp => by
  obtain ⟨x, hx, rfl⟩ := List.mem_map.mp hp
  exact ⟨trivial, by simp [tS, wfs_strs]⟩
theorem F_stands_of_eq {ms : List Pr} {mv : List Mv} (nd : (ms.map (·.1)).Nodup) (lm : ms.length < 1000) (lv : mv.length < 100) (hin : ∀ x ∈ mv, x.1 ∈ ms.map (·.1)) :
    F_p_stands_of c [.tup (ms.map pairP), .tup (mv.map mvP)] M = .ok (.ref M.length) (M ++ [.dct (stD ms mv)]) := by
  rw [R_p_stands_of]
  unfold B_p_stands_of
  -- the first dict
  obtain ⟨N, e1, rfl⟩ := dc_inv (ok := fun _ => True) (g := gTp (gsCons (gNm 7) (gsCons (gNm 8) gsNil))) (ft := fYes) (fk := fVar 7) (fv := fLst (fCons (fVar 8) fNil)) (d := M.length) (σ := [some (.tup (ms.map pairP)), some (.tup (mv.map mvP)), none, none, none, none, none, none, none]) (e := pairP) (zs := ms) (M := M ++ [.dct []])
    (fun i N => N = M ++ .dct (fdD (ms.take i) (M.length + 1)) :: fdL (ms.take i) []) rfl (fun _ _ _ _ => trivial) (fun i z N hz hI => by
      subst hI
      obtain ⟨hi, rfl⟩ := List.getElem?_eq_some_iff.mp hz
      have l2 : (fdL (ms.take i) []).length = i := by simp [fdL]; omega
      refine ⟨[some (.tup (ms.map pairP)), some (.tup (mv.map mvP)), none, none, none, none, none, some (.str ms[i].1), some (.str ms[i].2)], .str ms[i].1, .ref (M.length + 1 + i), M ++ .dct (fdD (ms.take i) (M.length + 1)) :: (fdL (ms.take i) [] ++ [.lst [.str ms[i].2]]), fdD (ms.take i) (M.length + 1), by simp, by simp, by simp, ?_, by simp, by rw [fd_len, List.length_take]; unfold lim; omega, rfl, ?_⟩
      · simp [lim, l2]
        omega
      · rw [putP_new (fd_no nd hi), ← fd_snoc hi, set_app0, List.set_cons_zero]
        congr 2
        rw [← take_snoc hi]
        unfold fdL
        rw [List.map_append]
        rfl)
  have hw : wipeP [some (.tup (ms.map pairP)), some (.tup (mv.map mvP)), none, none, none, none, none, none, none] [7, 8] = [some (.tup (ms.map pairP)), some (.tup (mv.map mvP)), none, none, none, none, none, none, none] := rfl
  rw [List.take_length] at e1
  simp only [ev_fSeq, ev_fAsg, ev_fDc, ev_fI, ev_fVar0, ev_fVarS, bnd_ok, itT_tup, hw, e1, go_ok, ev_gNm, toSt_some, then2_nx, List.set_cons_succ, List.set_cons_zero, ev_fFor]
  refine for_then (fun r => gc M (fnRes r) = .ok (.ref M.length) (M ++ [.dct (stD ms mv)])) (fun j σ N => ∃ x3 x4 x5 x6, σ = [some (.tup (ms.map pairP)), some (.tup (mv.map mvP)), some (.ref M.length), x3, x4, x5, x6, none, none] ∧ N = M ++ .dct (fdD ms (M.length + 1)) :: fdL ms (mv.take j))
    ⟨_, _, _, _, rfl, rfl⟩ (fun _ _ _ _ _ => trivial) (fun j z σ N hz hI => ?_) (fun σ N hI => ?_)
  · obtain ⟨x3, x4, x5, x6, rfl, rfl⟩ := hI
    obtain ⟨hj, rfl⟩ := List.getElem?_eq_some_iff.mp hz
    obtain ⟨y, hy, e⟩ := List.mem_map.mp (hin _ (List.getElem_mem hj))
    obtain ⟨i, hi, rfl⟩ := List.mem_iff_getElem.mp hy
    have fl := foundIn_len ms[i].1 (mv.take j)
    rw [List.length_take] at fl
    refine ⟨_, rfl, [some (.tup (ms.map pairP)), some (.tup (mv.map mvP)), some (.ref M.length), some (.str mv[j].1), some (.str mv[j].2.1), some (tS mv[j].2.2.1), some (.str mv[j].2.2.2), none, none], M ++ .dct (fdD ms (M.length + 1)) :: fdL ms (mv.take (j + 1)), .inl ?_, _, _, _, _, rfl, rfl⟩
    · have g1 : dgetP (M ++ .dct (fdD ms (M.length + 1)) :: fdL ms (mv.take j)) (.ref M.length) (.str mv[j].1) = some (some (.ref (M.length + 1 + i))) := by
        rw [dget_at (kvs := fdD ms (M.length + 1)) at_app0, ← e, fd_find nd hi]
      have a1 : (M ++ .dct (fdD ms (M.length + 1)) :: fdL ms (mv.take j))[M.length + 1 + i]? = some (.lst ((ms[i].2 :: foundIn ms[i].1 (mv.take j)).map PV.str)) := by
        rw [Nat.add_assoc, at_app, Nat.add_comm 1 i, List.getElem?_cons_succ, fdL_at hi]
      have t1 := isTy_lst a1
      have m1 := mAppend_at (y := .str mv[j].2.1) a1 (by simp [lim]; omega)
      rw [Nat.add_assoc, set_app, Nat.add_comm 1 i, List.set_cons_succ] at m1
      have a2 : (M ++ .dct (fdD ms (M.length + 1)) :: (fdL ms (mv.take j)).set i (.lst ((ms[i].2 :: foundIn ms[i].1 (mv.take j)).map PV.str ++ [.str mv[j].2.1])))[M.length + (i + 1)]? = some (.lst ((ms[i].2 :: foundIn ms[i].1 (mv.take j)).map PV.str ++ [.str mv[j].2.1])) := by
        rw [at_app, List.getElem?_cons_succ, List.getElem?_set_self (by simpa [fdL] using hi)]
      have g2 : dgetP (M ++ .dct (fdD ms (M.length + 1)) :: (fdL ms (mv.take j)).set i (.lst ((ms[i].2 :: foundIn ms[i].1 (mv.take j)).map PV.str ++ [.str mv[j].2.1]))) (.ref M.length) (.str mv[j].1) = some (some (.ref (M.length + (i + 1)))) := by
        rw [dget_at (kvs := fdD ms (M.length + 1)) at_app0, ← e, fd_find nd hi]
        congr 3
        omega
      have t2 := isTy_lst a2
      have m2 := mAppend_at (y := .str mv[j].2.2.2) a2 (by simp [lim]; omega)
      rw [set_app, List.set_cons_succ, List.set_set, fdL_step nd hi hj e.symm] at m2
      rw [show M.length + 1 + i = M.length + (i + 1) by omega] at g1 t1
      simp only [ev_fSeq, ev_fDrop, ev_fBM, ev_fDGet, ev_fVar0, ev_fVarS, bnd_ok, List.set_cons_succ, List.set_cons_zero, g1, asV_some, t1, if_true, ev_fCons, ev_fNil, m1, go_ok, then2_nx, g2, t2, m2]
  · obtain ⟨x3, x4, x5, x6, rfl, rfl⟩ := hI
    rw [List.take_length]
    -- the second dict
    generalize hF : fdL ms mv = F
    have lF : F.length = ms.length := by rw [← hF]; simp [fdL]
    have lk : (M ++ .dct (fdD ms (M.length + 1)) :: F).set M.length (.lck (fdD ms (M.length + 1))) = M ++ .lck (fdD ms (M.length + 1)) :: F := by rw [set_app0, List.set_cons_zero]
    have kk : (fdD ms (M.length + 1)).map (·.1) = ms.map fun x => PV.str x.1 := by
      unfold fdD
      rw [List.map_map]
      show ms.zipIdx.map ((fun x : Pr => PV.str x.1) ∘ Prod.fst) = _
      rw [← List.map_map, List.zipIdx_map_fst]
    obtain ⟨N, e2, ex, rfl, lx⟩ := dc_inv (ok := fun M' => M'[M.length]? = some (.lck (fdD ms (M.length + 1)))) (g := gNm 7) (ft := fYes) (fk := fVar 7) (fv := fB bTup (fCons (fSortSet (fDGet (fVar 2) (fVar 7))) fNil)) (d := M.length + 1 + ms.length) (σ := [some (.tup (ms.map pairP)), some (.tup (mv.map mvP)), some (.ref M.length), x3, x4, x5, x6, none, none]) (e := fun x : Pr => PV.str x.1) (zs := ms) (M := M ++ .lck (fdD ms (M.length + 1)) :: F ++ [.dct []])
      (fun i N => ∃ ex : PM, N = M ++ .lck (fdD ms (M.length + 1)) :: F ++ .dct (stD (ms.take i) mv) :: ex ∧ ex.length = i) ⟨[], rfl, rfl⟩ (fun _ N _ hI => by
        obtain ⟨ex, rfl, _⟩ := hI
        rw [List.append_assoc]
        exact at_app0) (fun i z N hz hI => by
        obtain ⟨ex, rfl, lx⟩ := hI
        obtain ⟨hi, rfl⟩ := List.getElem?_eq_some_iff.mp hz
        have fl := foundIn_len ms[i].1 mv
        generalize hN : M ++ PO.lck (fdD ms (M.length + 1)) :: F ++ .dct (stD (ms.take i) mv) :: ex = N
        have g1 : dgetP N (.ref M.length) (.str ms[i].1) = some (some (.ref (M.length + 1 + i))) := by
          rw [← hN, dget_lck (kvs := fdD ms (M.length + 1)) (by rw [List.append_assoc]; exact at_app0), fd_find nd hi]
        have a1 : N[M.length + 1 + i]? = some (.lst ((ms[i].2 :: foundIn ms[i].1 mv).map PV.str)) := by
          rw [← hN, List.append_assoc, Nat.add_assoc, at_app, Nat.add_comm 1 i, List.cons_append, List.getElem?_cons_succ, List.getElem?_append_left (by omega), ← hF, fdL_at hi]
        have s1 := sortset_at a1 (by simp; omega)
        refine ⟨[some (.tup (ms.map pairP)), some (.tup (mv.map mvP)), some (.ref M.length), x3, x4, x5, x6, some (.str ms[i].1), none], .str ms[i].1, tS (stOf mv ms[i]), N ++ [.lst ((stOf mv ms[i]).map .str)], stD (ms.take i) mv, by simp, by simp, by simp, ?_, ?_, by simp [stD, lim]; omega, rfl, ?_⟩
        · simp only [ev_fB, ev_fCons, ev_fSortSet, ev_fDGet, ev_fVar0, ev_fVarS, bnd_ok, g1, asV_some, s1, ev_fNil]
          rw [bTup_lst (List.getElem?_concat_length ..)]
          rfl
        · rw [← hN, List.append_assoc, List.append_assoc, show M.length + 1 + ms.length = M.length + (ms.length + 1) by omega, at_app, List.cons_append, List.getElem?_cons_succ, ← lF, List.getElem?_append_right (Nat.le_refl _), Nat.sub_self]
          rfl
        · refine ⟨ex ++ [.lst ((stOf mv ms[i]).map .str)], ?_, by simp [lx]⟩
          rw [putP_new (st_no nd hi), ← st_snoc hi, ← hN, List.append_assoc, List.append_assoc, show M.length + 1 + ms.length = M.length + (ms.length + 1) by omega, set_app, List.cons_append, List.set_cons_succ, ← lF, List.set_append_right _ _ (Nat.le_refl _), Nat.sub_self]
          simp)
    rw [List.take_length] at *
    have hw : wipeP [some (.tup (ms.map pairP)), some (.tup (mv.map mvP)), some (.ref M.length), x3, x4, x5, x6, none, none] [7] = [some (.tup (ms.map pairP)), some (.tup (mv.map mvP)), some (.ref M.length), x3, x4, x5, x6, none, none] := rfl
    have L := lock_at (look := lkVar 2) (f := fDc (fI itK (fVar 2)) (gNm 7) fYes (fVar 7) (fB bTup (fCons (fSortSet (fDGet (fVar 2) (fVar 7))) fNil)) [7]) (σ := [some (.tup (ms.map pairP)), some (.tup (mv.map mvP)), some (.ref M.length), x3, x4, x5, x6, none, none]) (M := M ++ .dct (fdD ms (M.length + 1)) :: F) (k := M.length) (kvs := fdD ms (M.length + 1)) (v := .ref (M.length + 1 + ms.length)) (ex := .dct (stD ms mv) :: ex) rfl at_app0 (by
      rw [lk, ev_fDc]
      simp only [ev_fI, ev_fVar0, ev_fVarS, bnd_ok, itK_at (M := M ++ PO.lck (fdD ms (M.length + 1)) :: F) (k := M.length) (kvs := fdD ms (M.length + 1)) at_app0, kk, hw]
      have ll : (M ++ PO.lck (fdD ms (M.length + 1)) :: F).length = M.length + 1 + ms.length := by simp [lF]; omega
      rw [ll, e2, bnd_ok])
    simp only [ev_fRet, L, go_ok, fnRes_rt]
    rw [gc_new (o := .dct (stD ms mv)) (by rw [List.append_assoc]; exact keep_app) (by omega) (by rw [List.append_assoc, show M.length + 1 + ms.length = M.length + (ms.length + 1) by omega, at_app, List.cons_append, List.getElem?_cons_succ, ← lF, List.getElem?_append_right (Nat.le_refl _), Nat.sub_self]; rfl) st_wf]
    rw [List.append_assoc, List.take_left]
end Pu
namespace Pu
open PySem PySem.Spec PyProof.Rows L2 LB
open Classical
variable {c : CA} {M M' M'' : PM} {b : Nat}
/-! ### steps -/
def plOf (ms : List Pr) (n : List Nat) : Nat := (ms.map (·.1)).idxOf n
theorem plOf_lt {ms : List Pr} {n : List Nat} (h : n ∈ ms.map (·.1)) : plOf ms n < ms.length := by
  have := List.idxOf_lt_length_iff.mpr h
  rwa [List.length_map] at this
theorem plOf_get {ms : List Pr} {n : List Nat} (h : n ∈ ms.map (·.1)) : (ms[plOf ms n]'(plOf_lt h)).1 = n := by
  have := List.getElem_idxOf (List.idxOf_lt_length_iff.mpr h)
  rwa [List.getElem_map] at this
theorem plc_find' {ms : List Pr} {n : List Nat} (nd : (ms.map (·.1)).Nodup) (h : n ∈ ms.map (·.1)) : kfind (plcD ms) (.str n) = some (.int (plOf ms n : Nat)) := by
  have := plc_find nd (plOf_lt h)
  rwa [plOf_get h] at this
def ActN (ns : List (List Nat)) : List (List Nat) → Prop := ActP (· ∈ ns)
def rowOf (rs : List Pr) (a : List (List Nat)) : Int := match a with
  | [_] => -1
  | _ :: r :: _ => (plOf rs r : Nat)
  | [] => -1
def stepOf (ms rs : List Pr) (m : Mv) : Stp := ⟨plOf ms m.1, m.2.1, m.2.2.1.headD [], rowOf rs m.2.2.1, (m.2.2.1.drop 2).headD [], m.2.2.2⟩
structure MvG (ms rs : List Pr) (m : Mv) : Prop where
  hm : m.1 ∈ ms.map (·.1)
  hs : isNm m.2.1
  ha : ActN (rs.map (·.1)) m.2.2.1
  he : isNm m.2.2.2
theorem F_step_of_eq {ms rs : List Pr} {m : Mv} {k1 k2 : Nat} (nd1 : (ms.map (·.1)).Nodup) (nd2 : (rs.map (·.1)).Nodup) (e1 : M[k1]? = some (.dct (plcD ms))) (e2 : M[k2]? = some (.dct (plcD rs))) (h : MvG ms rs m) : F_p_step_of c [mvP m, .ref k1, .ref k2] M = .ok (stepOf ms rs m).pv M := by
  rw [R_p_step_of]
  unfold B_p_step_of
  have g1 : dgetP M (.ref k1) (.str m.1) = some (some (.int (plOf ms m.1 : Nat))) := by rw [dget_at e1, plc_find' nd1 h.hm]
  obtain ⟨m1, m2, a, m4⟩ := m
  have ha := h.ha
  simp only at ha g1 ⊢
  cases ha with
  | idle => simp [tS, wIdle, ixT0, ixT1, ixT2, g1, stepOf, rowOf, lim, List.headD]
  | @bare r hr =>
    have g2 : dgetP M (.ref k2) (.str r) = some (some (.int (plOf rs r : Nat))) := by rw [dget_at e2, plc_find' nd2 hr]
    simp [tS, wBare, ixT0, ixT1, ixT2, g1, g2, stepOf, rowOf, lim, List.headD]
  | @send r x hr hx =>
    have g2 : dgetP M (.ref k2) (.str r) = some (some (.int (plOf rs r : Nat))) := by rw [dget_at e2, plc_find' nd2 hr]
    simp [tS, wSend, ixT0, ixT1, ixT2, g1, g2, stepOf, rowOf, lim, List.headD]
  | @take r x hr hx =>
    have g2 : dgetP M (.ref k2) (.str r) = some (some (.int (plOf rs r : Nat))) := by rw [dget_at e2, plc_find' nd2 hr]
    simp [tS, wTake, ixT0, ixT1, ixT2, g1, g2, stepOf, rowOf, lim, List.headD]
/-! ### too many -/
def overB (ms rs : List Pr) (mv : List Mv) : Bool := decide (3 < ms.length) || decide (3 < rs.length) || decide (24 < mv.length) || ms.any fun x => decide (6 < (stOf mv x).length)
theorem F_is_over_eq {ms rs : List Pr} {mv : List Mv} {x k3 : Nat} {fs : List (String × PV)} (e : M[x]? = some (.ins c.Lab fs)) (h1 : fs.lookup "machine_pairs" = some (.tup (ms.map pairP))) (h2 : fs.lookup "row_pairs" = some (.tup (rs.map pairP))) (h3 : fs.lookup "whole_moves" = some (.tup (mv.map mvP)))
    (h4 : fs.lookup "stand_lists" = some (.ref k3)) (e3 : M[k3]? = some (.dct (stD ms mv))) (lm : ms.length < 1000) : F_Lab_is_over c [.ref x] M = .ok (.bl (overB ms rs mv)) M := by
  rw [R_Lab_is_over]
  unfold B_Lab_is_over
  have f1 := fld_at e h1
  have f2 := fld_at e h2
  have f3 := fld_at e h3
  have nx : k3 ≠ x := fun z => by rw [z, e] at e3; cases e3
  have L : fLock (lkFld c.Lab 0 "stand_lists") (fLc (fI itV (fFld c.Lab "stand_lists" (fVar 0))) (gNm 1) fYes (fOp (pI0 fun i j => .bl (decide (j < i))) (fB bLen (fCons (fVar 1) fNil)) (fC (.int 6))) [1]) [some (.ref x), none] M = .ok (.ref M.length) (M ++ [.lst (ms.map fun x => PV.bl (decide (6 < (stOf mv x).length)))]) := by
    refine lock_at (k := k3) (kvs := stD ms mv) (by unfold lkFld; simp only [List.getElem?_cons_zero, fld_at e h4]) e3 ?_
    have ex : (M.set k3 (.lck (stD ms mv)))[x]? = some (.ins c.Lab fs) := by rw [List.getElem?_set_ne nx]; exact e
    have el : (M.set k3 (.lck (stD ms mv)))[k3]? = some (.lck (stD ms mv)) := List.getElem?_set_self (List.getElem?_eq_some_iff.mp e3).1
    have kk : (stD ms mv).map (·.2) = ms.map fun x => tS (stOf mv x) := by unfold stD; rw [List.map_map]; rfl
    rw [ev_fLc]
    simp only [ev_fI, ev_fFld, ev_fVar0, bnd_ok, fld_at ex h4, asF_some, itV_at el, kk]
    have lc := lc_mapF (ok := fun M' => M'[k3]? = some (.lck (stD ms mv))) (g := gNm 1) (ft := fYes) (fe := fOp (pI0 fun i j => .bl (decide (j < i))) (fB bLen (fCons (fVar 1) fNil)) (fC (.int 6))) (σ := wipeP [some (.ref x), none] [1]) (e := fun x => tS (stOf mv x)) (h := fun x => PV.bl (decide (6 < (stOf mv x).length))) (M := M.set k3 (.lck (stD ms mv))) (zs := ms) (acc := []) (fun acc => by rw [List.getElem?_append_left (by simpa using (List.getElem?_eq_some_iff.mp e3).1)]; exact el) (by simp [lim]; omega) (fun z _ => ⟨[some (.ref x), some (tS (stOf mv z))], rfl, fun acc => ⟨rfl, by simp [tS]; omega⟩⟩)
    rw [List.nil_append] at lc
    rw [lc, bnd_ok, List.length_set]
  simp only [ev_fSeq, ev_fIfS, ev_fOr, ev_fTest, ev_fOp, ev_fB, ev_fCons, ev_fFld, ev_fVar0, bnd_ok, f1, f2, f3, asF_some, ev_fNil, bLen_tup, ev_fC, pI0_int, asB_bl, ev_fRet, go_ok, ev_fNext, ev_fGc, L, bAny_atF, List.length_map]
  unfold overB
  by_cases q1 : (3 : Int) < ms.length
  · have : 3 < ms.length := by omega
    simp [q1, this]
  by_cases q2 : (3 : Int) < rs.length
  · have : 3 < rs.length := by omega
    simp [q1, q2, this]
  by_cases q3 : (24 : Int) < mv.length
  · have : 24 < mv.length := by omega
    simp [q1, q2, q3, this, f3]
  have n1 : ¬ 3 < ms.length := by omega
  have n2 : ¬ 3 < rs.length := by omega
  have n3 : ¬ 24 < mv.length := by omega
  simp [q1, q2, q3, n1, n2, n3, gc_flat, f3, L]
/-! ### a lab -/
def labF (c : CA) (ms rs : List Pr) (mv : List Mv) (k1 k2 k3 : Nat) : List (String × PV) := [("machine_pairs", .tup (ms.map pairP)), ("row_pairs", .tup (rs.map pairP)), ("whole_moves", .tup (mv.map mvP)), ("machine_places", .ref k1), ("row_places", .ref k2), ("stand_lists", .ref k3), ("steps", .tup (mv.map fun m => (stepOf ms rs m).pv))]
structure LabAt (c : CA) (M : PM) (x : Nat) (ms rs : List Pr) (mv : List Mv) : Prop where
  ex : ∃ k1 k2 k3, M[x]? = some (.ins c.Lab (labF c ms rs mv k1 k2 k3)) ∧ M[k1]? = some (.dct (plcD ms)) ∧ M[k2]? = some (.dct (plcD rs)) ∧ M[k3]? = some (.dct (stD ms mv))
/-- what a lab may be made of -/
structure LabG (ms rs : List Pr) (mv : List Mv) : Prop where
  nd1 : (ms.map (·.1)).Nodup
  nd2 : (rs.map (·.1)).Nodup
  n1 : ∀ x ∈ ms, isNm x.1 ∧ isNm x.2
  n2 : ∀ x ∈ rs, isNm x.1 ∧ x.2.length ≤ 8 ∧ ∀ y ∈ x.2, 97 ≤ y ∧ y < 123
  hmv : ∀ m ∈ mv, MvG ms rs m
  ov : overB ms rs mv = false
theorem LabG.len {ms rs : List Pr} {mv : List Mv} (h : LabG ms rs mv) : ms.length ≤ 3 ∧ rs.length ≤ 3 ∧ mv.length ≤ 24 ∧ ∀ x ∈ ms, (stOf mv x).length ≤ 6 := by
  have := h.ov
  unfold overB at this
  rw [Bool.or_eq_false_iff, Bool.or_eq_false_iff, Bool.or_eq_false_iff, decide_eq_false_iff_not, decide_eq_false_iff_not, decide_eq_false_iff_not, List.any_eq_false] at this
  refine ⟨by omega, by omega, by omega, fun x hx => ?_⟩
  have := this.2 x hx
  simp at this
  exact this
theorem tup_seq {p : PV} {mt : Nat → Addr} {σ : PS} {g : FG} {fe : FE} {vs : List Nat} {α : Type} {zs : List α} {e : α → PV} {j : Nat} (hσ : fVar j σ M = .ok p M) (ek : SeqP mt M p (zs.map e)) (l : zs.length ≤ lim) (h : α → PV) (w : ∀ z ∈ zs, (h z).wf M.length)
    (hs : ∀ z ∈ zs, ∃ σ1, g (e z) (wipeP σ vs) = some σ1 ∧ ∀ acc, fe σ1 (M ++ [.lst acc]) = .ok (h z) (M ++ [.lst acc])) :
    fGc (fB bTup (fCons (fLc (fI (itQ mt) (fVar j)) g fYes fe vs) fNil)) σ M = .ok (.tup (zs.map h)) M := by
  obtain ⟨ok, eo, ho⟩ := itQ_at ek
  have lc := lc_mapF (ok := ok) (g := g) (ft := fYes) (fe := fe) (σ := wipeP σ vs) (e := e) (h := h) (M := M) (zs := zs) (acc := []) (fun acc => ho _) (by simpa using l) (fun z hz => by
    obtain ⟨σ1, e1, e2⟩ := hs z hz
    exact ⟨σ1, e1, fun acc => ⟨rfl, e2 acc⟩⟩)
  rw [List.nil_append] at lc
  simp only [ev_fGc, ev_fB, ev_fCons, ev_fLc, ev_fI, hσ, bnd_ok, eo, lc, ev_fNil, bTup_lst (List.getElem?_concat_length ..)]
  exact gc_flat (by
    rw [wf_tup, wfs_iff]
    intro x hx
    obtain ⟨z, hz, rfl⟩ := List.mem_map.mp hx
    exact w z hz)
theorem tup_tup {σ : PS} {g : FG} {fe fa : FE} {vs : List Nat} {α : Type} {zs : List α} {e : α → PV} (hσ : fa σ M = .ok (.tup (zs.map e)) M) (l : zs.length ≤ lim) (h : α → PV) (w : ∀ z ∈ zs, (h z).wf M.length)
    (hs : ∀ z ∈ zs, ∃ σ1, g (e z) (wipeP σ vs) = some σ1 ∧ ∀ acc, fe σ1 (M ++ [.lst acc]) = .ok (h z) (M ++ [.lst acc])) :
    fGc (fB bTup (fCons (fLc (fI itT fa) g fYes fe vs) fNil)) σ M = .ok (.tup (zs.map h)) M := by
  have lc := lc_mapF (ok := fun _ => True) (g := g) (ft := fYes) (fe := fe) (σ := wipeP σ vs) (e := e) (h := h) (M := M) (zs := zs) (acc := []) (fun acc => trivial) (by simpa using l) (fun z hz => by
    obtain ⟨σ1, e1, e2⟩ := hs z hz
    exact ⟨σ1, e1, fun acc => ⟨rfl, e2 acc⟩⟩)
  rw [List.nil_append] at lc
  simp only [ev_fGc, ev_fB, ev_fCons, ev_fLc, ev_fI, hσ, bnd_ok, itT_tup, lc, ev_fNil, bTup_lst (List.getElem?_concat_length ..)]
  exact gc_flat (by
    rw [wf_tup, wfs_iff]
    intro x hx
    obtain ⟨z, hz, rfl⟩ := List.mem_map.mp hx
    exact w z hz)
theorem actP_mono {f g : List Nat → Prop} (h : ∀ n, f n → g n) {a : List (List Nat)} (x : ActP f a) : ActP g a := by
  cases x with
  | idle => exact .idle
  | bare p => exact .bare (h _ p)
  | send p q => exact .send (h _ p) q
  | take p q => exact .take (h _ p) q
theorem hasN_plc {ms : List Pr} {k : Nat} (nd : (ms.map (·.1)).Nodup) (e : M[k]? = some (.dct (plcD ms))) {n : List Nat} (h : n ∈ ms.map (·.1)) : HasN M k n := ⟨_, by rw [dget_at e, plc_find' nd h]⟩
set_option maxHeartbeats 1000000 in
/-- a lab made of three lists or tuples -/
theorem F_Lab_init_seq {ms rs : List Pr} {mv : List Mv} {q1 q2 q3 : PV} (h : LabG ms rs mv) (e1 : SeqP c.mt M q1 (ms.map pairP)) (e2 : SeqP c.mt M q2 (rs.map pairP)) (e3 : SeqP c.mt M q3 (mv.map mvP)) :
    F_Lab_init c [.ref M.length, q1, q2, q3] (M ++ [.ins c.Lab []]) = .ok .non (M ++ [.ins c.Lab (labF c ms rs mv (M.length + 1) (M.length + 2) (M.length + 3)), .dct (plcD ms), .dct (plcD rs), .dct (stD ms mv)]) := by
  obtain ⟨lm, lr, lv, few⟩ := h.len
  rw [R_Lab_init]
  unfold B_Lab_init
  have E1 : ∀ ex : PM, SeqP c.mt (M ++ ex) q1 (ms.map pairP) := fun ex => e1.app ex
  have E2 : ∀ ex : PM, SeqP c.mt (M ++ ex) q2 (rs.map pairP) := fun ex => e2.app ex
  have E3 : ∀ ex : PM, SeqP c.mt (M ++ ex) q3 (mv.map mvP) := fun ex => e3.app ex
  have sF : ∀ (fs : List (String × PV)) (f : String) (v : PV) (ex : PM), fs.length < 1000 → setF (M ++ PO.ins c.Lab fs :: ex) c.Lab f (.ref M.length) v = some (M ++ PO.ins c.Lab (putS f v fs) :: ex) := fun fs f v ex l => by
    rw [setF_at (fs := fs) at_app0 l, set_app0, List.set_cons_zero]
  have gF : ∀ (fs : List (String × PV)) (f : String) (v : PV) (ex : PM), fs.lookup f = some v → fldP (M ++ PO.ins c.Lab fs :: ex) c.Lab f (.ref M.length) = some v := fun fs f v ex l => fld_at at_app0 l
  generalize hA : PV.tup (ms.map pairP) = A
  generalize hB : PV.tup (rs.map pairP) = B
  generalize hC : PV.tup (mv.map mvP) = C
  generalize hσ : [some (PV.ref M.length), some q1, some q2, some q3, none, none, none, none, none, none] = σ
  have v0 : ∀ N, fVar 0 σ N = .ok (.ref M.length) N := fun N => by rw [← hσ]; rfl
  have t1 : ∀ ex : PM, fGc (fB bTup (fCons (fLc (fI (itQ c.mt) (fVar 1)) (gNm 4) fYes (fB bTup (fCons (fVar 4) fNil)) [4]) fNil)) σ (M ++ ex) = .ok A (M ++ ex) := fun ex => by
    rw [← hA]
    exact tup_seq (by rw [← hσ]; rfl) (E1 ex) (by unfold lim; omega) pairP (fun z _ => by simp) (fun z _ => ⟨_, rfl, fun acc => by rw [← hσ]; rfl⟩)
  have t2 : ∀ ex : PM, fGc (fB bTup (fCons (fLc (fI (itQ c.mt) (fVar 2)) (gNm 4) fYes (fB bTup (fCons (fVar 4) fNil)) [4]) fNil)) σ (M ++ ex) = .ok B (M ++ ex) := fun ex => by
    rw [← hB]
    exact tup_seq (by rw [← hσ]; rfl) (E2 ex) (by unfold lim; omega) pairP (fun z _ => by simp) (fun z _ => ⟨_, rfl, fun acc => by rw [← hσ]; rfl⟩)
  have t3 : ∀ ex : PM, fGc (fB bTup (fCons (fLc (fI (itQ c.mt) (fVar 3)) (gTp (gsCons (gNm 5) (gsCons (gNm 6) (gsCons (gNm 7) (gsCons (gNm 8) gsNil))))) fYes (fTup (fCons (fVar 5) (fCons (fVar 6) (fCons (fB bTup (fCons (fVar 7) fNil)) (fCons (fVar 8) fNil))))) [5, 6, 7, 8]) fNil)) σ (M ++ ex) = .ok C (M ++ ex) := fun ex => by
    rw [← hC]
    exact tup_seq (by rw [← hσ]; rfl) (E3 ex) (by unfold lim; omega) mvP (fun z _ => by simp [tS, wfs_strs]) (fun z _ => ⟨_, rfl, fun acc => by rw [← hσ]; simp [wipeP, tS]⟩)
  have S1 := sF [] "machine_pairs" A [] (by decide)
  have S2 := sF [("machine_pairs", A)] "row_pairs" B [] (by simp)
  have S3 := sF [("machine_pairs", A), ("row_pairs", B)] "whole_moves" C [] (by simp)
  have S4 := sF [("machine_pairs", A), ("row_pairs", B), ("whole_moves", C)] "machine_places" (.ref (M.length + 1)) [.dct (plcD ms)] (by simp)
  have S5 := sF [("machine_pairs", A), ("row_pairs", B), ("whole_moves", C), ("machine_places", .ref (M.length + 1))] "row_places" (.ref (M.length + 2)) [.dct (plcD ms), .dct (plcD rs)] (by simp)
  have S6 := sF [("machine_pairs", A), ("row_pairs", B), ("whole_moves", C), ("machine_places", .ref (M.length + 1)), ("row_places", .ref (M.length + 2))] "stand_lists" (.ref (M.length + 3)) [.dct (plcD ms), .dct (plcD rs), .dct (stD ms mv)] (by simp)
  have S7 := sF [("machine_pairs", A), ("row_pairs", B), ("whole_moves", C), ("machine_places", .ref (M.length + 1)), ("row_places", .ref (M.length + 2)), ("stand_lists", .ref (M.length + 3))] "steps" (.tup (mv.map fun m => (stepOf ms rs m).pv)) [.dct (plcD ms), .dct (plcD rs), .dct (stD ms mv)] (by simp)
  simp [putS] at S1 S2 S3 S4 S5 S6 S7
  generalize hF7 : [("machine_pairs", A), ("row_pairs", B), ("whole_moves", C), ("machine_places", PV.ref (M.length + 1)), ("row_places", .ref (M.length + 2)), ("stand_lists", PV.ref (M.length + 3)), ("steps", .tup (mv.map fun m => (stepOf ms rs m).pv))] = F7 at S7
  have G1 : ∀ ex, fldP (M ++ PO.ins c.Lab [("machine_pairs", A), ("row_pairs", B), ("whole_moves", C)] :: ex) c.Lab "machine_pairs" (.ref M.length) = some A := fun ex => gF _ _ _ ex (by simp)
  have G2 : ∀ ex, fldP (M ++ PO.ins c.Lab [("machine_pairs", A), ("row_pairs", B), ("whole_moves", C)] :: ex) c.Lab "row_pairs" (.ref M.length) = some B := fun ex => gF _ _ _ ex (by simp [List.lookup])
  have G3 : ∀ ex, fldP (M ++ PO.ins c.Lab [("machine_pairs", A), ("row_pairs", B), ("whole_moves", C), ("machine_places", .ref (M.length + 1))] :: ex) c.Lab "row_pairs" (.ref M.length) = some B := fun ex => gF _ _ _ ex (by simp [List.lookup])
  have c1 : ∀ N, F_p_check_machines c [A] N = .ok .non N := fun N => by rw [← hA]; exact F_check_machines_eq (by unfold lim; omega) h.nd1 h.n1
  have c2 : ∀ N, F_p_check_rows c [B] N = .ok .non N := fun N => by rw [← hB]; exact F_check_rows_eq (by unfold lim; omega) h.nd2 h.n2
  have p1 : ∀ N : PM, F_p_places_of c [A] N = .ok (.ref N.length) (N ++ [.dct (plcD ms)]) := fun N => by rw [← hA]; exact F_places_of_eq (by unfold lim; omega) h.nd1
  have p2 : ∀ N : PM, F_p_places_of c [B] N = .ok (.ref N.length) (N ++ [.dct (plcD rs)]) := fun N => by rw [← hB]; exact F_places_of_eq (by unfold lim; omega) h.nd2
  have p3 : ∀ N : PM, F_p_stands_of c [A, C] N = .ok (.ref N.length) (N ++ [.dct (stD ms mv)]) := fun N => by rw [← hA, ← hC]; exact F_stands_of_eq h.nd1 (by omega) (by omega) fun x hx => (h.hmv x hx).hm
  -- fields over the great instance
  generalize hF5 : [("machine_pairs", A), ("row_pairs", B), ("whole_moves", C), ("machine_places", PV.ref (M.length + 1)), ("row_places", .ref (M.length + 2))] = F5 at S5 S6
  generalize hF6 : [("machine_pairs", A), ("row_pairs", B), ("whole_moves", C), ("machine_places", PV.ref (M.length + 1)), ("row_places", .ref (M.length + 2)), ("stand_lists", PV.ref (M.length + 3))] = F6 at S6 S7
  have G5 : ∀ ex, fldP (M ++ PO.ins c.Lab F5 :: ex) c.Lab "machine_pairs" (.ref M.length) = some A ∧ fldP (M ++ PO.ins c.Lab F5 :: ex) c.Lab "whole_moves" (.ref M.length) = some C ∧ fldP (M ++ PO.ins c.Lab F5 :: ex) c.Lab "machine_places" (.ref M.length) = some (.ref (M.length + 1)) ∧ fldP (M ++ PO.ins c.Lab F5 :: ex) c.Lab "row_places" (.ref M.length) = some (.ref (M.length + 2)) := fun ex => by
    rw [← hF5]
    exact ⟨gF _ _ _ ex (by simp [List.lookup]), gF _ _ _ ex (by simp [List.lookup]), gF _ _ _ ex (by simp [List.lookup]), gF _ _ _ ex (by simp [List.lookup])⟩
  have G6 : ∀ ex, fldP (M ++ PO.ins c.Lab F6 :: ex) c.Lab "whole_moves" (.ref M.length) = some C ∧ fldP (M ++ PO.ins c.Lab F6 :: ex) c.Lab "machine_places" (.ref M.length) = some (.ref (M.length + 1)) ∧ fldP (M ++ PO.ins c.Lab F6 :: ex) c.Lab "row_places" (.ref M.length) = some (.ref (M.length + 2)) := fun ex => by
    rw [← hF6]
    exact ⟨gF _ _ _ ex (by simp [List.lookup]), gF _ _ _ ex (by simp [List.lookup]), gF _ _ _ ex (by simp [List.lookup])⟩
  have cm : F_p_check_moves c [C, .ref (M.length + 1), .ref (M.length + 2)] (M ++ [PO.ins c.Lab F5, .dct (plcD ms), .dct (plcD rs)]) = .ok .non (M ++ [PO.ins c.Lab F5, .dct (plcD ms), .dct (plcD rs)]) := by
    rw [← hC]
    refine F_check_moves_eq fun x hx => ?_
    have g := h.hmv x hx
    exact ⟨hasN_plc h.nd1 at_app g.hm, g.hs, actP_mono (fun n hn => hasN_plc h.nd2 at_app hn) g.ha, g.he⟩
  have io : F_Lab_is_over c [.ref M.length] (M ++ [PO.ins c.Lab F6, .dct (plcD ms), .dct (plcD rs), .dct (stD ms mv)]) = .ok (.bl false) (M ++ [PO.ins c.Lab F6, .dct (plcD ms), .dct (plcD rs), .dct (stD ms mv)]) := by
    rw [← h.ov]
    exact F_is_over_eq (k3 := M.length + 3) (fs := F6) at_app0 (by rw [← hF6, ← hA]; simp [List.lookup]) (by rw [← hF6, ← hB]; simp [List.lookup]) (by rw [← hF6, ← hC]; simp [List.lookup]) (by rw [← hF6]; simp [List.lookup]) at_app (by omega)
  have hm : hasM (M ++ [PO.ins c.Lab F6, .dct (plcD ms), .dct (plcD rs), .dct (stD ms mv)]) c.Lab "is_over" (.ref M.length) = true := by
    unfold hasM
    simp only [at_app0, List.getElem?_cons_zero, ← hF6]
    simp [List.lookup]
  have t4 : fGc (fB bTup (fCons (fLc (fI itT (fFld c.Lab "whole_moves" (fVar 0))) (gNm 9) fYes (fCallN (F_p_step_of c) [] (fCons (fVar 9) (fCons (fFld c.Lab "machine_places" (fVar 0)) (fCons (fFld c.Lab "row_places" (fVar 0)) fNil)))) [9]) fNil)) σ (M ++ [PO.ins c.Lab F6, .dct (plcD ms), .dct (plcD rs), .dct (stD ms mv)]) = .ok (.tup (mv.map fun m => (stepOf ms rs m).pv)) (M ++ [PO.ins c.Lab F6, .dct (plcD ms), .dct (plcD rs), .dct (stD ms mv)]) := by
    refine tup_tup (zs := mv) (e := mvP) ?_ (by unfold lim; omega) (fun m => (stepOf ms rs m).pv) (fun z _ => by simp) (fun z hz => ?_)
    · rw [ev_fFld, v0, bnd_ok, (G6 _).1, asF_some, hC]
    · refine ⟨_, rfl, fun acc => ?_⟩
      have so := F_step_of_eq (c := c) (m := z) (k1 := M.length + 1) (k2 := M.length + 2) (M := M ++ [PO.ins c.Lab F6, .dct (plcD ms), .dct (plcD rs), .dct (stD ms mv)] ++ [.lst acc]) h.nd1 h.nd2 (by rw [List.append_assoc]; exact at_app) (by rw [List.append_assoc]; exact at_app) (h.hmv z hz)
      have w0 : fVar 0 ((wipeP σ [9]).set 9 (some (mvP z))) (M ++ [PO.ins c.Lab F6, .dct (plcD ms), .dct (plcD rs), .dct (stD ms mv)] ++ [.lst acc]) = .ok (.ref M.length) (M ++ [PO.ins c.Lab F6, .dct (plcD ms), .dct (plcD rs), .dct (stD ms mv)] ++ [.lst acc]) := by rw [← hσ]; rfl
      have w9 : fVar 9 ((wipeP σ [9]).set 9 (some (mvP z))) (M ++ [PO.ins c.Lab F6, .dct (plcD ms), .dct (plcD rs), .dct (stD ms mv)] ++ [.lst acc]) = .ok (mvP z) (M ++ [PO.ins c.Lab F6, .dct (plcD ms), .dct (plcD rs), .dct (stD ms mv)] ++ [.lst acc]) := by rw [← hσ]; rfl
      have g1 := (G6 ([.dct (plcD ms), .dct (plcD rs), .dct (stD ms mv)] ++ [.lst acc])).2
      rw [← List.cons_append, ← List.append_assoc] at g1
      simp only [ev_fCallN, ev_fCons, w9, bnd_ok, ev_fFld, w0, g1.1, g1.2, asF_some, ev_fNil, List.append_nil, so, nox_ok]
  simp only [ev_fSeq, ev_fSetF, t1, t2, t3, t4, go_ok, v0, S1, S2, S3, toM_some, then2_nx, ev_fDrop, ev_fCall, ev_fCons, ev_fFld, bnd_ok, G1, G2, asF_some, ev_fNil, List.append_nil, c1, c2, p1, p2, List.length_append, List.length_cons, List.length_nil, Nat.zero_add, List.append_assoc, List.cons_append, List.nil_append, Nat.reduceAdd, S4, G3, S5, G5, cm, p3, S6, ev_fIfS, ev_fTest, ev_fMeth, hm, if_true, io, asB_bl, ev_fNext, S7]
  rw [show labF c ms rs mv (M.length + 1) (M.length + 2) (M.length + 3) = F7 from by rw [← hF7, ← hA, ← hB, ← hC]; rfl]
  rw [if_neg (by decide : ¬ (false = true))]
  simp only [ev_fNext, then2_nx, ev_fSetF, t4, go_ok, v0, S7, toM_some, fnRes_nx]
  have nk : ¬ keepOk (M ++ [PO.ins c.Lab []]) (M ++ [PO.ins c.Lab F7, PO.dct (plcD ms), PO.dct (plcD rs), PO.dct (stD ms mv)]) := fun z => by
    have z := z.2 M.length (by simp)
    rw [at_app0, at_app0] at z
    rcases z with z | ⟨o, z, w⟩
    · simp only [List.getElem?_cons_zero, Option.some.injEq, PO.ins.injEq, true_and] at z
      rw [← hF7] at z
      cases z
    · simp only [List.getElem?_cons_zero, Option.some.injEq] at z
      subst z
      have := w ("machine_places", .ref (M.length + 1)) (by rw [← hF7]; simp)
      simp at this
  unfold gc
  simp only
  rw [if_neg fun z => nk z.1]
/-- a lab made of three lists -/
theorem F_Lab_init_eq {ms rs : List Pr} {mv : List Mv} {l1 l2 l3 : Nat} (h : LabG ms rs mv) (e1 : M[l1]? = some (.lst (ms.map pairP))) (e2 : M[l2]? = some (.lst (rs.map pairP))) (e3 : M[l3]? = some (.lst (mv.map mvP))) :
    F_Lab_init c [.ref M.length, .ref l1, .ref l2, .ref l3] (M ++ [.ins c.Lab []]) = .ok .non (M ++ [.ins c.Lab (labF c ms rs mv (M.length + 1) (M.length + 2) (M.length + 3)), .dct (plcD ms), .dct (plcD rs), .dct (stD ms mv)]) :=
  F_Lab_init_seq h (.inl ⟨_, rfl, e1⟩) (.inl ⟨_, rfl, e2⟩) (.inl ⟨_, rfl, e3⟩)
end Pu
namespace Pu
open PySem PySem.Spec PyProof.Rows L2 LB
open Classical
variable {c : CA} {M M' M'' : PM} {b : Nat}
/-! ### what is drawn may be a lab -/
theorem actP_of {p : PD} (lc : ∀ c ∈ p.letters, 97 ≤ c ∧ c < 123) {a : List (List Nat)} (h : ActOk p a) : ActN (p.rows.map (·.1)) a := by
  cases h with
  | idle => exact .idle
  | bare h => exact .bare (List.mem_map_of_mem h)
  | send h hc => exact .send (List.mem_map_of_mem h) (lc _ hc)
  | take h hc => exact .take (List.mem_map_of_mem h) (lc _ hc)
theorem PlanOk.labG {p : PD} {ma st ro mo : Nat} (h : PlanOk p ma st ro mo) (h1 : ma ≤ 3) (h2 : st ≤ 6) (h3 : ro ≤ 3) (h4 : mo ≤ 24) : LabG p.machines p.rows p.moves := by
  obtain ⟨ns, nl, l12, e1, e2⟩ := h.nms
  have nd1 : (p.machines.map (·.1)).Nodup := by rw [e1]; exact nl.nd.sublist (List.take_sublist _ _)
  have nd2 : (p.rows.map (·.1)).Nodup := by rw [e2]; exact nl.nd.sublist ((List.take_sublist _ _).trans (List.drop_sublist _ _))
  have mk : ∀ m ∈ p.moves, ∃ (i : Nat) (hi : i < p.machines.length) (hj : i < p.stands.length), m.1 = p.machines[i].1 ∧ m.2.1 ∈ p.stands[i] ∧ ActOk p m.2.2.1 ∧ m.2.2.2 ∈ p.stands[i] := fun m hm => by
    obtain ⟨i, x, ss, g1, g2, q⟩ := h.mv m hm
    obtain ⟨hi, rfl⟩ := List.getElem?_eq_some_iff.mp g1
    obtain ⟨hj, rfl⟩ := List.getElem?_eq_some_iff.mp g2
    exact ⟨i, hi, hj, q⟩
  refine ⟨nd1, nd2, fun x hx => ?_, fun x hx => ?_, fun m hm => ?_, ?_⟩
  · obtain ⟨i, hi, rfl⟩ := List.mem_iff_getElem.mp hx
    have hj : i < p.stands.length := by rw [h.ls, ← h.lm]; exact hi
    refine ⟨nl.ok _ (List.mem_of_mem_take (i := ma) (by rw [← e1]; exact List.mem_map_of_mem hx)), (h.ss _ (List.getElem_mem hj)).1.ok _ (h.ms i _ _ (List.getElem?_eq_getElem hi) (List.getElem?_eq_getElem hj))⟩
  · have := h.rw x hx
    exact ⟨nl.ok _ (List.mem_of_mem_drop (List.mem_of_mem_take (i := ro) (by rw [← e2]; exact List.mem_map_of_mem hx))), by omega, fun y hy => h.lc _ (this.2 y hy)⟩
  · obtain ⟨i, hi, hj, q1, q2, q3, q4⟩ := mk m hm
    have s := (h.ss _ (List.getElem_mem hj)).1
    exact ⟨by rw [q1]; exact List.mem_map_of_mem (List.getElem_mem hi), s.ok _ q2, actP_of h.lc q3, s.ok _ q4⟩
  · have lm := h.lm
    have lr := h.lr
    have lv : p.moves.length ≤ mo := by
      rw [h.lv]
      split
      · exact Nat.le_refl _
      · exact Nat.zero_le _
    unfold overB
    rw [Bool.or_eq_false_iff, Bool.or_eq_false_iff, Bool.or_eq_false_iff, decide_eq_false_iff_not, decide_eq_false_iff_not, decide_eq_false_iff_not, List.any_eq_false]
    refine ⟨⟨⟨by omega, by omega⟩, by omega⟩, fun x hx => ?_⟩
    obtain ⟨i, hi, rfl⟩ := List.mem_iff_getElem.mp hx
    have hj : i < p.stands.length := by rw [h.ls, ← h.lm]; exact hi
    have ls := (h.ss _ (List.getElem_mem hj)).2.2
    have : (stOf p.moves p.machines[i]).length ≤ p.stands[i].length := by
      refine List.Nodup.length_le_of_subset nodup_sortU fun y hy => ?_
      rcases List.mem_cons.mp (mem_sortU.mp hy) with rfl | hy
      · exact h.ms i _ _ (List.getElem?_eq_getElem hi) (List.getElem?_eq_getElem hj)
      · obtain ⟨m, hm, hy2⟩ := List.mem_flatMap.mp hy
        split at hy2
        · rename_i e
          obtain ⟨i', hi', hj', q1, q2, q3, q4⟩ := mk m hm
          obtain rfl := nd_get nd1 hi' hi (q1.symm.trans e)
          rcases List.mem_cons.mp hy2 with rfl | hy2
          · exact q2
          · rw [List.mem_singleton.mp hy2]
            exact q4
        · cases hy2
    simp
    omega
/-! ### the law's lab -/
theorem bLst_lst {k : Nat} {xs : List PV} (e : M[k]? = some (.lst xs)) : bLst [.ref k] M = .ok (.ref M.length) (M ++ [.lst xs]) := by unfold bLst seqAt; simp only [lstAt_ref' M k xs e]
theorem F_lab_eq {d l m r v t : Nat} {ks : List Nat} {p : PD} (P : PlanAt M d l m r v t ks p) (h : LabG p.machines p.rows p.moves) :
    ∃ ex, F_lab c [.ref d] M = .ok (.ref (M.length + 3)) (M ++ ex) ∧ LabAt c (M ++ ex) (M.length + 3) p.machines p.rows p.moves := by
  have gd : ∀ ex : PM, (M ++ ex)[d]? = some (.dct (planD l m r v t)) := fun ex => by rw [List.getElem?_append_left (List.getElem?_eq_some_iff.mp P.d).1]; exact P.d
  have gm : ∀ ex : PM, (M ++ ex)[m]? = some (.lst (p.machines.map pairP)) := fun ex => by rw [List.getElem?_append_left (List.getElem?_eq_some_iff.mp P.m).1]; exact P.m
  have gr : ∀ ex : PM, (M ++ ex)[r]? = some (.lst (p.rows.map pairP)) := fun ex => by rw [List.getElem?_append_left (List.getElem?_eq_some_iff.mp P.r).1]; exact P.r
  have gv : ∀ ex : PM, (M ++ ex)[v]? = some (.lst (p.moves.map mvP)) := fun ex => by rw [List.getElem?_append_left (List.getElem?_eq_some_iff.mp P.v).1]; exact P.v
  generalize hN : M ++ [PO.lst (p.machines.map pairP), .lst (p.rows.map pairP), .lst (p.moves.map mvP)] = N
  have lN : N.length = M.length + 3 := by rw [← hN]; simp
  have I := F_Lab_init_eq (c := c) (M := N) (l1 := M.length) (l2 := M.length + 1) (l3 := M.length + 2) h (by rw [← hN]; exact at_app0) (by rw [← hN]; exact at_app) (by rw [← hN]; exact at_app)
  refine ⟨[PO.lst (p.machines.map pairP), .lst (p.rows.map pairP), .lst (p.moves.map mvP)] ++ [.ins c.Lab (labF c p.machines p.rows p.moves (N.length + 1) (N.length + 2) (N.length + 3)), .dct (plcD p.machines), .dct (plcD p.rows), .dct (stD p.machines p.moves)], ?_, ?_⟩
  · rw [← List.append_assoc, hN, lN]
    rw [lN] at I
    rw [R_lab]
    unfold B_lab
    have b1 := bLst_lst (gm [])
    rw [List.append_nil] at b1
    have b2 := bLst_lst (gr [.lst (p.machines.map pairP)])
    have b3 := bLst_lst (gv ([.lst (p.machines.map pairP)] ++ [.lst (p.rows.map pairP)]))
    rw [← List.append_assoc] at b3
    have hN2 : M ++ [PO.lst (p.machines.map pairP)] ++ [.lst (p.rows.map pairP)] ++ [.lst (p.moves.map mvP)] = N := by rw [← hN]; simp
    have gd2 := gd ([.lst (p.machines.map pairP)] ++ [.lst (p.rows.map pairP)])
    rw [← List.append_assoc] at gd2
    rw [hN2] at b3
    rw [List.length_append, List.length_append, List.length_singleton, List.length_singleton] at b3
    rw [List.length_append, List.length_singleton] at b2
    simp only [ev_fRet, ev_fMake, ev_fCons, ev_fB, ev_fDGet, ev_fVar0, ev_fC, bnd_ok, pg_m P.d, asV_some, ev_fNil, b1, pg_r (gd [.lst (p.machines.map pairP)]), b2, pg_v gd2, b3, List.append_nil, List.cons_append, List.nil_append, I, asN, go_ok, fnRes_rt, lN]
    have e0 : (N ++ [PO.ins c.Lab (labF c p.machines p.rows p.moves (N.length + 1) (N.length + 2) (N.length + 3)), .dct (plcD p.machines), .dct (plcD p.rows), .dct (stD p.machines p.moves)])[M.length + 3]? = some (PO.ins c.Lab (labF c p.machines p.rows p.moves (N.length + 1) (N.length + 2) (N.length + 3))) := by rw [← lN]; exact at_app0
    rw [lN] at e0
    refine gc_no (M := M) (by omega) e0 fun w => ?_
    have := (w ("machine_places", .ref (M.length + 3 + 1)) (by simp [labF]))
    simp at this
    omega
  · rw [← List.append_assoc, hN, ← lN]
    exact ⟨⟨_, _, _, at_app0, at_app, at_app, at_app⟩⟩
theorem LabAt.kp {E : Nat → Prop} {x : Nat} {ms rs : List Pr} {mv : List Mv} (h : LabAt c M x ms rs mv) (k : Kp E M M') (n : ∀ i, E i → ∃ xs, M[i]? = some (.lst xs)) : LabAt c M' x ms rs mv := by
  obtain ⟨k1, k2, k3, e0, e1, e2, e3⟩ := h.ex
  have nl : ∀ {i : Nat} {o : PO}, M[i]? = some o → (∀ xs, o ≠ .lst xs) → ¬ E i := fun e q z => by
    obtain ⟨xs, e2⟩ := n _ z
    rw [e] at e2
    exact q xs (Option.some.inj e2)
  exact ⟨⟨k1, k2, k3, k.at e0 (nl e0 fun _ z => nomatch z), k.at e1 (nl e1 fun _ z => nomatch z), k.at e2 (nl e2 fun _ z => nomatch z), k.at e3 (nl e3 fun _ z => nomatch z)⟩⟩
theorem LabAt.app {x : Nat} {ms rs : List Pr} {mv : List Mv} {ex : PM} (h : LabAt c M x ms rs mv) : LabAt c (M ++ ex) x ms rs mv := h.kp (E := fun _ => False) .app fun _ z => z.elim
theorem LabAt.dr {s x : Nat} {ms rs : List Pr} {mv : List Mv} (h : LabAt c M x ms rs mv) (hb : BagAt M b s) (k : Dr b s M M') : LabAt c M' x ms rs mv := h.kp (E := (· = b)) (k.kp rfl) fun i z => by
  obtain ⟨_, ns, i, r, sd, ct, e, _⟩ := hb
  exact ⟨_, z ▸ e⟩
/-! ### scenes -/
def hasB (ms rs : List Pr) (mv : List Mv) (ss ws : List (List Nat)) : Bool := decide (ss.length = ms.length) && decide (ws.length = rs.length) && ((ms.zip ss).all fun z => decide (z.2 ∈ stOf mv z.1)) && ws.all (·.all low)
def Wd (l : List (List Nat)) : Prop := ∀ z ∈ l, z.length < 1000
end Pu
namespace Pu
open PySem PySem.Spec PyProof.Rows L2 LB
open Classical
variable {c : CA} {M M' M'' : PM} {b : Nat}
/-! ### best scenes, ways -/
structure ScG (ms rs : List Pr) (mv : List Mv) (ss ws : List (List Nat)) : Prop where
  has : hasB ms rs mv ss ws = true
  lw : Wd ws
/-! ### a comprehension that leaves things behind -/
/-! ### a drawn scene -/
theorem PlanAt.dr {s d l m r v t : Nat} {ks : List Nat} {p : PD} (P : PlanAt M d l m r v t ks p) (nb : ∀ i, plAd d l m r v t ks i → i ≠ b) (k : Dr b s M M') (ex : PM) : PlanAt (M' ++ ex) d l m r v t ks p :=
  P.kp ((k.kp (E := (· = b)) rfl).trans .app) nb
end Pu
namespace Pu
open PySem PySem.Spec PyProof.Rows L2 LB
open Classical
/-! ### lists held against the empty one -/
/-! ### the law's within -/
/-! ### a scene made greater -/
end Pu
namespace Pu
open PySem PySem.Spec PyProof.Rows L2 LB
open Classical
variable {c : CA} {M M' M'' : PM} {b : Nat}
/-! ### a lab that stands beside its plan -/
structure LabE (c : CA) (M : PM) (b s d x : Nat) (p : PD) : Prop where
  bag : BagAt M b s
  pl : ∃ l m r v t ks, PlanAt M d l m r v t ks p ∧ ∀ i, plAd d l m r v t ks i → i ≠ b
  lab : LabAt c M x p.machines p.rows p.moves
theorem LabE.dr {s d x : Nat} {p : PD} (h : LabE c M b s d x p) (k : Dr b s M M') (ex : PM) : LabE c (M' ++ ex) b s d x p := by
  obtain ⟨l, m, r, v, t, ks, P, nb⟩ := h.pl
  exact ⟨k.bag.app, ⟨l, m, r, v, t, ks, P.dr nb k ex, nb⟩, (h.lab.dr h.bag k).app⟩
theorem LabE.app {s d x : Nat} {p : PD} (h : LabE c M b s d x p) (ex : PM) : LabE c (M ++ ex) b s d x p := h.dr (.refl h.bag) ex
/-! ### scenes of a lab -/
theorem low_of {y : Nat} (h : 97 ≤ y ∧ y < 123) : low y = true := decide_eq_true h
/-- a scene of few small words -/
structure ScW (ms rs : List Pr) (mv : List Mv) (ss ws : List (List Nat)) (top : Nat) : Prop where
  g : ScG ms rs mv ss ws
  nm : ∀ s ∈ ss, isNm s
  wd : ∀ w ∈ ws, w.length ≤ top ∧ ∀ y ∈ w, 97 ≤ y ∧ y < 123
theorem ScW.wdsS {ms rs : List Pr} {mv : List Mv} {ss ws : List (List Nat)} {top : Nat} (h : ScW ms rs mv ss ws top) : Wds ss := fun s hs => ⟨isNm_asc (h.nm s hs), by have := (h.nm s hs).2.1; omega⟩
theorem ScW.wdsW {ms rs : List Pr} {mv : List Mv} {ss ws : List (List Nat)} {top : Nat} (h : ScW ms rs mv ss ws top) (ht : top < 1000) : Wds ws := fun s hs => ⟨fun y hy => by have := (h.wd s hs).2 y hy; omega, by have := (h.wd s hs).1; omega⟩
/-! ### greater scenes -/
/-! ### numbers in lists -/
end Pu
namespace Pu
open PySem PySem.Spec PyProof.Rows L2 LB
/-! #### leak_after -/
/-! #### leaked -/
/-! #### law: put -/
end Pu
namespace Pu
open PySem PySem.Spec PyProof.Rows L2 LB
open Classical
variable {c : CA} {M M' M'' : PM} {b : Nat}
/-! ### leaks -/
/-! ### what refusals tell -/
@[simp] theorem told_ok {cs : List Addr} {p : PV} : toldP cs (.ok p M) = .ok (.tup [.str [108, 101, 116], .int (-1)]) M := id rfl
theorem asc_by {l : List Nat} (h : (l.all fun x => decide (x < 128)) = true) : asc l := fun x hx => of_decide_eq_true (List.all_eq_true.mp h x hx)
theorem flt_scP {ss ws : List (List Nat)} {n : Nat} (l1 : ss.length < 1000) (l2 : ws.length < 1000) : Flt (n + 2) (scP ss ws) := by
  refine ⟨by simp, fun x hx => ?_⟩
  rcases List.mem_cons.mp hx with rfl | hx
  · refine ⟨by rw [List.length_map]; omega, fun y hy => ?_⟩
    obtain ⟨z, _, rfl⟩ := List.mem_map.mp hy
    cases n <;> trivial
  · rw [List.mem_singleton.mp hx]
    refine ⟨by rw [List.length_map]; omega, fun y hy => ?_⟩
    obtain ⟨z, _, rfl⟩ := List.mem_map.mp hy
    cases n <;> trivial
end Pu
namespace Pu
open PySem PySem.Spec PyProof.Rows L2 LB
/-! #### is_ready -/
/-! #### done_after -/
/-! #### can -/
/-! #### done -/
end Pu
namespace Pu
open PySem PySem.Spec PyProof.Rows L2 LB
/-! #### law: begin -/
noncomputable def B_begin (c : CA) : FS :=
  (fRet (fTup (fCons (fGc (fB bTup (fCons (fLc (fI itL (fDGet (fVar 0) (fC (.str [109, 97, 99, 104, 105, 110, 101, 115])))) (gTp (gsCons (gNm 1) (gsCons (gNm 2) gsNil))) fYes (fVar 2) [1, 2]) fNil))) (fCons (fGc (fB bTup (fCons (fLc (fI itL (fDGet (fVar 0) (fC (.str [114, 111, 119, 115])))) (gTp (gsCons (gNm 1) (gsCons (gNm 3) gsNil))) fYes (fVar 3) [1, 3]) fNil))) fNil))))
noncomputable def F_begin (c : CA) : FF := fnOf 1 4 (B_begin c)
theorem R_begin (c : CA) (a0 : PV) (M : PM) : F_begin c [a0] M = gc M (fnRes (B_begin c [some a0, none, none, none] M)) := fn_at rfl
/-! #### law: place -/
/-! #### law: led -/
/-! #### law: best -/
/-! #### law: done -/
end Pu
namespace Pu
open PySem PySem.Spec PyProof.Rows L2 LB
/-! #### law: wild -/
end Pu
namespace Pu
open PySem PySem.Spec PyProof.Rows L2 LB
open Classical
/-! ### places by name, the law's own walk -/
end Pu
namespace Pu
open PySem PySem.Spec PyProof.Rows L2 LB
open Classical
/-! ### a move that is none; wild numbers -/
end Pu
namespace Pu
open PySem PySem.Spec PyProof.Rows L2 LB
open Classical
variable {c : CA} {M M' M'' : PM} {b : Nat}
/-! ### moves done -/
/-! ### the law's done, the begin -/
theorem F_begin_eq {d l m r v t : Nat} {ks : List Nat} {p : PD} (P : PlanAt M d l m r v t ks p) (lm : p.machines.length < 1000) (lr : p.rows.length < 1000) : F_begin c [.ref d] M = .ok (scP (p.machines.map (·.2)) (p.rows.map (·.2))) M := by
  rw [R_begin]
  unfold B_begin
  have t1 : (fGc (fB bTup (fCons (fLc (fI itL (fDGet (fVar 0) (fC (.str [109, 97, 99, 104, 105, 110, 101, 115])))) (gTp (gsCons (gNm 1) (gsCons (gNm 2) gsNil))) fYes (fVar 2) [1, 2]) fNil))) [some (.ref d), none, none, none] M = .ok (tS (p.machines.map (·.2))) M := by
    have lc := lc_mapF (ok := fun M' => M'[m]? = some (.lst (p.machines.map pairP))) (g := gTp (gsCons (gNm 1) (gsCons (gNm 2) gsNil))) (ft := fYes) (fe := fVar 2) (σ := wipeP [some (.ref d), none, none, none] [1, 2]) (e := pairP) (h := fun x => PV.str x.2) (M := M) (zs := p.machines) (acc := []) (fun acc => by rw [List.getElem?_append_left (List.getElem?_eq_some_iff.mp P.m).1]; exact P.m) (by simp [lim]; omega) (fun z hz => ⟨_, rfl, fun acc => ⟨rfl, rfl⟩⟩)
    rw [List.nil_append] at lc
    simp only [ev_fGc, ev_fB, ev_fCons, ev_fLc, ev_fI, ev_fDGet, ev_fVar0, ev_fC, bnd_ok, pg_m P.d, asV_some, itL_at P.m, lc, ev_fNil, bTup_lst (List.getElem?_concat_length ..)]
    rw [gc_flat (by rw [wf_tup, wfs_iff]; intro x hx; obtain ⟨z, _, rfl⟩ := List.mem_map.mp hx; simp)]
    simp [tS]
  have t2 : (fGc (fB bTup (fCons (fLc (fI itL (fDGet (fVar 0) (fC (.str [114, 111, 119, 115])))) (gTp (gsCons (gNm 1) (gsCons (gNm 3) gsNil))) fYes (fVar 3) [1, 3]) fNil))) [some (.ref d), none, none, none] M = .ok (tS (p.rows.map (·.2))) M := by
    have lc := lc_mapF (ok := fun M' => M'[r]? = some (.lst (p.rows.map pairP))) (g := gTp (gsCons (gNm 1) (gsCons (gNm 3) gsNil))) (ft := fYes) (fe := fVar 3) (σ := wipeP [some (.ref d), none, none, none] [1, 3]) (e := pairP) (h := fun x => PV.str x.2) (M := M) (zs := p.rows) (acc := []) (fun acc => by rw [List.getElem?_append_left (List.getElem?_eq_some_iff.mp P.r).1]; exact P.r) (by simp [lim]; omega) (fun z hz => ⟨_, rfl, fun acc => ⟨rfl, rfl⟩⟩)
    rw [List.nil_append] at lc
    simp only [ev_fGc, ev_fB, ev_fCons, ev_fLc, ev_fI, ev_fDGet, ev_fVar0, ev_fC, bnd_ok, pg_r P.d, asV_some, itL_at P.r, lc, ev_fNil, bTup_lst (List.getElem?_concat_length ..)]
    rw [gc_flat (by rw [wf_tup, wfs_iff]; intro x hx; obtain ⟨z, _, rfl⟩ := List.mem_map.mp hx; simp)]
    simp [tS]
  simp only [ev_fRet, ev_fTup, ev_fCons, t1, t2, bnd_ok, ev_fNil, List.length_cons, List.length_nil, Nat.zero_add, Nat.reduceAdd, lim2, if_true, go_ok, fnRes_rt, gc_id]
end Pu
namespace Pu
open PySem PySem.Spec PyProof.Rows L2 LB
/-! #### check_names -/
/-! #### check_wish -/
/-! #### grants -/
/-! #### law: wish -/
/-! #### law: grants -/
/-! #### law: scene_for -/
end Pu
namespace Pu
open PySem PySem.Spec PyProof.Rows L2 LB
/-! #### Lab.machines -/
noncomputable def B_Lab_machines (c : CA) : FS :=
  (fRet (fB bLst (fCons (fFld c.Lab "machine_pairs" (fVar 0)) fNil)))
noncomputable def F_Lab_machines (c : CA) : FF := fnOf 1 1 (B_Lab_machines c)
theorem R_Lab_machines (c : CA) (a0 : PV) (M : PM) : F_Lab_machines c [a0] M = gc M (fnRes (B_Lab_machines c [some a0] M)) := fn_at rfl
/-! #### Lab.rows -/
noncomputable def B_Lab_rows (c : CA) : FS :=
  (fRet (fB bLst (fCons (fFld c.Lab "row_pairs" (fVar 0)) fNil)))
noncomputable def F_Lab_rows (c : CA) : FF := fnOf 1 1 (B_Lab_rows c)
theorem R_Lab_rows (c : CA) (a0 : PV) (M : PM) : F_Lab_rows c [a0] M = gc M (fnRes (B_Lab_rows c [some a0] M)) := fn_at rfl
/-! #### Lab.stands -/
/-! #### above_any -/
/-! #### letters_in -/
/-! #### least_up_to -/
/-! #### least -/
/-! #### stand_choices -/
/-! #### all_of -/
/-! #### least_for -/
/-! #### least_of -/
/-! #### law: least -/
/-! #### law: all_stands -/
end Pu
/-! str(x), x of an own class with a __str__ of its own. -/
namespace L2
open PySem PySem.Spec PyProof.Rows
section
variable {X : Cx}
open Builtin Builtin.Str in
theorem strOwn_any {prog : Program} {w : World} {B : Around} {E : Value → Shared → Prop} {s0 : Shared} {K : PySem.W.Frag} {x0 C0 f0 : Addr} {ob : Obj} {od : Option Obj} {R : Value → Shared → Prop} (hu2 : B.in1.in1.units < cLine) (hK : K.In s0.heap) (J : PySem.W.InstAt s0.heap x0 ob C0 od)
    (h1 : PySem.W.findIn K (.ref C0) "__str__" = some (some (.ref f0))) (h2 : PySem.W.isFn K (.ref f0) = true) (go : wpAny (model prog w) B.in1.in1 (call (.ref f0) [.ref x0]) (PySem.W.StrBack R) E s0) : wpAny (model prog w) B (call (.type "str") [.ref x0]) R E s0 := by
  refine callType_codes (T := "str") (Bi := Builtin.«object.__init__») (Q₁ := fun v s2 => ∃ z q, v = .str z q ∧ R v s2) PySem.F.called_str (PySem.F.typeCall_str_1 _) PySem.F.entry_object_init ?_ ?_
  · refine codeAny_of_tree ?_
    show wpAny _ B.in1.in1 (do checkBuiltinCall "str.__new__" ⟨[.type "str", .ref x0], []⟩; again (.builtin "str.__new__" ⟨[.type "str", .ref x0], []⟩)) _ _ s0
    refine wpAny_bind (wpAny_of_eq (PySem.F.newCall_str_1 _) (wpAny_pure ⟨plainId_quiet (by decide +kernel) _, codeAny_builtin PySem.F.entry_str_new ?_⟩))
    rw [Around.under_plainId (by decide +kernel) _, str_new_tree]
    refine wpAny_bind (wpAny_pure (wpAny_bind (wpAny_of_eq isSubtype_str_str ?_)))
    have core : wpAny (model prog w) B.in1.in1 (PySem.Builtin.Str.strOf (.ref x0)) (fun v s2 => ∃ z q, v = .str z q ∧ R v s2) E s0 := by
      unfold PySem.Builtin.Str.strOf
      rw [show isExactStr (.ref x0) = false from rfl]
      refine wpAny_bind (m := cRoomFor _ _) (wpAny_cRoomFor hu2 ?_)
      refine wpAny_bind (m := callSpecial? (.ref x0) (Str.ofString "__str__")) (PySem.W.special_fn hK J h1 (beq_iff_eq.mp h2) (wpAny_mono go (fun v s2 z => ?_) fun _ _ y => y))
      cases v <;> first | exact z.elim | exact wpAny_pure ⟨_, _, rfl, z⟩
    exact wpAny_bind (wpAny_mono core (fun v s2 z => wpAny_pure z) fun _ _ y => y)
  · rintro ob1 s2 ⟨z, q, rfl, hq⟩
    exact ⟨typeIs_str _ _ _, PySem.F.args_object_init_2 _ _, object_init_meets PySem.F.called_str.init.lookup PySem.F.called_str.made (by decide) prog w B.in1 _ s2 ⟨typeIs_str _ _ _, rfl, hq⟩⟩
theorem call_strOwn {C f : Addr} {fd : FuncData} {ps : List Str} {n : Nat} {sp : Sp} (F : FnOk X.prog X.w X.K X.mg X.base CX0 n f fd ps sp) (hr : Room (n + 2) X.A) (hm : Meth X.K C "__str__" f) (hb : Binds X.K fd ps []) : CallR X (.type "str") (rReprOwn C sp) := by
  intro pins s σ H vs us Q I r h
  obtain ⟨a, dx, fs, rfl, ha, hsp⟩ := h
  obtain ⟨u, rfl, rx⟩ := r.one
  cases rx
  obtain ⟨mA, J, _⟩ := ins_get I.hok ha
  obtain ⟨od, J, _⟩ := J.look
  have hl := F.len _ _ _ _ hsp
  have r2 := Room.in1 (Room.in1 hr)
  refine strOwn_any r2.units0 I.kIn J hm.at_ hm.fn ?_
  refine wpAny_mono (Q := PySem.W.StrBack (EP X pins σ Q)) ?_ (fun _ _ z => z) fun _ _ (z : False) => z.elim
  refine wpAny_call (codeAny_mono (F.run X.A.in1.in1 X.stack s H ⟨[.ref a], []⟩ [.ref a] [.ref a] _ _ r2 I.env0.in1.in1 (by
    have := hb s [.ref a] I.kIn (by simpa using hl)
    simpa using this) (.cons rfl .nil) hsp) fun r s' hq => ?_)
  cases r with
  | error e => exact (hq : False).elim
  | ok fl =>
    cases fl with
    | ret w =>
      obtain ⟨z, H', I', rz, x, ez, q⟩ := I.after hq
      subst ez
      obtain ⟨t, rfl⟩ := rz
      exact ⟨.str x, H', I', ⟨_, rfl⟩, q⟩
    | next => exact False.elim hq
    | brk => exact False.elim hq
    | cont => exact False.elim hq
end
end L2
/-! x or y by truth, as a value. -/
namespace Pu
open PySem PySem.Spec PyProof.Rows L2 LB
def fOrT (f g : FE) : FE := fun σ M => (f σ M).bnd fun p M1 => (asT p M1).bnd fun b M2 => if b = true then .ok p M2 else g σ M2
@[simp] theorem ev_fOrT (f g : FE) (σ : PS) (M : PM) : fOrT f g σ M = (f σ M).bnd fun p M1 => (asT p M1).bnd fun b M2 => if b = true then .ok p M2 else g σ M2 := id rfl
section
variable {tb : List (Addr × Str)} {E : XK} {K : PySem.W.Frag} {ta tb' : TE} {fa fb : FE}
theorem sm_orT (ha : SmE tb E ta fa) (hb : SmE tb E tb' fb) : SmE tb E (tOrT K ta tb') (fOrT fa fb) := fun ι M H σp σ Q R S w =>
  ha.to R S w fun ι1 M1 H1 p v o1 S1 rv w1 => by
    unfold asT at w1
    split at w1
    · rename_i b e
      refine ⟨b, tru_of o1.r rv e, ?_⟩
      cases b with
      | true => exact Wp.okNow w1 o1.r rv
      | false => exact hb ι1 M1 H1 σp σ Q o1.r S1 w1
    · exact w1.elim
end
end Pu
namespace Pu
open PySem PySem.Spec PyProof.Rows L2 LB
/-! #### word_text -/
noncomputable def B_p_word_text (c : CA) : FS :=
  (fRet (fIf (fTru (fVar 0)) (fVar 0) (fC (.str [45]))))
noncomputable def F_p_word_text (c : CA) : FF := fnOf 1 1 (B_p_word_text c)
theorem R_p_word_text (c : CA) (a0 : PV) (M : PM) : F_p_word_text c [a0] M = gc M (fnRes (B_p_word_text c [some a0] M)) := fn_at rfl
/-! #### act_text -/
noncomputable def B_p_act_text (c : CA) : FS :=
  (fRet (fM1 mJoin (fC (.str [46])) (fVar 0)))
noncomputable def F_p_act_text (c : CA) : FF := fnOf 1 1 (B_p_act_text c)
theorem R_p_act_text (c : CA) (a0 : PV) (M : PM) : F_p_act_text c [a0] M = gc M (fnRes (B_p_act_text c [some a0] M)) := fn_at rfl
/-! #### lab_lines -/
noncomputable def B_p_lab_lines (c : CA) : FS :=
  (fSeq (fAsg (fLc (fI itL (fMeth c.Lab "machines" (F_Lab_machines c) [] (fVar 0) fNil)) (gTp (gsCons (gNm 4) (gsCons (gNm 5) gsNil))) fYes (fJs [(fC (.str [109, 97, 99, 104, 105, 110, 101, 32])), (fFmt (fVar 4)), (fC (.str [32])), (fFmt (fVar 5))] []) [4, 5]) (gNm 1))
  (fSeq (fAsg (fLc (fI itL (fMeth c.Lab "rows" (F_Lab_rows c) [] (fVar 0) fNil)) (gTp (gsCons (gNm 4) (gsCons (gNm 6) gsNil))) fYes (fJs [(fC (.str [114, 111, 119, 32])), (fFmt (fVar 4)), (fC (.str [32])), (fFmt (fCallN (F_p_word_text c) [] (fCons (fVar 6) fNil)))] []) [4, 6]) (gNm 2))
  (fSeq (fAsg (fLc (fI itL (fMeth c.Lab "moves" (F_Lab_moves c) [] (fVar 0) fNil)) (gTp (gsCons (gNm 7) (gsCons (gNm 8) (gsCons (gNm 9) (gsCons (gNm 10) gsNil))))) fYes (fJs [(fC (.str [109, 111, 118, 101, 32])), (fFmt (fVar 7)), (fC (.str [32])), (fFmt (fVar 8)), (fC (.str [32])), (fFmt (fCallN (F_p_act_text c) [] (fCons (fVar 9) fNil))), (fC (.str [32])), (fFmt (fVar 10))] []) [7, 8, 9, 10]) (gNm 3))
  (fRet (fOp pAddL (fOp pAddL (fVar 1) (fVar 2)) (fVar 3))))))
noncomputable def F_p_lab_lines (c : CA) : FF := fnOf 1 11 (B_p_lab_lines c)
theorem R_p_lab_lines (c : CA) (a0 : PV) (M : PM) : F_p_lab_lines c [a0] M = gc M (fnRes (B_p_lab_lines c [some a0, none, none, none, none, none, none, none, none, none, none] M)) := fn_at rfl
/-! #### Lab.__str__ -/
noncomputable def B_Lab_str (c : CA) : FS :=
  (fRet (fGc (fM1 mJoin (fC (.str [])) (fLc (fI itL (fCall (F_p_lab_lines c) [] (fCons (fVar 0) fNil))) (gNm 1) fYes (fOp pAddS (fVar 1) (fC (.str [10]))) [1]))))
noncomputable def F_Lab_str (c : CA) : FF := fnOf 1 2 (B_Lab_str c)
theorem R_Lab_str (c : CA) (a0 : PV) (M : PM) : F_Lab_str c [a0] M = gc M (fnRes (B_Lab_str c [some a0, none] M)) := fn_at rfl
/-! #### read_word -/
noncomputable def B_p_read_word (c : CA) : FS :=
  (fSeq (fIfS (fOr (fTest (fOp pEq (fVar 0) (fC (.str [])))) (fAnd (fNot (fTest (fCall (F_p_is_word c) [] (fCons (fVar 0) fNil)))) (fTest (fOp pNe (fVar 0) (fC (.str [45])))))) (fRaise c.BadText (Str.ofString "badtext") [] (fCons (fC (.int 0)) fNil)) fNext)
  (fRet (fIf (fTest (fOp pEq (fVar 0) (fC (.str [45])))) (fC (.str [])) (fVar 0))))
noncomputable def F_p_read_word (c : CA) : FF := fnOf 1 1 (B_p_read_word c)
theorem R_p_read_word (c : CA) (a0 : PV) (M : PM) : F_p_read_word c [a0] M = gc M (fnRes (B_p_read_word c [some a0] M)) := fn_at rfl
/-! #### read_act -/
noncomputable def B_p_read_act (c : CA) : FS :=
  (fRet (fB bTup (fCons (fM1 mSplit (fVar 0) (fC (.str [46]))) fNil)))
noncomputable def F_p_read_act (c : CA) : FF := fnOf 1 1 (B_p_read_act c)
theorem R_p_read_act (c : CA) (a0 : PV) (M : PM) : F_p_read_act c [a0] M = gc M (fnRes (B_p_read_act c [some a0] M)) := fn_at rfl
/-! #### thing_of -/
noncomputable def B_p_thing_of (c : CA) : FS :=
  (fSeq (fIfS (fTest (fOp pNe (fKGet [([109, 97, 99, 104, 105, 110, 101], 3), ([114, 111, 119], 3), ([109, 111, 118, 101], 5)] (fOp pIxL (fVar 0) (fC (.int 0)))) (fB bLen (fCons (fVar 0) fNil)))) (fRaise c.BadText (Str.ofString "badtext") [] (fCons (fC (.int 0)) fNil)) fNext)
  (fSeq (fIfS (fTest (fOp pEq (fOp pIxL (fVar 0) (fC (.int 0))) (fC (.str [109, 97, 99, 104, 105, 110, 101])))) (fRet (fTup (fCons (fOp pIxL (fVar 0) (fC (.int 1))) (fCons (fOp pIxL (fVar 0) (fC (.int 2))) fNil)))) fNext)
  (fSeq (fIfS (fTest (fOp pEq (fOp pIxL (fVar 0) (fC (.int 0))) (fC (.str [114, 111, 119])))) (fRet (fTup (fCons (fOp pIxL (fVar 0) (fC (.int 1))) (fCons (fCall (F_p_read_word c) [] (fCons (fOp pIxL (fVar 0) (fC (.int 2))) fNil)) fNil)))) fNext)
  (fRet (fTup (fCons (fOp pIxL (fVar 0) (fC (.int 1))) (fCons (fOp pIxL (fVar 0) (fC (.int 2))) (fCons (fCall (F_p_read_act c) [] (fCons (fOp pIxL (fVar 0) (fC (.int 3))) fNil)) (fCons (fOp pIxL (fVar 0) (fC (.int 4))) fNil)))))))))
noncomputable def F_p_thing_of (c : CA) : FF := fnOf 1 1 (B_p_thing_of c)
theorem R_p_thing_of (c : CA) (a0 : PV) (M : PM) : F_p_thing_of c [a0] M = gc M (fnRes (B_p_thing_of c [some a0] M)) := fn_at rfl
/-! #### read_line -/
noncomputable def B_p_read_line (c : CA) : FS :=
  (fSeq (fAsg (fM1 mSplit (fVar 1) (fC (.str [32]))) (gNm 2))
  (fSeq (fAsg (fCall (F_p_thing_of c) [] (fCons (fVar 2) fNil)) (gNm 3))
  (fSeq (fIfS (fTest (fOp pEq (fOp pIxL (fVar 2) (fC (.int 0))) (fC (.str [109, 111, 118, 101])))) (fRet (fMake c.Lab (F_Lab_init c) [] (fCons (fMeth c.Lab "machines" (F_Lab_machines c) [] (fVar 0) fNil) (fCons (fMeth c.Lab "rows" (F_Lab_rows c) [] (fVar 0) fNil) (fCons (fOp pAddL (fMeth c.Lab "moves" (F_Lab_moves c) [] (fVar 0) fNil) (fLst (fCons (fVar 3) fNil))) fNil))))) fNext)
  (fSeq (fIfS (fOr (fTru (fMeth c.Lab "moves" (F_Lab_moves c) [] (fVar 0) fNil)) (fAnd (fTest (fOp pEq (fOp pIxL (fVar 2) (fC (.int 0))) (fC (.str [109, 97, 99, 104, 105, 110, 101])))) (fTru (fMeth c.Lab "rows" (F_Lab_rows c) [] (fVar 0) fNil)))) (fRaise c.BadText (Str.ofString "badtext") [] (fCons (fC (.int 0)) fNil)) fNext)
  (fSeq (fIfS (fTest (fOp pEq (fOp pIxL (fVar 2) (fC (.int 0))) (fC (.str [114, 111, 119])))) (fRet (fMake c.Lab (F_Lab_init c) [(.adr (c.mt 2))] (fCons (fMeth c.Lab "machines" (F_Lab_machines c) [] (fVar 0) fNil) (fCons (fOp pAddL (fMeth c.Lab "rows" (F_Lab_rows c) [] (fVar 0) fNil) (fLst (fCons (fVar 3) fNil))) fNil)))) fNext)
  (fRet (fMake c.Lab (F_Lab_init c) [(.adr (c.mt 1)), (.adr (c.mt 2))] (fCons (fOp pAddL (fMeth c.Lab "machines" (F_Lab_machines c) [] (fVar 0) fNil) (fLst (fCons (fVar 3) fNil))) fNil))))))))
noncomputable def F_p_read_line (c : CA) : FF := fnOf 2 4 (B_p_read_line c)
theorem R_p_read_line (c : CA) (a0 a1 : PV) (M : PM) : F_p_read_line c [a0, a1] M = gc M (fnRes (B_p_read_line c [some a0, some a1, none, none] M)) := fn_at rfl
/-! #### lab_text -/
noncomputable def B_p_lab_text (c : CA) : FS :=
  (fRet (fB (bReprOwn c.Lab (F_Lab_str c)) (fCons (fVar 0) fNil)))
noncomputable def F_p_lab_text (c : CA) : FF := fnOf 1 1 (B_p_lab_text c)
theorem R_p_lab_text (c : CA) (a0 : PV) (M : PM) : F_p_lab_text c [a0] M = gc M (fnRes (B_p_lab_text c [some a0] M)) := fn_at rfl
/-! #### read_lab -/
noncomputable def B_p_read_lab (c : CA) : FS :=
  (fSeq (fAsg (fM1 mSplit (fVar 0) (fC (.str [10]))) (gNm 1))
  (fSeq (fAsg (fBM0 "list" mPop (fVar 1)) (gNm 2))
  (fSeq (fAsg (fMake c.Lab (F_Lab_init c) [(.adr (c.mt 0)), (.adr (c.mt 1)), (.adr (c.mt 2))] fNil) (gNm 3))
  (fSeq (fFor (fIA itEL (fCons (fVar 1) fNil)) (gTp (gsCons (gNm 4) (gsCons (gNm 5) gsNil))) (fAsg (fCallN (F_p_read_line c) [] (fCons (fVar 3) (fCons (fVar 5) fNil))) (gNm 3)))
  (fSeq (fIfS (fTest (fOp pNe (fVar 2) (fC (.str [])))) (fRaise c.BadText (Str.ofString "badtext") [] (fCons (fB bLen (fCons (fVar 1) fNil)) fNil)) fNext)
  (fRet (fVar 3)))))))
noncomputable def F_p_read_lab (c : CA) : FF := fnOf 1 6 (B_p_read_lab c)
theorem R_p_read_lab (c : CA) (a0 : PV) (M : PM) : F_p_read_lab c [a0] M = gc M (fnRes (B_p_read_lab c [some a0, none, none, none, none, none] M)) := fn_at rfl
/-! #### law: lab_lines -/
noncomputable def B_lab_lines (c : CA) : FS :=
  (fSeq (fAsg (fLc (fI itL (fDGet (fVar 0) (fC (.str [109, 97, 99, 104, 105, 110, 101, 115])))) (gTp (gsCons (gNm 1) (gsCons (gNm 6) gsNil))) fYes (fOp pAddS (fOp pAddS (fOp pAddS (fC (.str [109, 97, 99, 104, 105, 110, 101, 32])) (fVar 1)) (fC (.str [32]))) (fVar 6)) [1, 6]) (gNm 2))
  (fSeq (fAsg (fOp pAddL (fVar 2) (fLc (fI itL (fDGet (fVar 0) (fC (.str [114, 111, 119, 115])))) (gTp (gsCons (gNm 1) (gsCons (gNm 7) gsNil))) fYes (fOp pAddS (fOp pAddS (fOp pAddS (fC (.str [114, 111, 119, 32])) (fVar 1)) (fC (.str [32]))) (fOrT (fVar 7) (fC (.str [45])))) [1, 7])) (gNm 2))
  (fSeq (fFor (fI itL (fDGet (fVar 0) (fC (.str [109, 111, 118, 101, 115])))) (gTp (gsCons (gNm 1) (gsCons (gNm 3) (gsCons (gNm 4) (gsCons (gNm 5) gsNil))))) (fDrop (fBM "list" mAppend (fVar 2) (fCons (fGc (fM1 mJoin (fC (.str [32])) (fLst (fCons (fC (.str [109, 111, 118, 101])) (fCons (fVar 1) (fCons (fVar 3) (fCons (fM1 mJoin (fC (.str [46])) (fVar 4)) (fCons (fVar 5) fNil)))))))) fNil))))
  (fRet (fVar 2)))))
noncomputable def F_lab_lines (c : CA) : FF := fnOf 1 8 (B_lab_lines c)
theorem R_lab_lines (c : CA) (a0 : PV) (M : PM) : F_lab_lines c [a0] M = gc M (fnRes (B_lab_lines c [some a0, none, none, none, none, none, none, none] M)) := fn_at rfl
/-! #### law: text_of -/
noncomputable def B_text_of (c : CA) : FS :=
  (fRet (fGc (fM1 mJoin (fC (.str [])) (fLc (fI itL (fVar 0)) (gNm 1) fYes (fOp pAddS (fVar 1) (fC (.str [10]))) [1]))))
noncomputable def F_text_of (c : CA) : FF := fnOf 1 2 (B_text_of c)
theorem R_text_of (c : CA) (a0 : PV) (M : PM) : F_text_of c [a0] M = gc M (fnRes (B_text_of c [some a0, none] M)) := fn_at rfl
end Pu
namespace Pu
open PySem PySem.Spec PyProof.Rows L2 LB
/-! #### word_before -/
/-! #### turned_by -/
/-! #### turned -/
/-! #### law: turned -/
end Pu
/-! A new instance by a call with keywords; try .. except X: (slots of the suite: none is read). -/
namespace Pu
open PySem PySem.Spec PyProof.Rows L2 LB
open Classical
noncomputable def fMakeK (C : Addr) (n m : Nat) (F : FF) (fr fk : FA) : FE := fun σ M => (fr σ M).bnd fun as M1 => (fk σ M1).bnd fun zs M2 => if as.length = n ∧ zs.length = m then (F (.ref M2.length :: ((as ++ zs) ++ [])) (M2 ++ [.ins C []])).bnd (asN M2.length) else .bad
@[simp] theorem ev_fMakeK (C : Addr) (n m : Nat) (F : FF) (fr fk : FA) (σ : PS) (M : PM) : fMakeK C n m F fr fk σ M = (fr σ M).bnd fun as M1 => (fk σ M1).bnd fun zs M2 => if as.length = n ∧ zs.length = m then (F (.ref M2.length :: ((as ++ zs) ++ [])) (M2 ++ [.ins C []])).bnd (asN M2.length) else .bad := id rfl
/-! ### try .. except X: -/
end Pu
namespace Pu
open PySem PySem.Spec PyProof.Rows L2 LB
/-! #### by_stands -/
/-! #### not_above -/
/-! #### turned_low -/
/-! #### Search.__init__ -/
/-! #### Search.more -/
/-! #### Search.layer -/
/-! #### Search.since -/
end Pu
namespace Pu
open PySem PySem.Spec PyProof.Rows L2 LB
open Classical
/-! ### moves turned back -/
end Pu
namespace Pu
open PySem PySem.Spec PyProof.Rows L2 LB
/-! #### law: small -/
end Pu
namespace Pu
open PySem PySem.Spec PyProof.Rows L2 LB
open Classical
/-! ### a small lab -/
/-! ### turned back is least -/
end Pu
namespace Pu
open PySem PySem.Spec PyProof.Rows L2 LB
/-! #### law: leaks -/
end Pu
namespace Pu
open PySem PySem.Spec PyProof.Rows L2 LB
open Classical
variable {c : CA} {M M' M'' : PM} {b : Nat}
/-! ### all that leaks may leave -/
def LkP (ws : List (List Nat)) (i s : Nat) (q : List (List Nat)) : Prop := q.length = ws.length ∧ ∀ (j : Nat) (a w : List Nat), q[j]? = some a → ws[j]? = some w → (j < i → a.Sublist w) ∧ (j = i → ∃ t, a = w.take s ++ t ∧ t.Sublist (w.drop s)) ∧ (i < j → a = w)
theorem hasB_iff {ms rs : List Pr} {mv : List Mv} {ss ws : List (List Nat)} : hasB ms rs mv ss ws = true ↔ ss.length = ms.length ∧ ws.length = rs.length ∧ (∀ (i : Nat) (x : Pr) (s : List Nat), ms[i]? = some x → ss[i]? = some s → s ∈ stOf mv x) ∧ ∀ w ∈ ws, w.all low = true := by
  unfold hasB
  rw [Bool.and_eq_true, Bool.and_eq_true, Bool.and_eq_true, decide_eq_true_iff, decide_eq_true_iff, List.all_eq_true, List.all_eq_true]
  constructor
  · rintro ⟨⟨⟨h1, h2⟩, h3⟩, h4⟩
    refine ⟨h1, h2, fun i x s hx hs => ?_, h4⟩
    obtain ⟨g1, rfl⟩ := List.getElem?_eq_some_iff.mp hx
    obtain ⟨g2, rfl⟩ := List.getElem?_eq_some_iff.mp hs
    exact of_decide_eq_true (h3 (ms[i], ss[i]) (List.mem_iff_getElem.mpr ⟨i, by rw [List.length_zip]; omega, by rw [List.getElem_zip]⟩))
  · rintro ⟨h1, h2, h3, h4⟩
    refine ⟨⟨⟨h1, h2⟩, fun z hz => ?_⟩, h4⟩
    obtain ⟨i, hi, e⟩ := List.mem_iff_getElem.mp hz
    rw [List.length_zip] at hi
    rw [List.getElem_zip] at e
    rw [← e]
    exact decide_eq_true (h3 i _ _ (List.getElem?_eq_getElem (by omega)) (List.getElem?_eq_getElem (by omega)))
theorem ScW.words {ms rs : List Pr} {mv : List Mv} {ss ws zs : List (List Nat)} {top k : Nat} (h : ScW ms rs mv ss ws top) (lz : zs.length = ws.length) (hz : ∀ w ∈ zs, w.length ≤ k ∧ ∀ y ∈ w, 97 ≤ y ∧ y < 123) (hk : k < 1000) : ScW ms rs mv ss zs k := by
  obtain ⟨h1, h2, h3, h4⟩ := hasB_iff.mp h.g.has
  exact ⟨⟨hasB_iff.mpr ⟨h1, by rw [lz, h2], h3, fun w hw => by rw [List.all_eq_true]; exact fun y hy => low_of ((hz w hw).2 y hy)⟩, fun z hz' => by have := (hz z hz').1; omega⟩, h.nm, hz⟩
theorem ScW.lk {ms rs : List Pr} {mv : List Mv} {ss ws q : List (List Nat)} {top i s : Nat} (h : ScW ms rs mv ss ws top) (ht : top < 1000) (hq : LkP ws i s q) : ScW ms rs mv ss q top := by
  refine h.words hq.1 (fun w hw => ?_) ht
  obtain ⟨j, hj, rfl⟩ := List.mem_iff_getElem.mp hw
  have hj2 : j < ws.length := by rw [← hq.1]; exact hj
  have f := hq.2 j _ _ (List.getElem?_eq_getElem hj) (List.getElem?_eq_getElem hj2)
  have w2 := h.wd _ (List.getElem_mem hj2)
  have sub : (q[j]).Sublist ws[j] := by
    rcases Nat.lt_trichotomy j i with a | a | a
    · exact f.1 a
    · obtain ⟨t, e1, e2⟩ := f.2.1 a
      rw [e1]
      have := List.Sublist.append (List.Sublist.refl (ws[j].take s)) e2
      rwa [List.take_append_drop] at this
    · rw [f.2.2 a]; exact .refl _
  have := sub.length_le
  exact ⟨by omega, fun y hy => w2.2 y (sub.subset hy)⟩
end Pu
/-! zip of a list and a tuple -/
namespace LB
open PySem PySem.Spec PyProof.Rows L2
end LB
namespace Pu
open PySem PySem.Spec PyProof.Rows L2 LB
open Classical
end Pu
namespace Pu
open PySem PySem.Spec PyProof.Rows L2 LB
/-! #### Lab.begin -/
noncomputable def B_Lab_begin (c : CA) : FS :=
  (fRet (fTup (fCons (fGc (fB bTup (fCons (fLc (fI itT (fFld c.Lab "machine_pairs" (fVar 0))) (gTp (gsCons (gNm 1) (gsCons (gNm 2) gsNil))) fYes (fVar 2) [1, 2]) fNil))) (fCons (fGc (fB bTup (fCons (fLc (fI itT (fFld c.Lab "row_pairs" (fVar 0))) (gTp (gsCons (gNm 1) (gsCons (gNm 3) gsNil))) fYes (fVar 3) [1, 3]) fNil))) fNil))))
noncomputable def F_Lab_begin (c : CA) : FF := fnOf 1 4 (B_Lab_begin c)
theorem R_Lab_begin (c : CA) (a0 : PV) (M : PM) : F_Lab_begin c [a0] M = gc M (fnRes (B_Lab_begin c [some a0, none, none, none] M)) := fn_at rfl
/-! #### first_scene -/
/-! #### after_deed -/
/-! #### play -/
/-! #### count -/
/-! #### law: leak_of -/
/-! #### law: after -/
/-! #### law: run_of -/
/-! #### law: bent_run -/
/-! #### law: played -/
end Pu
namespace Pu
open PySem PySem.Spec PyProof.Rows L2 LB
open Classical
variable {c : CA} {M M' M'' : PM} {b : Nat}
/-! ### deeds of runs -/
abbrev Sc := List (List Nat) × List (List Nat)
inductive Deed
  | mv (i : Int)
  | lk (n : List Nat) (i : Int)
def kMove : List Nat := [109, 111, 118, 101]
def kLeak : List Nat := [108, 101, 97, 107]
def Deed.pv : Deed → PV
  | .mv i => .tup [.str kMove, .int i]
  | .lk n i => .tup [.str kLeak, .str n, .int i]
theorem F_Lab_begin_eq {x : Nat} {ms rs : List Pr} {mv : List Mv} (h : LabAt c M x ms rs mv) (g : LabG ms rs mv) : F_Lab_begin c [.ref x] M = .ok (scP (ms.map (·.2)) (rs.map (·.2))) M := by
  have gl := g.len
  obtain ⟨k1, k2, k3, e0, e1, e2, e3⟩ := h.ex
  have f1 : fldP M c.Lab "machine_pairs" (.ref x) = some (.tup (ms.map pairP)) := fld_at e0 (by simp [labF, List.lookup])
  have f2 : fldP M c.Lab "row_pairs" (.ref x) = some (.tup (rs.map pairP)) := fld_at e0 (by simp [labF, List.lookup])
  rw [R_Lab_begin]
  unfold B_Lab_begin
  have a1 := tup_tup (M := M) (σ := [some (.ref x), none, none, none]) (g := gTp (gsCons (gNm 1) (gsCons (gNm 2) gsNil))) (fe := fVar 2) (fa := fFld c.Lab "machine_pairs" (fVar 0)) (vs := [1, 2]) (zs := ms) (e := pairP) (by simp [f1]) (by unfold lim; omega) (fun x => PV.str x.2) (fun _ _ => by simp) (fun z _ => ⟨_, rfl, fun _ => rfl⟩)
  have a2 := tup_tup (M := M) (σ := [some (.ref x), none, none, none]) (g := gTp (gsCons (gNm 1) (gsCons (gNm 3) gsNil))) (fe := fVar 3) (fa := fFld c.Lab "row_pairs" (fVar 0)) (vs := [1, 3]) (zs := rs) (e := pairP) (by simp [f2]) (by unfold lim; omega) (fun x => PV.str x.2) (fun _ _ => by simp) (fun z _ => ⟨_, rfl, fun _ => rfl⟩)
  simp only [ev_fRet, ev_fTup, ev_fCons, a1, a2, bnd_ok, ev_fNil, List.length_cons, List.length_nil, Nat.zero_add, Nat.reduceAdd, lim2, if_true, go_ok, fnRes_rt, gc_id]
  simp [tS]
/-! ### how far words grow -/
/-! ### a run, deed by deed -/
/-! ### play -/
/-! ### the law's own look -/
end Pu
/-! Scenes by their stands; above any; letters. -/
namespace Pu
open PySem PySem.Spec PyProof.Rows L2 LB
open Classical
variable {c : CA} {M M' M'' : PM}
abbrev scV (s : Sc) : PV := scP s.1 s.2
structure ScL (s : Sc) : Prop where
  w1 : Wds s.1
  w2 : Wds s.2
/-! ### groups -/
abbrev Gs := List (List (List Nat) × Nat)
def gsV (gs : Gs) : List (PV × PV) := gs.map fun g => (tS g.1, .ref g.2)
def ofSt (st : List (List Nat)) (ks : List Sc) : List Sc := ks.filter fun s => decide (s.1 = st)
structure Grp (N : PM) (B d : Nat) (gs : Gs) (ks : List Sc) : Prop where
  dct : N[d]? = some (.dtt (gsV gs))
  nd : (gs.map (·.1)).Nodup
  nr : (gs.map (·.2)).Nodup
  off : ∀ g ∈ gs, g.2 ≠ d ∧ B ≤ g.2
  lst : ∀ g ∈ gs, N[g.2]? = some (.lst ((ofSt g.1 ks).map scV))
  all : ∀ s ∈ ks, s.1 ∈ gs.map (·.1)
abbrev KF (M N : PM) : Prop := Kp (fun _ => False) M N
theorem Grp.nil {d B : Nat} (e : M[d]? = some (.dtt [])) : Grp M B d [] [] := ⟨e, List.nodup_nil, List.nodup_nil, fun g h => (List.not_mem_nil h).elim, fun g h => (List.not_mem_nil h).elim, fun g h => (List.not_mem_nil h).elim⟩
theorem Grp.kp {N N' : PM} {B d : Nat} {gs : Gs} {ks : List Sc} (G : Grp N B d gs ks) (k : KF N N') : Grp N' B d gs ks := ⟨k.at G.dct id, G.nd, G.nr, G.off, fun g h => k.at (G.lst g h) id, G.all⟩
end Pu
/-! Scenes by their stands; those above none. -/
namespace Pu
open PySem PySem.Spec PyProof.Rows L2 LB
open Classical
variable {c : CA} {M M' M'' : PM}
theorem KF.keep {N : PM} (k : KF M N) : keepOk M N := ⟨k.l, fun i hi => .inl (k.k i hi id)⟩
theorem KF.take {N : PM} (k : KF M N) : N.take M.length = M := by
  refine List.ext_getElem? fun i => ?_
  rcases Nat.lt_or_ge i M.length with h | h
  · rw [List.getElem?_take_of_lt h, k.k i h id]
  · rw [List.getElem?_eq_none (by simp; omega), List.getElem?_eq_none h]
/-- a new list of flat things -/
theorem gc_newL {N : PM} {k : Nat} {xs : List PV} (K : KF M N) (lk : M.length ≤ k) (e : N[k]? = some (.lst xs)) (w : PV.wfs M.length xs) : gc M (.ok (.ref k) N) = .ok (.ref M.length) (M ++ [.lst xs]) := by
  rw [gc_new K.keep lk e w, K.take]
end Pu
/-! Scenes sorted. -/
namespace Pu
open PySem PySem.Spec PyProof.Rows L2 LB
open Classical
/-! ### by their letters -/
/-! ### groups in a row -/
end Pu
/-! The least scenes, up to so many. -/
namespace Pu
open PySem PySem.Spec PyProof.Rows L2 LB
open Classical
end Pu
/-! Scenes of small words stay such, done and turned back. -/
namespace Pu
open PySem PySem.Spec PyProof.Rows L2 LB
open Classical
end Pu
/-! The order of scenes; the least ones; all that moves tell turned back. -/
namespace Pu
open PySem PySem.Spec PyProof.Rows L2 LB
open Classical
variable {c : CA} {M M' M'' : PM}
/-! ### the order -/
/-! ### turned back -/
abbrev ScT (ms rs : List Pr) (mv : List Mv) (top : Nat) (s : Sc) : Prop := ScW ms rs mv s.1 s.2 top
theorem ScT.l {ms rs : List Pr} {mv : List Mv} {top : Nat} {s : Sc} (h : ScT ms rs mv top s) (ht : top < 1000) : ScL s := ⟨h.wdsS, h.wdsW ht⟩
end Pu
/-! A search: its layers, made one by one. -/
namespace Pu
open PySem PySem.Spec PyProof.Rows L2 LB
open Classical
variable {c : CA} {M M' M'' : PM}
theorem pAddL_at {A B : List PV} {k j : Nat} (h : A.length + B.length ≤ lim) (e1 : M[k]? = some (.lst A)) (e2 : M[j]? = some (.lst B)) : pAddL (.ref k) (.ref j) M = .ok (.ref M.length) (M ++ [.lst (A ++ B)]) := by
  unfold pAddL
  simp only [lstAt_ref' M k _ e1, lstAt_ref' M j _ e2, h, if_true]
abbrev seF (lab ly gi : Nat) (most : Int) : List (String × PV) := [("home", .ref lab), ("limit", .int most), ("layers", .ref ly), ("gained", .ref gi)]
structure SeaAt (c : CA) (M : PM) (x ly lab : Nat) (most : Int) (Ls : List (List Sc)) (gn : List Sc) : Prop where
  ex : ∃ (gi : Nat) (ks : List Nat), M[x]? = some (.ins c.Search (seF lab ly gi most)) ∧ M[ly]? = some (.lst (ks.map PV.ref)) ∧ ks.length = Ls.length ∧ M[gi]? = some (.lst (gn.map scV)) ∧ ∀ (j k : Nat) (L : List Sc), ks[j]? = some k → Ls[j]? = some L → M[k]? = some (.lst (L.map scV))
theorem SeaAt.kp {x ly lab : Nat} {most : Int} {Ls : List (List Sc)} {gn : List Sc} (h : SeaAt c M x ly lab most Ls gn) (k : KF M M') : SeaAt c M' x ly lab most Ls gn := by
  obtain ⟨gi, ks, h1, h2, h3, h4, h5⟩ := h.ex
  exact ⟨gi, ks, k.at h1 id, k.at h2 id, h3, k.at h4 id, fun j k' L a b => k.at (h5 j k' L a b) id⟩
theorem up1 {o : PO} {i : Nat} {z : PO} (h : M[i]? = some z) : (M ++ [o])[i]? = some z := by rw [List.getElem?_append_left (List.getElem?_eq_some_iff.mp h).1]; exact h
theorem at1 {o : PO} : (M ++ [o])[M.length]? = some o := List.getElem?_concat_length ..
end Pu
namespace Pu
open PySem PySem.Spec PyProof.Rows L2 LB
open Classical
/-! ### wishes -/
/-! ### granted -/
end Pu
/-! The first layer: the least scenes that grant a wish. -/
namespace Pu
open PySem PySem.Spec PyProof.Rows L2 LB
open Classical
variable {c : CA} {M M' M'' : PM}
section
variable {ms rs : List Pr} {mv : List Mv}
/-! ### wished pairs as a dict -/
/-! ### a lab's lists -/
theorem lab_f {x : Nat} (h : LabAt c M x ms rs mv) : fldP M c.Lab "machine_pairs" (.ref x) = some (.tup (ms.map pairP)) ∧ fldP M c.Lab "row_pairs" (.ref x) = some (.tup (rs.map pairP)) := by
  obtain ⟨k1, k2, k3, e0, e1, e2, e3⟩ := h.ex
  exact ⟨fld_at e0 (by simp [labF, List.lookup]), fld_at e0 (by simp [labF, List.lookup])⟩
theorem bLst_tup (xs : List PV) : bLst [.tup xs] M = .ok (.ref M.length) (M ++ [.lst xs]) := rfl
theorem pairs_wf {n : Nat} (ps : List Pr) : PV.wfs n (ps.map pairP) := wfs_iff.mpr fun x hx => by
  obtain ⟨p, _, rfl⟩ := List.mem_map.mp hx
  simp
theorem F_machines_eq {x : Nat} (h : LabAt c M x ms rs mv) : F_Lab_machines c [.ref x] M = .ok (.ref M.length) (M ++ [.lst (ms.map pairP)]) := by
  rw [R_Lab_machines]
  unfold B_Lab_machines
  simp only [ev_fRet, ev_fB, ev_fCons, ev_fFld, ev_fVar0, bnd_ok, (lab_f h).1, asF_some, ev_fNil, bLst_tup, go_ok, fnRes_rt]
  exact gc_newL .app (Nat.le_refl _) at1 (pairs_wf _)
theorem F_rows_eq {x : Nat} (h : LabAt c M x ms rs mv) : F_Lab_rows c [.ref x] M = .ok (.ref M.length) (M ++ [.lst (rs.map pairP)]) := by
  rw [R_Lab_rows]
  unfold B_Lab_rows
  simp only [ev_fRet, ev_fB, ev_fCons, ev_fFld, ev_fVar0, bnd_ok, (lab_f h).2, asF_some, ev_fNil, bLst_tup, go_ok, fnRes_rt]
  exact gc_newL .app (Nat.le_refl _) at1 (pairs_wf _)
/-! ### the stands that are let -/
def ChAt (N : PM) (B d : Nat) (chs : List (List (List Nat))) : Prop := ∃ ks : List Nat, N[d]? = some (.lst (ks.map PV.ref)) ∧ ks.length = chs.length ∧ B ≤ d ∧ (∀ k ∈ ks, B ≤ k) ∧ ∀ (j k : Nat) (ch : List (List Nat)), ks[j]? = some k → chs[j]? = some ch → N[k]? = some (.lst (ch.map PV.str))
theorem ChAt.kp {N N' : PM} {B d : Nat} {chs : List (List (List Nat))} (h : ChAt N B d chs) (k : KF N N') : ChAt N' B d chs := by
  obtain ⟨ks, h1, h2, h3, h4, h5⟩ := h
  exact ⟨ks, k.at h1 id, h2, h3, h4, fun j k' ch a b => k.at (h5 j k' ch a b) id⟩
end
end Pu
/-! Labs held against one another: ==, !=, len, repr. -/
namespace Pu
open PySem PySem.Spec PyProof.Rows L2 LB
open Classical
variable {c : CA} {M M' M'' : PM} {b : Nat}
section
variable {ms rs ms' rs' : List Pr} {mv mv' : List Mv}
theorem lab_fs {x : Nat} (h : LabAt c M x ms rs mv) : fldP M c.Lab "machine_pairs" (.ref x) = some (.tup (ms.map pairP)) ∧ fldP M c.Lab "row_pairs" (.ref x) = some (.tup (rs.map pairP)) ∧ fldP M c.Lab "whole_moves" (.ref x) = some (.tup (mv.map mvP)) := by
  obtain ⟨k1, k2, k3, e0, e1, e2, e3⟩ := h.ex
  exact ⟨fld_at e0 (by simp [labF, List.lookup]), fld_at e0 (by simp [labF, List.lookup]), fld_at e0 (by simp [labF, List.lookup])⟩
theorem isIns_lab {x : Nat} (h : LabAt c M x ms rs mv) : isInsP M c.Lab (.ref x) = true := by
  obtain ⟨k1, k2, k3, e0, e1, e2, e3⟩ := h.ex
  unfold isInsP
  simp only [e0, decide_true]
theorem nm_asc {x : List Nat} (h : isNm x) : asc x := fun y hy => by
  have := h.2.2 y hy
  omega
theorem dat_act {f : List Nat → Prop} (hf : ∀ n, f n → asc n) {a : List (List Nat)} (h : ActP f a) {n : Nat} : Dat (n + 1) (tS a) := by
  refine dat_tS fun x hx => ?_
  cases h with
  | idle => rw [List.mem_singleton.mp hx]; exact asc_by (by decide)
  | bare p =>
    rcases List.mem_cons.mp hx with rfl | hx
    · exact asc_by (by decide)
    · rw [List.mem_singleton.mp hx]; exact hf _ p
  | send p q =>
    rcases List.mem_cons.mp hx with rfl | hx
    · exact asc_by (by decide)
    · rcases List.mem_cons.mp hx with rfl | hx
      · exact hf _ p
      · rw [List.mem_singleton.mp hx]
        intro y hy
        rw [List.mem_singleton.mp hy]
        omega
  | take p q =>
    rcases List.mem_cons.mp hx with rfl | hx
    · exact asc_by (by decide)
    · rcases List.mem_cons.mp hx with rfl | hx
      · exact hf _ p
      · rw [List.mem_singleton.mp hx]
        intro y hy
        rw [List.mem_singleton.mp hy]
        omega
end
end Pu
/-! Labs held against one another: what ==, len, repr tell; a plan made alike. -/
namespace Pu
open PySem PySem.Spec PyProof.Rows L2 LB
open Classical
variable {c : CA} {M M' M'' : PM} {b : Nat}
section
variable {ms rs ms' rs' : List Pr} {mv mv' : List Mv}
theorem LabG.datM (g : LabG ms rs mv) : ∀ x ∈ ms.map pairP, Dat 59 x := fun x hx => by
  obtain ⟨y, hy, rfl⟩ := List.mem_map.mp hx
  exact dat_pair (n := 58) (nm_asc (g.n1 y hy).1) (nm_asc (g.n1 y hy).2)
theorem LabG.datR (g : LabG ms rs mv) : ∀ x ∈ rs.map pairP, Dat 59 x := fun x hx => by
  obtain ⟨y, hy, rfl⟩ := List.mem_map.mp hx
  exact dat_pair (n := 58) (nm_asc (g.n2 y hy).1) (fun z hz => by have := (g.n2 y hy).2.2 z hz; omega)
theorem LabG.datV (g : LabG ms rs mv) : ∀ x ∈ mv.map mvP, Dat 59 x := fun x hx => by
  obtain ⟨m, hm, rfl⟩ := List.mem_map.mp hx
  have h := g.hmv m hm
  obtain ⟨nm, st, a, en⟩ := m
  show Dat (58 + 1) (.tup [.str nm, .str st, tS a, .str en])
  rw [dat_tup]
  intro x hx
  have k1 : isNm nm := by
    obtain ⟨z, hz, e⟩ := List.mem_map.mp h.hm
    have e : z.1 = nm := e
    rw [← e]
    exact (g.n1 z hz).1
  simp only [List.mem_cons, List.not_mem_nil, or_false] at hx
  rcases hx with rfl | rfl | rfl | rfl
  · rw [dat_str]; exact nm_asc k1
  · rw [dat_str]; exact nm_asc h.hs
  · have ha : ActP (fun n => n ∈ rs.map (fun x => x.1)) a := h.ha
    exact dat_act (fun n hn => by
      obtain ⟨z, hz, e⟩ := List.mem_map.mp hn
      have e : z.1 = n := e
      rw [← e]
      exact nm_asc (g.n2 z hz).1) (n := 57) ha
  · rw [dat_str]; exact nm_asc h.he
theorem pairs_inj {a b : List Pr} : a.map pairP = b.map pairP ↔ a = b := List.map_inj_right fun x y h => by
  obtain ⟨x1, x2⟩ := x
  obtain ⟨y1, y2⟩ := y
  injection h with h
  injection h with h1 h
  injection h with h2 h
  injection h1 with h1
  injection h2 with h2
  exact Prod.ext h1 h2
theorem mvs_inj {a b : List Mv} : a.map mvP = b.map mvP ↔ a = b := List.map_inj_right fun x y h => by
  obtain ⟨x1, x2, x3, x4⟩ := x
  obtain ⟨y1, y2, y3, y4⟩ := y
  injection h with h
  injection h with h1 h
  injection h with h2 h
  injection h with h3 h
  injection h with h4 h
  injection h1 with h1
  injection h2 with h2
  injection h4 with h4
  exact Prod.ext h1 (Prod.ext h2 (Prod.ext (tS_inj.mp h3) h4))
theorem flt_pair (x : Pr) {n : Nat} : Flt (n + 1) (pairP x) := by
  unfold pairP Flt
  refine ⟨by simp, fun y hy => ?_⟩
  simp only [List.mem_cons, List.not_mem_nil, or_false] at hy
  rcases hy with rfl | rfl <;> (cases n <;> (unfold Flt; trivial))
theorem flt_tS {l : List (List Nat)} (h : l.length < 100000) {n : Nat} : Flt (n + 1) (tS l) := by
  unfold tS Flt
  refine ⟨by simpa using h, fun y hy => ?_⟩
  obtain ⟨x, _, rfl⟩ := List.mem_map.mp hy
  cases n <;> (unfold Flt; trivial)
theorem act_le {f : List Nat → Prop} {a : List (List Nat)} (h : ActP f a) : a.length ≤ 3 := by cases h <;> simp
theorem LabG.fltV (g : LabG ms rs mv) {n : Nat} : ∀ x ∈ mv.map mvP, Flt (n + 2) x := fun x hx => by
  obtain ⟨m, hm, rfl⟩ := List.mem_map.mp hx
  have h := act_le (g.hmv m hm).ha
  obtain ⟨nm, st, a, en⟩ := m
  show Flt (n + 1 + 1) (.tup [.str nm, .str st, tS a, .str en])
  unfold Flt
  refine ⟨by simp, fun y hy => ?_⟩
  simp only [List.mem_cons, List.not_mem_nil, or_false] at hy
  rcases hy with rfl | rfl | rfl | rfl
  · unfold Flt; trivial
  · unfold Flt; trivial
  · exact flt_tS (by have : a.length ≤ 3 := h; omega)
  · unfold Flt; trivial
theorem dat_up {xs : List PV} (h : ∀ x ∈ xs, Dat 59 x) : Dat 60 (.tup xs) := by
  rw [dat_tup]
  exact h
theorem F_moves_eq {x : Nat} (h : LabAt c M x ms rs mv) : F_Lab_moves c [.ref x] M = .ok (.ref M.length) (M ++ [.lst (mv.map mvP)]) := by
  rw [R_Lab_moves]
  unfold B_Lab_moves
  simp only [ev_fRet, ev_fB, ev_fCons, ev_fFld, ev_fVar0, bnd_ok, (lab_fs h).2.2, asF_some, ev_fNil, bLst_tup, go_ok, fnRes_rt]
  refine gc_newL .app (Nat.le_refl _) at1 (wfs_iff.mpr fun p hp => ?_)
  obtain ⟨m, _, rfl⟩ := List.mem_map.mp hp
  simp [mvP, tS, wfs_strs]
theorem F_Lab_eq_eq {x y : Nat} (h : LabAt c M x ms rs mv) (h' : LabAt c M y ms' rs' mv') (g : LabG ms rs mv) (g' : LabG ms' rs' mv') : F_Lab_eq c [.ref x, .ref y] M = .ok (.bl (decide (ms = ms' ∧ rs = rs' ∧ mv = mv'))) M := by
  obtain ⟨a1, a2, a3⟩ := lab_fs h
  obtain ⟨b1, b2, b3⟩ := lab_fs h'
  have i : isiCP M c.Lab (.ref y) = some true := by
    obtain ⟨k1, k2, k3, e0, _⟩ := h'.ex
    unfold isiCP
    simp only [e0, if_true]
  have q1 := pEqD_dat (M := M) (dat_up g.datM) (dat_up g'.datM)
  have q2 := pEqD_dat (M := M) (dat_up g.datR) (dat_up g'.datR)
  have q3 := pEqD_dat (M := M) (dat_up g.datV) (dat_up g'.datV)
  rw [R_Lab_eq]
  unfold B_Lab_eq
  simp only [ev_fRet, ev_fAndV, ev_fB, ev_fCons, ev_fVar0, ev_fVarS, ev_fC, ev_fNil, bnd_ok, bIsiC, if_true, i, asB_bl, ev_fOp, ev_fFld, a1, a2, a3, b1, b2, b3, asF_some, q1, q2, q3, PV.tup.injEq, pairs_inj, mvs_inj]
  by_cases e1 : ms = ms' <;> by_cases e2 : rs = rs' <;> simp [e1, e2]
/-- a part of a lab's rows and moves is a lab -/
theorem LabG.part (g : LabG ms rs mv) (hr : rs'.Sublist rs) (hm : ∀ m ∈ mv', m ∈ mv ∧ ActN (rs'.map (·.1)) m.2.2.1) (l : mv'.length ≤ 24) : LabG ms rs' mv' := by
  have gl := g.len
  have ll := hr.length_le
  refine ⟨g.nd1, g.nd2.sublist (hr.map _), g.n1, fun x hx => g.n2 x (hr.subset hx), fun m h => ⟨(g.hmv m (hm m h).1).hm, (g.hmv m (hm m h).1).hs, (hm m h).2, (g.hmv m (hm m h).1).he⟩, ?_⟩
  unfold overB
  rw [Bool.or_eq_false_iff, Bool.or_eq_false_iff, Bool.or_eq_false_iff, decide_eq_false_iff_not, decide_eq_false_iff_not, decide_eq_false_iff_not, List.any_eq_false]
  refine ⟨⟨⟨by omega, by omega⟩, by omega⟩, fun x hx => ?_⟩
  rw [decide_eq_true_iff]
  have h6 := gl.2.2.2 x hx
  have := List.Nodup.length_le_of_subset (l₁ := stOf mv' x) (l₂ := stOf mv x) nodup_sortU (fun y hy => by
    have hy := mem_sortU.mp hy
    refine mem_sortU.mpr ?_
    rcases List.mem_cons.mp hy with rfl | hy
    · exact List.mem_cons_self
    · refine List.mem_cons_of_mem _ ?_
      unfold foundIn at hy ⊢
      obtain ⟨m, h1, h2⟩ := List.mem_flatMap.mp hy
      exact List.mem_flatMap.mpr ⟨m, (hm m h1).1, h2⟩)
  omega
end
end Pu
namespace Pu
open PySem PySem.Spec PyProof.Rows L2 LB
open Classical
variable {c : CA} {M M' M'' M1 : PM} {b : Nat}
theorem goes_P {f g : FS} {σ : PS} {Q : PS → PM → Prop} (P : SR → Prop) (h : Goes f σ M Q) (k : ∀ σ' M', Q σ' M' → P (g σ' M')) : P (fSeq f g σ M) := by
  obtain ⟨σ', M', e, q⟩ := h
  rw [ev_fSeq, e, then2_nx]
  exact k _ _ q
end Pu
/-! Labs in writing. -/
namespace Pu
open PySem PySem.Spec PyProof.Rows L2 LB
open Classical
variable {c : CA} {M M' M'' : PM} {b : Nat}
theorem joinD (d : Nat) (ws : List (List Nat)) : joinT [d] ws = TL.joinL [d] ws := by
  unfold joinT
  have e := SX.join_S [d] ws
  show (Txt.join (SX.S [d]) (ws.map SX.S)).cps.toList = _
  rw [e]
theorem splitD {d : Nat} (hd : d < 256) {ws : List (List Nat)} (ne : ws ≠ []) (h : ∀ w ∈ ws, d ∉ w) : splitT (TL.joinL [d] ws) [d] = ws := by
  unfold splitT
  have e := SX.split_S (a := TL.joinL [d] ws) (b := [d]) (by simp) (by simp [hd])
  show ((Txt.split (SX.S (TL.joinL [d] ws)) (SX.S [d])).map fun z => z.cps.toList) = _
  rw [e, List.map_map, SX.spl_join ne h]
  exact (List.map_congr_left fun z _ => rfl).trans (List.map_id _)
abbrev nMach : List Nat := [109, 97, 99, 104, 105, 110, 101]
abbrev nRow : List Nat := [114, 111, 119]
abbrev nMove : List Nat := [109, 111, 118, 101]
def wTx (w : List Nat) : List Nat := if w = [] then [45] else w
def mLine (x : Pr) : List Nat := TL.joinL [32] [nMach, x.1, x.2]
def rLine (x : Pr) : List Nat := TL.joinL [32] [nRow, x.1, wTx x.2]
def vLine (m : Mv) : List Nat := TL.joinL [32] [nMove, m.1, m.2.1, TL.joinL [46] m.2.2.1, m.2.2.2]
def linesOf (ms rs : List Pr) (mv : List Mv) : List (List Nat) := ms.map mLine ++ rs.map rLine ++ mv.map vLine
def textOf (ls : List (List Nat)) : List Nat := (ls.map (· ++ [10])).flatten
section
variable {ms rs ms' rs' : List Pr} {mv mv' : List Mv}
theorem wTx_le {w : List Nat} (h : w.length ≤ 8) : (wTx w).length ≤ 8 := by
  unfold wTx
  split <;> simp_all
theorem aTx_le {f : List Nat → Prop} (hf : ∀ n, f n → n.length ≤ 8) {a : List (List Nat)} (h : ActP f a) : (TL.joinL [46] a).length ≤ 20 := by
  cases h with
  | idle => decide
  | bare h => have := hf _ h; simp [TL.joinL, wBare, wSend, wTake]; omega
  | send h hx => have := hf _ h; simp [TL.joinL, wBare, wSend, wTake]; omega
  | take h hx => have := hf _ h; simp [TL.joinL, wBare, wSend, wTake]; omega
theorem F_word_text_eq {w : List Nat} (h : w.length ≤ 8) : F_p_word_text c [.str w] M = .ok (.str (wTx w)) M := by
  rw [R_p_word_text]
  unfold B_p_word_text wTx
  cases w with
  | nil => simp [asT, tru]
  | cons a w =>
    have : w.length + 1 ≤ lim := by simp at h; unfold lim; omega
    simp [asT, tru, this]
theorem act_row (g : LabG ms rs mv) {m : Mv} (h : m ∈ mv) : ActP (fun n => n ∈ rs.map (·.1)) m.2.2.1 := (g.hmv m h).ha
theorem row_len (g : LabG ms rs mv) : ∀ n, n ∈ rs.map (·.1) → n.length ≤ 8 := fun n hn => by
  obtain ⟨x, hx, rfl⟩ := List.mem_map.mp hn
  exact (g.n2 x hx).1.2.1
theorem act_sum {f : List Nat → Prop} (hf : ∀ n, f n → n.length ≤ 8) {a : List (List Nat)} (h : ActP f a) : (a.map List.length).sum + a.length * 1 ≤ 40 := by
  cases h with
  | idle => decide
  | bare h => have := hf _ h; simp [wBare, wSend, wTake]; omega
  | send h hx => have := hf _ h; simp [wBare, wSend, wTake]; omega
  | take h hx => have := hf _ h; simp [wBare, wSend, wTake]; omega
theorem join_act {f : List Nat → Prop} (hf : ∀ n, f n → n.length ≤ 8) {a : List (List Nat)} (h : ActP f a) : mJoin (.str [46]) [tS a] M = .ok (.str (TL.joinL [46] a)) M := by
  unfold mJoin seqAt tS
  have e : asStrs (a.map PV.str) = some a := asStrs_map a
  have := act_sum hf h
  simp only [Option.bind_some, e, List.length_singleton]
  rw [if_pos (by unfold lim; omega), joinD]
theorem F_act_text_eq {f : List Nat → Prop} (hf : ∀ n, f n → n.length ≤ 8) {a : List (List Nat)} (h : ActP f a) : F_p_act_text c [tS a] M = .ok (.str (TL.joinL [46] a)) M := by
  rw [R_p_act_text]
  unfold B_p_act_text
  simp [join_act hf h, isS]
theorem mLine_eq (x : Pr) : mLine x = nMach ++ [32] ++ x.1 ++ [32] ++ x.2 := by simp [mLine, TL.joinL]
theorem rLine_eq (x : Pr) : rLine x = nRow ++ [32] ++ x.1 ++ [32] ++ wTx x.2 := by simp [rLine, TL.joinL]
theorem vLine_eq (m : Mv) : vLine m = nMove ++ [32] ++ m.1 ++ [32] ++ m.2.1 ++ [32] ++ TL.joinL [46] m.2.2.1 ++ [32] ++ m.2.2.2 := by simp [vLine, TL.joinL]
theorem LabG.lens (g : LabG ms rs mv) : (∀ x ∈ ms, x.1.length ≤ 8 ∧ x.2.length ≤ 8) ∧ (∀ x ∈ rs, x.1.length ≤ 8 ∧ x.2.length ≤ 8) ∧ ∀ m ∈ mv, m.1.length ≤ 8 ∧ m.2.1.length ≤ 8 ∧ (TL.joinL [46] m.2.2.1).length ≤ 20 ∧ m.2.2.2.length ≤ 8 := by
  refine ⟨fun x hx => ⟨(g.n1 x hx).1.2.1, (g.n1 x hx).2.2.1⟩, fun x hx => ⟨(g.n2 x hx).1.2.1, (g.n2 x hx).2.1⟩, fun m hm => ?_⟩
  have h := g.hmv m hm
  refine ⟨?_, h.hs.2.1, aTx_le (row_len g) (act_row g hm), h.he.2.1⟩
  obtain ⟨z, hz, e⟩ := List.mem_map.mp h.hm
  have e : z.1 = m.1 := e
  rw [← e]
  exact (g.n1 z hz).1.2.1
theorem lines_len (g : LabG ms rs mv) : (linesOf ms rs mv).length ≤ 30 ∧ ∀ l ∈ linesOf ms rs mv, l.length ≤ 60 := by
  obtain ⟨h1, h2, h3⟩ := g.lens
  have gl := g.len
  refine ⟨by simp [linesOf]; omega, fun l hl => ?_⟩
  unfold linesOf at hl
  rcases List.mem_append.mp hl with hl | hl
  · rcases List.mem_append.mp hl with hl | hl
    · obtain ⟨x, hx, rfl⟩ := List.mem_map.mp hl
      have := h1 x hx
      rw [mLine_eq]
      simp
      omega
    · obtain ⟨x, hx, rfl⟩ := List.mem_map.mp hl
      have := h2 x hx
      have := wTx_le (w := x.2) this.2
      rw [rLine_eq]
      simp
      omega
  · obtain ⟨x, hx, rfl⟩ := List.mem_map.mp hl
    have := h3 x hx
    rw [vLine_eq]
    simp
    omega
theorem hasM_lm {x : Nat} {m : String} (h : LabAt c M x ms rs mv) (hm : m = "machines" ∨ m = "rows" ∨ m = "stands" ∨ m = "moves" ∨ m = "begin") : hasM M c.Lab m (.ref x) = true := by
  obtain ⟨k1, k2, k3, e0, _⟩ := h.ex
  unfold hasM
  simp only [e0]
  rcases hm with rfl | rfl | rfl | rfl | rfl <;> simp [labF, List.lookup]
set_option maxHeartbeats 1000000 in
theorem F_lab_lines_p {x : Nat} (h : LabAt c M x ms rs mv) (g : LabG ms rs mv) : F_p_lab_lines c [.ref x] M = .ok (.ref M.length) (M ++ [.lst ((linesOf ms rs mv).map PV.str)]) := by
  obtain ⟨g1, g2, g3⟩ := g.lens
  have gl := g.len
  have L : ∀ k : Nat, k ≤ 100 → k ≤ lim := fun k hk => by unfold lim; omega
  rw [R_p_lab_lines]
  unfold B_p_lab_lines
  have f1 := F_machines_eq (c := c) h
  have lc1 := lc_mapE (ok := fun M' : PM => M'[M.length]? = some (.lst (ms.map pairP))) (g := gTp (gsCons (gNm 4) (gsCons (gNm 5) gsNil))) (ft := fYes) (fe := fJs [(fC (.str [109, 97, 99, 104, 105, 110, 101, 32])), (fFmt (fVar 4)), (fC (.str [32])), (fFmt (fVar 5))] []) (σ := [some (.ref x), none, none, none, none, none, none, none, none, none, none]) (e := pairP) (d := (M ++ [PO.lst (ms.map pairP)]).length) (N := M ++ [.lst (ms.map pairP)] ++ [.lst []]) (zs := ms) (M ++ [.lst (ms.map pairP)]) (fun y => .str (mLine y)) rfl rfl (fun acc => up1 at1) (by unfold lim; omega) (fun y hy => by
    refine ⟨_, rfl, fun acc => ⟨rfl, ?_⟩⟩
    have q := g1 y hy
    simp only [List.set_cons_succ, List.set_cons_zero, ev_fJs, ev_fC, bnd_ok, ev_fFmt, ev_fVar0, ev_fVarS, ev_fJs0, List.nil_append, List.length_nil, List.length_append, List.length_cons]
    rw [if_pos (L _ (by omega)), if_pos (L _ (by omega)), bnd_ok]
    simp only []
    rw [if_pos (L _ (by omega)), if_pos (L _ (by omega)), if_pos (L _ (by omega)), bnd_ok]
    simp only []
    rw [if_pos (L _ (by omega)), mLine_eq]
    simp)
  generalize hM1 : M ++ [PO.lst (ms.map pairP)] ++ [.lst (ms.map fun y => PV.str (mLine y))] = M1 at lc1
  have l1 : M1.length = M.length + 2 := by rw [← hM1]; simp
  have h1 : LabAt c M1 x ms rs mv := by rw [← hM1]; exact h.app.app
  have e1 : M1[M.length + 1]? = some (.lst (ms.map fun y => PV.str (mLine y))) := by rw [← hM1, show M.length + 1 = (M ++ [PO.lst (ms.map pairP)]).length by simp]; exact at1
  have f2 := F_rows_eq (c := c) h1
  have lc2 := lc_mapE (ok := fun M' : PM => M'[M1.length]? = some (.lst (rs.map pairP))) (g := gTp (gsCons (gNm 4) (gsCons (gNm 6) gsNil))) (ft := fYes) (fe := fJs [(fC (.str [114, 111, 119, 32])), (fFmt (fVar 4)), (fC (.str [32])), (fFmt (fCallN (F_p_word_text c) [] (fCons (fVar 6) fNil)))] []) (σ := [some (.ref x), some (.ref (M.length + 1)), none, none, none, none, none, none, none, none, none]) (e := pairP) (d := (M1 ++ [PO.lst (rs.map pairP)]).length) (N := M1 ++ [.lst (rs.map pairP)] ++ [.lst []]) (zs := rs) (M1 ++ [.lst (rs.map pairP)]) (fun y => .str (rLine y)) rfl rfl (fun acc => up1 at1) (by unfold lim; omega) (fun y hy => by
    refine ⟨_, rfl, fun acc => ⟨rfl, ?_⟩⟩
    have q := g2 y hy
    have qw := wTx_le q.2
    have wt := fun N : PM => F_word_text_eq (c := c) (M := N) q.2
    simp only [List.set_cons_succ, List.set_cons_zero, ev_fJs, ev_fC, bnd_ok, ev_fFmt, ev_fVar0, ev_fVarS, ev_fJs0, List.nil_append, List.length_nil, List.length_append, List.length_cons, ev_fCallN, ev_fCons, ev_fNil, List.append_nil, wt, nox_ok]
    rw [if_pos (L _ (by omega)), if_pos (L _ (by omega)), bnd_ok]
    simp only []
    rw [if_pos (L _ (by omega)), if_pos (L _ (by omega)), if_pos (L _ (by omega)), bnd_ok]
    simp only []
    rw [if_pos (L _ (by omega)), rLine_eq]
    simp)
  generalize hM2 : M1 ++ [PO.lst (rs.map pairP)] ++ [.lst (rs.map fun y => PV.str (rLine y))] = M2 at lc2
  have l2 : M2.length = M.length + 4 := by rw [← hM2]; simp [l1]
  have h2 : LabAt c M2 x ms rs mv := by rw [← hM2]; exact h1.app.app
  have e1 : M2[M.length + 1]? = some (.lst (ms.map fun y => PV.str (mLine y))) := by rw [← hM2]; exact up1 (up1 e1)
  have e2 : M2[M.length + 3]? = some (.lst (rs.map fun y => PV.str (rLine y))) := by rw [← hM2, show M.length + 3 = (M1 ++ [PO.lst (rs.map pairP)]).length by simp [l1]]; exact at1
  have f3 := F_moves_eq (c := c) h2
  have lc3 := lc_mapE (ok := fun M' : PM => M'[M2.length]? = some (.lst (mv.map mvP))) (g := gTp (gsCons (gNm 7) (gsCons (gNm 8) (gsCons (gNm 9) (gsCons (gNm 10) gsNil))))) (ft := fYes) (fe := fJs [(fC (.str [109, 111, 118, 101, 32])), (fFmt (fVar 7)), (fC (.str [32])), (fFmt (fVar 8)), (fC (.str [32])), (fFmt (fCallN (F_p_act_text c) [] (fCons (fVar 9) fNil))), (fC (.str [32])), (fFmt (fVar 10))] []) (σ := [some (.ref x), some (.ref (M.length + 1)), some (.ref (M.length + 3)), none, none, none, none, none, none, none, none]) (e := mvP) (d := (M2 ++ [PO.lst (mv.map mvP)]).length) (N := M2 ++ [.lst (mv.map mvP)] ++ [.lst []]) (zs := mv) (M2 ++ [.lst (mv.map mvP)]) (fun y => .str (vLine y)) rfl rfl (fun acc => up1 at1) (by unfold lim; omega) (fun y hy => by
    refine ⟨[some (.ref x), some (.ref (M.length + 1)), some (.ref (M.length + 3)), none, none, none, none, some (.str y.1), some (.str y.2.1), some (tS y.2.2.1), some (.str y.2.2.2)], rfl, fun acc => ⟨rfl, ?_⟩⟩
    have q := g3 y hy
    have at_ := fun N : PM => F_act_text_eq (c := c) (M := N) (row_len g) (act_row g hy)
    have ta : ∀ s : List Nat, s.length ≤ 100 → (if s.length ≤ lim then some s else none) = some s := fun s hs => if_pos (L _ hs)
    simp only [ev_fJs, ev_fC, bnd_ok, ev_fFmt, ev_fVar0, ev_fVarS, ev_fJs0, List.nil_append, List.length_nil, List.length_append, List.length_cons, ev_fCallN, ev_fCons, ev_fNil, List.append_nil, at_, nox_ok]
    rw [if_pos (L _ (by omega)), if_pos (L _ (by omega)), bnd_ok]
    simp only []
    rw [if_pos (L _ (by omega)), if_pos (L _ (by omega)), if_pos (L _ (by omega)), bnd_ok]
    simp only []
    rw [if_pos (L _ (by omega)), if_pos (L _ (by omega)), if_pos (L _ (by omega)), bnd_ok]
    simp only []
    rw [if_pos (L _ (by omega)), if_pos (L _ (by omega)), if_pos (L _ (by omega)), bnd_ok]
    simp only []
    rw [if_pos (L _ (by omega)), vLine_eq]
    simp)
  generalize hM3 : M2 ++ [PO.lst (mv.map mvP)] ++ [.lst (mv.map fun y => PV.str (vLine y))] = M3 at lc3
  have l3 : M3.length = M.length + 6 := by rw [← hM3]; simp [l2]
  have e1 : M3[M.length + 1]? = some (.lst (ms.map fun y => PV.str (mLine y))) := by rw [← hM3]; exact up1 (up1 e1)
  have e2 : M3[M.length + 3]? = some (.lst (rs.map fun y => PV.str (rLine y))) := by rw [← hM3]; exact up1 (up1 e2)
  have e3 : M3[M.length + 5]? = some (.lst (mv.map fun y => PV.str (vLine y))) := by rw [← hM3, show M.length + 5 = (M2 ++ [PO.lst (mv.map mvP)]).length by simp [l2]]; exact at1
  have a1 := pAddL_at (by simp; exact L _ (by omega)) e1 e2
  have a2 := pAddL_at (M := M3 ++ [.lst ((ms.map fun y => PV.str (mLine y)) ++ (rs.map fun y => PV.str (rLine y)))]) (k := M3.length) (by simp; exact L _ (by omega)) at1 (up1 e3)
  have w1 : (M ++ [PO.lst (ms.map pairP)]).length = M.length + 1 := by simp
  have w2 : (M1 ++ [PO.lst (rs.map pairP)]).length = M.length + 3 := by simp [l1]
  have w3 : (M2 ++ [PO.lst (mv.map mvP)]).length = M.length + 5 := by simp [l2]
  have p1 : wipeP [some (PV.ref x), none, none, none, none, none, none, none, none, none, none] [4, 5] = [some (PV.ref x), none, none, none, none, none, none, none, none, none, none] := rfl
  have p2 : wipeP [some (PV.ref x), some (.ref (M.length + 1)), none, none, none, none, none, none, none, none, none] [4, 6] = [some (PV.ref x), some (.ref (M.length + 1)), none, none, none, none, none, none, none, none, none] := rfl
  have p3 : wipeP [some (PV.ref x), some (.ref (M.length + 1)), some (.ref (M.length + 3)), none, none, none, none, none, none, none, none] [7, 8, 9, 10] = [some (PV.ref x), some (.ref (M.length + 1)), some (.ref (M.length + 3)), none, none, none, none, none, none, none, none] := rfl
  rw [w1] at lc1
  rw [w2] at lc2
  rw [w3] at lc3
  have q1 : itL (.ref M.length) (M ++ [PO.lst (ms.map pairP)]) = _ := itL_at at1
  have q2 : itL (.ref M1.length) (M1 ++ [PO.lst (rs.map pairP)]) = _ := itL_at at1
  have q3 : itL (.ref M2.length) (M2 ++ [PO.lst (mv.map mvP)]) = _ := itL_at at1
  have m1 := hasM_lm h (.inl rfl)
  have m2 := hasM_lm h1 (.inr (.inl rfl))
  have m3 := hasM_lm h2 (.inr (.inr (.inr (.inl rfl))))
  simp only [ev_fSeq, ev_fAsg, ev_fLc, ev_fI, ev_fMeth, ev_fVar0, ev_fVarS, bnd_ok, m1, m2, m3, if_true, ev_fNil, List.append_nil, f1, f2, f3, q1, q2, q3, w1, w2, w3, p1, p2, p3, lc1, lc2, lc3, go_ok, ev_gNm, toSt_some, List.set_cons_succ, List.set_cons_zero, then2_nx, ev_fRet, ev_fOp, a1, a2, fnRes_rt]
  have K : KF M M3 := by
    rw [← hM3, ← hM2, ← hM1]
    exact (((((Kp.app.trans .app).trans .app).trans .app).trans .app).trans .app)
  refine (gc_newL ((K.trans .app).trans .app) (by simp; omega) at1 (wfs_iff.mpr fun p hp => ?_)).trans ?_
  · rcases List.mem_append.mp hp with hp | hp
    · rcases List.mem_append.mp hp with hp | hp
      · obtain ⟨y, _, rfl⟩ := List.mem_map.mp hp; simp
      · obtain ⟨y, _, rfl⟩ := List.mem_map.mp hp; simp
    · obtain ⟨y, _, rfl⟩ := List.mem_map.mp hp; simp
  · unfold linesOf
    rw [List.map_append, List.map_append, List.map_map, List.map_map, List.map_map]
    rfl
theorem textOf_le {ls : List (List Nat)} (h : ls.length ≤ 30) (hl : ∀ l ∈ ls, l.length ≤ 60) : (ls.map fun l => (l ++ [10]).length).sum ≤ 2000 := by
  have : ∀ ls : List (List Nat), (∀ l ∈ ls, l.length ≤ 60) → (ls.map fun l => (l ++ [10]).length).sum ≤ 61 * ls.length := by
    intro ls
    induction ls with
    | nil => intro _; simp
    | cons x r ih =>
      intro hl
      have h1 := hl x List.mem_cons_self
      have h2 := ih fun l hm => hl l (List.mem_cons_of_mem _ hm)
      rw [List.map_cons, List.sum_cons, List.length_cons, List.length_append]
      simp
      simp at h2
      omega
  have := this ls hl
  omega
/-- lines made a text -/
theorem lines_text {σ : PS} {fi : FI} {k : Nat} {ls : List (List Nat)} {i : Nat} {N : PM} (hi : fi σ M = .ok ⟨ls.map PV.str, fun M' => M'[k]? = some (.lst (ls.map PV.str))⟩ N) (hk : N[k]? = some (.lst (ls.map PV.str))) (hs : i < (wipeP σ [i]).length) (h1 : ls.length ≤ 30) (h2 : ∀ l ∈ ls, l.length ≤ 60) (hN : KF M N) :
    fGc (fM1 mJoin (fC (.str [])) (fLc fi (gNm i) fYes (fOp pAddS (fVar i) (fC (.str [10]))) [i])) σ M = .ok (.str (textOf ls)) M := by
  have lc := lc_mapE (ok := fun M' : PM => M'[k]? = some (.lst (ls.map PV.str))) (g := gNm i) (ft := fYes) (fe := fOp pAddS (fVar i) (fC (.str [10]))) (σ := wipeP σ [i]) (e := PV.str) (d := N.length) (N := N ++ [.lst []]) (zs := ls) N (fun l => .str (l ++ [10])) rfl rfl (fun acc => up1 hk) (by unfold lim; omega) (fun l hl => by
    refine ⟨_, rfl, fun acc => ⟨rfl, ?_⟩⟩
    have v : ∀ M : PM, fVar i ((wipeP σ [i]).set i (some (.str l))) M = .ok (.str l) M := fun M => by
      unfold fVar
      rw [List.getElem?_set_self hs]
    have := h2 l hl
    simp only [ev_fOp, v, bnd_ok, ev_fC]
    exact pAddS_str (by unfold lim; simp; omega))
  have e : asStrs (ls.map fun l => PV.str (l ++ [10])) = some (ls.map (· ++ [10])) := by
    have := asStrs_map (ls.map (· ++ [10]))
    rw [List.map_map] at this
    exact this
  have sm := textOf_le h1 h2
  have jn : mJoin (.str []) [.ref N.length] (N ++ [.lst (ls.map fun l => PV.str (l ++ [10]))]) = .ok (.str (textOf ls)) (N ++ [.lst (ls.map fun l => PV.str (l ++ [10]))]) := by
    unfold mJoin seqAt
    simp only [lstAt_ref' _ _ _ at1, Option.bind_some, e]
    have sm' : ((ls.map (· ++ [10])).map List.length).sum ≤ 2000 := by rw [List.map_map]; exact sm
    rw [if_pos (by rw [List.length_nil, Nat.mul_zero]; unfold lim; omega), joinE]
    rfl
  simp only [ev_fGc, ev_fM1, ev_fC, bnd_ok, isS, if_true, ev_fLc, hi, lc, jn]
  have kf : KF M (N ++ [.lst (ls.map fun l => PV.str (l ++ [10]))]) := hN.trans .app
  have := gc_keep (p := .str (textOf ls)) (KF.keep kf) (by simp)
  rw [this, KF.take kf]
theorem F_Lab_str_eq {x : Nat} (h : LabAt c M x ms rs mv) (g : LabG ms rs mv) : F_Lab_str c [.ref x] M = .ok (.str (textOf (linesOf ms rs mv))) M := by
  have ll := F_lab_lines_p h g
  have ln := lines_len g
  rw [R_Lab_str]
  unfold B_Lab_str
  have := lines_text (M := M) (σ := [some (.ref x), none]) (fi := fI itL (fCall (F_p_lab_lines c) [] (fCons (fVar 0) fNil))) (k := M.length) (i := 1) (N := M ++ [.lst ((linesOf ms rs mv).map PV.str)]) (by
    simp only [ev_fI, ev_fCall, ev_fCons, ev_fVar0, bnd_ok, ev_fNil, List.append_nil, ll]
    exact itL_at at1) at1 (by simp [wipeP]) ln.1 ln.2 .app
  simp only [ev_fRet, this, go_ok, fnRes_rt, gc_id]
theorem str_lab {x : Nat} (h : LabAt c M x ms rs mv) (g : LabG ms rs mv) : bReprOwn c.Lab (F_Lab_str c) [.ref x] M = .ok (.str (textOf (linesOf ms rs mv))) M := by
  unfold bReprOwn
  simp only [isIns_lab h, if_true, F_Lab_str_eq h g]
theorem F_lab_text_eq {x : Nat} (h : LabAt c M x ms rs mv) (g : LabG ms rs mv) : F_p_lab_text c [.ref x] M = .ok (.str (textOf (linesOf ms rs mv))) M := by
  rw [R_p_lab_text]
  unfold B_p_lab_text
  simp [str_lab h g]
theorem F_text_of_eq {k : Nat} {ls : List (List Nat)} (e : M[k]? = some (.lst (ls.map PV.str))) (h1 : ls.length ≤ 30) (h2 : ∀ l ∈ ls, l.length ≤ 60) : F_text_of c [.ref k] M = .ok (.str (textOf ls)) M := by
  rw [R_text_of]
  unfold B_text_of
  have := lines_text (M := M) (σ := [some (.ref k), none]) (fi := fI itL (fVar 0)) (k := k) (i := 1) (N := M) (by
    simp only [ev_fI, ev_fVar0, bnd_ok]
    exact itL_at e) e (by simp [wipeP]) h1 h2 (.refl)
  simp only [ev_fRet, this, go_ok, fnRes_rt, gc_id]
set_option maxHeartbeats 1000000 in
theorem F_lab_lines_l {d l m r v t : Nat} {ks : List Nat} {p : PD} (P : PlanAt M d l m r v t ks p) (g : LabG p.machines p.rows p.moves) : F_lab_lines c [.ref d] M = .ok (.ref M.length) (M ++ [.lst ((linesOf p.machines p.rows p.moves).map PV.str)]) := by
  obtain ⟨g1, g2, g3⟩ := g.lens
  have gl := g.len
  have L : ∀ k : Nat, k ≤ 100 → k ≤ lim := fun k hk => by unfold lim; omega
  have PX : ∀ ex, PlanAt (M ++ ex) d l m r v t ks p := fun ex => P.kp (E := fun _ => False) .app fun _ _ z => z
  rw [R_lab_lines]
  unfold B_lab_lines
  have aS : ∀ (N : PM) (a b : List Nat), a.length + b.length ≤ 100 → pAddS (.str a) (.str b) N = .ok (.str (a ++ b)) N := fun N a b h => pAddS_str (by unfold lim; omega)
  have lc1 := lc_mapE (ok := fun M' : PM => M'[m]? = some (.lst (p.machines.map pairP))) (g := gTp (gsCons (gNm 1) (gsCons (gNm 6) gsNil))) (ft := fYes) (fe := (fOp pAddS (fOp pAddS (fOp pAddS (fC (.str [109, 97, 99, 104, 105, 110, 101, 32])) (fVar 1)) (fC (.str [32]))) (fVar 6))) (σ := [some (.ref d), none, none, none, none, none, none, none]) (e := pairP) (d := M.length) (N := M ++ [.lst []]) (zs := p.machines) M (fun y => .str (mLine y)) rfl rfl (fun acc => up1 P.m) (by unfold lim; omega) (fun y hy => by
    refine ⟨_, rfl, fun acc => ⟨rfl, ?_⟩⟩
    have q := g1 y hy
    simp only [List.set_cons_succ, List.set_cons_zero, ev_fOp, ev_fC, bnd_ok, ev_fVar0, ev_fVarS]
    rw [aS _ _ _ (by simp; omega), bnd_ok, aS _ _ _ (by simp; omega), bnd_ok, aS _ _ _ (by simp; omega), mLine_eq]
    rfl)
  generalize hM1 : M ++ [PO.lst (p.machines.map fun y => PV.str (mLine y))] = M1 at lc1
  have l1 : M1.length = M.length + 1 := by rw [← hM1]; simp
  have P1 : PlanAt M1 d l m r v t ks p := by rw [← hM1]; exact PX _
  have e1 : M1[M.length]? = some (.lst (p.machines.map fun y => PV.str (mLine y))) := by rw [← hM1]; exact at1
  have lc2 := lc_mapE (ok := fun M' : PM => M'[r]? = some (.lst (p.rows.map pairP))) (g := gTp (gsCons (gNm 1) (gsCons (gNm 7) gsNil))) (ft := fYes) (fe := (fOp pAddS (fOp pAddS (fOp pAddS (fC (.str [114, 111, 119, 32])) (fVar 1)) (fC (.str [32]))) (fOrT (fVar 7) (fC (.str [45]))))) (σ := [some (.ref d), none, some (.ref M.length), none, none, none, none, none]) (e := pairP) (d := M1.length) (N := M1 ++ [.lst []]) (zs := p.rows) M1 (fun y => .str (rLine y)) rfl rfl (fun acc => up1 P1.r) (by unfold lim; omega) (fun y hy => by
    refine ⟨[some (.ref d), some (.str y.1), some (.ref M.length), none, none, none, none, some (.str y.2)], rfl, fun acc => ⟨rfl, ?_⟩⟩
    have q := g2 y hy
    have ot : ∀ N : PM, fOrT (fVar 7) (fC (.str [45])) [some (.ref d), some (.str y.1), some (.ref M.length), none, none, none, none, some (.str y.2)] N = .ok (.str (wTx y.2)) N := fun N => by
      unfold wTx
      have q2 := q.2
      cases hw : y.2 with
      | nil => simp [asT, tru]
      | cons a w =>
        rw [hw] at q2
        have : w.length + 1 ≤ lim := by simp at q2; unfold lim; omega
        simp [asT, tru, this]
    have qw := wTx_le q.2
    rw [ev_fOp, ev_fOp, ev_fOp]
    simp only [ev_fC, bnd_ok, ev_fVar0, ev_fVarS, ot]
    rw [aS _ _ _ (by simp; omega), bnd_ok, aS _ _ _ (by simp; omega), bnd_ok, aS _ _ _ (by simp; omega), rLine_eq]
    rfl)
  generalize hM2 : M1 ++ [PO.lst (p.rows.map fun y => PV.str (rLine y))] = M2 at lc2
  have l2 : M2.length = M.length + 2 := by rw [← hM2]; simp [l1]
  have e1 : M2[M.length]? = some (.lst (p.machines.map fun y => PV.str (mLine y))) := by rw [← hM2]; exact up1 e1
  have e2 : M2[M.length + 1]? = some (.lst (p.rows.map fun y => PV.str (rLine y))) := by rw [← hM2, ← l1]; exact at1
  have a1 := pAddL_at (by simp; exact L _ (by omega)) e1 e2
  rw [l2] at a1
  have P2 : PlanAt M2 d l m r v t ks p := by rw [← hM2, ← hM1]; exact (PX _).kp (E := fun _ => False) .app fun _ _ z => z
  have K : KF M M2 := by
    rw [← hM2, ← hM1]
    exact Kp.app.trans .app
  obtain ⟨A, hA⟩ : ∃ A, A = (p.machines.map fun y => PV.str (mLine y)) ++ (p.rows.map fun y => PV.str (rLine y)) := ⟨_, rfl⟩
  have lA : A.length ≤ 6 := by rw [hA]; simp; omega
  rw [← hA] at a1
  have p1 : wipeP [some (PV.ref d), none, none, none, none, none, none, none] [1, 6] = [some (PV.ref d), none, none, none, none, none, none, none] := rfl
  have p2 : wipeP [some (PV.ref d), none, some (.ref M.length), none, none, none, none, none] [1, 7] = [some (PV.ref d), none, some (.ref M.length), none, none, none, none, none] := rfl
  rw [l1] at lc2
  simp only [ev_fSeq, ev_fAsg, ev_fLc, ev_fI, ev_fDGet, ev_fVar0, ev_fVarS, ev_fC, bnd_ok, pg_m P.d, asV_some, itL_at P.m, p1, lc1, go_ok, ev_gNm, toSt_some, List.set_cons_succ, List.set_cons_zero, then2_nx, ev_fOp, pg_r P1.d, itL_at P1.r, p2, l1, lc2, a1]
  refine goes_P (fun r => gc M (fnRes r) = .ok (.ref M.length) (M ++ [.lst ((linesOf p.machines p.rows p.moves).map PV.str)])) (Q := fun σ N => N = M2 ++ [.lst (A ++ p.moves.map fun y => PV.str (vLine y))] ∧ ∃ x1 x3 x4 x5, σ = [some (.ref d), x1, some (.ref (M.length + 2)), x3, x4, x5, none, none])
    (f := fFor (fI itL (fDGet (fVar 0) (fC (.str [109, 111, 118, 101, 115])))) (gTp (gsCons (gNm 1) (gsCons (gNm 3) (gsCons (gNm 4) (gsCons (gNm 5) gsNil))))) (fDrop (fBM "list" mAppend (fVar 2) (fCons (fGc (fM1 mJoin (fC (.str [32])) (fLst (fCons (fC (.str [109, 111, 118, 101])) (fCons (fVar 1) (fCons (fVar 3) (fCons (fM1 mJoin (fC (.str [46])) (fVar 4)) (fCons (fVar 5) fNil)))))))) fNil))))
    (g := fRet (fVar 2))
    (goes_for (zs := p.moves) (e := mvP) (M := M2 ++ [.lst A]) (σ := [some (.ref d), none, some (.ref (M.length + 2)), none, none, none, none, none]) (M1 := M2 ++ [.lst A]) (ok := fun M' => M'[v]? = some (.lst (p.moves.map mvP))) (fun i σ N => N = M2 ++ [.lst (A ++ (p.moves.take i).map fun y => PV.str (vLine y))] ∧ ∃ x1 x3 x4 x5, σ = [some (.ref d), x1, some (.ref (M.length + 2)), x3, x4, x5, none, none])
      (by
        have PA : PlanAt (M2 ++ [.lst A]) d l m r v t ks p := P2.kp (E := fun _ => False) .app fun _ _ z => z
        simp only [ev_fI, ev_fDGet, ev_fVar0, ev_fVarS, ev_fC, bnd_ok, pg_v PA.d, asV_some, itL_at PA.v])
      ⟨by simp, _, _, _, _, rfl⟩ (fun i σ N h => by rw [h.1]; exact up1 P2.v) (fun i y σ N hy hI => ?_) (fun σ N hI => ?_)) fun σ N hI => ?_
  · obtain ⟨rfl, x1, x3, x4, x5, rfl⟩ := hI
    obtain ⟨hi, rfl⟩ := List.getElem?_eq_some_iff.mp hy
    have hm := List.getElem_mem hi
    have q := g3 _ hm
    have ja := fun N : PM => join_act (M := N) (row_len g) (act_row g hm)
    refine ⟨[some (.ref d), some (.str p.moves[i].1), some (.ref (M.length + 2)), some (.str p.moves[i].2.1), some (tS p.moves[i].2.2.1), some (.str p.moves[i].2.2.2), none, none], rfl, ?_⟩
    generalize hN : M2 ++ [PO.lst (A ++ (p.moves.take i).map fun y => PV.str (vLine y))] = N
    have eN : N[M.length + 2]? = some (.lst (A ++ (p.moves.take i).map fun y => PV.str (vLine y))) := by rw [← hN, ← l2]; exact at1
    have jn : mJoin (.str [32]) [.ref N.length] (N ++ [.lst [.str [109, 111, 118, 101], .str p.moves[i].1, .str p.moves[i].2.1, .str (TL.joinL [46] p.moves[i].2.2.1), .str p.moves[i].2.2.2]]) = .ok (.str (vLine p.moves[i])) (N ++ [.lst [.str [109, 111, 118, 101], .str p.moves[i].1, .str p.moves[i].2.1, .str (TL.joinL [46] p.moves[i].2.2.1), .str p.moves[i].2.2.2]]) := by
      have e : asStrs [.str [109, 111, 118, 101], .str p.moves[i].1, .str p.moves[i].2.1, .str (TL.joinL [46] p.moves[i].2.2.1), .str p.moves[i].2.2.2] = some [[109, 111, 118, 101], p.moves[i].1, p.moves[i].2.1, TL.joinL [46] p.moves[i].2.2.1, p.moves[i].2.2.2] := rfl
      unfold mJoin seqAt
      simp only [lstAt_ref' _ _ _ at1, Option.bind_some, e]
      rw [if_pos (by simp; exact L _ (by omega)), joinD]
      rfl
    have l5 : (5 : Nat) ≤ lim := by decide
    have gk := gc_flat (M := N) (ex := [.lst [.str [109, 111, 118, 101], .str p.moves[i].1, .str p.moves[i].2.1, .str (TL.joinL [46] p.moves[i].2.2.1), .str p.moves[i].2.2.2]]) (p := .str (vLine p.moves[i])) (by simp)
    have ap := mAppend_at (y := .str (vLine p.moves[i])) eN (by simp; unfold lim; omega)
    refine goes_drop (p := .non) (M1 := N.set (M.length + 2) (.lst (A ++ (p.moves.take i).map (fun y => PV.str (vLine y)) ++ [.str (vLine p.moves[i])]))) (by
      simp only [ev_fBM, ev_fVar0, ev_fVarS, bnd_ok, isTy_lst eN, if_true, ev_fCons, ev_fGc, ev_fM1, ev_fC, isS, ev_fLst, ja, ev_fNil, List.length_cons, List.length_nil, Nat.zero_add, Nat.reduceAdd, l5, jn, gk, ap]) ⟨?_, _, _, _, _, rfl⟩
    rw [← hN, ← l2, ← take_snoc hi, List.map_append, List.append_assoc]
    simp
  · rw [List.take_length] at hI
    exact hI
  · obtain ⟨rfl, x1, x3, x4, x5, rfl⟩ := hI
    simp only [ev_fRet, ev_fVar0, ev_fVarS, bnd_ok, go_ok, fnRes_rt]
    refine (gc_newL (K.trans .app) (by omega) (by rw [← l2]; exact at1) (wfs_iff.mpr fun q hq => ?_)).trans ?_
    · rw [hA] at hq
      rcases List.mem_append.mp hq with hq | hq
      · rcases List.mem_append.mp hq with hq | hq
        · obtain ⟨y, _, rfl⟩ := List.mem_map.mp hq; simp
        · obtain ⟨y, _, rfl⟩ := List.mem_map.mp hq; simp
      · obtain ⟨y, _, rfl⟩ := List.mem_map.mp hq; simp
    · unfold linesOf
      rw [hA, List.map_append, List.map_append, List.map_map, List.map_map, List.map_map]
      rfl
end
end Pu
/-! Labs read. -/
namespace Pu
open PySem PySem.Spec PyProof.Rows L2 LB
open Classical
variable {c : CA} {M M' M'' : PM} {b : Nat}
section
variable {ms rs ms' rs' : List Pr} {mv mv' : List Mv}
theorem isWord_low {w : List Nat} (h : w.length ≤ 8) (hl : ∀ y ∈ w, 97 ≤ y ∧ y < 123) : F_p_is_word c [.str w] M = .ok (.bl true) M := by
  rw [F_is_word_eq (by unfold lim; omega), List.all_eq_true.mpr fun y hy => by unfold low; simp; have := hl y hy; omega]
theorem F_read_word_eq {w : List Nat} (h : w.length ≤ 8) (hl : ∀ y ∈ w, 97 ≤ y ∧ y < 123) : F_p_read_word c [.str (wTx w)] M = .ok (.str w) M := by
  rw [R_p_read_word]
  unfold B_p_read_word wTx
  by_cases hw : w = []
  · subst hw
    have iw : F_p_is_word c [.str [45]] M = .ok (.bl false) M := by
      rw [F_is_word_eq (by decide)]
      congr 2
    simp [iw]
  · have iw := isWord_low (c := c) (M := M) h hl
    have n45 : w ≠ [45] := fun e => by
      have := hl 45 (by rw [e]; simp)
      omega
    simp [hw, iw, n45]
theorem F_read_act_eq (g : LabG ms rs mv) {m : Mv} (hm : m ∈ mv) : F_p_read_act c [.str (TL.joinL [46] m.2.2.1)] M = .ok (tS m.2.2.1) M := by
  have ha := act_row g hm
  have lr := row_len g
  have low_r : ∀ n, n ∈ rs.map (·.1) → ∀ y ∈ n, 97 ≤ y ∧ y < 123 := fun n hn => by
    obtain ⟨x, hx, rfl⟩ := List.mem_map.mp hn
    exact (g.n2 x hx).1.2.2
  have la := aTx_le lr ha
  have sp : splitT (TL.joinL [46] m.2.2.1) [46] = m.2.2.1 := by
    generalize m.2.2.1 = a at ha
    refine splitD (by decide) (by cases ha <;> simp) fun w hw hm => ?_
    cases ha with
    | idle => simp only [List.mem_cons, List.not_mem_nil, or_false] at hw; subst hw; revert hm; decide
    | bare h =>
      simp only [List.mem_cons, List.not_mem_nil, or_false] at hw
      rcases hw with rfl | rfl
      · revert hm; decide
      · have := low_r _ h _ hm; omega
    | send h hx =>
      simp only [List.mem_cons, List.not_mem_nil, or_false] at hw
      rcases hw with rfl | rfl | rfl
      · revert hm; decide
      · have := low_r _ h _ hm; omega
      · have := List.mem_singleton.mp hm; omega
    | take h hx =>
      simp only [List.mem_cons, List.not_mem_nil, or_false] at hw
      rcases hw with rfl | rfl | rfl
      · revert hm; decide
      · have := low_r _ h _ hm; omega
      · have := List.mem_singleton.mp hm; omega
  have ms' : mSplit (.str (TL.joinL [46] m.2.2.1)) [.str [46]] M = .ok (.ref M.length) (M ++ [.lst (m.2.2.1.map PV.str)]) := by
    unfold mSplit
    simp only
    rw [if_pos ⟨by simp, by unfold lim; omega⟩, sp]
  rw [R_p_read_act]
  unfold B_p_read_act
  simp only [ev_fRet, ev_fB, ev_fCons, ev_fM1, ev_fVar0, bnd_ok, isS, if_true, ev_fC, ms', ev_fNil, bTup_lst at1, go_ok, fnRes_rt]
  exact gc_flat (by simp [wfs_strs])
abbrev lnK : List (List Nat × Int) := [([109, 97, 99, 104, 105, 110, 101], 3), ([114, 111, 119], 3), ([109, 111, 118, 101], 5)]
theorem lget {f : FE} {σ : PS} {w : List Nat} {N : PM} (h : f σ M = .ok (.str w) N) : fKGet lnK f σ M = .ok (match lnK.lookup w with | some n => .int n | none => .non) N := by
  unfold fKGet
  rw [h]
  rfl
theorem F_thing_m {k : Nat} {x : Pr} (e : M[k]? = some (.lst [.str nMach, .str x.1, .str x.2])) : F_p_thing_of c [.ref k] M = .ok (pairP x) M := by
  have i0 : pIxL (.ref k) (.int 0) M = .ok (.str nMach) M := pIxL_at e (atI_nat (j := 0) rfl)
  have i1 : pIxL (.ref k) (.int 1) M = .ok (.str x.1) M := pIxL_at e (atI_nat (j := 1) rfl)
  have i2 : pIxL (.ref k) (.int 2) M = .ok (.str x.2) M := pIxL_at e (atI_nat (j := 2) rfl)
  have kg := lget (f := fOp pIxL (fVar 0) (fC (.int 0))) (σ := [some (.ref k)]) (w := nMach) (M := M) (N := M) (by simp [i0])
  rw [R_p_thing_of]
  unfold B_p_thing_of
  simp [kg, bLen_lst e, i0, i1, i2, List.lookup, pairP]
theorem F_thing_r {k : Nat} {x : Pr} (h : x.2.length ≤ 8) (hl : ∀ y ∈ x.2, 97 ≤ y ∧ y < 123) (e : M[k]? = some (.lst [.str nRow, .str x.1, .str (wTx x.2)])) : F_p_thing_of c [.ref k] M = .ok (pairP x) M := by
  have i0 : pIxL (.ref k) (.int 0) M = .ok (.str nRow) M := pIxL_at e (atI_nat (j := 0) rfl)
  have i1 : pIxL (.ref k) (.int 1) M = .ok (.str x.1) M := pIxL_at e (atI_nat (j := 1) rfl)
  have i2 : pIxL (.ref k) (.int 2) M = .ok (.str (wTx x.2)) M := pIxL_at e (atI_nat (j := 2) rfl)
  have kg := lget (f := fOp pIxL (fVar 0) (fC (.int 0))) (σ := [some (.ref k)]) (w := nRow) (M := M) (N := M) (by simp [i0])
  have rw' := F_read_word_eq (c := c) (M := M) h hl
  rw [R_p_thing_of]
  unfold B_p_thing_of
  simp [kg, bLen_lst e, i0, i1, i2, List.lookup, pairP, rw']
theorem F_thing_v {k : Nat} (g : LabG ms rs mv) {m : Mv} (hm : m ∈ mv) (e : M[k]? = some (.lst [.str nMove, .str m.1, .str m.2.1, .str (TL.joinL [46] m.2.2.1), .str m.2.2.2])) : F_p_thing_of c [.ref k] M = .ok (mvP m) M := by
  have i0 : pIxL (.ref k) (.int 0) M = .ok (.str nMove) M := pIxL_at e (atI_nat (j := 0) rfl)
  have i1 : pIxL (.ref k) (.int 1) M = .ok (.str m.1) M := pIxL_at e (atI_nat (j := 1) rfl)
  have i2 : pIxL (.ref k) (.int 2) M = .ok (.str m.2.1) M := pIxL_at e (atI_nat (j := 2) rfl)
  have i3 : pIxL (.ref k) (.int 3) M = .ok (.str (TL.joinL [46] m.2.2.1)) M := pIxL_at e (atI_nat (j := 3) rfl)
  have i4 : pIxL (.ref k) (.int 4) M = .ok (.str m.2.2.2) M := pIxL_at e (atI_nat (j := 4) rfl)
  have kg := lget (f := fOp pIxL (fVar 0) (fC (.int 0))) (σ := [some (.ref k)]) (w := nMove) (M := M) (N := M) (by simp [i0])
  have ra := F_read_act_eq (c := c) (M := M) g hm
  rw [R_p_thing_of]
  unfold B_p_thing_of
  simp [kg, bLen_lst e, i0, i1, i2, i3, i4, List.lookup, mvP, ra]
theorem low_no {w : List Nat} (hl : ∀ y ∈ w, 97 ≤ y ∧ y < 123) {d : Nat} (hd : d < 97) : d ∉ w := fun h => by have := hl d h; omega
theorem wTx_no {w : List Nat} (hl : ∀ y ∈ w, 97 ≤ y ∧ y < 123) {d : Nat} (hd : d < 45) : d ∉ wTx w := by
  unfold wTx
  split
  · simp; omega
  · exact low_no hl (by omega)
theorem join_no {d e : Nat} : ∀ {ws : List (List Nat)}, d ≠ e → (∀ w ∈ ws, d ∉ w) → d ∉ TL.joinL [e] ws
  | [], _, _ => by simp [TL.joinL]
  | [a], _, h => by simpa [TL.joinL] using h a List.mem_cons_self
  | a :: b :: r, hd, h => by
    have h1 := h a List.mem_cons_self
    have h2 := join_no (ws := b :: r) hd fun w hw => h w (List.mem_cons_of_mem _ hw)
    intro hm
    have hm : d ∈ a ∨ d = e ∨ d ∈ TL.joinL [e] (b :: r) := by simpa [TL.joinL, or_assoc] using hm
    rcases hm with hm | hm | hm
    · exact h1 hm
    · exact hd hm
    · exact h2 hm
theorem act_no (g : LabG ms rs mv) {m : Mv} (hm : m ∈ mv) {d : Nat} (hd : d < 97) : ∀ w ∈ m.2.2.1, d ∉ w := fun w hw => by
  have ha := act_row g hm
  have low_r : ∀ n, n ∈ rs.map (·.1) → ∀ y ∈ n, 97 ≤ y ∧ y < 123 := fun n hn => by
    obtain ⟨x, hx, rfl⟩ := List.mem_map.mp hn
    exact (g.n2 x hx).1.2.2
  have c1 : ∀ w ∈ [wIdle, wBare, wSend, wTake], ∀ y ∈ w, 97 ≤ y ∧ y < 123 := by decide
  generalize m.2.2.1 = a at ha hw
  cases ha with
  | idle =>
    simp only [List.mem_cons, List.not_mem_nil, or_false] at hw
    subst hw
    exact low_no (c1 _ (by simp)) hd
  | bare h =>
    simp only [List.mem_cons, List.not_mem_nil, or_false] at hw
    rcases hw with rfl | rfl
    · exact low_no (c1 _ (by simp)) hd
    · exact low_no (low_r _ h) hd
  | send h hx =>
    simp only [List.mem_cons, List.not_mem_nil, or_false] at hw
    rcases hw with rfl | rfl | rfl
    · exact low_no (c1 _ (by simp)) hd
    · exact low_no (low_r _ h) hd
    · simp; omega
  | take h hx =>
    simp only [List.mem_cons, List.not_mem_nil, or_false] at hw
    rcases hw with rfl | rfl | rfl
    · exact low_no (c1 _ (by simp)) hd
    · exact low_no (low_r _ h) hd
    · simp; omega
theorem mWords (g : LabG ms rs mv) {x : Pr} (hx : x ∈ ms) {d : Nat} (hd : d < 45) : ∀ w ∈ [nMach, x.1, x.2], d ∉ w := fun w hw => by
  simp only [List.mem_cons, List.not_mem_nil, or_false] at hw
  rcases hw with rfl | rfl | rfl
  · exact low_no (by decide) (by omega)
  · exact low_no (g.n1 x hx).1.2.2 (by omega)
  · exact low_no (g.n1 x hx).2.2.2 (by omega)
theorem rWords (g : LabG ms rs mv) {x : Pr} (hx : x ∈ rs) {d : Nat} (hd : d < 45) : ∀ w ∈ [nRow, x.1, wTx x.2], d ∉ w := fun w hw => by
  simp only [List.mem_cons, List.not_mem_nil, or_false] at hw
  rcases hw with rfl | rfl | rfl
  · exact low_no (by decide) (by omega)
  · exact low_no (g.n2 x hx).1.2.2 (by omega)
  · exact wTx_no (g.n2 x hx).2.2 hd
theorem vWords (g : LabG ms rs mv) {m : Mv} (hm : m ∈ mv) {d : Nat} (hd : d < 45) : ∀ w ∈ [nMove, m.1, m.2.1, TL.joinL [46] m.2.2.1, m.2.2.2], d ∉ w := fun w hw => by
  have h := g.hmv m hm
  have k1 : isNm m.1 := by
    obtain ⟨z, hz, e⟩ := List.mem_map.mp h.hm
    have e : z.1 = m.1 := e
    rw [← e]
    exact (g.n1 z hz).1
  simp only [List.mem_cons, List.not_mem_nil, or_false] at hw
  rcases hw with rfl | rfl | rfl | rfl | rfl
  · exact low_no (by decide) (by omega)
  · exact low_no k1.2.2 (by omega)
  · exact low_no h.hs.2.2 (by omega)
  · exact join_no (by omega) (act_no g hm (by omega))
  · exact low_no h.he.2.2 (by omega)
theorem split_line {ws : List (List Nat)} (ne : ws ≠ []) (h : ∀ w ∈ ws, 32 ∉ w) (l : (TL.joinL [32] ws).length ≤ 60) : mSplit (.str (TL.joinL [32] ws)) [.str [32]] M = .ok (.ref M.length) (M ++ [.lst (ws.map PV.str)]) := by
  unfold mSplit
  simp only
  rw [if_pos ⟨by simp, by unfold lim; omega⟩, splitD (by decide) ne h]
theorem gc_lab {N : PM} {x k1 k2 k3 : Nat} (lk : M.length ≤ x) (e : N[x]? = some (.ins c.Lab (labF c ms rs mv k1 k2 k3))) (hk : M.length ≤ k1) : gc M (.ok (.ref x) N) = .ok (.ref x) N := gc_no lk e fun w => by
  have := w ("machine_places", .ref k1) (by simp [labF])
  simp at this
  omega
/-- a lab made behind a place -/
def LabW (c : CA) (N : PM) (x lo : Nat) (ms rs : List Pr) (mv : List Mv) : Prop := lo ≤ x ∧ ∃ k1 k2 k3, lo ≤ k1 ∧ N[x]? = some (.ins c.Lab (labF c ms rs mv k1 k2 k3)) ∧ N[k1]? = some (.dct (plcD ms)) ∧ N[k2]? = some (.dct (plcD rs)) ∧ N[k3]? = some (.dct (stD ms mv))
theorem LabW.at_ {N : PM} {x lo : Nat} (h : LabW c N x lo ms rs mv) : LabAt c N x ms rs mv := by
  obtain ⟨_, k1, k2, k3, _, e0, e1, e2, e3⟩ := h
  exact ⟨k1, k2, k3, e0, e1, e2, e3⟩
theorem LabW.lower {N : PM} {x lo lo' : Nat} (h : LabW c N x lo ms rs mv) (l : lo' ≤ lo) : LabW c N x lo' ms rs mv := by
  obtain ⟨a, k1, k2, k3, b, e⟩ := h
  exact ⟨by omega, k1, k2, k3, by omega, e⟩
theorem labW_new {N : PM} : LabW c (N ++ [.ins c.Lab (labF c ms rs mv (N.length + 1) (N.length + 2) (N.length + 3)), .dct (plcD ms), .dct (plcD rs), .dct (stD ms mv)]) N.length N.length ms rs mv :=
  ⟨Nat.le_refl _, N.length + 1, N.length + 2, N.length + 3, by omega, by simp, by simp, by simp, by simp⟩
theorem LabW.gc_ {N : PM} {x : Nat} (h : LabW c N x M.length ms rs mv) : gc M (.ok (.ref x) N) = .ok (.ref x) N := by
  obtain ⟨a, k1, k2, k3, b, e, _⟩ := h
  exact gc_lab a e b
theorem asN_ref {n : Nat} {N : PM} : (Res.ok PV.non N).bnd (asN n) = .ok (.ref n) N := rfl
theorem tru_l {k : Nat} {xs : List PV} (e : M[k]? = some (.lst xs)) : asT (.ref k) M = .ok (!xs.isEmpty) M := by
  unfold asT tru
  simp only [e]
set_option maxHeartbeats 1000000 in
theorem F_read_line_v {x : Nat} {m : Mv} (h : LabAt c M x ms rs mv) (g : LabG ms rs (mv ++ [m])) : ∃ N x', F_p_read_line c [.ref x, .str (vLine m)] M = .ok (.ref x') N ∧ KF M N ∧ LabW c N x' M.length ms rs (mv ++ [m]) := by
  have hm : m ∈ mv ++ [m] := by simp
  have ll := (lines_len g).2 (vLine m) (by simp [linesOf])
  have sp := split_line (M := M) (ws := [nMove, m.1, m.2.1, TL.joinL [46] m.2.2.1, m.2.2.2]) (by simp) (vWords g hm (by omega)) ll
  have gl := g.len
  rw [R_p_read_line]
  unfold B_p_read_line
  have at0 : (M ++ [PO.lst ([nMove, m.1, m.2.1, TL.joinL [46] m.2.2.1, m.2.2.2].map PV.str)])[M.length]? = some (.lst [.str nMove, .str m.1, .str m.2.1, .str (TL.joinL [46] m.2.2.1), .str m.2.2.2]) := at1
  have th := F_thing_v (c := c) g hm at0
  have i0 : pIxL (.ref M.length) (.int 0) (M ++ [PO.lst ([nMove, m.1, m.2.1, TL.joinL [46] m.2.2.1, m.2.2.2].map PV.str)]) = .ok (.str nMove) _ := pIxL_at at0 (atI_nat (j := 0) rfl)
  have K1 : KF M (M ++ [PO.lst ([nMove, m.1, m.2.1, TL.joinL [46] m.2.2.1, m.2.2.2].map PV.str)]) := .app
  have h1 : LabAt c (M ++ [PO.lst ([nMove, m.1, m.2.1, TL.joinL [46] m.2.2.1, m.2.2.2].map PV.str)]) x ms rs mv := h.app
  change mSplit (.str (vLine m)) [.str [32]] M = _ at sp
  generalize M ++ [PO.lst ([nMove, m.1, m.2.1, TL.joinL [46] m.2.2.1, m.2.2.2].map PV.str)] = M1 at sp at0 th i0 K1 h1
  have f1 := F_machines_eq (c := c) h1
  have h2 := h1.app (ex := [.lst (ms.map pairP)])
  have f2 := F_rows_eq (c := c) h2
  have h3 := h2.app (ex := [.lst (rs.map pairP)])
  have f3 := F_moves_eq (c := c) h3
  have w1 : (M1 ++ [PO.lst (ms.map pairP)]).length = M1.length + 1 := by simp
  have w2 : (M1 ++ [PO.lst (ms.map pairP)] ++ [PO.lst (rs.map pairP)]).length = M1.length + 2 := by simp
  have w3 : (M1 ++ [PO.lst (ms.map pairP)] ++ [PO.lst (rs.map pairP)] ++ [PO.lst (mv.map mvP)]).length = M1.length + 3 := by simp
  have w4 : (M1 ++ [PO.lst (ms.map pairP)] ++ [PO.lst (rs.map pairP)] ++ [PO.lst (mv.map mvP)] ++ [PO.lst [mvP m]]).length = M1.length + 4 := by simp
  rw [w1] at f2
  rw [w2] at f3
  have ad := pAddL_at (A := mv.map mvP) (B := [mvP m]) (M := M1 ++ [PO.lst (ms.map pairP)] ++ [PO.lst (rs.map pairP)] ++ [PO.lst (mv.map mvP)] ++ [PO.lst [mvP m]]) (k := M1.length + 2) (j := M1.length + 3) (by simp at gl ⊢; unfold lim; omega) (by rw [← w2]; exact up1 at1) (by rw [← w3]; exact at1)
  rw [w4] at ad
  have q1 : (M1 ++ [PO.lst (ms.map pairP)] ++ [PO.lst (rs.map pairP)] ++ [PO.lst (mv.map mvP)] ++ [PO.lst [mvP m]] ++ [PO.lst (mv.map mvP ++ [mvP m])])[M1.length]? = some (.lst (ms.map pairP)) := up1 (up1 (up1 (up1 at1)))
  have q2 : (M1 ++ [PO.lst (ms.map pairP)] ++ [PO.lst (rs.map pairP)] ++ [PO.lst (mv.map mvP)] ++ [PO.lst [mvP m]] ++ [PO.lst (mv.map mvP ++ [mvP m])])[M1.length + 1]? = some (.lst (rs.map pairP)) := by rw [← w1]; exact up1 (up1 (up1 at1))
  have q3 : (M1 ++ [PO.lst (ms.map pairP)] ++ [PO.lst (rs.map pairP)] ++ [PO.lst (mv.map mvP)] ++ [PO.lst [mvP m]] ++ [PO.lst (mv.map mvP ++ [mvP m])])[M1.length + 4]? = some (.lst ((mv ++ [m]).map mvP)) := by rw [← w4, List.map_append]; exact at1
  have mk := F_Lab_init_seq (c := c) g (.inl ⟨_, rfl, q1⟩) (.inl ⟨_, rfl, q2⟩) (.inl ⟨_, rfl, q3⟩)
  have K2 : KF M (M1 ++ [PO.lst (ms.map pairP)] ++ [PO.lst (rs.map pairP)] ++ [PO.lst (mv.map mvP)] ++ [PO.lst [mvP m]] ++ [PO.lst (mv.map mvP ++ [mvP m])]) := ((((K1.trans .app).trans .app).trans .app).trans .app).trans .app
  have m1 := hasM_lm h1 (.inl rfl)
  have m2 := hasM_lm h2 (.inr (.inl rfl))
  have m3 := hasM_lm h3 (.inr (.inr (.inr (.inl rfl))))
  simp only [ev_fSeq, ev_fAsg, ev_fM1, ev_fVar0, ev_fVarS, bnd_ok, isS, if_true, ev_fC, sp, go_ok, ev_gNm, toSt_some, List.set_cons_succ, List.set_cons_zero, then2_nx, ev_fCall, ev_fCons, ev_fNil, List.append_nil, th, ev_fIfS, ev_fTest, ev_fOp, i0, pEq_str, decide_true, asB_bl, ev_fRet, fMake, ev_fMeth, m1, m2, m3, f1, f2, f3, ev_fLst, List.length_cons, List.length_nil, Nat.zero_add, lim1, w3, ad]
  generalize hN : M1 ++ [PO.lst (ms.map pairP)] ++ [PO.lst (rs.map pairP)] ++ [PO.lst (mv.map mvP)] ++ [PO.lst [mvP m]] ++ [PO.lst (mv.map mvP ++ [mvP m])] = N at mk K2
  simp only [mk, asN_ref, go_ok, fnRes_rt]
  have W : LabW c (N ++ [.ins c.Lab (labF c ms rs (mv ++ [m]) (N.length + 1) (N.length + 2) (N.length + 3)), .dct (plcD ms), .dct (plcD rs), .dct (stD ms (mv ++ [m]))]) N.length M.length ms rs (mv ++ [m]) := labW_new.lower K2.l
  exact ⟨_, _, W.gc_, K2.trans .app, W⟩
set_option maxHeartbeats 1000000 in
theorem F_read_line_r {x : Nat} {y : Pr} (h : LabAt c M x ms rs []) (g : LabG ms (rs ++ [y]) []) : ∃ N x', F_p_read_line c [.ref x, .str (rLine y)] M = .ok (.ref x') N ∧ KF M N ∧ LabW c N x' M.length ms (rs ++ [y]) [] := by
  have hy : y ∈ rs ++ [y] := by simp
  have ll := (lines_len g).2 (rLine y) (by simp [linesOf])
  have sp := split_line (M := M) (ws := [nRow, y.1, wTx y.2]) (by simp) (rWords g hy (by omega)) ll
  have gl := g.len
  rw [R_p_read_line]
  unfold B_p_read_line
  have at0 : (M ++ [PO.lst ([nRow, y.1, wTx y.2].map PV.str)])[M.length]? = some (.lst [.str nRow, .str y.1, .str (wTx y.2)]) := at1
  have th := F_thing_r (c := c) (g.n2 y hy).2.1 (g.n2 y hy).2.2 at0
  have K1 : KF M (M ++ [PO.lst ([nRow, y.1, wTx y.2].map PV.str)]) := .app
  have h1 : LabAt c (M ++ [PO.lst ([nRow, y.1, wTx y.2].map PV.str)]) x ms rs [] := h.app
  change mSplit (.str (rLine y)) [.str [32]] M = _ at sp
  generalize M ++ [PO.lst ([nRow, y.1, wTx y.2].map PV.str)] = M0 at sp at0 th K1 h1
  have i0 : pIxL (.ref M.length) (.int 0) M0 = .ok (.str nRow) M0 := pIxL_at at0 (atI_nat (j := 0) rfl)
  have f0 : F_Lab_moves c [.ref x] M0 = .ok (.ref M0.length) (M0 ++ [.lst []]) := F_moves_eq (c := c) h1
  have m0 := hasM_lm h1 (.inr (.inr (.inr (.inl rfl))))
  have t0 := tru_l (M := M0 ++ [.lst []]) (k := M0.length) (xs := []) at1
  have h1 := h1.app (ex := [.lst []])
  have K1 := K1.trans (.app (ex := [.lst []]))
  have at0 := up1 (o := .lst []) at0
  generalize M0 ++ [PO.lst []] = M1 at f0 t0 h1 K1 at0
  have i1 : pIxL (.ref M.length) (.int 0) M1 = .ok (.str nRow) M1 := pIxL_at at0 (atI_nat (j := 0) rfl)
  have f1 := F_machines_eq (c := c) h1
  have h2 := h1.app (ex := [.lst (ms.map pairP)])
  have f2 := F_rows_eq (c := c) h2
  have w1 : (M1 ++ [PO.lst (ms.map pairP)]).length = M1.length + 1 := by simp
  have w2 : (M1 ++ [PO.lst (ms.map pairP)] ++ [PO.lst (rs.map pairP)]).length = M1.length + 2 := by simp
  have w3 : (M1 ++ [PO.lst (ms.map pairP)] ++ [PO.lst (rs.map pairP)] ++ [PO.lst [pairP y]]).length = M1.length + 3 := by simp
  rw [w1] at f2
  have ad := pAddL_at (A := rs.map pairP) (B := [pairP y]) (M := M1 ++ [PO.lst (ms.map pairP)] ++ [PO.lst (rs.map pairP)] ++ [PO.lst [pairP y]]) (k := M1.length + 1) (j := M1.length + 2) (by simp at gl ⊢; unfold lim; omega) (by rw [← w1]; exact up1 at1) (by rw [← w2]; exact at1)
  rw [w3] at ad
  have q1 : (M1 ++ [PO.lst (ms.map pairP)] ++ [PO.lst (rs.map pairP)] ++ [PO.lst [pairP y]] ++ [PO.lst (rs.map pairP ++ [pairP y])])[M1.length]? = some (.lst (ms.map pairP)) := up1 (up1 (up1 at1))
  have q2 : (M1 ++ [PO.lst (ms.map pairP)] ++ [PO.lst (rs.map pairP)] ++ [PO.lst [pairP y]] ++ [PO.lst (rs.map pairP ++ [pairP y])])[M1.length + 3]? = some (.lst ((rs ++ [y]).map pairP)) := by rw [← w3, List.map_append]; exact at1
  have mk := F_Lab_init_seq (c := c) (q3 := .adr (c.mt 2)) g (.inl ⟨_, rfl, q1⟩) (.inl ⟨_, rfl, q2⟩) (.inr (.inr ⟨⟨_, rfl⟩, rfl⟩))
  have K2 : KF M (M1 ++ [PO.lst (ms.map pairP)] ++ [PO.lst (rs.map pairP)] ++ [PO.lst [pairP y]] ++ [PO.lst (rs.map pairP ++ [pairP y])]) := (((K1.trans .app).trans .app).trans .app).trans .app
  have m1 := hasM_lm h1 (.inl rfl)
  have m2 := hasM_lm h2 (.inr (.inl rfl))
  have d1 : decide (nRow = [109, 111, 118, 101]) = false := by decide
  have d2 : decide (nRow = [109, 97, 99, 104, 105, 110, 101]) = false := by decide
  simp only [ev_fSeq, ev_fAsg, ev_fM1, ev_fVar0, ev_fVarS, bnd_ok, isS, if_true, ev_fC, sp, go_ok, ev_gNm, toSt_some, List.set_cons_succ, List.set_cons_zero, then2_nx, ev_fCall, ev_fCons, ev_fNil, List.append_nil, th, ev_fIfS, ev_fTest, ev_fOp, i0, pEq_str, d1, d2, decide_true, asB_bl, Bool.false_eq_true, if_false, ev_fNext, ev_fOr, ev_fTru, ev_fMeth, m0, f0, t0, List.isEmpty_nil, Bool.not_true, ev_fAnd, i1, ev_fRet, fMake, m1, m2, f1, f2, ev_fLst, List.length_cons, List.length_nil, Nat.zero_add, lim1, w2, ad, List.cons_append, List.nil_append]
  generalize hN : M1 ++ [PO.lst (ms.map pairP)] ++ [PO.lst (rs.map pairP)] ++ [PO.lst [pairP y]] ++ [PO.lst (rs.map pairP ++ [pairP y])] = N at mk K2
  simp only [mk, asN_ref, go_ok, fnRes_rt, then2_rt]
  have W : LabW c (N ++ [.ins c.Lab (labF c ms (rs ++ [y]) [] (N.length + 1) (N.length + 2) (N.length + 3)), .dct (plcD ms), .dct (plcD (rs ++ [y])), .dct (stD ms [])]) N.length M.length ms (rs ++ [y]) [] := labW_new.lower K2.l
  exact ⟨_, _, W.gc_, K2.trans .app, W⟩
set_option maxHeartbeats 1000000 in
theorem F_read_line_m {x : Nat} {y : Pr} (h : LabAt c M x ms [] []) (g : LabG (ms ++ [y]) [] []) : ∃ N x', F_p_read_line c [.ref x, .str (mLine y)] M = .ok (.ref x') N ∧ KF M N ∧ LabW c N x' M.length (ms ++ [y]) [] [] := by
  have hy : y ∈ ms ++ [y] := by simp
  have ll := (lines_len g).2 (mLine y) (by simp [linesOf])
  have sp := split_line (M := M) (ws := [nMach, y.1, y.2]) (by simp) (mWords g hy (by omega)) ll
  have gl := g.len
  rw [R_p_read_line]
  unfold B_p_read_line
  have at0 : (M ++ [PO.lst ([nMach, y.1, y.2].map PV.str)])[M.length]? = some (.lst [.str nMach, .str y.1, .str y.2]) := at1
  have th := F_thing_m (c := c) at0
  have K1 : KF M (M ++ [PO.lst ([nMach, y.1, y.2].map PV.str)]) := .app
  have h1 : LabAt c (M ++ [PO.lst ([nMach, y.1, y.2].map PV.str)]) x ms [] [] := h.app
  change mSplit (.str (mLine y)) [.str [32]] M = _ at sp
  generalize M ++ [PO.lst ([nMach, y.1, y.2].map PV.str)] = M0 at sp at0 th K1 h1
  have i0 : pIxL (.ref M.length) (.int 0) M0 = .ok (.str nMach) M0 := pIxL_at at0 (atI_nat (j := 0) rfl)
  have f0 : F_Lab_moves c [.ref x] M0 = .ok (.ref M0.length) (M0 ++ [.lst []]) := F_moves_eq (c := c) h1
  have m0 := hasM_lm h1 (.inr (.inr (.inr (.inl rfl))))
  have t0 := tru_l (M := M0 ++ [.lst []]) (k := M0.length) (xs := []) at1
  have h1 := h1.app (ex := [.lst []])
  have K1 := K1.trans (.app (ex := [.lst []]))
  have at0 := up1 (o := .lst []) at0
  generalize M0 ++ [PO.lst []] = Ma at f0 t0 h1 K1 at0
  have ia : pIxL (.ref M.length) (.int 0) Ma = .ok (.str nMach) Ma := pIxL_at at0 (atI_nat (j := 0) rfl)
  have fa : F_Lab_rows c [.ref x] Ma = .ok (.ref Ma.length) (Ma ++ [.lst []]) := F_rows_eq (c := c) h1
  have ma := hasM_lm h1 (.inr (.inl rfl))
  have ta := tru_l (M := Ma ++ [.lst []]) (k := Ma.length) (xs := []) at1
  have h1 := h1.app (ex := [.lst []])
  have K1 := K1.trans (.app (ex := [.lst []]))
  have at0 := up1 (o := .lst []) at0
  generalize Ma ++ [PO.lst []] = M1 at fa ta h1 K1 at0
  have i1 : pIxL (.ref M.length) (.int 0) M1 = .ok (.str nMach) M1 := pIxL_at at0 (atI_nat (j := 0) rfl)
  have f1 := F_machines_eq (c := c) h1
  have w1 : (M1 ++ [PO.lst (ms.map pairP)]).length = M1.length + 1 := by simp
  have w2 : (M1 ++ [PO.lst (ms.map pairP)] ++ [PO.lst [pairP y]]).length = M1.length + 2 := by simp
  have ad := pAddL_at (A := ms.map pairP) (B := [pairP y]) (M := M1 ++ [PO.lst (ms.map pairP)] ++ [PO.lst [pairP y]]) (k := M1.length) (j := M1.length + 1) (by simp at gl ⊢; unfold lim; omega) (up1 at1) (by rw [← w1]; exact at1)
  rw [w2] at ad
  have q1 : (M1 ++ [PO.lst (ms.map pairP)] ++ [PO.lst [pairP y]] ++ [PO.lst (ms.map pairP ++ [pairP y])])[M1.length + 2]? = some (.lst ((ms ++ [y]).map pairP)) := by rw [← w2, List.map_append]; exact at1
  have mk := F_Lab_init_seq (c := c) (q2 := .adr (c.mt 1)) (q3 := .adr (c.mt 2)) g (.inl ⟨_, rfl, q1⟩) (.inr (.inr ⟨⟨_, rfl⟩, rfl⟩)) (.inr (.inr ⟨⟨_, rfl⟩, rfl⟩))
  have K2 : KF M (M1 ++ [PO.lst (ms.map pairP)] ++ [PO.lst [pairP y]] ++ [PO.lst (ms.map pairP ++ [pairP y])]) := ((K1.trans .app).trans .app).trans .app
  have m1 := hasM_lm h1 (.inl rfl)
  have d1 : decide (nMach = [109, 111, 118, 101]) = false := by decide
  have d2 : decide (nMach = [114, 111, 119]) = false := by decide
  simp only [ev_fSeq, ev_fAsg, ev_fM1, ev_fVar0, ev_fVarS, bnd_ok, isS, if_true, ev_fC, sp, go_ok, ev_gNm, toSt_some, List.set_cons_succ, List.set_cons_zero, then2_nx, ev_fCall, ev_fCons, ev_fNil, List.append_nil, th, ev_fIfS, ev_fTest, ev_fOp, i0, pEq_str, d1, d2, decide_true, asB_bl, Bool.false_eq_true, if_false, ev_fNext, ev_fOr, ev_fTru, ev_fMeth, m0, f0, t0, List.isEmpty_nil, Bool.not_true, ev_fAnd, ia, ma, fa, ta, i1, ev_fRet, fMake, m1, f1, ev_fLst, List.length_cons, List.length_nil, Nat.zero_add, lim1, w1, ad, List.cons_append, List.nil_append]
  generalize hN : M1 ++ [PO.lst (ms.map pairP)] ++ [PO.lst [pairP y]] ++ [PO.lst (ms.map pairP ++ [pairP y])] = N at mk K2
  simp only [mk, asN_ref, go_ok, fnRes_rt, then2_rt]
  have W : LabW c (N ++ [.ins c.Lab (labF c (ms ++ [y]) [] [] (N.length + 1) (N.length + 2) (N.length + 3)), .dct (plcD (ms ++ [y])), .dct (plcD []), .dct (stD (ms ++ [y]) [])]) N.length M.length (ms ++ [y]) [] [] := labW_new.lower K2.l
  exact ⟨_, _, W.gc_, K2.trans .app, W⟩
theorem LabG.pre (g : LabG ms rs mv) (a : Nat) : LabG (ms.take a) (rs.take (a - ms.length)) (mv.take (a - ms.length - rs.length)) := by
  have gl := g.len
  by_cases h : a < ms.length
  · have z : a - ms.length = 0 := by omega
    rw [z, Nat.zero_sub, List.take_zero, List.take_zero]
    refine ⟨g.nd1.sublist ((List.take_sublist a ms).map _), by simp, fun x hx => g.n1 x (List.mem_of_mem_take hx), by simp, by simp, ?_⟩
    unfold overB
    rw [Bool.or_eq_false_iff, Bool.or_eq_false_iff, Bool.or_eq_false_iff, decide_eq_false_iff_not, decide_eq_false_iff_not, decide_eq_false_iff_not, List.any_eq_false]
    refine ⟨⟨⟨by simp; omega, by simp⟩, by simp⟩, fun x hx => ?_⟩
    rw [decide_eq_true_iff]
    have := List.Nodup.length_le_of_subset (l₁ := stOf [] x) (l₂ := [x.2]) nodup_sortU (fun y hy => by
      have hy := mem_sortU.mp hy
      simpa [foundIn] using hy)
    simp at this
    omega
  · rw [List.take_of_length_le (by omega)]
    by_cases h2 : a - ms.length < rs.length
    · have z : a - ms.length - rs.length = 0 := by omega
      rw [z, List.take_zero]
      exact g.part (List.take_sublist _ _) (by simp) (by simp)
    · rw [List.take_of_length_le (l := rs) (by omega)]
      exact g.part (.refl _) (fun m hm => ⟨List.mem_of_mem_take hm, (g.hmv m (List.mem_of_mem_take hm)).ha⟩) (by simp; omega)
theorem textOf_join : ∀ ls : List (List Nat), textOf ls = TL.joinL [10] (ls ++ [[]])
  | [] => rfl
  | [a] => by simp [textOf, TL.joinL]
  | a :: b :: r => by
    have ih := textOf_join (b :: r)
    unfold textOf at ih ⊢
    rw [List.map_cons, List.flatten_cons, ih]
    simp [TL.joinL]
theorem textOf_len {ls : List (List Nat)} (h : ls.length ≤ 30) (hl : ∀ l ∈ ls, l.length ≤ 60) : (textOf ls).length ≤ 2000 := by
  have := textOf_le h hl
  unfold textOf
  rw [List.length_flatten, List.map_map]
  exact this
theorem lines_no (g : LabG ms rs mv) : ∀ l ∈ linesOf ms rs mv, 10 ∉ l := fun l hl => by
  unfold linesOf at hl
  rcases List.mem_append.mp hl with hl | hl
  · rcases List.mem_append.mp hl with hl | hl
    · obtain ⟨x, hx, rfl⟩ := List.mem_map.mp hl
      exact join_no (by omega) (mWords g hx (by omega))
    · obtain ⟨x, hx, rfl⟩ := List.mem_map.mp hl
      exact join_no (by omega) (rWords g hx (by omega))
  · obtain ⟨x, hx, rfl⟩ := List.mem_map.mp hl
    exact join_no (by omega) (vWords g hx (by omega))
theorem emptyLG : LabG [] [] [] := ⟨by simp, by simp, by simp, by simp, by simp, by decide⟩
/-- one line more -/
theorem F_read_line_at {x i lo : Nat} (g : LabG ms rs mv) (hi : i < (linesOf ms rs mv).length) (h : LabW c M x lo (ms.take i) (rs.take (i - ms.length)) (mv.take (i - ms.length - rs.length))) :
    ∃ N x', F_p_read_line c [.ref x, .str (linesOf ms rs mv)[i]] M = .ok (.ref x') N ∧ KF M N ∧ LabW c N x' M.length (ms.take (i + 1)) (rs.take (i + 1 - ms.length)) (mv.take (i + 1 - ms.length - rs.length)) := by
  have g1 := g.pre (i + 1)
  by_cases h1 : i < ms.length
  · have z : i - ms.length = 0 := by omega
    have z1 : i + 1 - ms.length = 0 := by omega
    rw [z, Nat.zero_sub, List.take_zero, List.take_zero] at h
    rw [z1, Nat.zero_sub, List.take_zero, List.take_zero, ← take_snoc h1] at g1 ⊢
    have e : (linesOf ms rs mv)[i]? = some (mLine ms[i]) := by
      unfold linesOf
      rw [List.getElem?_append_left (by simp; omega), List.getElem?_append_left (by simp; omega), List.getElem?_map, List.getElem?_eq_getElem h1]
      rfl
    rw [(List.getElem?_eq_some_iff.mp e).2]
    exact F_read_line_m h.at_ g1
  · rw [List.take_of_length_le (by omega)] at h
    rw [List.take_of_length_le (l := ms) (by omega)] at g1 ⊢
    have s1 : i + 1 - ms.length = i - ms.length + 1 := by omega
    rw [s1] at g1 ⊢
    by_cases h2 : i - ms.length < rs.length
    · have z : i - ms.length - rs.length = 0 := by omega
      have z1 : i - ms.length + 1 - rs.length = 0 := by omega
      rw [z, List.take_zero] at h
      rw [z1, List.take_zero, ← take_snoc h2] at g1 ⊢
      have e : (linesOf ms rs mv)[i]? = some (rLine rs[i - ms.length]) := by
        unfold linesOf
        rw [List.getElem?_append_left (by simp; omega), List.getElem?_append_right (by simp; omega), List.getElem?_map, List.length_map, List.getElem?_eq_getElem h2]
        rfl
      rw [(List.getElem?_eq_some_iff.mp e).2]
      exact F_read_line_r h.at_ g1
    · rw [List.take_of_length_le (l := rs) (by omega)] at h
      rw [List.take_of_length_le (l := rs) (by omega)] at g1 ⊢
      have s2 : i - ms.length + 1 - rs.length = i - ms.length - rs.length + 1 := by omega
      have h3 : i - ms.length - rs.length < mv.length := by
        unfold linesOf at hi
        simp at hi
        omega
      rw [s2, ← take_snoc h3] at g1 ⊢
      have e : (linesOf ms rs mv)[i]? = some (vLine mv[i - ms.length - rs.length]) := by
        unfold linesOf
        rw [List.getElem?_append_right (by simp; omega), List.getElem?_map, List.length_append, List.length_map, List.length_map, ← Nat.sub_sub, List.getElem?_eq_getElem h3]
        rfl
      rw [(List.getElem?_eq_some_iff.mp e).2]
      exact F_read_line_v h.at_ g1
set_option maxHeartbeats 1000000 in
theorem F_read_lab_eq (g : LabG ms rs mv) : ∃ N x, F_p_read_lab c [.str (textOf (linesOf ms rs mv))] M = .ok (.ref x) N ∧ KF M N ∧ LabW c N x M.length ms rs mv := by
  have gl := g.len
  obtain ⟨ln, ll⟩ := lines_len g
  have tl := textOf_len ln ll
  have sp : mSplit (.str (textOf (linesOf ms rs mv))) [.str [10]] M = .ok (.ref M.length) (M ++ [.lst ((linesOf ms rs mv ++ [[]]).map PV.str)]) := by
    unfold mSplit
    simp only
    rw [if_pos ⟨by simp, by unfold lim; omega⟩, textOf_join, splitD (by decide) (by simp) (fun w hw => by
      rcases List.mem_append.mp hw with hw | hw
      · exact lines_no g w hw
      · rw [List.mem_singleton.mp hw]; simp)]
  have pp : mPop (.ref M.length) [] (M ++ [.lst ((linesOf ms rs mv ++ [[]]).map PV.str)]) = .ok (.str []) (M ++ [.lst ((linesOf ms rs mv).map PV.str)]) := by
    unfold mPop chL
    simp only [at1]
    simp
  have ty := isTy_lst (M := M ++ [.lst ((linesOf ms rs mv ++ [[]]).map PV.str)]) at1
  rw [R_p_read_lab]
  unfold B_p_read_lab
  generalize hls : linesOf ms rs mv = ls at sp pp ty
  have mk := F_Lab_init_seq (c := c) (M := M ++ [.lst (ls.map PV.str)]) emptyLG (q1 := .adr (c.mt 0)) (q2 := .adr (c.mt 1)) (q3 := .adr (c.mt 2)) (.inr (.inr ⟨⟨_, rfl⟩, rfl⟩)) (.inr (.inr ⟨⟨_, rfl⟩, rfl⟩)) (.inr (.inr ⟨⟨_, rfl⟩, rfl⟩))
  have W0 : LabW c (M ++ [.lst (ls.map PV.str)] ++ [.ins c.Lab (labF c [] [] [] ((M ++ [.lst (ls.map PV.str)] : PM).length + 1) ((M ++ [.lst (ls.map PV.str)] : PM).length + 2) ((M ++ [.lst (ls.map PV.str)] : PM).length + 3)), .dct (plcD []), .dct (plcD []), .dct (stD [] [])]) (M ++ [.lst (ls.map PV.str)] : PM).length M.length [] [] [] := labW_new.lower (by simp)
  have K0 : KF M (M ++ [.lst (ls.map PV.str)] ++ [.ins c.Lab (labF c [] [] [] ((M ++ [.lst (ls.map PV.str)] : PM).length + 1) ((M ++ [.lst (ls.map PV.str)] : PM).length + 2) ((M ++ [.lst (ls.map PV.str)] : PM).length + 3)), .dct (plcD []), .dct (plcD []), .dct (stD [] [])]) := Kp.app.trans .app
  have e0 : (M ++ [.lst (ls.map PV.str)] ++ [.ins c.Lab (labF c [] [] [] ((M ++ [.lst (ls.map PV.str)] : PM).length + 1) ((M ++ [.lst (ls.map PV.str)] : PM).length + 2) ((M ++ [.lst (ls.map PV.str)] : PM).length + 3)), .dct (plcD []), .dct (plcD []), .dct (stD [] [])] : PM)[M.length]? = some (.lst (ls.map PV.str)) := by simp
  generalize M ++ [PO.lst (ls.map PV.str)] ++ [.ins c.Lab (labF c [] [] [] ((M ++ [.lst (ls.map PV.str)] : PM).length + 1) ((M ++ [.lst (ls.map PV.str)] : PM).length + 2) ((M ++ [.lst (ls.map PV.str)] : PM).length + 3)), .dct (plcD []), .dct (plcD []), .dct (stD [] [])] = N0 at mk W0 K0 e0
  simp only [ev_fSeq, ev_fAsg, ev_fM1, ev_fVar0, ev_fVarS, bnd_ok, isS, if_true, ev_fC, sp, go_ok, ev_gNm, toSt_some, List.set_cons_succ, List.set_cons_zero, then2_nx, ev_fBM0, ty, pp, fMake, ev_fNil, List.nil_append, mk, asN_ref]
  refine goes_P (fun r => ∃ N x, gc M (fnRes r) = .ok (.ref x) N ∧ KF M N ∧ LabW c N x M.length ms rs mv) (Q := fun σ N => ∃ x x4 x5, σ = [some (.str (textOf ls)), some (.ref M.length), some (.str []), some (.ref x), x4, x5] ∧ KF M N ∧ LabW c N x M.length ms rs mv)
    (f := fFor (fIA itEL (fCons (fVar 1) fNil)) (gTp (gsCons (gNm 4) (gsCons (gNm 5) gsNil))) (fAsg (fCallN (F_p_read_line c) [] (fCons (fVar 3) (fCons (fVar 5) fNil))) (gNm 3)))
    (goes_for (zs := ls.zipIdx) (e := fun z : List Nat × Nat => PV.tup [.int (z.2 : Nat), .str z.1]) (M := N0) (σ := [some (.str (textOf ls)), some (.ref M.length), some (.str []), some (.ref (M ++ [PO.lst (ls.map PV.str)]).length), none, none]) (M1 := N0) (ok := fun M' => M'[M.length]? = some (.lst (ls.map PV.str)))
      (fun i σ N => ∃ x x4 x5, σ = [some (.str (textOf ls)), some (.ref M.length), some (.str []), some (.ref x), x4, x5] ∧ KF M N ∧ N[M.length]? = some (.lst (ls.map PV.str)) ∧ LabW c N x M.length (ms.take i) (rs.take (i - ms.length)) (mv.take (i - ms.length - rs.length)))
      ?_ ⟨_, _, _, rfl, K0, e0, by simpa using W0⟩ (fun i σ N h => by obtain ⟨_, _, _, _, _, h, _⟩ := h; exact h) (fun i z σ N hz hI => ?_) (fun σ N hI => ?_)) fun σ N hI => ?_
  · simp only [ev_fIA, ev_fCons, ev_fVar0, ev_fVarS, bnd_ok, ev_fNil]
    unfold itEL
    simp only [e0]
    unfold enumP
    rw [List.zipIdx_map, List.map_map]
    rfl
  · obtain ⟨x, x4, x5, rfl, K, e, W⟩ := hI
    obtain ⟨hi, hz⟩ := List.getElem?_eq_some_iff.mp hz
    rw [List.length_zipIdx] at hi
    rw [List.getElem_zipIdx] at hz
    subst hz
    subst hls
    obtain ⟨N', x', er, K', W'⟩ := F_read_line_at (c := c) g hi W
    refine ⟨_, rfl, goes_asg (p := .ref x') (M1 := N') (by simp only [ev_fCallN, ev_fCons, ev_fVar0, ev_fVarS, List.set_cons_succ, List.set_cons_zero, bnd_ok, ev_fNil, List.append_nil, er, nox_ok]) rfl ⟨x', _, _, rfl, K.trans K', K'.at e id, W'.lower K.l⟩⟩
  · obtain ⟨x, x4, x5, rfl, K, e, W⟩ := hI
    have lz : ls.zipIdx.length = ms.length + rs.length + mv.length := by rw [List.length_zipIdx, ← hls]; simp [linesOf]; omega
    rw [lz, List.take_of_length_le (by omega), List.take_of_length_le (by omega), List.take_of_length_le (by omega)] at W
    exact ⟨x, x4, x5, rfl, K, W⟩
  · obtain ⟨x, x4, x5, rfl, K, W⟩ := hI
    refine ⟨N, x, ?_, K, W⟩
    simp only [ev_fSeq, ev_fIfS, ev_fTest, ev_fOp, ev_fVar0, ev_fVarS, ev_fC, bnd_ok, pNe_str, decide_true, Bool.not_true, asB_bl, go_ok, Bool.false_eq_true, if_false, ev_fNext, then2_nx, ev_fRet, fnRes_rt]
    exact W.gc_
end
end Pu
namespace Puk49
open PySem PySem.Spec PyProof.Rows L2 LB Pu
/-! #### the law -/
noncomputable def B_law (c : CA) : FS :=
  (fSeq (fFor (fIA itR1 (fCons (fC (.int 4)) fNil)) (gNm 2) (fSeq (fAsg (fCallN (F_plan c) [] (fCons (fVar 1) (fCons (fCallN (F_pull c) [] (fCons (fVar 1) (fCons (fC (.int 4)) fNil))) (fCons (fC (.int 4)) (fCons (fCallN (F_pull c) [] (fCons (fVar 1) (fCons (fC (.int 4)) fNil))) (fCons (fCallN (F_pull c) [] (fCons (fVar 1) (fCons (fC (.int 11)) fNil))) fNil)))))) (gNm 3))
  (fSeq (fAsg (fCallN (F_lab c) [] (fCons (fVar 3) fNil)) (gNm 4))
  (fSeq (fAsg (fCallN (F_text_of c) [] (fCons (fCallN (F_lab_lines c) [] (fCons (fVar 3) fNil)) fNil)) (gNm 5))
  (fSeq (fIfS (fNot (fTest (fCallN (F_same 4) [] (fCons (fLst (fCons (fCallN (F_p_lab_text c) [] (fCons (fVar 4) fNil)) (fCons (fB (bReprOwn c.Lab (F_Lab_str c)) (fCons (fVar 4) fNil)) fNil))) (fCons (fLst (fCons (fVar 5) (fCons (fVar 5) fNil))) fNil))))) (fRet (fC (.bl false))) fNext)
  (fSeq (fAsg (fCallN (F_p_read_lab c) [] (fCons (fVar 5) fNil)) (gNm 6))
  (fSeq (fAsg (fLst (fCons (fMethN c.Lab "machines" (F_Lab_machines c) [] (fVar 6) fNil) (fCons (fMethN c.Lab "rows" (F_Lab_rows c) [] (fVar 6) fNil) (fCons (fMethN c.Lab "moves" (F_Lab_moves c) [] (fVar 6) fNil) (fCons (fMethN c.Lab "begin" (F_Lab_begin c) [] (fVar 6) fNil) fNil))))) (gNm 7))
  (fSeq (fAsg (fLst (fCons (fDGet (fVar 3) (fC (.str [109, 97, 99, 104, 105, 110, 101, 115]))) (fCons (fDGet (fVar 3) (fC (.str [114, 111, 119, 115]))) (fCons (fDGet (fVar 3) (fC (.str [109, 111, 118, 101, 115]))) (fCons (fCallN (F_begin c) [] (fCons (fVar 3) fNil)) fNil))))) (gNm 8))
  (fIfS (fOr (fNot (fTest (fCallN (F_same 4) [] (fCons (fVar 7) (fCons (fVar 8) fNil))))) (fTest (fOp (pOwnNe c.Lab (F_Lab_eq c)) (fVar 6) (fVar 4)))) (fRet (fC (.bl false))) fNext)))))))))
  (fRet (fAndV (fOp pEq (fCallN (F_p_lab_text c) [] (fCons (fMakeN c.Lab (F_Lab_init c) [(.adr (c.mt 0)), (.adr (c.mt 1)), (.adr (c.mt 2))] fNil) fNil)) (fC (.str []))) (fOp (pOwn c.Lab (F_Lab_eq c)) (fCallN (F_p_read_lab c) [] (fCons (fC (.str [])) fNil)) (fMakeN c.Lab (F_Lab_init c) [(.adr (c.mt 0)), (.adr (c.mt 1)), (.adr (c.mt 2))] fNil)))))
end Puk49
namespace Puk49
open PySem PySem.Spec PyProof.Rows L2 LB Pu
open Classical
variable {c : CA} {M M' M'' N N' : PM}
theorem ev_fMethN (C : Addr) (m : String) (F : FF) (das : List PV) (fo : FE) (fr : FA) (σ : PS) (M : PM) : fMethN C m F das fo fr σ M = (fo σ M).bnd fun p M1 => if hasM M1 C m p = true then (fr σ M1).bnd fun as M2 => (F (p :: (as ++ das)) M2).nox else .bad := id rfl
theorem same_l4 {n i j a1 a2 a3 b1 b2 b3 : Nat} {q : PV} {xs ys zs : List PV} (e1 : M[i]? = some (.lst [.ref a1, .ref a2, .ref a3, q])) (e2 : M[j]? = some (.lst [.ref b1, .ref b2, .ref b3, q])) (x1 : M[a1]? = some (.lst xs)) (x2 : M[b1]? = some (.lst xs)) (y1 : M[a2]? = some (.lst ys)) (y2 : M[b2]? = some (.lst ys)) (z1 : M[a3]? = some (.lst zs)) (z2 : M[b3]? = some (.lst zs))
    (lx : xs.length < 100000) (ly : ys.length < 100000) (lz : zs.length < 100000) (hx : ∀ x ∈ xs, Flt n x) (hy : ∀ x ∈ ys, Flt n x) (hz : ∀ x ∈ zs, Flt n x) (hq : Flt (n + 1) q) : F_same (n + 2) [.ref i, .ref j] M = .ok (.bl true) M :=
  if_pos (.inr ⟨_, _, .inr ⟨i, j, rfl, rfl, e1, e2⟩, by simp, .cons (.inr ⟨xs, xs, .inr ⟨a1, b1, rfl, rfl, x1, x2⟩, lx, paired_refl fun x h => samP_refl (hx x h)⟩) (.cons (.inr ⟨ys, ys, .inr ⟨a2, b2, rfl, rfl, y1, y2⟩, ly, paired_refl fun x h => samP_refl (hy x h)⟩) (.cons (.inr ⟨zs, zs, .inr ⟨a3, b3, rfl, rfl, z1, z2⟩, lz, paired_refl fun x h => samP_refl (hz x h)⟩) (.cons (samP_refl hq) .nil)))⟩)
theorem ownB {ms rs ms' rs' : List Pr} {mv mv' : List Mv} {x y : Nat} (h : LabAt c M x ms rs mv) (h' : LabAt c M y ms' rs' mv') (g : LabG ms rs mv) (g' : LabG ms' rs' mv') : pOwn c.Lab (F_Lab_eq c) (.ref x) (.ref y) M = .ok (.bl (decide (ms = ms' ∧ rs = rs' ∧ mv = mv'))) M := by
  unfold pOwn
  simp only [isIns_lab h, isIns_lab h', and_self, if_true, F_Lab_eq_eq h h' g g']
theorem ownNe {ms rs ms' rs' : List Pr} {mv mv' : List Mv} {x y : Nat} (h : LabAt c M x ms rs mv) (h' : LabAt c M y ms' rs' mv') (g : LabG ms rs mv) (g' : LabG ms' rs' mv') : pOwnNe c.Lab (F_Lab_eq c) (.ref x) (.ref y) M = .ok (.bl (!decide (ms = ms' ∧ rs = rs' ∧ mv = mv'))) M := by
  unfold pOwnNe
  simp only [isIns_lab h, isIns_lab h', and_self, if_true, F_Lab_eq_eq h h' g g']
def mkE (c : CA) (k : Nat) : PM := [.ins c.Lab (labF c [] [] [] (k + 1) (k + 2) (k + 3)), .dct (plcD []), .dct (plcD []), .dct (stD [] [])]
theorem mkD : F_Lab_init c [.ref M.length, .adr (c.mt 0), .adr (c.mt 1), .adr (c.mt 2)] (M ++ [.ins c.Lab []]) = .ok .non (M ++ mkE c M.length) := F_Lab_init_seq (c := c) (M := M) emptyLG (.inr (.inr ⟨⟨_, rfl⟩, rfl⟩)) (.inr (.inr ⟨⟨_, rfl⟩, rfl⟩)) (.inr (.inr ⟨⟨_, rfl⟩, rfl⟩))
theorem mkL : LabAt c (M ++ mkE c M.length) M.length [] [] [] := ⟨M.length + 1, M.length + 2, M.length + 3, by simp [mkE], by simp [mkE], by simp [mkE], by simp [mkE]⟩
set_option maxHeartbeats 1000000 in
theorem law_pure (c : CA) (ns : List Int) (i r sd ct : Int) (h0 : 0 ≤ i) : ∃ M', B_law c (none :: some (.ref 1) :: List.replicate 7 none) [.lst (ns.map PV.int), .lst [.ref 0, .int i, .int r, .int sd, .int ct]] = .rt (.bl true) M' := by
  unfold B_law
  have hB : BagAt [PO.lst (ns.map PV.int), PO.lst [.ref 0, .int i, .int r, .int sd, .int ct]] 1 0 := ⟨by decide, ns, i, r, sd, ct, rfl, rfl, h0⟩
  generalize [PO.lst (ns.map PV.int), PO.lst [.ref 0, .int i, .int r, .int sd, .int ct]] = M0 at hB
  refine goes_P (fun r => ∃ M', r = .rt (.bl true) M') (Q := fun _ _ => True) ?_ fun σ N _ => ?_
  · refine goes_each (zs := List.range 4) (e := fun i : Nat => PV.int (i : Nat)) (fun σ N => (∃ x2 x3 x4 x5 x6 x7 x8, σ = [none, some (.ref 1), x2, x3, x4, x5, x6, x7, x8]) ∧ BagAt N 1 0)
      (by simp only [ev_fIA, ev_fCons, ev_fC, ev_fNil, bnd_ok]; exact itR1_nat (n := 4) (by decide)) ⟨⟨_, _, _, _, _, _, _, rfl⟩, hB⟩ (fun _ _ _ => trivial) (fun z _ σ N hI => ?_) (fun _ _ _ => trivial)
    obtain ⟨⟨x2, x3, x4, x5, x6, x7, x8, rfl⟩, hB⟩ := hI
    obtain ⟨k1, N1, e1, a1, b1, d1⟩ := F_pull_eq (c := c) hB (n := 4) (by decide) (by decide)
    obtain ⟨k2, N2, e2, a2, b2, d2⟩ := F_pull_eq (c := c) d1.bag (n := 4) (by decide) (by decide)
    obtain ⟨k3, N3, e3, a3, b3, d3⟩ := F_pull_eq (c := c) d2.bag (n := 11) (by decide) (by decide)
    obtain ⟨k1, rfl⟩ := Int.eq_ofNat_of_zero_le a1
    obtain ⟨k2, rfl⟩ := Int.eq_ofNat_of_zero_le a2
    obtain ⟨k3, rfl⟩ := Int.eq_ofNat_of_zero_le a3
    obtain ⟨N4, d, l, m, r, v, t, ks, p, e4, hP⟩ := F_plan_eq (c := c) (ma := k1) (st := 4) (ro := k2) (mo := k3) d3.bag (by omega) (by decide) (by omega) (by omega)
    have e4 : F_plan c [.ref 1, .int (k1 : Nat), .int 4, .int (k2 : Nat), .int (k3 : Nat)] N3 = .ok (.ref d) N4 := e4
    have G := PlanOk.labG hP.ok (by omega) (by decide) (by omega) (by omega)
    have gl := G.len
    obtain ⟨ex, e5, hL⟩ := F_lab_eq (c := c) hP.P G
    have P5 : PlanAt (N4 ++ ex) d l m r v t ks p := hP.P.kp (E := fun _ => False) .app fun _ _ z => z
    have B5 : BagAt (N4 ++ ex) 1 0 := hP.bag.app
    generalize N4.length + 3 = x at e5 hL
    generalize hN5 : N4 ++ ex = N5 at e5 hL P5 B5
    refine ⟨_, rfl, goes_seq (goes_asg (p := .ref d) (M1 := N4) (by simp only [ev_fCons, ev_fCallN, ev_fVar0, ev_fVarS, List.set_cons_succ, List.set_cons_zero, ev_fC, ev_fNil, bnd_ok, List.append_nil, e1, e2, e3, nox_ok, e4]) rfl ?_)⟩
    refine goes_seq (goes_asg (p := .ref x) (M1 := N5) (by simp only [ev_fCons, ev_fCallN, ev_fVar0, ev_fVarS, List.set_cons_succ, List.set_cons_zero, ev_fC, ev_fNil, bnd_ok, List.append_nil, e5, nox_ok]) rfl ?_)
    simp only [List.set_cons_succ, List.set_cons_zero]
    -- the line
    obtain ⟨ln, ll⟩ := lines_len G
    have e6 := F_lab_lines_l (c := c) P5 G
    have P6 : PlanAt (N5 ++ [.lst ((linesOf p.machines p.rows p.moves).map PV.str)]) d l m r v t ks p := P5.kp (E := fun _ => False) .app fun _ _ z => z
    have B6 := B5.app (ex := [.lst ((linesOf p.machines p.rows p.moves).map PV.str)])
    have L6 := hL.app (ex := [.lst ((linesOf p.machines p.rows p.moves).map PV.str)])
    have e7 := F_text_of_eq (c := c) (M := N5 ++ [.lst ((linesOf p.machines p.rows p.moves).map PV.str)]) (k := N5.length) at1 ln ll
    generalize N5 ++ [PO.lst ((linesOf p.machines p.rows p.moves).map PV.str)] = N6 at e6 e7 P6 B6 L6
    generalize hT : textOf (linesOf p.machines p.rows p.moves) = T at e7
    refine goes_seq (goes_asg (p := .str T) (M1 := N6) (by simp only [ev_fCons, ev_fCallN, ev_fVar0, ev_fVarS, ev_fNil, bnd_ok, List.append_nil, e6, nox_ok, e7]) rfl ?_)
    simp only [List.set_cons_succ, List.set_cons_zero]
    have lt := F_lab_text_eq L6 G
    have st := str_lab L6 G
    rw [hT] at lt st
    have sm := F_same_lst (n := 3) (i := N6.length) (j := (N6 ++ [PO.lst [.str T, .str T]]).length) (xs := [.str T, .str T]) (M := N6 ++ [PO.lst [.str T, .str T]] ++ [PO.lst [.str T, .str T]]) (up1 at1) at1 (by simp) (fun y hy => by
      simp only [List.mem_cons, List.not_mem_nil, or_false] at hy
      rcases hy with rfl | rfl <;> (unfold Flt; trivial))
    refine goes_seq (goes_no (M1 := N6 ++ [PO.lst [.str T, .str T]] ++ [PO.lst [.str T, .str T]]) (by
      simp only [ev_fNot, ev_fTest, ev_fCallN, ev_fCons, ev_fLst, ev_fB, ev_fVar0, ev_fVarS, bnd_ok, ev_fNil, List.append_nil, lt, st, nox_ok, List.length_cons, List.length_nil, Nat.zero_add, Nat.reduceAdd, lim2, if_true, sm, asB_bl, Bool.not_true]) ?_)
    have P7 : PlanAt (N6 ++ [.lst [.str T, .str T]] ++ [.lst [.str T, .str T]]) d l m r v t ks p := (P6.kp (E := fun _ => False) .app fun _ _ z => z).kp (E := fun _ => False) .app fun _ _ z => z
    have B7 := (B6.app (ex := [.lst [.str T, .str T]])).app (ex := [.lst [.str T, .str T]])
    have L7 := (L6.app (ex := [.lst [.str T, .str T]])).app (ex := [.lst [.str T, .str T]])
    generalize N6 ++ [PO.lst [.str T, .str T]] ++ [PO.lst [.str T, .str T]] = N7 at P7 B7 L7 ⊢
    obtain ⟨N8, y, e8, K8, W8⟩ := F_read_lab_eq (c := c) (M := N7) G
    rw [hT] at e8
    refine goes_seq (goes_asg (p := .ref y) (M1 := N8) (by simp only [ev_fCons, ev_fCallN, ev_fVar0, ev_fVarS, ev_fNil, bnd_ok, List.append_nil, e8, nox_ok]) rfl ?_)
    simp only [List.set_cons_succ, List.set_cons_zero]
    have P8 : PlanAt N8 d l m r v t ks p := P7.kp K8 fun _ _ z => z
    have B8 : BagAt N8 1 0 := by
      obtain ⟨h, ns, i, r, sd, ct, e1, e2, h3⟩ := B7
      exact ⟨h, ns, i, r, sd, ct, K8.at e1 id, K8.at e2 id, h3⟩
    have L8 : LabAt c N8 x p.machines p.rows p.moves := L7.kp K8 fun _ z => z.elim
    have Y8 := W8.at_
    -- what is told
    have f1 := F_machines_eq (c := c) Y8
    have Y9 := Y8.app (ex := [.lst (p.machines.map pairP)])
    have f2 := F_rows_eq (c := c) Y9
    have Y10 := Y9.app (ex := [.lst (p.rows.map pairP)])
    have f3 := F_moves_eq (c := c) Y10
    have Y11 := Y10.app (ex := [.lst (p.moves.map mvP)])
    have f4 := F_Lab_begin_eq (c := c) Y11 G
    have w1 : (N8 ++ [PO.lst (p.machines.map pairP)]).length = N8.length + 1 := by simp
    have w2 : (N8 ++ [PO.lst (p.machines.map pairP)] ++ [PO.lst (p.rows.map pairP)]).length = N8.length + 2 := by simp
    have w3 : (N8 ++ [PO.lst (p.machines.map pairP)] ++ [PO.lst (p.rows.map pairP)] ++ [PO.lst (p.moves.map mvP)]).length = N8.length + 3 := by simp
    rw [w1] at f2
    rw [w2] at f3
    have m1 := hasM_lm Y8 (.inl rfl)
    have m2 := hasM_lm Y9 (.inr (.inl rfl))
    have m3 := hasM_lm Y10 (.inr (.inr (.inr (.inl rfl))))
    have m4 := hasM_lm Y11 (.inr (.inr (.inr (.inr rfl))))
    generalize hN11 : N8 ++ [PO.lst (p.machines.map pairP)] ++ [PO.lst (p.rows.map pairP)] ++ [PO.lst (p.moves.map mvP)] = N11 at f3 f4 Y11 w3 m4
    have n1 : N11[N8.length]? = some (.lst (p.machines.map pairP)) := by rw [← hN11]; exact up1 (up1 at1)
    have n2 : N11[N8.length + 1]? = some (.lst (p.rows.map pairP)) := by rw [← hN11, ← w1]; exact up1 at1
    have n3 : N11[N8.length + 2]? = some (.lst (p.moves.map mvP)) := by rw [← hN11, ← w2]; exact at1
    have P11 : PlanAt N11 d l m r v t ks p := by rw [← hN11]; exact ((P8.kp (E := fun _ => False) .app fun _ _ z => z).kp (E := fun _ => False) .app fun _ _ z => z).kp (E := fun _ => False) .app fun _ _ z => z
    have B11 : BagAt N11 1 0 := by rw [← hN11]; exact B8.app.app.app
    have L11 : LabAt c N11 x p.machines p.rows p.moves := by rw [← hN11]; exact L8.app.app.app
    obtain ⟨q, hq⟩ : ∃ q, q = scP (p.machines.map (·.2)) (p.rows.map (·.2)) := ⟨_, rfl⟩
    have fq : Flt 3 q := by rw [hq]; exact flt_scP (n := 1) (by simp; omega) (by simp; omega)
    rw [← hq] at f4
    refine goes_seq (goes_asg (p := .ref N11.length) (M1 := N11 ++ [.lst [.ref N8.length, .ref (N8.length + 1), .ref (N8.length + 2), q]]) (by simp only [ev_fLst, ev_fCons, ev_fMethN, ev_fVar0, ev_fVarS, bnd_ok, m1, m2, m3, m4, if_true, ev_fNil, List.append_nil, f1, f2, f3, f4, nox_ok, List.length_cons, List.length_nil, Nat.zero_add, Nat.reduceAdd, lim4]) rfl ?_)
    simp only [List.set_cons_succ, List.set_cons_zero]
    have P12 : PlanAt (N11 ++ [.lst [.ref N8.length, .ref (N8.length + 1), .ref (N8.length + 2), q]]) d l m r v t ks p := P11.kp (E := fun _ => False) .app fun _ _ z => z
    have f5 := F_begin_eq (c := c) P12 (by omega) (by omega)
    rw [← hq] at f5
    refine goes_seq (goes_asg (p := .ref (N11 ++ [PO.lst [.ref N8.length, .ref (N8.length + 1), .ref (N8.length + 2), q]]).length) (M1 := N11 ++ [.lst [.ref N8.length, .ref (N8.length + 1), .ref (N8.length + 2), q]] ++ [.lst [.ref m, .ref r, .ref v, q]]) (by simp only [ev_fLst, ev_fCons, ev_fDGet, ev_fVar0, ev_fVarS, ev_fC, bnd_ok, pg_m P12.d, pg_r P12.d, pg_v P12.d, asV_some, ev_fCallN, ev_fNil, List.append_nil, f5, nox_ok, List.length_cons, List.length_nil, Nat.zero_add, Nat.reduceAdd, lim4, if_true]) rfl ?_)
    simp only [List.set_cons_succ, List.set_cons_zero]
    have P13 : PlanAt (N11 ++ [.lst [.ref N8.length, .ref (N8.length + 1), .ref (N8.length + 2), q]] ++ [.lst [.ref m, .ref r, .ref v, q]]) d l m r v t ks p := P12.kp (E := fun _ => False) .app fun _ _ z => z
    have sm2 := same_l4 (n := 2) (M := N11 ++ [.lst [.ref N8.length, .ref (N8.length + 1), .ref (N8.length + 2), q]] ++ [.lst [.ref m, .ref r, .ref v, q]]) (i := N11.length) (j := (N11 ++ [PO.lst [.ref N8.length, .ref (N8.length + 1), .ref (N8.length + 2), q]]).length) (up1 at1) at1 (up1 (up1 n1)) P13.m (up1 (up1 n2)) P13.r (up1 (up1 n3)) P13.v (by simp; omega) (by simp; omega) (by simp; omega) (fun y hy => by
      obtain ⟨z, _, rfl⟩ := List.mem_map.mp hy
      exact flt_pair z) (fun y hy => by
      obtain ⟨z, _, rfl⟩ := List.mem_map.mp hy
      exact flt_pair z) (G.fltV (n := 0)) fq
    have o1 := ownNe (Y11.app (ex := [.lst [.ref N8.length, .ref (N8.length + 1), .ref (N8.length + 2), q]])).app (L11.app (ex := [.lst [.ref N8.length, .ref (N8.length + 1), .ref (N8.length + 2), q]])).app G G (M := N11 ++ [.lst [.ref N8.length, .ref (N8.length + 1), .ref (N8.length + 2), q]] ++ [.lst [.ref m, .ref r, .ref v, q]])
    rw [decide_eq_true ⟨rfl, rfl, rfl⟩] at o1
    refine goes_no (M1 := N11 ++ [.lst [.ref N8.length, .ref (N8.length + 1), .ref (N8.length + 2), q]] ++ [.lst [.ref m, .ref r, .ref v, q]]) (by
      simp only [ev_fOr, ev_fNot, ev_fTest, ev_fCallN, ev_fCons, ev_fVar0, ev_fVarS, bnd_ok, ev_fNil, List.append_nil, sm2, nox_ok, asB_bl, Bool.not_true, Bool.false_eq_true, if_false, ev_fOp, o1]) ⟨⟨_, _, _, _, _, _, _, rfl⟩, B11.app.app⟩
  · have k0 := mkD (c := c) (M := N)
    have t0 := F_lab_text_eq (mkL (c := c) (M := N)) emptyLG
    have t0 : F_p_lab_text c [.ref N.length] (N ++ mkE c N.length) = .ok (.str []) (N ++ mkE c N.length) := t0
    generalize N ++ mkE c N.length = N1 at k0 t0
    obtain ⟨N2, y, e2, K2, W2⟩ := F_read_lab_eq (c := c) (M := N1) emptyLG
    have e2 : F_p_read_lab c [.str []] N1 = .ok (.ref y) N2 := e2
    have k2 := mkD (c := c) (M := N2)
    have o1 := ownB (W2.at_.app (ex := mkE c N2.length)) (mkL (c := c) (M := N2)) emptyLG emptyLG
    rw [decide_eq_true ⟨rfl, rfl, rfl⟩] at o1
    refine ⟨N2 ++ mkE c N2.length, ?_⟩
    simp only [ev_fRet, ev_fAndV, ev_fOp, ev_fCallN, ev_fCons, ev_fMakeN, ev_fNil, bnd_ok, List.nil_append, k0, nox_ok, asN, List.append_nil, t0, ev_fC, pEq_str, decide_true, asB_bl, if_true, e2, k2, o1]
    rfl
end Puk49
namespace K49
open PySem PySem.Spec PyProof.Rows L2 LB Pu Puk49
set_option maxHeartbeats 0 in
structure Tx (K : PySem.W.Frag) (mg : Str → Option Value) (w : World) where
  C_LeakError : Addr
  gC_LeakError : mg "LeakError" = some (.ref C_LeakError)
  C_BadName : Addr
  gC_BadName : mg "BadName" = some (.ref C_BadName)
  C_BadWord : Addr
  gC_BadWord : mg "BadWord" = some (.ref C_BadWord)
  C_BadAct : Addr
  gC_BadAct : mg "BadAct" = some (.ref C_BadAct)
  C_BadText : Addr
  gC_BadText : mg "BadText" = some (.ref C_BadText)
  C_Taken : Addr
  gC_Taken : mg "Taken" = some (.ref C_Taken)
  C_Full : Addr
  gC_Full : mg "Full" = some (.ref C_Full)
  C_NoMachine : Addr
  gC_NoMachine : mg "NoMachine" = some (.ref C_NoMachine)
  C_NoRow : Addr
  gC_NoRow : mg "NoRow" = some (.ref C_NoRow)
  C_Lab : Addr
  gC_Lab : mg "Lab" = some (.ref C_Lab)
  f_LeakError_init : Addr
  fd_LeakError_init : FuncData
  F_LeakError_init : FunD K "__init__" "LeakError.__init__" (defArgs s_LeakError_init) (defBody s_LeakError_init) (defScope s_LeakError_init) [V.int (-1), V.str (PySem.Str.ofString "leakerror")] [] f_LeakError_init fd_LeakError_init
  ds_LeakError_init_1 : List Value
  dv_LeakError_init_1 : Vals [V.int (-1), V.str (PySem.Str.ofString "leakerror")] ds_LeakError_init_1
  b_LeakError_init_1 : L2.Binds K fd_LeakError_init P_LeakError_init ds_LeakError_init_1
  ds_LeakError_init_2 : List Value
  dv_LeakError_init_2 : Vals [V.str (PySem.Str.ofString "leakerror")] ds_LeakError_init_2
  b_LeakError_init_2 : L2.Binds K fd_LeakError_init P_LeakError_init ds_LeakError_init_2
  ds_LeakError_init_3 : List Value
  dv_LeakError_init_3 : Vals [] ds_LeakError_init_3
  b_LeakError_init_3 : L2.Binds K fd_LeakError_init P_LeakError_init ds_LeakError_init_3
  f_BadName_init : Addr
  fd_BadName_init : FuncData
  F_BadName_init : FunD K "__init__" "BadName.__init__" (defArgs s_BadName_init) (defBody s_BadName_init) (defScope s_BadName_init) [V.int (-1)] [] f_BadName_init fd_BadName_init
  ds_BadName_init_1 : List Value
  dv_BadName_init_1 : Vals [V.int (-1)] ds_BadName_init_1
  b_BadName_init_1 : L2.Binds K fd_BadName_init P_BadName_init ds_BadName_init_1
  ds_BadName_init_2 : List Value
  dv_BadName_init_2 : Vals [] ds_BadName_init_2
  b_BadName_init_2 : L2.Binds K fd_BadName_init P_BadName_init ds_BadName_init_2
  f_BadWord_init : Addr
  fd_BadWord_init : FuncData
  F_BadWord_init : FunD K "__init__" "BadWord.__init__" (defArgs s_BadWord_init) (defBody s_BadWord_init) (defScope s_BadWord_init) [V.int (-1)] [] f_BadWord_init fd_BadWord_init
  ds_BadWord_init_1 : List Value
  dv_BadWord_init_1 : Vals [V.int (-1)] ds_BadWord_init_1
  b_BadWord_init_1 : L2.Binds K fd_BadWord_init P_BadWord_init ds_BadWord_init_1
  ds_BadWord_init_2 : List Value
  dv_BadWord_init_2 : Vals [] ds_BadWord_init_2
  b_BadWord_init_2 : L2.Binds K fd_BadWord_init P_BadWord_init ds_BadWord_init_2
  f_BadAct_init : Addr
  fd_BadAct_init : FuncData
  F_BadAct_init : FunD K "__init__" "BadAct.__init__" (defArgs s_BadAct_init) (defBody s_BadAct_init) (defScope s_BadAct_init) [V.int (-1)] [] f_BadAct_init fd_BadAct_init
  ds_BadAct_init_1 : List Value
  dv_BadAct_init_1 : Vals [V.int (-1)] ds_BadAct_init_1
  b_BadAct_init_1 : L2.Binds K fd_BadAct_init P_BadAct_init ds_BadAct_init_1
  ds_BadAct_init_2 : List Value
  dv_BadAct_init_2 : Vals [] ds_BadAct_init_2
  b_BadAct_init_2 : L2.Binds K fd_BadAct_init P_BadAct_init ds_BadAct_init_2
  f_BadText_init : Addr
  fd_BadText_init : FuncData
  F_BadText_init : FunD K "__init__" "BadText.__init__" (defArgs s_BadText_init) (defBody s_BadText_init) (defScope s_BadText_init) [V.int (-1)] [] f_BadText_init fd_BadText_init
  ds_BadText_init_1 : List Value
  dv_BadText_init_1 : Vals [V.int (-1)] ds_BadText_init_1
  b_BadText_init_1 : L2.Binds K fd_BadText_init P_BadText_init ds_BadText_init_1
  ds_BadText_init_2 : List Value
  dv_BadText_init_2 : Vals [] ds_BadText_init_2
  b_BadText_init_2 : L2.Binds K fd_BadText_init P_BadText_init ds_BadText_init_2
  f_Taken_init : Addr
  fd_Taken_init : FuncData
  F_Taken_init : FunD K "__init__" "Taken.__init__" (defArgs s_Taken_init) (defBody s_Taken_init) (defScope s_Taken_init) [V.int (-1)] [] f_Taken_init fd_Taken_init
  ds_Taken_init_1 : List Value
  dv_Taken_init_1 : Vals [V.int (-1)] ds_Taken_init_1
  b_Taken_init_1 : L2.Binds K fd_Taken_init P_Taken_init ds_Taken_init_1
  ds_Taken_init_2 : List Value
  dv_Taken_init_2 : Vals [] ds_Taken_init_2
  b_Taken_init_2 : L2.Binds K fd_Taken_init P_Taken_init ds_Taken_init_2
  f_Full_init : Addr
  fd_Full_init : FuncData
  F_Full_init : FunD K "__init__" "Full.__init__" (defArgs s_Full_init) (defBody s_Full_init) (defScope s_Full_init) [V.int (-1)] [] f_Full_init fd_Full_init
  ds_Full_init_1 : List Value
  dv_Full_init_1 : Vals [V.int (-1)] ds_Full_init_1
  b_Full_init_1 : L2.Binds K fd_Full_init P_Full_init ds_Full_init_1
  ds_Full_init_2 : List Value
  dv_Full_init_2 : Vals [] ds_Full_init_2
  b_Full_init_2 : L2.Binds K fd_Full_init P_Full_init ds_Full_init_2
  f_NoMachine_init : Addr
  fd_NoMachine_init : FuncData
  F_NoMachine_init : FunD K "__init__" "NoMachine.__init__" (defArgs s_NoMachine_init) (defBody s_NoMachine_init) (defScope s_NoMachine_init) [V.int (-1)] [] f_NoMachine_init fd_NoMachine_init
  ds_NoMachine_init_1 : List Value
  dv_NoMachine_init_1 : Vals [V.int (-1)] ds_NoMachine_init_1
  b_NoMachine_init_1 : L2.Binds K fd_NoMachine_init P_NoMachine_init ds_NoMachine_init_1
  ds_NoMachine_init_2 : List Value
  dv_NoMachine_init_2 : Vals [] ds_NoMachine_init_2
  b_NoMachine_init_2 : L2.Binds K fd_NoMachine_init P_NoMachine_init ds_NoMachine_init_2
  f_NoRow_init : Addr
  fd_NoRow_init : FuncData
  F_NoRow_init : FunD K "__init__" "NoRow.__init__" (defArgs s_NoRow_init) (defBody s_NoRow_init) (defScope s_NoRow_init) [V.int (-1)] [] f_NoRow_init fd_NoRow_init
  ds_NoRow_init_1 : List Value
  dv_NoRow_init_1 : Vals [V.int (-1)] ds_NoRow_init_1
  b_NoRow_init_1 : L2.Binds K fd_NoRow_init P_NoRow_init ds_NoRow_init_1
  ds_NoRow_init_2 : List Value
  dv_NoRow_init_2 : Vals [] ds_NoRow_init_2
  b_NoRow_init_2 : L2.Binds K fd_NoRow_init P_NoRow_init ds_NoRow_init_2
  f_p_is_word : Addr
  fd_p_is_word : FuncData
  F_p_is_word : Fun K "is_word" "is_word" s_p_is_word f_p_is_word fd_p_is_word
  b_p_is_word : L2.Binds K fd_p_is_word P_p_is_word []
  g_p_is_word : mg "is_word" = some (.ref f_p_is_word)
  f_p_is_name : Addr
  fd_p_is_name : FuncData
  F_p_is_name : Fun K "is_name" "is_name" s_p_is_name f_p_is_name fd_p_is_name
  b_p_is_name : L2.Binds K fd_p_is_name P_p_is_name []
  g_p_is_name : mg "is_name" = some (.ref f_p_is_name)
  f_p_is_letter : Addr
  fd_p_is_letter : FuncData
  F_p_is_letter : Fun K "is_letter" "is_letter" s_p_is_letter f_p_is_letter fd_p_is_letter
  b_p_is_letter : L2.Binds K fd_p_is_letter P_p_is_letter []
  g_p_is_letter : mg "is_letter" = some (.ref f_p_is_letter)
  f_p_is_short_word : Addr
  fd_p_is_short_word : FuncData
  F_p_is_short_word : Fun K "is_short_word" "is_short_word" s_p_is_short_word f_p_is_short_word fd_p_is_short_word
  b_p_is_short_word : L2.Binds K fd_p_is_short_word P_p_is_short_word []
  g_p_is_short_word : mg "is_short_word" = some (.ref f_p_is_short_word)
  f_p_check_machines : Addr
  fd_p_check_machines : FuncData
  F_p_check_machines : Fun K "check_machines" "check_machines" s_p_check_machines f_p_check_machines fd_p_check_machines
  b_p_check_machines : L2.Binds K fd_p_check_machines P_p_check_machines []
  g_p_check_machines : mg "check_machines" = some (.ref f_p_check_machines)
  f_p_check_rows : Addr
  fd_p_check_rows : FuncData
  F_p_check_rows : Fun K "check_rows" "check_rows" s_p_check_rows f_p_check_rows fd_p_check_rows
  b_p_check_rows : L2.Binds K fd_p_check_rows P_p_check_rows []
  g_p_check_rows : mg "check_rows" = some (.ref f_p_check_rows)
  f_p_check_act : Addr
  fd_p_check_act : FuncData
  F_p_check_act : Fun K "check_act" "check_act" s_p_check_act f_p_check_act fd_p_check_act
  b_p_check_act : L2.Binds K fd_p_check_act P_p_check_act []
  g_p_check_act : mg "check_act" = some (.ref f_p_check_act)
  f_p_check_moves : Addr
  fd_p_check_moves : FuncData
  F_p_check_moves : Fun K "check_moves" "check_moves" s_p_check_moves f_p_check_moves fd_p_check_moves
  b_p_check_moves : L2.Binds K fd_p_check_moves P_p_check_moves []
  g_p_check_moves : mg "check_moves" = some (.ref f_p_check_moves)
  f_p_places_of : Addr
  fd_p_places_of : FuncData
  F_p_places_of : Fun K "places_of" "places_of" s_p_places_of f_p_places_of fd_p_places_of
  b_p_places_of : L2.Binds K fd_p_places_of P_p_places_of []
  g_p_places_of : mg "places_of" = some (.ref f_p_places_of)
  f_p_stands_of : Addr
  fd_p_stands_of : FuncData
  F_p_stands_of : Fun K "stands_of" "stands_of" s_p_stands_of f_p_stands_of fd_p_stands_of
  b_p_stands_of : L2.Binds K fd_p_stands_of P_p_stands_of []
  g_p_stands_of : mg "stands_of" = some (.ref f_p_stands_of)
  f_p_step_of : Addr
  fd_p_step_of : FuncData
  F_p_step_of : Fun K "step_of" "step_of" s_p_step_of f_p_step_of fd_p_step_of
  b_p_step_of : L2.Binds K fd_p_step_of P_p_step_of []
  g_p_step_of : mg "step_of" = some (.ref f_p_step_of)
  f_p_word_text : Addr
  fd_p_word_text : FuncData
  F_p_word_text : Fun K "word_text" "word_text" s_p_word_text f_p_word_text fd_p_word_text
  b_p_word_text : L2.Binds K fd_p_word_text P_p_word_text []
  g_p_word_text : mg "word_text" = some (.ref f_p_word_text)
  f_p_act_text : Addr
  fd_p_act_text : FuncData
  F_p_act_text : Fun K "act_text" "act_text" s_p_act_text f_p_act_text fd_p_act_text
  b_p_act_text : L2.Binds K fd_p_act_text P_p_act_text []
  g_p_act_text : mg "act_text" = some (.ref f_p_act_text)
  f_p_lab_lines : Addr
  fd_p_lab_lines : FuncData
  F_p_lab_lines : Fun K "lab_lines" "lab_lines" s_p_lab_lines f_p_lab_lines fd_p_lab_lines
  b_p_lab_lines : L2.Binds K fd_p_lab_lines P_p_lab_lines []
  g_p_lab_lines : mg "lab_lines" = some (.ref f_p_lab_lines)
  f_Lab_init : Addr
  fd_Lab_init : FuncData
  dA_Lab_init_0 : Addr
  mt_Lab_init_0 : ∀ H, SqT K H dA_Lab_init_0 []
  dA_Lab_init_1 : Addr
  mt_Lab_init_1 : ∀ H, SqT K H dA_Lab_init_1 []
  dA_Lab_init_2 : Addr
  mt_Lab_init_2 : ∀ H, SqT K H dA_Lab_init_2 []
  F_Lab_init : FunD K "__init__" "Lab.__init__" (defArgs s_Lab_init) (defBody s_Lab_init) (defScope s_Lab_init) [V.ref dA_Lab_init_0, V.ref dA_Lab_init_1, V.ref dA_Lab_init_2] [] f_Lab_init fd_Lab_init
  ds_Lab_init_1 : List Value
  dv_Lab_init_1 : Vals [V.ref dA_Lab_init_0, V.ref dA_Lab_init_1, V.ref dA_Lab_init_2] ds_Lab_init_1
  b_Lab_init_1 : L2.Binds K fd_Lab_init P_Lab_init ds_Lab_init_1
  ds_Lab_init_2 : List Value
  dv_Lab_init_2 : Vals [V.ref dA_Lab_init_1, V.ref dA_Lab_init_2] ds_Lab_init_2
  b_Lab_init_2 : L2.Binds K fd_Lab_init P_Lab_init ds_Lab_init_2
  ds_Lab_init_3 : List Value
  dv_Lab_init_3 : Vals [V.ref dA_Lab_init_2] ds_Lab_init_3
  b_Lab_init_3 : L2.Binds K fd_Lab_init P_Lab_init ds_Lab_init_3
  ds_Lab_init_4 : List Value
  dv_Lab_init_4 : Vals [] ds_Lab_init_4
  b_Lab_init_4 : L2.Binds K fd_Lab_init P_Lab_init ds_Lab_init_4
  f_Lab_is_over : Addr
  fd_Lab_is_over : FuncData
  F_Lab_is_over : Fun K "is_over" "Lab.is_over" s_Lab_is_over f_Lab_is_over fd_Lab_is_over
  b_Lab_is_over : L2.Binds K fd_Lab_is_over P_Lab_is_over []
  me_Lab_is_over : Meth K C_Lab "is_over" f_Lab_is_over
  f_Lab_machines : Addr
  fd_Lab_machines : FuncData
  F_Lab_machines : Fun K "machines" "Lab.machines" s_Lab_machines f_Lab_machines fd_Lab_machines
  b_Lab_machines : L2.Binds K fd_Lab_machines P_Lab_machines []
  me_Lab_machines : Meth K C_Lab "machines" f_Lab_machines
  f_Lab_rows : Addr
  fd_Lab_rows : FuncData
  F_Lab_rows : Fun K "rows" "Lab.rows" s_Lab_rows f_Lab_rows fd_Lab_rows
  b_Lab_rows : L2.Binds K fd_Lab_rows P_Lab_rows []
  me_Lab_rows : Meth K C_Lab "rows" f_Lab_rows
  f_Lab_moves : Addr
  fd_Lab_moves : FuncData
  F_Lab_moves : Fun K "moves" "Lab.moves" s_Lab_moves f_Lab_moves fd_Lab_moves
  b_Lab_moves : L2.Binds K fd_Lab_moves P_Lab_moves []
  me_Lab_moves : Meth K C_Lab "moves" f_Lab_moves
  f_Lab_begin : Addr
  fd_Lab_begin : FuncData
  F_Lab_begin : Fun K "begin" "Lab.begin" s_Lab_begin f_Lab_begin fd_Lab_begin
  b_Lab_begin : L2.Binds K fd_Lab_begin P_Lab_begin []
  me_Lab_begin : Meth K C_Lab "begin" f_Lab_begin
  f_Lab_eq : Addr
  fd_Lab_eq : FuncData
  F_Lab_eq : Fun K "__eq__" "Lab.__eq__" s_Lab_eq f_Lab_eq fd_Lab_eq
  b_Lab_eq : L2.Binds K fd_Lab_eq P_Lab_eq []
  me_Lab_eq : Meth K C_Lab "__eq__" f_Lab_eq
  f_Lab_str : Addr
  fd_Lab_str : FuncData
  F_Lab_str : Fun K "__str__" "Lab.__str__" s_Lab_str f_Lab_str fd_Lab_str
  b_Lab_str : L2.Binds K fd_Lab_str P_Lab_str []
  me_Lab_str : Meth K C_Lab "__str__" f_Lab_str
  f_p_read_word : Addr
  fd_p_read_word : FuncData
  F_p_read_word : Fun K "read_word" "read_word" s_p_read_word f_p_read_word fd_p_read_word
  b_p_read_word : L2.Binds K fd_p_read_word P_p_read_word []
  g_p_read_word : mg "read_word" = some (.ref f_p_read_word)
  f_p_read_act : Addr
  fd_p_read_act : FuncData
  F_p_read_act : Fun K "read_act" "read_act" s_p_read_act f_p_read_act fd_p_read_act
  b_p_read_act : L2.Binds K fd_p_read_act P_p_read_act []
  g_p_read_act : mg "read_act" = some (.ref f_p_read_act)
  f_p_thing_of : Addr
  fd_p_thing_of : FuncData
  F_p_thing_of : Fun K "thing_of" "thing_of" s_p_thing_of f_p_thing_of fd_p_thing_of
  b_p_thing_of : L2.Binds K fd_p_thing_of P_p_thing_of []
  g_p_thing_of : mg "thing_of" = some (.ref f_p_thing_of)
  f_p_read_line : Addr
  fd_p_read_line : FuncData
  F_p_read_line : Fun K "read_line" "read_line" s_p_read_line f_p_read_line fd_p_read_line
  b_p_read_line : L2.Binds K fd_p_read_line P_p_read_line []
  g_p_read_line : mg "read_line" = some (.ref f_p_read_line)
  f_p_lab_text : Addr
  fd_p_lab_text : FuncData
  F_p_lab_text : Fun K "lab_text" "lab_text" s_p_lab_text f_p_lab_text fd_p_lab_text
  b_p_lab_text : L2.Binds K fd_p_lab_text P_p_lab_text []
  g_p_lab_text : mg "lab_text" = some (.ref f_p_lab_text)
  f_p_read_lab : Addr
  fd_p_read_lab : FuncData
  F_p_read_lab : Fun K "read_lab" "read_lab" s_p_read_lab f_p_read_lab fd_p_read_lab
  b_p_read_lab : L2.Binds K fd_p_read_lab P_p_read_lab []
  g_p_read_lab : mg "read_lab" = some (.ref f_p_read_lab)
  f_bag : Addr
  fd_bag : FuncData
  F_bag : Fun K "_law_bag" "_law_bag" s_bag f_bag fd_bag
  b_bag : L2.Binds K fd_bag P_bag []
  g_bag : mg "_law_bag" = some (.ref f_bag)
  f_pull : Addr
  fd_pull : FuncData
  F_pull : Fun K "_law_pull" "_law_pull" s_pull f_pull fd_pull
  b_pull : L2.Binds K fd_pull P_pull []
  g_pull : mg "_law_pull" = some (.ref f_pull)
  f_of : Addr
  fd_of : FuncData
  F_of : Fun K "_law_of" "_law_of" s_of f_of fd_of
  b_of : L2.Binds K fd_of P_of []
  g_of : mg "_law_of" = some (.ref f_of)
  f_same : Addr
  fd_same : FuncData
  F_same : Fun K "_law_same" "_law_same" s_same f_same fd_same
  b_same : L2.Binds K fd_same P_same []
  g_same : mg "_law_same" = some (.ref f_same)
  f_letters : Addr
  fd_letters : FuncData
  F_letters : Fun K "_law_letters" "_law_letters" s_letters f_letters fd_letters
  b_letters : L2.Binds K fd_letters P_letters []
  g_letters : mg "_law_letters" = some (.ref f_letters)
  f_names : Addr
  fd_names : FuncData
  F_names : Fun K "_law_names" "_law_names" s_names f_names fd_names
  b_names : L2.Binds K fd_names P_names []
  g_names : mg "_law_names" = some (.ref f_names)
  f_word : Addr
  fd_word : FuncData
  F_word : Fun K "_law_word" "_law_word" s_word f_word fd_word
  b_word : L2.Binds K fd_word P_word []
  g_word : mg "_law_word" = some (.ref f_word)
  f_plan : Addr
  fd_plan : FuncData
  F_plan : Fun K "_law_plan" "_law_plan" s_plan f_plan fd_plan
  b_plan : L2.Binds K fd_plan P_plan []
  g_plan : mg "_law_plan" = some (.ref f_plan)
  f_act : Addr
  fd_act : FuncData
  F_act : Fun K "_law_act" "_law_act" s_act f_act fd_act
  b_act : L2.Binds K fd_act P_act []
  g_act : mg "_law_act" = some (.ref f_act)
  f_move : Addr
  fd_move : FuncData
  F_move : Fun K "_law_move" "_law_move" s_move f_move fd_move
  b_move : L2.Binds K fd_move P_move []
  g_move : mg "_law_move" = some (.ref f_move)
  f_lab : Addr
  fd_lab : FuncData
  F_lab : Fun K "_law_lab" "_law_lab" s_lab f_lab fd_lab
  b_lab : L2.Binds K fd_lab P_lab []
  g_lab : mg "_law_lab" = some (.ref f_lab)
  f_begin : Addr
  fd_begin : FuncData
  F_begin : Fun K "_law_begin" "_law_begin" s_begin f_begin fd_begin
  b_begin : L2.Binds K fd_begin P_begin []
  g_begin : mg "_law_begin" = some (.ref f_begin)
  f_lab_lines : Addr
  fd_lab_lines : FuncData
  F_lab_lines : Fun K "_law_lab_lines" "_law_lab_lines" s_lab_lines f_lab_lines fd_lab_lines
  b_lab_lines : L2.Binds K fd_lab_lines P_lab_lines []
  g_lab_lines : mg "_law_lab_lines" = some (.ref f_lab_lines)
  f_text_of : Addr
  fd_text_of : FuncData
  F_text_of : Fun K "_law_text_of" "_law_text_of" s_text_of f_text_of fd_text_of
  b_text_of : L2.Binds K fd_text_of P_text_of []
  g_text_of : mg "_law_text_of" = some (.ref f_text_of)
  f_law : Addr
  fd_law : FuncData
  F_law : Fun K "law" "law" s_law f_law fd_law
  b_law : L2.Binds K fd_law P_law []
  g_law : mg "law" = some (.ref f_law)
  ox_LeakError : OexC K C_LeakError
  iC_LeakError : PySem.W.findIn K (.ref C_LeakError) "__init__" = some (some (.ref f_LeakError_init))
  tI_LeakError : PySem.W.typeIn K (.ref f_LeakError_init) = some (.type "function")
  cf_LeakError_init : LB.CFn K C_LeakError "__init__" f_LeakError_init
  xc_LeakError : LB.XC K C_LeakError
  no_LeakError_word : PySem.W.findIn K (.ref C_LeakError) "word" = some none
  no_LeakError_at : PySem.W.findIn K (.ref C_LeakError) "at" = some none
  em_LeakError : PySem.W.exmOne K (.ref C_LeakError) (.ref C_LeakError) = some true
  kv_LeakError : PySem.W.kitOne K (.ref C_LeakError) (.type "ValueError") = some true
  kl_LeakError : PySem.W.kitOne K (.ref C_LeakError) (.type "LookupError") = some false
  ox_BadName : OexC K C_BadName
  iC_BadName : PySem.W.findIn K (.ref C_BadName) "__init__" = some (some (.ref f_BadName_init))
  tI_BadName : PySem.W.typeIn K (.ref f_BadName_init) = some (.type "function")
  cf_BadName_init : LB.CFn K C_BadName "__init__" f_BadName_init
  xc_BadName : LB.XC K C_BadName
  no_BadName_word : PySem.W.findIn K (.ref C_BadName) "word" = some none
  no_BadName_at : PySem.W.findIn K (.ref C_BadName) "at" = some none
  em_BadName : PySem.W.exmOne K (.ref C_BadName) (.ref C_LeakError) = some true
  kv_BadName : PySem.W.kitOne K (.ref C_BadName) (.type "ValueError") = some true
  kl_BadName : PySem.W.kitOne K (.ref C_BadName) (.type "LookupError") = some false
  ox_BadWord : OexC K C_BadWord
  iC_BadWord : PySem.W.findIn K (.ref C_BadWord) "__init__" = some (some (.ref f_BadWord_init))
  tI_BadWord : PySem.W.typeIn K (.ref f_BadWord_init) = some (.type "function")
  cf_BadWord_init : LB.CFn K C_BadWord "__init__" f_BadWord_init
  xc_BadWord : LB.XC K C_BadWord
  no_BadWord_word : PySem.W.findIn K (.ref C_BadWord) "word" = some none
  no_BadWord_at : PySem.W.findIn K (.ref C_BadWord) "at" = some none
  em_BadWord : PySem.W.exmOne K (.ref C_BadWord) (.ref C_LeakError) = some true
  kv_BadWord : PySem.W.kitOne K (.ref C_BadWord) (.type "ValueError") = some true
  kl_BadWord : PySem.W.kitOne K (.ref C_BadWord) (.type "LookupError") = some false
  ox_BadAct : OexC K C_BadAct
  iC_BadAct : PySem.W.findIn K (.ref C_BadAct) "__init__" = some (some (.ref f_BadAct_init))
  tI_BadAct : PySem.W.typeIn K (.ref f_BadAct_init) = some (.type "function")
  cf_BadAct_init : LB.CFn K C_BadAct "__init__" f_BadAct_init
  xc_BadAct : LB.XC K C_BadAct
  no_BadAct_word : PySem.W.findIn K (.ref C_BadAct) "word" = some none
  no_BadAct_at : PySem.W.findIn K (.ref C_BadAct) "at" = some none
  em_BadAct : PySem.W.exmOne K (.ref C_BadAct) (.ref C_LeakError) = some true
  kv_BadAct : PySem.W.kitOne K (.ref C_BadAct) (.type "ValueError") = some true
  kl_BadAct : PySem.W.kitOne K (.ref C_BadAct) (.type "LookupError") = some false
  ox_BadText : OexC K C_BadText
  iC_BadText : PySem.W.findIn K (.ref C_BadText) "__init__" = some (some (.ref f_BadText_init))
  tI_BadText : PySem.W.typeIn K (.ref f_BadText_init) = some (.type "function")
  cf_BadText_init : LB.CFn K C_BadText "__init__" f_BadText_init
  xc_BadText : LB.XC K C_BadText
  no_BadText_word : PySem.W.findIn K (.ref C_BadText) "word" = some none
  no_BadText_at : PySem.W.findIn K (.ref C_BadText) "at" = some none
  em_BadText : PySem.W.exmOne K (.ref C_BadText) (.ref C_LeakError) = some true
  kv_BadText : PySem.W.kitOne K (.ref C_BadText) (.type "ValueError") = some true
  kl_BadText : PySem.W.kitOne K (.ref C_BadText) (.type "LookupError") = some false
  ox_Taken : OexC K C_Taken
  iC_Taken : PySem.W.findIn K (.ref C_Taken) "__init__" = some (some (.ref f_Taken_init))
  tI_Taken : PySem.W.typeIn K (.ref f_Taken_init) = some (.type "function")
  cf_Taken_init : LB.CFn K C_Taken "__init__" f_Taken_init
  xc_Taken : LB.XC K C_Taken
  no_Taken_word : PySem.W.findIn K (.ref C_Taken) "word" = some none
  no_Taken_at : PySem.W.findIn K (.ref C_Taken) "at" = some none
  em_Taken : PySem.W.exmOne K (.ref C_Taken) (.ref C_LeakError) = some true
  kv_Taken : PySem.W.kitOne K (.ref C_Taken) (.type "ValueError") = some true
  kl_Taken : PySem.W.kitOne K (.ref C_Taken) (.type "LookupError") = some false
  ox_Full : OexC K C_Full
  iC_Full : PySem.W.findIn K (.ref C_Full) "__init__" = some (some (.ref f_Full_init))
  tI_Full : PySem.W.typeIn K (.ref f_Full_init) = some (.type "function")
  cf_Full_init : LB.CFn K C_Full "__init__" f_Full_init
  xc_Full : LB.XC K C_Full
  no_Full_word : PySem.W.findIn K (.ref C_Full) "word" = some none
  no_Full_at : PySem.W.findIn K (.ref C_Full) "at" = some none
  em_Full : PySem.W.exmOne K (.ref C_Full) (.ref C_LeakError) = some true
  kv_Full : PySem.W.kitOne K (.ref C_Full) (.type "ValueError") = some true
  kl_Full : PySem.W.kitOne K (.ref C_Full) (.type "LookupError") = some false
  ox_NoMachine : OexC K C_NoMachine
  iC_NoMachine : PySem.W.findIn K (.ref C_NoMachine) "__init__" = some (some (.ref f_NoMachine_init))
  tI_NoMachine : PySem.W.typeIn K (.ref f_NoMachine_init) = some (.type "function")
  cf_NoMachine_init : LB.CFn K C_NoMachine "__init__" f_NoMachine_init
  xc_NoMachine : LB.XC K C_NoMachine
  no_NoMachine_word : PySem.W.findIn K (.ref C_NoMachine) "word" = some none
  no_NoMachine_at : PySem.W.findIn K (.ref C_NoMachine) "at" = some none
  em_NoMachine : PySem.W.exmOne K (.ref C_NoMachine) (.ref C_LeakError) = some true
  kv_NoMachine : PySem.W.kitOne K (.ref C_NoMachine) (.type "ValueError") = some true
  kl_NoMachine : PySem.W.kitOne K (.ref C_NoMachine) (.type "LookupError") = some false
  ox_NoRow : OexC K C_NoRow
  iC_NoRow : PySem.W.findIn K (.ref C_NoRow) "__init__" = some (some (.ref f_NoRow_init))
  tI_NoRow : PySem.W.typeIn K (.ref f_NoRow_init) = some (.type "function")
  cf_NoRow_init : LB.CFn K C_NoRow "__init__" f_NoRow_init
  xc_NoRow : LB.XC K C_NoRow
  no_NoRow_word : PySem.W.findIn K (.ref C_NoRow) "word" = some none
  no_NoRow_at : PySem.W.findIn K (.ref C_NoRow) "at" = some none
  em_NoRow : PySem.W.exmOne K (.ref C_NoRow) (.ref C_LeakError) = some true
  kv_NoRow : PySem.W.kitOne K (.ref C_NoRow) (.type "ValueError") = some true
  kl_NoRow : PySem.W.kitOne K (.ref C_NoRow) (.type "LookupError") = some false
  cl_Lab : Cls K C_Lab
  mk_Lab : Mk K C_Lab f_Lab_init
  no_Lab_machine_pairs : NoAttr K C_Lab "machine_pairs"
  no_Lab_row_pairs : NoAttr K C_Lab "row_pairs"
  no_Lab_whole_moves : NoAttr K C_Lab "whole_moves"
  no_Lab_machine_places : NoAttr K C_Lab "machine_places"
  no_Lab_row_places : NoAttr K C_Lab "row_places"
  no_Lab_stand_lists : NoAttr K C_Lab "stand_lists"
  no_Lab_steps : NoAttr K C_Lab "steps"
  oc_Lab : Pu.OwnC K C_Lab
  vV : PySem.W.findCls K (.type "ValueError") (.type "type") "__init__" = some (.val (.builtin "ValueError.__init__"))
  m_ValueError : mg "ValueError" = none
  m_all : mg "all" = none
  m_any : mg "any" = none
  m_bool : mg "bool" = none
  m_enumerate : mg "enumerate" = none
  m_int : mg "int" = none
  m_isinstance : mg "isinstance" = none
  m_len : mg "len" = none
  m_list : mg "list" = none
  m_range : mg "range" = none
  m_set : mg "set" = none
  m_sorted : mg "sorted" = none
  m_str : mg "str" = none
  m_tuple : mg "tuple" = none
  m_zip : mg "zip" = none
  u_LETTERS : Value
  c_LETTERS : mg "LETTERS" = some u_LETTERS
  r_LETTERS : RelV (V.str (PySem.Str.ofString "abcdefghijklmnopqrstuvwxyz")) u_LETTERS
  u_MOST_NAME : Value
  c_MOST_NAME : mg "MOST_NAME" = some u_MOST_NAME
  r_MOST_NAME : RelV (V.int 8) u_MOST_NAME
  u_MOST_MACHINES : Value
  c_MOST_MACHINES : mg "MOST_MACHINES" = some u_MOST_MACHINES
  r_MOST_MACHINES : RelV (V.int 3) u_MOST_MACHINES
  u_MOST_ROWS : Value
  c_MOST_ROWS : mg "MOST_ROWS" = some u_MOST_ROWS
  r_MOST_ROWS : RelV (V.int 3) u_MOST_ROWS
  u_MOST_MOVES : Value
  c_MOST_MOVES : mg "MOST_MOVES" = some u_MOST_MOVES
  r_MOST_MOVES : RelV (V.int 24) u_MOST_MOVES
  u_MOST_STANDS : Value
  c_MOST_STANDS : mg "MOST_STANDS" = some u_MOST_STANDS
  r_MOST_STANDS : RelV (V.int 6) u_MOST_STANDS
  u_MOST_WORD : Value
  c_MOST_WORD : mg "MOST_WORD" = some u_MOST_WORD
  r_MOST_WORD : RelV (V.int 8) u_MOST_WORD
  d_ACT_SIZES : Addr
  c_ACT_SIZES : mg "ACT_SIZES" = some (.ref d_ACT_SIZES)
  kd_ACT_SIZES : He.dicW K d_ACT_SIZES = some (He.keysIn w.params ["send", "take", "bare", "idle"])
  ns_ACT_SIZES_send : ∃ t, PySem.W.nsIn K d_ACT_SIZES "send" = some (some (.int 3 t))
  ns_ACT_SIZES_take : ∃ t, PySem.W.nsIn K d_ACT_SIZES "take" = some (some (.int 3 t))
  ns_ACT_SIZES_bare : ∃ t, PySem.W.nsIn K d_ACT_SIZES "bare" = some (some (.int 2 t))
  ns_ACT_SIZES_idle : ∃ t, PySem.W.nsIn K d_ACT_SIZES "idle" = some (some (.int 1 t))
  d_LINE_SIZES : Addr
  c_LINE_SIZES : mg "LINE_SIZES" = some (.ref d_LINE_SIZES)
  kd_LINE_SIZES : He.dicW K d_LINE_SIZES = some (He.keysIn w.params ["machine", "row", "move"])
  ns_LINE_SIZES_machine : ∃ t, PySem.W.nsIn K d_LINE_SIZES "machine" = some (some (.int 3 t))
  ns_LINE_SIZES_row : ∃ t, PySem.W.nsIn K d_LINE_SIZES "row" = some (some (.int 3 t))
  ns_LINE_SIZES_move : ∃ t, PySem.W.nsIn K d_LINE_SIZES "move" = some (some (.int 5 t))
abbrev Tx.ca {K : PySem.W.Frag} {mg : Str → Option Value} {w : World} (T : Tx K mg w) : CA := { LeakError := T.C_LeakError, BadName := T.C_BadName, BadWord := T.C_BadWord, BadAct := T.C_BadAct, BadText := T.C_BadText, Taken := T.C_Taken, Full := T.C_Full, NoMachine := T.C_NoMachine, NoRow := T.C_NoRow, Lab := T.C_Lab, mt := mtOf T.dA_Lab_init_0 T.dA_Lab_init_1 T.dA_Lab_init_2 }
theorem Tx.mtOk {K : PySem.W.Frag} {mg : Str → Option Value} {w : World} (T : Tx K mg w) : MtOk K T.ca.mt := mtOk_of T.mt_Lab_init_0 T.mt_Lab_init_1 T.mt_Lab_init_2
section
variable {P : Program} {w : World} {K : PySem.W.Frag} {mg : Str → Option Value} {base : Heap}
/-! ### the refusals: what their making does -/
abbrev xdOf (n : Int) (w : Str) : List (Str × V) := xdOf' n w
def sp_leak (K : PySem.W.Frag) : Sp := fun vs H Q _ => ∃ (a C : Addr) (n : Int) (w : Str), vs = [.ref a, .int n, .str w] ∧ OexC K C ∧ PySem.W.findIn K (.ref C) "word" = some none ∧ PySem.W.findIn K (.ref C) "at" = some none ∧ H a = some (exo a C none) ∧ w.length < 1000 ∧ (n < 0 ∨ (0 ≤ n ∧ n < 512)) ∧ n.natAbs.log2 < 1920 ∧
  ∀ d, H d = none → d ≠ a → Q .non (upd (upd (upd H d (exd d [(Str.ofString "word", .str w)])) a (exo a C (some d))) d (exd d (xdOf n w)))
theorem small_text {n : Int} (h0 : 0 ≤ n) (h1 : n < 512) : (toString n : Str).length ≤ 100 := by
  obtain ⟨k, rfl⟩ := Int.eq_ofNat_of_zero_le h0
  have all : ∀ j : Fin 512, (toString ((j.val : Nat) : Int) : Str).length ≤ 100 := by decide +kernel
  exact all ⟨k, by omega⟩
theorem ok_LeakError_init (T : Tx K mg w) : FnOk P w K mg base CX0 1 T.f_LeakError_init T.fd_LeakError_init P_LeakError_init (sp_leak K) := by
  refine T.F_LeakError_init.ok sc_LeakError_init (fun vs H Q E h => ?_) (fun cdv A outer s H vs Q E hr h => ?_)
  · obtain ⟨a, C, n, w, rfl, _⟩ := h
    rfl
  · obtain ⟨a, C, n, w, rfl, oc, nw, na, ha, lw, sn, ln, q⟩ := h
    refine ⟨_, PSs.nox 
      (pss_cons (ps_expr (pe_veinit (by rfl) T.m_ValueError T.vV (pa_cons (L2.pv 0) (pa_cons (pe_ifExp (pt_cmpR op_lt (L2.pv 1) pe_int (nomark _)) (L2.pv 2) (pe_joined (PJ.cons (pe_fmt (L2.pv 2)) (PJ.cons pe_str (PJ.cons (pe_fmt (L2.pv 1)) PJ.nil))))) pa_nil))))
      (pss_cons (ps_ost (L2.pv 0) (L2.pv 2))
      (pss_one (ps_ost (L2.pv 0) (L2.pv 1))))), ?_⟩
    have sw : w.length ≤ sizeLine := by rw [sizeLine_eq]; omega
    have at0 : ∀ d, d ≠ a → (upd (upd H d (exd d [(Str.ofString "word", .str w)])) a (exo a C (some d))) d = some (exd d [(Str.ofString "word", .str w)]) := fun d nda => (upd_ne nda).trans upd_same
    refine ⟨.ref a, rfl, .int n, rfl, n, 0, rfl, rfl, _, rfl, ite2 (fun _ => ?_) (fun hn => ?_)⟩
    · refine ⟨.str w, rfl, a, C, [.str w], rfl, by show 1 ≤ 1000; decide, oc, ha, ?_⟩
      refine ⟨.str w, rfl, .ref a, rfl, a, C, rfl, oc, nw, .inl ⟨ha, fun d nd nda => ?_⟩⟩
      exact ⟨.int n, rfl, .ref a, rfl, a, C, rfl, oc, na, .inr ⟨d, _, upd_same, at0 d nda, by show 1 ≤ 900; decide, q d nd nda⟩⟩
    · have hn0 : 0 ≤ n ∧ n < 512 := by
        rcases sn with h | h
        · exact absurd (decide_eq_true h) hn
        · exact h
      have tl := small_text hn0.1 hn0.2
      have la : ∀ x y : Str, (x ++ y).length = x.length + y.length := fun x y => by
        show (x.cps ++ y.cps).size = x.cps.size + y.cps.size
        exact Array.size_append
      have l4 : (Str.ofString " at ").length = 4 := by decide +kernel
      have le : Str.empty.length = 0 := rfl
      refine ⟨.str w, rfl, .inl ⟨w, rfl, sw, w, rfl, by rw [la, le, sizeLine_eq]; omega, _, rfl, by rw [la, la, le, l4, sizeLine_eq]; omega, .int n, rfl, .inr ⟨n, rfl, ln, _, rfl, by rw [la, la, la, le, l4, sizeLine_eq]; omega, ?_⟩⟩⟩
      refine ⟨a, C, [.str _], rfl, by show 1 ≤ 1000; decide, oc, ha, ?_⟩
      refine ⟨.str w, rfl, .ref a, rfl, a, C, rfl, oc, nw, .inl ⟨ha, fun d nd nda => ?_⟩⟩
      exact ⟨.int n, rfl, .ref a, rfl, a, C, rfl, oc, na, .inr ⟨d, _, upd_same, at0 d nda, by show 1 ≤ 900; decide, q d nd nda⟩⟩
theorem ok_BadName_init (T : Tx K mg w) : FnOk P w K mg base CX0 2 T.f_BadName_init T.fd_BadName_init P_BadName_init (spErr K (Str.ofString "badname")) := by
  have G_LeakError_init : FnOk P w K mg base CX0 1 T.f_LeakError_init T.fd_LeakError_init P_LeakError_init (sp_leak K) := ok_LeakError_init T
  refine T.F_BadName_init.ok sc_BadName_init (fun vs H Q E h => ?_) (fun cdv A outer s H vs Q E hr h => ?_)
  · obtain ⟨a, C, n, rfl, _⟩ := h
    rfl
  · obtain ⟨a, C, n, rfl, oc, nw, na, ha, sn, ln, q⟩ := h
    refine ⟨_, PSs.nox 
      (pss_one (ps_expr (LB.pe_cfn T.cf_LeakError_init G_LeakError_init (hr.mono (by decide)) (by rfl) T.gC_LeakError T.b_LeakError_init_3 T.dv_LeakError_init_3 pass0 (pa_cons (L2.pv 0) (pa_cons (L2.pv 1) (pa_cons pe_str pa_nil)))))), ?_⟩
    exact ⟨.ref a, rfl, .int n, rfl, a, C, n, _, rfl, oc, nw, na, ha, (by decide), sn, ln, q⟩
theorem ok_BadWord_init (T : Tx K mg w) : FnOk P w K mg base CX0 2 T.f_BadWord_init T.fd_BadWord_init P_BadWord_init (spErr K (Str.ofString "badword")) := by
  have G_LeakError_init : FnOk P w K mg base CX0 1 T.f_LeakError_init T.fd_LeakError_init P_LeakError_init (sp_leak K) := ok_LeakError_init T
  refine T.F_BadWord_init.ok sc_BadWord_init (fun vs H Q E h => ?_) (fun cdv A outer s H vs Q E hr h => ?_)
  · obtain ⟨a, C, n, rfl, _⟩ := h
    rfl
  · obtain ⟨a, C, n, rfl, oc, nw, na, ha, sn, ln, q⟩ := h
    refine ⟨_, PSs.nox 
      (pss_one (ps_expr (LB.pe_cfn T.cf_LeakError_init G_LeakError_init (hr.mono (by decide)) (by rfl) T.gC_LeakError T.b_LeakError_init_3 T.dv_LeakError_init_3 pass0 (pa_cons (L2.pv 0) (pa_cons (L2.pv 1) (pa_cons pe_str pa_nil)))))), ?_⟩
    exact ⟨.ref a, rfl, .int n, rfl, a, C, n, _, rfl, oc, nw, na, ha, (by decide), sn, ln, q⟩
theorem ok_BadAct_init (T : Tx K mg w) : FnOk P w K mg base CX0 2 T.f_BadAct_init T.fd_BadAct_init P_BadAct_init (spErr K (Str.ofString "badact")) := by
  have G_LeakError_init : FnOk P w K mg base CX0 1 T.f_LeakError_init T.fd_LeakError_init P_LeakError_init (sp_leak K) := ok_LeakError_init T
  refine T.F_BadAct_init.ok sc_BadAct_init (fun vs H Q E h => ?_) (fun cdv A outer s H vs Q E hr h => ?_)
  · obtain ⟨a, C, n, rfl, _⟩ := h
    rfl
  · obtain ⟨a, C, n, rfl, oc, nw, na, ha, sn, ln, q⟩ := h
    refine ⟨_, PSs.nox 
      (pss_one (ps_expr (LB.pe_cfn T.cf_LeakError_init G_LeakError_init (hr.mono (by decide)) (by rfl) T.gC_LeakError T.b_LeakError_init_3 T.dv_LeakError_init_3 pass0 (pa_cons (L2.pv 0) (pa_cons (L2.pv 1) (pa_cons pe_str pa_nil)))))), ?_⟩
    exact ⟨.ref a, rfl, .int n, rfl, a, C, n, _, rfl, oc, nw, na, ha, (by decide), sn, ln, q⟩
theorem ok_BadText_init (T : Tx K mg w) : FnOk P w K mg base CX0 2 T.f_BadText_init T.fd_BadText_init P_BadText_init (spErr K (Str.ofString "badtext")) := by
  have G_LeakError_init : FnOk P w K mg base CX0 1 T.f_LeakError_init T.fd_LeakError_init P_LeakError_init (sp_leak K) := ok_LeakError_init T
  refine T.F_BadText_init.ok sc_BadText_init (fun vs H Q E h => ?_) (fun cdv A outer s H vs Q E hr h => ?_)
  · obtain ⟨a, C, n, rfl, _⟩ := h
    rfl
  · obtain ⟨a, C, n, rfl, oc, nw, na, ha, sn, ln, q⟩ := h
    refine ⟨_, PSs.nox 
      (pss_one (ps_expr (LB.pe_cfn T.cf_LeakError_init G_LeakError_init (hr.mono (by decide)) (by rfl) T.gC_LeakError T.b_LeakError_init_3 T.dv_LeakError_init_3 pass0 (pa_cons (L2.pv 0) (pa_cons (L2.pv 1) (pa_cons pe_str pa_nil)))))), ?_⟩
    exact ⟨.ref a, rfl, .int n, rfl, a, C, n, _, rfl, oc, nw, na, ha, (by decide), sn, ln, q⟩
theorem ok_Taken_init (T : Tx K mg w) : FnOk P w K mg base CX0 2 T.f_Taken_init T.fd_Taken_init P_Taken_init (spErr K (Str.ofString "taken")) := by
  have G_LeakError_init : FnOk P w K mg base CX0 1 T.f_LeakError_init T.fd_LeakError_init P_LeakError_init (sp_leak K) := ok_LeakError_init T
  refine T.F_Taken_init.ok sc_Taken_init (fun vs H Q E h => ?_) (fun cdv A outer s H vs Q E hr h => ?_)
  · obtain ⟨a, C, n, rfl, _⟩ := h
    rfl
  · obtain ⟨a, C, n, rfl, oc, nw, na, ha, sn, ln, q⟩ := h
    refine ⟨_, PSs.nox 
      (pss_one (ps_expr (LB.pe_cfn T.cf_LeakError_init G_LeakError_init (hr.mono (by decide)) (by rfl) T.gC_LeakError T.b_LeakError_init_3 T.dv_LeakError_init_3 pass0 (pa_cons (L2.pv 0) (pa_cons (L2.pv 1) (pa_cons pe_str pa_nil)))))), ?_⟩
    exact ⟨.ref a, rfl, .int n, rfl, a, C, n, _, rfl, oc, nw, na, ha, (by decide), sn, ln, q⟩
theorem ok_Full_init (T : Tx K mg w) : FnOk P w K mg base CX0 2 T.f_Full_init T.fd_Full_init P_Full_init (spErr K (Str.ofString "full")) := by
  have G_LeakError_init : FnOk P w K mg base CX0 1 T.f_LeakError_init T.fd_LeakError_init P_LeakError_init (sp_leak K) := ok_LeakError_init T
  refine T.F_Full_init.ok sc_Full_init (fun vs H Q E h => ?_) (fun cdv A outer s H vs Q E hr h => ?_)
  · obtain ⟨a, C, n, rfl, _⟩ := h
    rfl
  · obtain ⟨a, C, n, rfl, oc, nw, na, ha, sn, ln, q⟩ := h
    refine ⟨_, PSs.nox 
      (pss_one (ps_expr (LB.pe_cfn T.cf_LeakError_init G_LeakError_init (hr.mono (by decide)) (by rfl) T.gC_LeakError T.b_LeakError_init_3 T.dv_LeakError_init_3 pass0 (pa_cons (L2.pv 0) (pa_cons (L2.pv 1) (pa_cons pe_str pa_nil)))))), ?_⟩
    exact ⟨.ref a, rfl, .int n, rfl, a, C, n, _, rfl, oc, nw, na, ha, (by decide), sn, ln, q⟩
theorem ok_NoMachine_init (T : Tx K mg w) : FnOk P w K mg base CX0 2 T.f_NoMachine_init T.fd_NoMachine_init P_NoMachine_init (spErr K (Str.ofString "nomachine")) := by
  have G_LeakError_init : FnOk P w K mg base CX0 1 T.f_LeakError_init T.fd_LeakError_init P_LeakError_init (sp_leak K) := ok_LeakError_init T
  refine T.F_NoMachine_init.ok sc_NoMachine_init (fun vs H Q E h => ?_) (fun cdv A outer s H vs Q E hr h => ?_)
  · obtain ⟨a, C, n, rfl, _⟩ := h
    rfl
  · obtain ⟨a, C, n, rfl, oc, nw, na, ha, sn, ln, q⟩ := h
    refine ⟨_, PSs.nox 
      (pss_one (ps_expr (LB.pe_cfn T.cf_LeakError_init G_LeakError_init (hr.mono (by decide)) (by rfl) T.gC_LeakError T.b_LeakError_init_3 T.dv_LeakError_init_3 pass0 (pa_cons (L2.pv 0) (pa_cons (L2.pv 1) (pa_cons pe_str pa_nil)))))), ?_⟩
    exact ⟨.ref a, rfl, .int n, rfl, a, C, n, _, rfl, oc, nw, na, ha, (by decide), sn, ln, q⟩
theorem ok_NoRow_init (T : Tx K mg w) : FnOk P w K mg base CX0 2 T.f_NoRow_init T.fd_NoRow_init P_NoRow_init (spErr K (Str.ofString "norow")) := by
  have G_LeakError_init : FnOk P w K mg base CX0 1 T.f_LeakError_init T.fd_LeakError_init P_LeakError_init (sp_leak K) := ok_LeakError_init T
  refine T.F_NoRow_init.ok sc_NoRow_init (fun vs H Q E h => ?_) (fun cdv A outer s H vs Q E hr h => ?_)
  · obtain ⟨a, C, n, rfl, _⟩ := h
    rfl
  · obtain ⟨a, C, n, rfl, oc, nw, na, ha, sn, ln, q⟩ := h
    refine ⟨_, PSs.nox 
      (pss_one (ps_expr (LB.pe_cfn T.cf_LeakError_init G_LeakError_init (hr.mono (by decide)) (by rfl) T.gC_LeakError T.b_LeakError_init_3 T.dv_LeakError_init_3 pass0 (pa_cons (L2.pv 0) (pa_cons (L2.pv 1) (pa_cons pe_str pa_nil)))))), ?_⟩
    exact ⟨.ref a, rfl, .int n, rfl, a, C, n, _, rfl, oc, nw, na, ha, (by decide), sn, ln, q⟩
/-! ### the bag: made, drawn from -/
def sp_bag (K : PySem.W.Frag) : Sp := fun vs H Q _ => ∃ (a : Addr) (ns : List Int), vs = [.ref a] ∧ SqL K H a (ns.map V.int) ∧ ns.length ≤ 63 ∧ ∀ H' b s, Same H H' → Bag b s H' → H b = none → Q (.ref b) H'
theorem ok_bag (T : Tx K mg w) : FnOk P w K mg base CX0 1 T.f_bag T.fd_bag P_bag (sp_bag K) := by
  refine T.F_bag.ok sc_bag (fun vs H Q E h => ?_) (fun cdv A outer s H vs Q E hr h => ?_)
  · obtain ⟨a, ns, rfl, _⟩ := h
    rfl
  · obtain ⟨a, ns, rfl, hS, hlen, q⟩ := h
    refine ⟨_, 
      (pss_cons (ps_set (i := 1) sc_bag.nd rfl (.inl rfl) pe_int)
      (pss_cons (ps_for PassesOwn.never rfl (pi_list (pe_slice sl_list (L2.pv 0) po_none (po_some pe_int))) (pg_name (i := 2) sc_bag.nd rfl (.inl rfl))
        (pss_one (ps_set (i := 1) sc_bag.nd rfl (.inl rfl) (pe_op op_mod (pe_op op_add (pe_op op_add (pe_op op_mul (L2.pv 1) pe_int) (L2.pv 2)) pe_int) pe_int))))
      (pss_one (ps_ret (pe_lst (pa_cons (pe_callTy call_list_of (by rfl) T.m_list (by decide +kernel) (pa_cons (pe_slice sl_list (L2.pv 0) po_none (po_some pe_int)) pa_nil)) (pa_cons pe_int (pa_cons pe_int (pa_cons (L2.pv 1) (pa_cons pe_int pa_nil)))))))))), ?_⟩
    refine ⟨.ref a, rfl, 63, rfl, a, ns.map V.int, rfl, hS, fun c nc => ?_⟩
    have ec : cutV (ns.map V.int) none (some 63) = ns.map V.int := by
      rw [show (63 : Int) = ((63 : Nat) : Int) from rfl, LB.cut_take, List.take_of_length_le (by rw [List.length_map]; exact hlen)]
    rw [ec]
    have s1 : Same H (upd H c (.lst (ns.map V.int))) := LB.same_new nc
    refine ⟨c, rfl, ⟨_, .of upd_same⟩, for_list (xs := ns.map V.int) (fun _ σ H' => ∃ (sd : Int) (y : Option V), σ = [some (.ref a), some (.int sd), y] ∧ H' = upd H c (.lst (ns.map V.int))) ⟨_, _, rfl, rfl⟩ (fun i σ H' _ h => ?_) (fun i x σ H' hx h => ?_) (fun σ H' h => ?_)⟩
    · obtain ⟨sd, y, _, rfl⟩ := h
      exact .of upd_same
    · obtain ⟨sd, y, rfl, rfl⟩ := h
      obtain ⟨n, _, rfl⟩ : ∃ n, ns[i]? = some n ∧ V.int n = x := by
        rw [List.getElem?_map] at hx
        cases e : ns[i]? with
        | none => rw [e] at hx; cases hx
        | some n => rw [e] at hx; exact ⟨n, rfl, Option.some.inj hx⟩
      refine ⟨.int sd, rfl, sd, 65539, rfl, rfl, .inr ⟨by decide, by decide⟩, .int n, rfl, _, n, rfl, rfl, _, 7, rfl, rfl, _, 2147483629, rfl, rfl, (by show (0 : Int) < 2147483629; decide), _, _, rfl, rfl⟩
    · obtain ⟨sd, y, rfl, rfl⟩ := h
      refine ⟨.ref a, rfl, 63, rfl, a, ns.map V.int, rfl, s1.seq hS, fun d nd => ?_⟩
      rw [ec]
      have s2 := LB.same_new (o := .lst (ns.map V.int)) nd
      refine ⟨d, _, rfl, .inl (.of upd_same), fun l nl => ?_⟩
      have s3 := LB.same_new (o := .lst (ns.map V.int)) nl
      refine ⟨.int sd, rfl, (by show 5 ≤ sizeLine; decide), fun b nb => ?_⟩
      have s4 := LB.same_new (o := .lst [.ref l, .int 0, .int 0, .int sd, .int 0]) nb
      have nlb : l ≠ b := ne_of_none upd_same nb
      refine q _ b l (s1.trans (s2.trans (s3.trans s4))) ⟨nlb, ns, 0, 0, sd, 0, upd_same, ?_, hlen, Int.le_refl _⟩ ((s1.trans (s2.trans s3)).free nb)
      rw [upd_ne nlb, upd_same]
/-! ### the same data -/
def sp_same (K : PySem.W.Frag) (n : Nat) : Sp := fun vs H Q _ => ∃ v w, vs = [v, w] ∧ Sam K H n v w ∧ ∀ H', Same H H' → Q (.bl true) H'
theorem same_flat (T : Tx K mg w) {k n : Nat} {cdv : Value} {A : Around} {outer : List Env} {s : Shared} {H : Hp} {Q : VK} {E : XK} {v : V} (hv : flat1 v = true) (q : ∀ H', Same H H' → Q (.bl true) H') :
    ∃ t, PSs (cxOf CX0 P w K mg base N_same "_law_same" (defScope s_same) T.f_same cdv A outer s H E).nox (defBody s_same) t ∧ t { nx := fun _ H' => Q .non H', rt := Q } (start N_same [v, v]) H := by
  refine ⟨_, 
      (pss_cons (ps_if (pt_val (pe_callB call_isiT (by rfl) T.m_isinstance (by decide +kernel) (pa_cons (L2.pv 1) (pa_cons (pe_tup (pa_cons (pe_bltn (v := .ty "list") (by rfl) T.m_list (by decide +kernel) rfl) (pa_cons (pe_bltn (v := .ty "tuple") (by rfl) T.m_tuple (by decide +kernel) rfl) pa_nil))) pa_nil))))
        pss_never
        pss_nil)
      (pss_cons (ps_if (PW.pt (pw_or (pt_cmpR op_isN (L2.pv 1) pe_non (nomark _)) (pw_or1 (pt_cmpR op_isN (L2.pv 0) pe_non (nomark _)))))
        (pss_one (ps_ret (pe_and (pe_cmpR op_isN (L2.pv 0) pe_non (nomark _)) (pe_one (pe_cmpR op_isN (L2.pv 1) pe_non (nomark _))))))
        pss_nil)
      (pss_cons (ps_if (PW.pt (pw_or (pt_cmpR op_ne (pe_callB call_isi (by rfl) T.m_isinstance (by decide +kernel) (pa_cons (L2.pv 0) (pa_cons (pe_bltn (v := .ty "bool") (by rfl) T.m_bool (by decide +kernel) rfl) pa_nil))) (pe_callB call_isi (by rfl) T.m_isinstance (by decide +kernel) (pa_cons (L2.pv 1) (pa_cons (pe_bltn (v := .ty "bool") (by rfl) T.m_bool (by decide +kernel) rfl) pa_nil))) (nomark _)) (pw_or1 (pt_cmpR op_ne (pe_callB call_isi (by rfl) T.m_isinstance (by decide +kernel) (pa_cons (L2.pv 0) (pa_cons (pe_bltn (v := .ty "int") (by rfl) T.m_int (by decide +kernel) rfl) pa_nil))) (pe_callB call_isi (by rfl) T.m_isinstance (by decide +kernel) (pa_cons (L2.pv 1) (pa_cons (pe_bltn (v := .ty "int") (by rfl) T.m_int (by decide +kernel) rfl) pa_nil))) (nomark _)))))
        (pss_one (ps_ret pe_bl))
        pss_nil)
      (pss_one (ps_ret (pe_and (pe_cmpR op_eq (pe_callB call_isi (by rfl) T.m_isinstance (by decide +kernel) (pa_cons (L2.pv 0) (pa_cons (pe_bltn (v := .ty "str") (by rfl) T.m_str (by decide +kernel) rfl) pa_nil))) (pe_callB call_isi (by rfl) T.m_isinstance (by decide +kernel) (pa_cons (L2.pv 1) (pa_cons (pe_bltn (v := .ty "str") (by rfl) T.m_str (by decide +kernel) rfl) pa_nil))) (nomark _)) (pe_one (pe_cmpR op_eq (L2.pv 0) (L2.pv 1) (nomark _))))))))), ?_⟩
  cases v with
  | byt _ => cases hv
  | flt _ => cases hv
  | ref _ => cases hv
  | ty _ => cases hv
  | non =>
    refine ⟨.non, rfl, (by show 2 ≤ sizeLine; decide), fun p np => ?_⟩
    refine ⟨.non, p, _, _, _, false, rfl, upd_same, .cons (.ty "list") (.cons (.ty "tuple") .nil), .base .non, kit_seq (by decide +kernel) (by decide +kernel), false, rfl, iteF ?_⟩
    refine ⟨.non, rfl, rfl, _, rfl, iteT (iteT ?_)⟩
    refine ⟨.non, rfl, rfl, _, rfl, iteT ?_⟩
    exact ⟨.non, rfl, rfl, q _ (same_new np)⟩
  | bl y =>
    refine ⟨.bl y, rfl, (by show 2 ≤ sizeLine; decide), fun p np => ?_⟩
    refine ⟨.bl y, p, _, _, _, false, rfl, upd_same, .cons (.ty "list") (.cons (.ty "tuple") .nil), .base (.bl y), kit_seq (by decide +kernel) (by decide +kernel), false, rfl, iteF ?_⟩
    refine ⟨.bl y, rfl, rfl, _, rfl, iteF ⟨.bl y, rfl, rfl, _, rfl, iteF ?_⟩⟩
    refine ⟨.bl y, rfl, .bl y, .ty "bool", _, _, true, rfl, .ty _, .base (.bl y), kit_ty (by decide +kernel), .bl y, rfl, .bl y, .ty "bool", _, _, true, rfl, .ty _, .base (.bl y), kit_ty (by decide +kernel), rfl, _, rfl, iteF ⟨.bl y, rfl, .bl y, .ty "int", _, _, true, rfl, .ty _, .base (.bl y), kit_ty (by decide +kernel), .bl y, rfl, .bl y, .ty "int", _, _, true, rfl, .ty _, .base (.bl y), kit_ty (by decide +kernel), rfl, _, rfl, iteF ?_⟩⟩
    refine ⟨.bl y, rfl, .bl y, .ty "str", _, _, false, rfl, .ty _, .base (.bl y), kit_ty (by decide +kernel), .bl y, rfl, .bl y, .ty "str", _, _, false, rfl, .ty _, .base (.bl y), kit_ty (by decide +kernel), rfl, _, rfl, iteT ⟨.bl y, rfl, .bl y, rfl, rfl, ?_⟩⟩
    rw [decide_eq_true rfl]
    exact q _ (same_new np)
  | int y =>
    refine ⟨.int y, rfl, (by show 2 ≤ sizeLine; decide), fun p np => ?_⟩
    refine ⟨.int y, p, _, _, _, false, rfl, upd_same, .cons (.ty "list") (.cons (.ty "tuple") .nil), .base (.int y), kit_seq (by decide +kernel) (by decide +kernel), false, rfl, iteF ?_⟩
    refine ⟨.int y, rfl, rfl, _, rfl, iteF ⟨.int y, rfl, rfl, _, rfl, iteF ?_⟩⟩
    refine ⟨.int y, rfl, .int y, .ty "bool", _, _, false, rfl, .ty _, .base (.int y), kit_ty (by decide +kernel), .int y, rfl, .int y, .ty "bool", _, _, false, rfl, .ty _, .base (.int y), kit_ty (by decide +kernel), rfl, _, rfl, iteF ⟨.int y, rfl, .int y, .ty "int", _, _, true, rfl, .ty _, .base (.int y), kit_ty (by decide +kernel), .int y, rfl, .int y, .ty "int", _, _, true, rfl, .ty _, .base (.int y), kit_ty (by decide +kernel), rfl, _, rfl, iteF ?_⟩⟩
    refine ⟨.int y, rfl, .int y, .ty "str", _, _, false, rfl, .ty _, .base (.int y), kit_ty (by decide +kernel), .int y, rfl, .int y, .ty "str", _, _, false, rfl, .ty _, .base (.int y), kit_ty (by decide +kernel), rfl, _, rfl, iteT ⟨.int y, rfl, .int y, rfl, rfl, ?_⟩⟩
    rw [decide_eq_true rfl]
    exact q _ (same_new np)
  | str y =>
    refine ⟨.str y, rfl, (by show 2 ≤ sizeLine; decide), fun p np => ?_⟩
    refine ⟨.str y, p, _, _, _, false, rfl, upd_same, .cons (.ty "list") (.cons (.ty "tuple") .nil), .base (.str y), kit_seq (by decide +kernel) (by decide +kernel), false, rfl, iteF ?_⟩
    refine ⟨.str y, rfl, rfl, _, rfl, iteF ⟨.str y, rfl, rfl, _, rfl, iteF ?_⟩⟩
    refine ⟨.str y, rfl, .str y, .ty "bool", _, _, false, rfl, .ty _, .base (.str y), kit_ty (by decide +kernel), .str y, rfl, .str y, .ty "bool", _, _, false, rfl, .ty _, .base (.str y), kit_ty (by decide +kernel), rfl, _, rfl, iteF ⟨.str y, rfl, .str y, .ty "int", _, _, false, rfl, .ty _, .base (.str y), kit_ty (by decide +kernel), .str y, rfl, .str y, .ty "int", _, _, false, rfl, .ty _, .base (.str y), kit_ty (by decide +kernel), rfl, _, rfl, iteF ?_⟩⟩
    refine ⟨.str y, rfl, .str y, .ty "str", _, _, true, rfl, .ty _, .base (.str y), kit_ty (by decide +kernel), .str y, rfl, .str y, .ty "str", _, _, true, rfl, .ty _, .base (.str y), kit_ty (by decide +kernel), rfl, _, rfl, iteT ⟨.str y, rfl, .str y, rfl, rfl, ?_⟩⟩
    rw [decide_eq_true rfl]
    exact q _ (same_new np)
theorem ok_same (T : Tx K mg w) : ∀ n : Nat, FnOk P w K mg base CX0 (n + 1) T.f_same T.fd_same P_same (sp_same K n)
  | 0 => by
    refine T.F_same.ok sc_same (fun vs H Q E h => ?_) (fun cdv A outer s H vs Q E hr h => ?_)
    · obtain ⟨v, w, rfl, _⟩ := h
      rfl
    · obtain ⟨v, w, rfl, ⟨hf, rfl⟩, q⟩ := h
      exact same_flat T (k := 0) (n := 0) hf q
  | n + 1 => by
    have G_same : FnOk P w K mg base CX0 (n + 1) T.f_same T.fd_same P_same (sp_same K n) := ok_same T n
    refine T.F_same.ok sc_same (fun vs H Q E h => ?_) (fun cdv A outer s H vs Q E hr h => ?_)
    · obtain ⟨v, w, rfl, _⟩ := h
      rfl
    · obtain ⟨v, w, rfl, ⟨hf, rfl⟩ | ⟨a, c, xs, ys, rfl, rfl, h, hz, p'⟩, q⟩ := h
      · exact same_flat T (k := 0) (n := 0) hf q
      have pl : xs.length = ys.length := Paired.length p'
      rcases h with ⟨h1, h2⟩ | ⟨h1, h2⟩
      · -- two lists
        refine ⟨_, 
      (pss_cons (ps_if (pt_val (pe_callB call_isiT (by rfl) T.m_isinstance (by decide +kernel) (pa_cons (L2.pv 1) (pa_cons (pe_tup (pa_cons (pe_bltn (v := .ty "list") (by rfl) T.m_list (by decide +kernel) rfl) (pa_cons (pe_bltn (v := .ty "tuple") (by rfl) T.m_tuple (by decide +kernel) rfl) pa_nil))) pa_nil))))
        (pss_cons (ps_if (PW.pt (pw_or (pt_cmpR op_ne (pe_callB call_isi (by rfl) T.m_isinstance (by decide +kernel) (pa_cons (L2.pv 0) (pa_cons (pe_bltn (v := .ty "list") (by rfl) T.m_list (by decide +kernel) rfl) pa_nil))) (pe_callB call_isi (by rfl) T.m_isinstance (by decide +kernel) (pa_cons (L2.pv 1) (pa_cons (pe_bltn (v := .ty "list") (by rfl) T.m_list (by decide +kernel) rfl) pa_nil))) (nomark _)) (pw_or1 (pt_cmpR op_ne (pe_callB call_isi (by rfl) T.m_isinstance (by decide +kernel) (pa_cons (L2.pv 0) (pa_cons (pe_bltn (v := .ty "tuple") (by rfl) T.m_tuple (by decide +kernel) rfl) pa_nil))) (pe_callB call_isi (by rfl) T.m_isinstance (by decide +kernel) (pa_cons (L2.pv 1) (pa_cons (pe_bltn (v := .ty "tuple") (by rfl) T.m_tuple (by decide +kernel) rfl) pa_nil))) (nomark _)))))
          (pss_one (ps_ret pe_bl))
          pss_nil)
        (pss_one (ps_ret (pe_and (pe_cmpR op_eq (pe_callB call_len_seq (by rfl) T.m_len PySem.boot_len (pa_cons (L2.pv 0) pa_nil)) (pe_callB call_len_seq (by rfl) T.m_len PySem.boot_len (pa_cons (L2.pv 1) pa_nil)) (nomark _)) (pe_one (pe_callB (cr_all rfl) (by rfl) T.m_all (by decide +kernel) (pa_cons (pe_lc (own := [("_law_a", 2), ("_law_b", 3)]) (g := (gTup K 2 (gCons (gName 2) (gCons (gName 3) gNil)))) (tt := tYes) (by rfl) sc_same.nd (RZ.pi_zipA (by rfl) T.m_zip (pa_cons (L2.pv 0) (pa_cons (L2.pv 1) pa_nil))) (blkOk_by (own := [("_law_a", 2), ("_law_b", 3)]) (N := N_same) (sc := defScope s_same) (by decide +kernel)) (fun _ _ _ _ _ => (pg_tup (by rfl) (pgs_cons (pg_name (i := 2) sc_same.nd rfl (.inl rfl)) (pgs_cons (pg_name (i := 3) sc_same.nd rfl (.inl rfl)) pgs_nil)))) (fun _ _ _ _ _ => pts_nil) (fun _ _ _ _ _ => (pe_call G_same hr (by rfl) T.g_same T.F_same.kp T.b_same .nil pass0 (pa_cons (L2.pv 2) (pa_cons (L2.pv 3) pa_nil))))) pa_nil)))))))
        pss_nil)
      pss_never), ?_⟩
        refine ⟨.ref c, rfl, (by show 2 ≤ sizeLine; decide), fun p np => ?_⟩
        have s1 : Same H (upd H p (.tup [.ty "list", .ty "tuple"])) := same_new np
        have k1 := s1 _ _ h1
        have k2 := s1 _ _ h2
        refine ⟨.ref c, p, _, _, _, true, rfl, upd_same, .cons (.ty "list") (.cons (.ty "tuple") .nil), .base (.lst k2), kit_lst, true, rfl, iteT ?_⟩
        refine ⟨.ref a, rfl, .ref a, .ty "list", _, _, true, rfl, .ty _, .base (.lst k1), kit_ty (by decide +kernel), .ref c, rfl, .ref c, .ty "list", _, _, true, rfl, .ty _, .base (.lst k2), kit_ty (by decide +kernel), rfl, _, rfl, iteF ?_⟩
        refine ⟨.ref a, rfl, .ref a, .ty "tuple", _, _, false, rfl, .ty _, .base (.lst k1), kit_ty (by decide +kernel), .ref c, rfl, .ref c, .ty "tuple", _, _, false, rfl, .ty _, .base (.lst k2), kit_ty (by decide +kernel), rfl, _, rfl, iteF ?_⟩
        refine ⟨.ref a, rfl, a, xs, rfl, .inl (.of k1), .ref c, rfl, c, ys, rfl, .inl (.of k2), rfl, _, rfl, ?_⟩
        rw [← pl, decide_eq_true rfl]
        refine iteT ?_
        refine ⟨.ref a, rfl, .ref c, rfl, a, c, xs, ys, rfl, .inl ⟨.of k1, .of k2, fun D nD => ?_⟩⟩
        have nD0 : H D = none := s1.free nD
        refine lc_it (walk_zip (n := xs.length) (by rw [← pl, Nat.min_self])) (fun i H' => Same H H' ∧ H' D = some (.lst ((List.replicate i true).map V.bl)))
          ⟨same_mut s1 nD0, upd_same⟩ (fun i H' _ h => ⟨.of (h.1 _ _ h1), .of (h.1 _ _ h2)⟩) (fun i x H1 H' hi h y => ?_) (fun H' h => ?_)
        · obtain ⟨sm, eD⟩ := h
          obtain ⟨U, u, v, rfl, nU, rfl, gu, gv⟩ := y
          have sU : Same H (upd H1 U (.tup [u, v])) := sm.trans (same_new nU)
          refine ⟨U, [u, v], rfl, .of upd_same, rfl, u, [v], rfl, v, [], rfl, rfl, ?_⟩
          refine ⟨rfl, u, rfl, v, rfl, u, v, rfl, (paired_get p' gu gv).mono sU, fun H3 s3 => ?_⟩
          have eD3 : H3 D = some (.lst ((List.replicate i true).map V.bl)) := s3 _ _ (by rw [upd_ne (ne_of_none eD nU)]; exact eD)
          refine ⟨_, eD3, ?_, same_mut (sU.trans s3) nD0, ?_⟩
          · rw [List.length_map, List.length_replicate]
            exact Nat.lt_trans hi (Nat.lt_of_lt_of_le hz (by decide))
          · rw [upd_same, List.replicate_succ', List.map_append]
            rfl
        · obtain ⟨sm, eD⟩ := h
          refine ⟨D, _, rfl, .of eD, ?_⟩
          rw [show (List.replicate xs.length true).all id = true from by rw [List.all_replicate]; simp]
          exact q _ sm
      · -- two tuples
        refine ⟨_, 
      (pss_cons (ps_if (pt_val (pe_callB call_isiT (by rfl) T.m_isinstance (by decide +kernel) (pa_cons (L2.pv 1) (pa_cons (pe_tup (pa_cons (pe_bltn (v := .ty "list") (by rfl) T.m_list (by decide +kernel) rfl) (pa_cons (pe_bltn (v := .ty "tuple") (by rfl) T.m_tuple (by decide +kernel) rfl) pa_nil))) pa_nil))))
        (pss_cons (ps_if (PW.pt (pw_or (pt_cmpR op_ne (pe_callB call_isi (by rfl) T.m_isinstance (by decide +kernel) (pa_cons (L2.pv 0) (pa_cons (pe_bltn (v := .ty "list") (by rfl) T.m_list (by decide +kernel) rfl) pa_nil))) (pe_callB call_isi (by rfl) T.m_isinstance (by decide +kernel) (pa_cons (L2.pv 1) (pa_cons (pe_bltn (v := .ty "list") (by rfl) T.m_list (by decide +kernel) rfl) pa_nil))) (nomark _)) (pw_or1 (pt_cmpR op_ne (pe_callB call_isi (by rfl) T.m_isinstance (by decide +kernel) (pa_cons (L2.pv 0) (pa_cons (pe_bltn (v := .ty "tuple") (by rfl) T.m_tuple (by decide +kernel) rfl) pa_nil))) (pe_callB call_isi (by rfl) T.m_isinstance (by decide +kernel) (pa_cons (L2.pv 1) (pa_cons (pe_bltn (v := .ty "tuple") (by rfl) T.m_tuple (by decide +kernel) rfl) pa_nil))) (nomark _)))))
          (pss_one (ps_ret pe_bl))
          pss_nil)
        (pss_one (ps_ret (pe_and (pe_cmpR op_eq (pe_callB call_len_seq (by rfl) T.m_len PySem.boot_len (pa_cons (L2.pv 0) pa_nil)) (pe_callB call_len_seq (by rfl) T.m_len PySem.boot_len (pa_cons (L2.pv 1) pa_nil)) (nomark _)) (pe_one (pe_callB (cr_all rfl) (by rfl) T.m_all (by decide +kernel) (pa_cons (pe_lc (own := [("_law_a", 2), ("_law_b", 3)]) (g := (gTup K 2 (gCons (gName 2) (gCons (gName 3) gNil)))) (tt := tYes) (by rfl) sc_same.nd (RZ.pi_zipA (by rfl) T.m_zip (pa_cons (L2.pv 0) (pa_cons (L2.pv 1) pa_nil))) (blkOk_by (own := [("_law_a", 2), ("_law_b", 3)]) (N := N_same) (sc := defScope s_same) (by decide +kernel)) (fun _ _ _ _ _ => (pg_tup (by rfl) (pgs_cons (pg_name (i := 2) sc_same.nd rfl (.inl rfl)) (pgs_cons (pg_name (i := 3) sc_same.nd rfl (.inl rfl)) pgs_nil)))) (fun _ _ _ _ _ => pts_nil) (fun _ _ _ _ _ => (pe_call G_same hr (by rfl) T.g_same T.F_same.kp T.b_same .nil pass0 (pa_cons (L2.pv 2) (pa_cons (L2.pv 3) pa_nil))))) pa_nil)))))))
        pss_nil)
      pss_never), ?_⟩
        refine ⟨.ref c, rfl, (by show 2 ≤ sizeLine; decide), fun p np => ?_⟩
        have s1 : Same H (upd H p (.tup [.ty "list", .ty "tuple"])) := same_new np
        have k1 := s1 _ _ h1
        have k2 := s1 _ _ h2
        refine ⟨.ref c, p, _, _, _, true, rfl, upd_same, .cons (.ty "list") (.cons (.ty "tuple") .nil), .base (.tup k2), kit_tup, true, rfl, iteT ?_⟩
        refine ⟨.ref a, rfl, .ref a, .ty "list", _, _, false, rfl, .ty _, .base (.tup k1), kit_ty (by decide +kernel), .ref c, rfl, .ref c, .ty "list", _, _, false, rfl, .ty _, .base (.tup k2), kit_ty (by decide +kernel), rfl, _, rfl, iteF ?_⟩
        refine ⟨.ref a, rfl, .ref a, .ty "tuple", _, _, true, rfl, .ty _, .base (.tup k1), kit_ty (by decide +kernel), .ref c, rfl, .ref c, .ty "tuple", _, _, true, rfl, .ty _, .base (.tup k2), kit_ty (by decide +kernel), rfl, _, rfl, iteF ?_⟩
        refine ⟨.ref a, rfl, a, xs, rfl, .inr (.of k1), .ref c, rfl, c, ys, rfl, .inr (.of k2), rfl, _, rfl, ?_⟩
        rw [← pl, decide_eq_true rfl]
        refine iteT ?_
        refine ⟨.ref a, rfl, .ref c, rfl, a, c, xs, ys, rfl, .inr ⟨.of k1, .of k2, fun D nD => ?_⟩⟩
        have nD0 : H D = none := s1.free nD
        refine lc_it (walk_zipT (n := xs.length) (by rw [← pl, Nat.min_self])) (fun i H' => Same H H' ∧ H' D = some (.lst ((List.replicate i true).map V.bl)))
          ⟨same_mut s1 nD0, upd_same⟩ (fun i H' _ h => ⟨.of (h.1 _ _ h1), .of (h.1 _ _ h2)⟩) (fun i x H1 H' hi h y => ?_) (fun H' h => ?_)
        · obtain ⟨sm, eD⟩ := h
          obtain ⟨U, u, v, rfl, nU, rfl, gu, gv⟩ := y
          have sU : Same H (upd H1 U (.tup [u, v])) := sm.trans (same_new nU)
          refine ⟨U, [u, v], rfl, .of upd_same, rfl, u, [v], rfl, v, [], rfl, rfl, ?_⟩
          refine ⟨rfl, u, rfl, v, rfl, u, v, rfl, (paired_get p' gu gv).mono sU, fun H3 s3 => ?_⟩
          have eD3 : H3 D = some (.lst ((List.replicate i true).map V.bl)) := s3 _ _ (by rw [upd_ne (ne_of_none eD nU)]; exact eD)
          refine ⟨_, eD3, ?_, same_mut (sU.trans s3) nD0, ?_⟩
          · rw [List.length_map, List.length_replicate]
            exact Nat.lt_trans hi (Nat.lt_of_lt_of_le hz (by decide))
          · rw [upd_same, List.replicate_succ', List.map_append]
            rfl
        · obtain ⟨sm, eD⟩ := h
          refine ⟨D, _, rfl, .of eD, ?_⟩
          rw [show (List.replicate xs.length true).all id = true from by rw [List.all_replicate]; simp]
          exact q _ sm
variable {tb : List (Addr × Str)}
theorem ok_sameP (T : Tx K mg w) : FnP P w K mg base tb 5 T.f_same T.fd_same P_same (F_same 4) := (fn_any (ok_same T 4)).imp fun vs H Q E h => same_imp h
/-! #### is_word -/
set_option maxHeartbeats 0 in
theorem ok_p_is_word (T : Tx K mg w) : FnP P w K mg base tb 1 T.f_p_is_word T.fd_p_is_word P_p_is_word (F_p_is_word T.ca) := by
  exact FnP.of T.F_p_is_word sc_p_is_word fun cdv A outer s H E hr => ⟨_, (pss_one (ps_ret (pe_callB (cr_all rfl) (by rfl) T.m_all (by decide +kernel) (pa_cons (pe_lc (own := [("sign", 1)]) (g := (gName 1)) (tt := tYes) (by rfl) sc_p_is_word.nd (pi_str (L2.pv 0)) (blkOk_by (own := [("sign", 1)]) (N := N_p_is_word) (sc := defScope s_p_is_word) (by decide +kernel)) (fun _ _ _ _ _ => (pg_name (i := 1) sc_p_is_word.nd rfl (.inl rfl))) (fun _ _ _ _ _ => pts_nil) (fun _ _ _ _ _ => (pe_cmpR op_in_sign (L2.pv 1) (pe_glob (by rfl) T.c_LETTERS T.r_LETTERS) rfl))) pa_nil)))),
    (sm_ret (sm_gc (sm_B sb_all (sm_cons (sm_lc (sm_iS sm_var) sg_nm sm_yes (sm_op smr_inS sm_var (sm_c (cv_str (by decide +kernel)))) (by decide)) sm_nil))))⟩
/-! #### is_name -/
set_option maxHeartbeats 0 in
theorem ok_p_is_name (T : Tx K mg w) : FnP P w K mg base tb 2 T.f_p_is_name T.fd_p_is_name P_p_is_name (F_p_is_name T.ca) := by
  have G_p_is_word : FnP P w K mg base tb 1 T.f_p_is_word T.fd_p_is_word P_p_is_word (F_p_is_word T.ca) := ok_p_is_word T
  exact FnP.of T.F_p_is_name sc_p_is_name fun cdv A outer s H E hr => ⟨_, (pss_one (ps_ret (pe_and (pe_chain op_le op_le pe_int (pe_callB call_len_str (by rfl) T.m_len PySem.boot_len (pa_cons (L2.pv 0) pa_nil)) (pe_glob (by rfl) T.c_MOST_NAME T.r_MOST_NAME)) (pe_one (pe_call G_p_is_word (hr.mono (by decide)) (by rfl) T.g_p_is_word T.F_p_is_word.kp T.b_p_is_word .nil (passes_call (takes_of rfl rfl rfl rfl) (fun _ _ _ _ h => h)) (pa_cons (L2.pv 0) pa_nil)))))),
    (sm_ret (sm_andV (sm_chain (smr_I0 fun _ _ => cv_bl) (smr_I0 fun _ _ => cv_bl) (sm_c cv_int) (sm_B sb_lenS (sm_cons sm_var sm_nil)) (sm_c cv_int)) (sm_call cvs_nil (sm_cons sm_var sm_nil))))⟩
/-! #### is_letter -/
set_option maxHeartbeats 0 in
theorem ok_p_is_letter (T : Tx K mg w) : FnP P w K mg base tb 2 T.f_p_is_letter T.fd_p_is_letter P_p_is_letter (F_p_is_letter T.ca) := by
  have G_p_is_word : FnP P w K mg base tb 1 T.f_p_is_word T.fd_p_is_word P_p_is_word (F_p_is_word T.ca) := ok_p_is_word T
  exact FnP.of T.F_p_is_letter sc_p_is_letter fun cdv A outer s H E hr => ⟨_, (pss_one (ps_ret (pe_and (pe_cmpR op_eq (pe_callB call_len_str (by rfl) T.m_len PySem.boot_len (pa_cons (L2.pv 0) pa_nil)) pe_int (nomark _)) (pe_one (pe_call G_p_is_word (hr.mono (by decide)) (by rfl) T.g_p_is_word T.F_p_is_word.kp T.b_p_is_word .nil (passes_call (takes_of rfl rfl rfl rfl) (fun _ _ _ _ h => h)) (pa_cons (L2.pv 0) pa_nil)))))),
    (sm_ret (sm_andV (sm_op smr_eq (sm_B sb_lenS (sm_cons sm_var sm_nil)) (sm_c cv_int)) (sm_call cvs_nil (sm_cons sm_var sm_nil))))⟩
/-! #### is_short_word -/
set_option maxHeartbeats 0 in
theorem ok_p_is_short_word (T : Tx K mg w) : FnP P w K mg base tb 2 T.f_p_is_short_word T.fd_p_is_short_word P_p_is_short_word (F_p_is_short_word T.ca) := by
  have G_p_is_word : FnP P w K mg base tb 1 T.f_p_is_word T.fd_p_is_word P_p_is_word (F_p_is_word T.ca) := ok_p_is_word T
  exact FnP.of T.F_p_is_short_word sc_p_is_short_word fun cdv A outer s H E hr => ⟨_, (pss_one (ps_ret (pe_and (pe_cmpR op_le (pe_callB call_len_str (by rfl) T.m_len PySem.boot_len (pa_cons (L2.pv 0) pa_nil)) (pe_glob (by rfl) T.c_MOST_WORD T.r_MOST_WORD) (nomark _)) (pe_one (pe_call G_p_is_word (hr.mono (by decide)) (by rfl) T.g_p_is_word T.F_p_is_word.kp T.b_p_is_word .nil (passes_call (takes_of rfl rfl rfl rfl) (fun _ _ _ _ h => h)) (pa_cons (L2.pv 0) pa_nil)))))),
    (sm_ret (sm_andV (sm_op (smr_I0 fun _ _ => cv_bl) (sm_B sb_lenS (sm_cons sm_var sm_nil)) (sm_c cv_int)) (sm_call cvs_nil (sm_cons sm_var sm_nil))))⟩
/-! #### check_machines -/
set_option maxHeartbeats 0 in
theorem ok_p_check_machines (T : Tx K mg w) : FnP P w K mg base tb 4 T.f_p_check_machines T.fd_p_check_machines P_p_check_machines (F_p_check_machines T.ca) := by
  have G_BadName_init : FnOk P w K mg base CX0 2 T.f_BadName_init T.fd_BadName_init P_BadName_init (spErr K (Str.ofString "badname")) := ok_BadName_init T
  have G_Taken_init : FnOk P w K mg base CX0 2 T.f_Taken_init T.fd_Taken_init P_Taken_init (spErr K (Str.ofString "taken")) := ok_Taken_init T
  have G_p_is_name : FnP P w K mg base tb 2 T.f_p_is_name T.fd_p_is_name P_p_is_name (F_p_is_name T.ca) := ok_p_is_name T
  exact FnP.of T.F_p_check_machines sc_p_check_machines fun cdv A outer s H E hr => ⟨_, (pss_cons (ps_set (i := 1) sc_p_check_machines.nd rfl (.inl rfl) pe_dnewK)
      (pss_one (ps_for (passes_of rfl) rfl (pi_tup (L2.pv 0)) (pg_tup (by rfl) (pgs_cons (pg_name (i := 2) sc_p_check_machines.nd rfl (.inl rfl)) (pgs_cons (pg_name (i := 3) sc_p_check_machines.nd rfl (.inl rfl)) pgs_nil)))
        (pss_cons (ps_if (PW.pt (pw_or (pt_not (pt_val (pe_call G_p_is_name (hr.mono (by decide)) (by rfl) T.g_p_is_name T.F_p_is_name.kp T.b_p_is_name .nil (passes_call (takes_of rfl rfl rfl rfl) (fun _ _ _ _ h => h)) (pa_cons (L2.pv 2) pa_nil)))) (pw_or1 (pt_not (pt_val (pe_call G_p_is_name (hr.mono (by decide)) (by rfl) T.g_p_is_name T.F_p_is_name.kp T.b_p_is_name .nil (passes_call (takes_of rfl rfl rfl rfl) (fun _ _ _ _ h => h)) (pa_cons (L2.pv 3) pa_nil)))))))
          (pss_one (ps_raise rfl (takes_of rfl rfl rfl rfl) (LB.pmk_oex0 T.ox_BadName T.iC_BadName T.tI_BadName G_BadName_init (hr.mono (by decide)) T.b_BadName_init_1 T.dv_BadName_init_1 pass0 (by rfl) T.gC_BadName)))
          pss_nil)
        (pss_cons (ps_if (pt_cmp (pc_din (hu_of hr) (L2.pv 2) (L2.pv 1)))
          (pss_one (ps_raise rfl (takes_of rfl rfl rfl rfl) (LB.pmk_oex0 T.ox_Taken T.iC_Taken T.tI_Taken G_Taken_init (hr.mono (by decide)) T.b_Taken_init_1 T.dv_Taken_init_1 pass0 (by rfl) T.gC_Taken)))
          pss_nil)
        (pss_one (ps_dput (hu_of hr) (L2.pv 1) (L2.pv 2) pe_bl rfl))))))),
    (sm_seq (sm_asg sm_dnewK sg_nm)
      (sm_for (sm_iT sm_var) (sg_tup (sg_cons sg_nm (sg_cons sg_nm sg_nil)) (cnt_cons (cnt_cons cnt_nil))) (sm_seq (sm_ifS (sm_or (sm_not (sm_tB (sm_call cvs_nil (sm_cons sm_var sm_nil)))) (sm_not (sm_tB (sm_call cvs_nil (sm_cons sm_var sm_nil))))) (sm_raise T.ox_BadName T.no_BadName_word T.no_BadName_at (cvs_cons cv_int cvs_nil) sm_nil) sm_next)
      (sm_seq (sm_ifS (sm_tB (sm_din sm_var sm_var)) (sm_raise T.ox_Taken T.no_Taken_word T.no_Taken_at (cvs_cons cv_int cvs_nil) sm_nil) sm_next)
      (sm_dput sm_var sm_var (sm_c cv_bl))))))⟩
/-! #### check_rows -/
set_option maxHeartbeats 0 in
theorem ok_p_check_rows (T : Tx K mg w) : FnP P w K mg base tb 4 T.f_p_check_rows T.fd_p_check_rows P_p_check_rows (F_p_check_rows T.ca) := by
  have G_p_is_name : FnP P w K mg base tb 2 T.f_p_is_name T.fd_p_is_name P_p_is_name (F_p_is_name T.ca) := ok_p_is_name T
  have G_BadName_init : FnOk P w K mg base CX0 2 T.f_BadName_init T.fd_BadName_init P_BadName_init (spErr K (Str.ofString "badname")) := ok_BadName_init T
  have G_Taken_init : FnOk P w K mg base CX0 2 T.f_Taken_init T.fd_Taken_init P_Taken_init (spErr K (Str.ofString "taken")) := ok_Taken_init T
  have G_p_is_short_word : FnP P w K mg base tb 2 T.f_p_is_short_word T.fd_p_is_short_word P_p_is_short_word (F_p_is_short_word T.ca) := ok_p_is_short_word T
  have G_BadWord_init : FnOk P w K mg base CX0 2 T.f_BadWord_init T.fd_BadWord_init P_BadWord_init (spErr K (Str.ofString "badword")) := ok_BadWord_init T
  exact FnP.of T.F_p_check_rows sc_p_check_rows fun cdv A outer s H E hr => ⟨_, (pss_cons (ps_set (i := 1) sc_p_check_rows.nd rfl (.inl rfl) pe_dnewK)
      (pss_one (ps_for (passes_of rfl) rfl (pi_tup (L2.pv 0)) (pg_tup (by rfl) (pgs_cons (pg_name (i := 2) sc_p_check_rows.nd rfl (.inl rfl)) (pgs_cons (pg_name (i := 3) sc_p_check_rows.nd rfl (.inl rfl)) pgs_nil)))
        (pss_cons (ps_if (pt_not (pt_val (pe_call G_p_is_name (hr.mono (by decide)) (by rfl) T.g_p_is_name T.F_p_is_name.kp T.b_p_is_name .nil (passes_call (takes_of rfl rfl rfl rfl) (fun _ _ _ _ h => h)) (pa_cons (L2.pv 2) pa_nil))))
          (pss_one (ps_raise rfl (takes_of rfl rfl rfl rfl) (LB.pmk_oex0 T.ox_BadName T.iC_BadName T.tI_BadName G_BadName_init (hr.mono (by decide)) T.b_BadName_init_1 T.dv_BadName_init_1 pass0 (by rfl) T.gC_BadName)))
          pss_nil)
        (pss_cons (ps_if (pt_cmp (pc_din (hu_of hr) (L2.pv 2) (L2.pv 1)))
          (pss_one (ps_raise rfl (takes_of rfl rfl rfl rfl) (LB.pmk_oex0 T.ox_Taken T.iC_Taken T.tI_Taken G_Taken_init (hr.mono (by decide)) T.b_Taken_init_1 T.dv_Taken_init_1 pass0 (by rfl) T.gC_Taken)))
          pss_nil)
        (pss_cons (ps_if (pt_not (pt_val (pe_call G_p_is_short_word (hr.mono (by decide)) (by rfl) T.g_p_is_short_word T.F_p_is_short_word.kp T.b_p_is_short_word .nil (passes_call (takes_of rfl rfl rfl rfl) (fun _ _ _ _ h => h)) (pa_cons (L2.pv 3) pa_nil))))
          (pss_one (ps_raise rfl (takes_of rfl rfl rfl rfl) (LB.pmk_oex0 T.ox_BadWord T.iC_BadWord T.tI_BadWord G_BadWord_init (hr.mono (by decide)) T.b_BadWord_init_1 T.dv_BadWord_init_1 pass0 (by rfl) T.gC_BadWord)))
          pss_nil)
        (pss_one (ps_dput (hu_of hr) (L2.pv 1) (L2.pv 2) pe_bl rfl)))))))),
    (sm_seq (sm_asg sm_dnewK sg_nm)
      (sm_for (sm_iT sm_var) (sg_tup (sg_cons sg_nm (sg_cons sg_nm sg_nil)) (cnt_cons (cnt_cons cnt_nil))) (sm_seq (sm_ifS (sm_not (sm_tB (sm_call cvs_nil (sm_cons sm_var sm_nil)))) (sm_raise T.ox_BadName T.no_BadName_word T.no_BadName_at (cvs_cons cv_int cvs_nil) sm_nil) sm_next)
      (sm_seq (sm_ifS (sm_tB (sm_din sm_var sm_var)) (sm_raise T.ox_Taken T.no_Taken_word T.no_Taken_at (cvs_cons cv_int cvs_nil) sm_nil) sm_next)
      (sm_seq (sm_ifS (sm_not (sm_tB (sm_call cvs_nil (sm_cons sm_var sm_nil)))) (sm_raise T.ox_BadWord T.no_BadWord_word T.no_BadWord_at (cvs_cons cv_int cvs_nil) sm_nil) sm_next)
      (sm_dput sm_var sm_var (sm_c cv_bl)))))))⟩
/-! #### check_act -/
set_option maxHeartbeats 0 in
theorem ok_p_check_act (T : Tx K mg w) : FnP P w K mg base tb 4 T.f_p_check_act T.fd_p_check_act P_p_check_act (F_p_check_act T.ca) := by
  have G_BadAct_init : FnOk P w K mg base CX0 2 T.f_BadAct_init T.fd_BadAct_init P_BadAct_init (spErr K (Str.ofString "badact")) := ok_BadAct_init T
  have G_NoRow_init : FnOk P w K mg base CX0 2 T.f_NoRow_init T.fd_NoRow_init P_NoRow_init (spErr K (Str.ofString "norow")) := ok_NoRow_init T
  have G_BadWord_init : FnOk P w K mg base CX0 2 T.f_BadWord_init T.fd_BadWord_init P_BadWord_init (spErr K (Str.ofString "badword")) := ok_BadWord_init T
  have G_p_is_letter : FnP P w K mg base tb 2 T.f_p_is_letter T.fd_p_is_letter P_p_is_letter (F_p_is_letter T.ca) := ok_p_is_letter T
  exact FnP.of T.F_p_check_act sc_p_check_act fun cdv A outer s H E hr => ⟨_, (pss_cons (ps_if (PW.pt (pw_or (pt_cmpR op_eq (pe_callB call_len_seq (by rfl) T.m_len PySem.boot_len (pa_cons (L2.pv 0) pa_nil)) pe_int (nomark _)) (pw_or1 (pt_cmpR op_ne (LB.pe_kget (pe_glob (v := .ref T.d_ACT_SIZES) (by rfl) T.c_ACT_SIZES rfl) (pe_ix ix_tup (L2.pv 0) pe_int (fun _ _ => rfl)) ⟨rfl, rfl, rfl, rfl⟩) (pe_callB call_len_seq (by rfl) T.m_len PySem.boot_len (pa_cons (L2.pv 0) pa_nil)) (nomark _)))))
        (pss_one (ps_raise rfl (takes_of rfl rfl rfl rfl) (LB.pmk_oex0 T.ox_BadAct T.iC_BadAct T.tI_BadAct G_BadAct_init (hr.mono (by decide)) T.b_BadAct_init_1 T.dv_BadAct_init_1 pass0 (by rfl) T.gC_BadAct)))
        pss_nil)
      (pss_cons (ps_if (PW.pt (pw_and (pt_cmpR op_gt (pe_callB call_len_seq (by rfl) T.m_len PySem.boot_len (pa_cons (L2.pv 0) pa_nil)) pe_int (nomark _)) (pw_and1 (pt_cmp (pc_dnotin (hu_of hr) (pe_ix ix_tup (L2.pv 0) pe_int (fun _ _ => rfl)) (L2.pv 1))))))
        (pss_one (ps_raise rfl (takes_of rfl rfl rfl rfl) (LB.pmk_oex0 T.ox_NoRow T.iC_NoRow T.tI_NoRow G_NoRow_init (hr.mono (by decide)) T.b_NoRow_init_1 T.dv_NoRow_init_1 pass0 (by rfl) T.gC_NoRow)))
        pss_nil)
      (pss_one (ps_if (PW.pt (pw_and (pt_cmpR op_gt (pe_callB call_len_seq (by rfl) T.m_len PySem.boot_len (pa_cons (L2.pv 0) pa_nil)) pe_int (nomark _)) (pw_and1 (pt_not (pt_val (pe_call G_p_is_letter (hr.mono (by decide)) (by rfl) T.g_p_is_letter T.F_p_is_letter.kp T.b_p_is_letter .nil (passes_call (takes_of rfl rfl rfl rfl) (fun _ _ _ _ h => h)) (pa_cons (pe_ix ix_tup (L2.pv 0) pe_int (fun _ _ => rfl)) pa_nil)))))))
        (pss_one (ps_raise rfl (takes_of rfl rfl rfl rfl) (LB.pmk_oex0 T.ox_BadWord T.iC_BadWord T.tI_BadWord G_BadWord_init (hr.mono (by decide)) T.b_BadWord_init_1 T.dv_BadWord_init_1 pass0 (by rfl) T.gC_BadWord)))
        pss_nil)))),
    (sm_seq (sm_ifS (sm_or (sm_test (sm_op smr_eq (sm_B sb_len (sm_cons sm_var sm_nil)) (sm_c cv_int))) (sm_test (sm_op smr_ne (sm_kget T.kd_ACT_SIZES (lkv_cons T.ns_ACT_SIZES_send (by decide +kernel) (lkv_cons T.ns_ACT_SIZES_take (by decide +kernel) (lkv_cons T.ns_ACT_SIZES_bare (by decide +kernel) (lkv_cons T.ns_ACT_SIZES_idle (by decide +kernel) lkv_nil)))) (lkn_cons (by decide +kernel) (lkn_cons (by decide +kernel) (lkn_cons (by decide +kernel) (lkn_cons (by decide +kernel) lkn_nil)))) (sm_op smr_ixT sm_var (sm_c cv_int))) (sm_B sb_len (sm_cons sm_var sm_nil))))) (sm_raise T.ox_BadAct T.no_BadAct_word T.no_BadAct_at (cvs_cons cv_int cvs_nil) sm_nil) sm_next)
      (sm_seq (sm_ifS (sm_and (sm_test (sm_op (smr_I0 fun _ _ => cv_bl) (sm_B sb_len (sm_cons sm_var sm_nil)) (sm_c cv_int))) (sm_tB (sm_dnotin (sm_op smr_ixT sm_var (sm_c cv_int)) sm_var))) (sm_raise T.ox_NoRow T.no_NoRow_word T.no_NoRow_at (cvs_cons cv_int cvs_nil) sm_nil) sm_next)
      (sm_ifS (sm_and (sm_test (sm_op (smr_I0 fun _ _ => cv_bl) (sm_B sb_len (sm_cons sm_var sm_nil)) (sm_c cv_int))) (sm_not (sm_tB (sm_call cvs_nil (sm_cons (sm_op smr_ixT sm_var (sm_c cv_int)) sm_nil))))) (sm_raise T.ox_BadWord T.no_BadWord_word T.no_BadWord_at (cvs_cons cv_int cvs_nil) sm_nil) sm_next)))⟩
/-! #### check_moves -/
set_option maxHeartbeats 0 in
theorem ok_p_check_moves (T : Tx K mg w) : FnP P w K mg base tb 5 T.f_p_check_moves T.fd_p_check_moves P_p_check_moves (F_p_check_moves T.ca) := by
  have G_p_check_act : FnP P w K mg base tb 4 T.f_p_check_act T.fd_p_check_act P_p_check_act (F_p_check_act T.ca) := ok_p_check_act T
  have G_NoMachine_init : FnOk P w K mg base CX0 2 T.f_NoMachine_init T.fd_NoMachine_init P_NoMachine_init (spErr K (Str.ofString "nomachine")) := ok_NoMachine_init T
  have G_BadName_init : FnOk P w K mg base CX0 2 T.f_BadName_init T.fd_BadName_init P_BadName_init (spErr K (Str.ofString "badname")) := ok_BadName_init T
  have G_p_is_name : FnP P w K mg base tb 2 T.f_p_is_name T.fd_p_is_name P_p_is_name (F_p_is_name T.ca) := ok_p_is_name T
  exact FnP.of T.F_p_check_moves sc_p_check_moves fun cdv A outer s H E hr => ⟨_, (pss_one (ps_for (passes_of rfl) rfl (pi_tup (L2.pv 0)) (pg_tup (by rfl) (pgs_cons (pg_name (i := 3) sc_p_check_moves.nd rfl (.inl rfl)) (pgs_cons (pg_name (i := 4) sc_p_check_moves.nd rfl (.inl rfl)) (pgs_cons (pg_name (i := 5) sc_p_check_moves.nd rfl (.inl rfl)) (pgs_cons (pg_name (i := 6) sc_p_check_moves.nd rfl (.inl rfl)) pgs_nil)))))
        (pss_cons (ps_if (pt_cmp (pc_dnotin (hu_of hr) (L2.pv 3) (L2.pv 1)))
          (pss_one (ps_raise rfl (takes_of rfl rfl rfl rfl) (LB.pmk_oex0 T.ox_NoMachine T.iC_NoMachine T.tI_NoMachine G_NoMachine_init (hr.mono (by decide)) T.b_NoMachine_init_1 T.dv_NoMachine_init_1 pass0 (by rfl) T.gC_NoMachine)))
          pss_nil)
        (pss_cons (ps_if (PW.pt (pw_or (pt_not (pt_val (pe_call G_p_is_name (hr.mono (by decide)) (by rfl) T.g_p_is_name T.F_p_is_name.kp T.b_p_is_name .nil (passes_call (takes_of rfl rfl rfl rfl) (fun _ _ _ _ h => h)) (pa_cons (L2.pv 4) pa_nil)))) (pw_or1 (pt_not (pt_val (pe_call G_p_is_name (hr.mono (by decide)) (by rfl) T.g_p_is_name T.F_p_is_name.kp T.b_p_is_name .nil (passes_call (takes_of rfl rfl rfl rfl) (fun _ _ _ _ h => h)) (pa_cons (L2.pv 6) pa_nil)))))))
          (pss_one (ps_raise rfl (takes_of rfl rfl rfl rfl) (LB.pmk_oex0 T.ox_BadName T.iC_BadName T.tI_BadName G_BadName_init (hr.mono (by decide)) T.b_BadName_init_1 T.dv_BadName_init_1 pass0 (by rfl) T.gC_BadName)))
          pss_nil)
        (pss_one (ps_expr (pe_call G_p_check_act (hr.mono (by decide)) (by rfl) T.g_p_check_act T.F_p_check_act.kp T.b_p_check_act .nil (passes_call (takes_of rfl rfl rfl rfl) (fun _ _ _ _ h => h)) (pa_cons (L2.pv 5) (pa_cons (L2.pv 2) pa_nil))))))))),
    (sm_for (sm_iT sm_var) (sg_tup (sg_cons sg_nm (sg_cons sg_nm (sg_cons sg_nm (sg_cons sg_nm sg_nil)))) (cnt_cons (cnt_cons (cnt_cons (cnt_cons cnt_nil))))) (sm_seq (sm_ifS (sm_tB (sm_dnotin sm_var sm_var)) (sm_raise T.ox_NoMachine T.no_NoMachine_word T.no_NoMachine_at (cvs_cons cv_int cvs_nil) sm_nil) sm_next)
      (sm_seq (sm_ifS (sm_or (sm_not (sm_tB (sm_call cvs_nil (sm_cons sm_var sm_nil)))) (sm_not (sm_tB (sm_call cvs_nil (sm_cons sm_var sm_nil))))) (sm_raise T.ox_BadName T.no_BadName_word T.no_BadName_at (cvs_cons cv_int cvs_nil) sm_nil) sm_next)
      (sm_drop (sm_call cvs_nil (sm_cons sm_var (sm_cons sm_var sm_nil)))))))⟩
/-! #### places_of -/
set_option maxHeartbeats 0 in
theorem ok_p_places_of (T : Tx K mg w) : FnP P w K mg base tb 1 T.f_p_places_of T.fd_p_places_of P_p_places_of (F_p_places_of T.ca) := by
  exact FnP.of T.F_p_places_of sc_p_places_of fun cdv A outer s H E hr => ⟨_, (pss_one (ps_ret (pe_dc (own := [("at", 1), ("name", 2), ("thing", 3)]) (g := (gTup K 2 (gCons (gName 1) (gCons (gTup K 2 (gCons (gName 2) (gCons (gName 3) gNil))) gNil)))) (tt := tYes) (by rfl) sc_p_places_of.nd (LB.pi_enumT (by rfl) T.m_enumerate (pa_cons (L2.pv 0) pa_nil)) (blkOk_by (own := [("at", 1), ("name", 2), ("thing", 3)]) (N := N_p_places_of) (sc := defScope s_p_places_of) (by decide +kernel)) (fun _ _ _ _ _ => (pg_tup (by rfl) (pgs_cons (pg_name (i := 1) sc_p_places_of.nd rfl (.inl rfl)) (pgs_cons (pg_tup (by rfl) (pgs_cons (pg_name (i := 2) sc_p_places_of.nd rfl (.inl rfl)) (pgs_cons (pg_name (i := 3) sc_p_places_of.nd rfl (.inl rfl)) pgs_nil))) pgs_nil)))) (fun _ _ _ _ _ => pts_nil) (fun _ _ _ _ _ => (L2.pv 2)) (fun _ _ _ _ _ => (L2.pv 1))))),
    (sm_ret (sm_dc (sm_iET (sm_cons sm_var sm_nil)) (sg_tup (sg_cons sg_nm (sg_cons (sg_tup (sg_cons sg_nm (sg_cons sg_nm sg_nil)) (cnt_cons (cnt_cons cnt_nil))) sg_nil)) (cnt_cons (cnt_cons cnt_nil))) sm_yes sm_var sm_var (by decide)))⟩
/-! #### stands_of -/
set_option maxHeartbeats 0 in
theorem ok_p_stands_of (T : Tx K mg w) : FnP P w K mg base tb 1 T.f_p_stands_of T.fd_p_stands_of P_p_stands_of (F_p_stands_of T.ca) := by
  exact FnP.of T.F_p_stands_of sc_p_stands_of fun cdv A outer s H E hr => ⟨_, (pss_cons (ps_set (i := 2) sc_p_stands_of.nd rfl (.inr rfl) (pe_dc (own := [("name", 7), ("first", 8)]) (g := (gTup K 2 (gCons (gName 7) (gCons (gName 8) gNil)))) (tt := tYes) (by rfl) sc_p_stands_of.nd (pi_tup (L2.pv 0)) (blkOk_by (own := [("name", 7), ("first", 8)]) (N := N_p_stands_of) (sc := defScope s_p_stands_of) (by decide +kernel)) (fun _ _ _ _ _ => (pg_tup (by rfl) (pgs_cons (pg_name (i := 7) sc_p_stands_of.nd rfl (.inl rfl)) (pgs_cons (pg_name (i := 8) sc_p_stands_of.nd rfl (.inl rfl)) pgs_nil)))) (fun _ _ _ _ _ => pts_nil) (fun _ _ _ _ _ => (L2.pv 7)) (fun _ _ _ _ _ => (pe_lst (pa_cons (L2.pv 8) pa_nil)))))
      (pss_cons (ps_for (passes_of rfl) rfl (pi_tup (L2.pv 1)) (pg_tup (by rfl) (pgs_cons (pg_name (i := 3) sc_p_stands_of.nd rfl (.inl rfl)) (pgs_cons (pg_name (i := 4) sc_p_stands_of.nd rfl (.inl rfl)) (pgs_cons (pg_name (i := 5) sc_p_stands_of.nd rfl (.inl rfl)) (pgs_cons (pg_name (i := 6) sc_p_stands_of.nd rfl (.inl rfl)) pgs_nil)))))
        (pss_cons (ps_expr (pe_bm PySem.F.plainAttrs_list PySem.F.slot_list_append PySem.F.type_list_append mt_append (pe_dget (hu_of hr) (L2.pv 2) (L2.pv 3) (fun _ _ => rfl)) (pa_cons (L2.pv 4) pa_nil)))
        (pss_one (ps_expr (pe_bm PySem.F.plainAttrs_list PySem.F.slot_list_append PySem.F.type_list_append mt_append (pe_dget (hu_of hr) (L2.pv 2) (L2.pv 3) (fun _ _ => rfl)) (pa_cons (L2.pv 6) pa_nil))))))
      (pss_one (ps_ret (pe_lock (pe_dc (own := [("name", 7)]) (g := (gName 7)) (tt := tYes) (by rfl) sc_p_stands_of.nd (pi_keys (L2.pv 2)) (blkOk_by (own := [("name", 7)]) (N := N_p_stands_of) (sc := defScope s_p_stands_of) (by decide +kernel)) (fun _ _ _ _ _ => (pg_name (i := 7) sc_p_stands_of.nd rfl (.inl rfl))) (fun _ _ _ _ _ => pts_nil) (fun _ _ _ _ _ => (L2.pv 7)) (fun _ _ _ _ _ => (pe_callTy (r := LB.rTupOf K) LB.cr_tupOf (by rfl) T.m_tuple (by decide +kernel) (pa_cons (pe_callB (r := LB.rSortX P w) (LB.cr_sortX (by rfl)) (by rfl) T.m_sorted (by decide +kernel) (pa_cons (pe_callTy (r := LB.rSetX K P w) (LB.cr_setX (by rfl)) (by rfl) T.m_set (by decide +kernel) (pa_cons (pe_dget (hu_of hr) (L2.pv 2) (L2.pv 7) (fun _ _ => rfl)) pa_nil)) pa_nil)) pa_nil))))))))),
    (sm_seq (sm_asg (sm_dc (sm_iT sm_var) (sg_tup (sg_cons sg_nm (sg_cons sg_nm sg_nil)) (cnt_cons (cnt_cons cnt_nil))) sm_yes sm_var (sm_lst (sm_cons sm_var sm_nil)) (by decide)) sg_nm)
      (sm_seq (sm_for (sm_iT sm_var) (sg_tup (sg_cons sg_nm (sg_cons sg_nm (sg_cons sg_nm (sg_cons sg_nm sg_nil)))) (cnt_cons (cnt_cons (cnt_cons (cnt_cons cnt_nil))))) (sm_seq (sm_drop (sm_BM mm_append (sm_dget sm_var sm_var) (sm_cons sm_var sm_nil)))
      (sm_drop (sm_BM mm_append (sm_dget sm_var sm_var) (sm_cons sm_var sm_nil)))))
      (sm_ret (sm_lock (sm_dc (sm_iK sm_var) sg_nm sm_yes sm_var (sm_B sb_tup (sm_cons (sm_sortset (sm_dget sm_var sm_var)) sm_nil)) (by decide))))))⟩
/-! #### step_of -/
set_option maxHeartbeats 0 in
theorem ok_p_step_of (T : Tx K mg w) : FnP P w K mg base tb 1 T.f_p_step_of T.fd_p_step_of P_p_step_of (F_p_step_of T.ca) := by
  exact FnP.of T.F_p_step_of sc_p_step_of fun cdv A outer s H E hr => ⟨_, (pss_cons (ps_asg (L2.pv 0) (pg_tup (by rfl) (pgs_cons (pg_name (i := 3) sc_p_step_of.nd rfl (.inl rfl)) (pgs_cons (pg_name (i := 4) sc_p_step_of.nd rfl (.inl rfl)) (pgs_cons (pg_name (i := 5) sc_p_step_of.nd rfl (.inl rfl)) (pgs_cons (pg_name (i := 6) sc_p_step_of.nd rfl (.inl rfl)) pgs_nil))))))
      (pss_cons (ps_set (i := 7) sc_p_step_of.nd rfl (.inl rfl) (pe_ifExp (pt_cmpR op_gt (pe_callB call_len_seq (by rfl) T.m_len PySem.boot_len (pa_cons (L2.pv 5) pa_nil)) pe_int (nomark _)) (pe_dget (hu_of hr) (L2.pv 2) (pe_ix ix_tup (L2.pv 5) pe_int (fun _ _ => rfl)) (fun _ _ => rfl)) (pe_un un_neg pe_int)))
      (pss_cons (ps_set (i := 8) sc_p_step_of.nd rfl (.inl rfl) (pe_ifExp (pt_cmpR op_gt (pe_callB call_len_seq (by rfl) T.m_len PySem.boot_len (pa_cons (L2.pv 5) pa_nil)) pe_int (nomark _)) (pe_ix ix_tup (L2.pv 5) pe_int (fun _ _ => rfl)) pe_str))
      (pss_one (ps_ret (pe_tup (pa_cons (pe_dget (hu_of hr) (L2.pv 1) (L2.pv 3) (fun _ _ => rfl)) (pa_cons (L2.pv 4) (pa_cons (pe_ix ix_tup (L2.pv 5) pe_int (fun _ _ => rfl)) (pa_cons (L2.pv 7) (pa_cons (L2.pv 8) (pa_cons (L2.pv 6) pa_nil)))))))))))),
    (sm_seq (sm_asg sm_var (sg_tup (sg_cons sg_nm (sg_cons sg_nm (sg_cons sg_nm (sg_cons sg_nm sg_nil)))) (cnt_cons (cnt_cons (cnt_cons (cnt_cons cnt_nil))))))
      (sm_seq (sm_asg (sm_if (sm_test (sm_op (smr_I0 fun _ _ => cv_bl) (sm_B sb_len (sm_cons sm_var sm_nil)) (sm_c cv_int))) (sm_dget sm_var (sm_op smr_ixT sm_var (sm_c cv_int))) (sm_un (smu_U fun _ => cv_int) (sm_c cv_int))) sg_nm)
      (sm_seq (sm_asg (sm_if (sm_test (sm_op (smr_I0 fun _ _ => cv_bl) (sm_B sb_len (sm_cons sm_var sm_nil)) (sm_c cv_int))) (sm_op smr_ixT sm_var (sm_c cv_int)) (sm_c (cv_str (by decide +kernel)))) sg_nm)
      (sm_ret (sm_tup (sm_cons (sm_dget sm_var sm_var) (sm_cons sm_var (sm_cons (sm_op smr_ixT sm_var (sm_c cv_int)) (sm_cons sm_var (sm_cons sm_var (sm_cons sm_var sm_nil)))))))))))⟩
/-! #### word_text -/
set_option maxHeartbeats 0 in
theorem ok_p_word_text (T : Tx K mg w) : FnP P w K mg base tb 1 T.f_p_word_text T.fd_p_word_text P_p_word_text (F_p_word_text T.ca) := by
  exact FnP.of T.F_p_word_text sc_p_word_text fun cdv A outer s H E hr => ⟨_, (pss_one (ps_ret (pe_ifExp (pt_truth (L2.pv 0) (by intro _; rfl)) (L2.pv 0) pe_str))),
    (sm_ret (sm_if (sm_truth sm_var) sm_var (sm_c (cv_str (by decide +kernel)))))⟩
/-! #### act_text -/
set_option maxHeartbeats 0 in
theorem ok_p_act_text (T : Tx K mg w) : FnP P w K mg base tb 1 T.f_p_act_text T.fd_p_act_text P_p_act_text (F_p_act_text T.ca) := by
  exact FnP.of T.F_p_act_text sc_p_act_text fun cdv A outer s H E hr => ⟨_, (pss_one (ps_ret (pe_join pe_str (L2.pv 0)))),
    (sm_ret (sm_M1 mm_join (sm_c (cv_str (by decide +kernel))) sm_var))⟩
/-! #### Lab.machines -/
set_option maxHeartbeats 0 in
theorem ok_Lab_machines (T : Tx K mg w) : FnP P w K mg base tb 1 T.f_Lab_machines T.fd_Lab_machines P_Lab_machines (F_Lab_machines T.ca) := by
  exact FnP.of T.F_Lab_machines sc_Lab_machines fun cdv A outer s H E hr => ⟨_, (pss_one (ps_ret (pe_callTy call_list_of (by rfl) T.m_list (by decide +kernel) (pa_cons (pe_fld (L2.pv 0) rfl) pa_nil)))),
    (sm_ret (sm_B sb_lst (sm_cons (sm_fld T.cl_Lab T.no_Lab_machine_pairs sm_var) sm_nil)))⟩
/-! #### Lab.rows -/
set_option maxHeartbeats 0 in
theorem ok_Lab_rows (T : Tx K mg w) : FnP P w K mg base tb 1 T.f_Lab_rows T.fd_Lab_rows P_Lab_rows (F_Lab_rows T.ca) := by
  exact FnP.of T.F_Lab_rows sc_Lab_rows fun cdv A outer s H E hr => ⟨_, (pss_one (ps_ret (pe_callTy call_list_of (by rfl) T.m_list (by decide +kernel) (pa_cons (pe_fld (L2.pv 0) rfl) pa_nil)))),
    (sm_ret (sm_B sb_lst (sm_cons (sm_fld T.cl_Lab T.no_Lab_row_pairs sm_var) sm_nil)))⟩
/-! #### Lab.moves -/
set_option maxHeartbeats 0 in
theorem ok_Lab_moves (T : Tx K mg w) : FnP P w K mg base tb 1 T.f_Lab_moves T.fd_Lab_moves P_Lab_moves (F_Lab_moves T.ca) := by
  exact FnP.of T.F_Lab_moves sc_Lab_moves fun cdv A outer s H E hr => ⟨_, (pss_one (ps_ret (pe_callTy call_list_of (by rfl) T.m_list (by decide +kernel) (pa_cons (pe_fld (L2.pv 0) rfl) pa_nil)))),
    (sm_ret (sm_B sb_lst (sm_cons (sm_fld T.cl_Lab T.no_Lab_whole_moves sm_var) sm_nil)))⟩
/-! #### lab_lines -/
set_option maxHeartbeats 0 in
theorem ok_p_lab_lines (T : Tx K mg w) : FnP P w K mg base tb 2 T.f_p_lab_lines T.fd_p_lab_lines P_p_lab_lines (F_p_lab_lines T.ca) := by
  have G_Lab_machines : FnP P w K mg base tb 1 T.f_Lab_machines T.fd_Lab_machines P_Lab_machines (F_Lab_machines T.ca) := ok_Lab_machines T
  have G_Lab_rows : FnP P w K mg base tb 1 T.f_Lab_rows T.fd_Lab_rows P_Lab_rows (F_Lab_rows T.ca) := ok_Lab_rows T
  have G_Lab_moves : FnP P w K mg base tb 1 T.f_Lab_moves T.fd_Lab_moves P_Lab_moves (F_Lab_moves T.ca) := ok_Lab_moves T
  have G_p_word_text : FnP P w K mg base tb 1 T.f_p_word_text T.fd_p_word_text P_p_word_text (F_p_word_text T.ca) := ok_p_word_text T
  have G_p_act_text : FnP P w K mg base tb 1 T.f_p_act_text T.fd_p_act_text P_p_act_text (F_p_act_text T.ca) := ok_p_act_text T
  exact FnP.of T.F_p_lab_lines sc_p_lab_lines fun cdv A outer s H E hr => ⟨_, (pss_cons (ps_setLc (i := 1) (own := [("name", 4), ("first", 5)]) (g := (gTup K 2 (gCons (gName 4) (gCons (gName 5) gNil)))) (tt := tYes) (by rfl) sc_p_lab_lines.nd rfl rfl (sw_true rfl rfl rfl (by decide +kernel)) (pi_list (pe_meth0 (L2.pv 0) T.cl_Lab T.me_Lab_machines G_Lab_machines (hr.mono (by decide)) T.b_Lab_machines .nil (passes_call (takes_of rfl rfl rfl rfl) (fun _ _ _ _ h => h)))) (blkOk_by (own := [("name", 4), ("first", 5)]) (N := N_p_lab_lines) (sc := defScope s_p_lab_lines) (by decide +kernel)) (fun _ _ _ _ _ => (pg_tup (by rfl) (pgs_cons (pg_name (i := 4) sc_p_lab_lines.nd rfl (.inl rfl)) (pgs_cons (pg_name (i := 5) sc_p_lab_lines.nd rfl (.inl rfl)) pgs_nil)))) (fun _ _ _ _ _ => pts_nil) (fun _ _ _ _ _ => (pe_joined (PJ.cons pe_str (PJ.cons (pe_fmt (L2.pv 4)) (PJ.cons pe_str (PJ.cons (pe_fmt (L2.pv 5)) PJ.nil)))))))
      (pss_cons (ps_setLc (i := 2) (own := [("name", 4), ("word", 6)]) (g := (gTup K 2 (gCons (gName 4) (gCons (gName 6) gNil)))) (tt := tYes) (by rfl) sc_p_lab_lines.nd rfl rfl (sw_true rfl rfl rfl (by decide +kernel)) (pi_list (pe_meth0 (L2.pv 0) T.cl_Lab T.me_Lab_rows G_Lab_rows (hr.mono (by decide)) T.b_Lab_rows .nil (passes_call (takes_of rfl rfl rfl rfl) (fun _ _ _ _ h => h)))) (blkOk_by (own := [("name", 4), ("word", 6)]) (N := N_p_lab_lines) (sc := defScope s_p_lab_lines) (by decide +kernel)) (fun _ _ _ _ _ => (pg_tup (by rfl) (pgs_cons (pg_name (i := 4) sc_p_lab_lines.nd rfl (.inl rfl)) (pgs_cons (pg_name (i := 6) sc_p_lab_lines.nd rfl (.inl rfl)) pgs_nil)))) (fun _ _ _ _ _ => pts_nil) (fun _ _ _ _ _ => (pe_joined (PJ.cons pe_str (PJ.cons (pe_fmt (L2.pv 4)) (PJ.cons pe_str (PJ.cons (pe_fmt (pe_call G_p_word_text (hr.mono (by decide)) (by rfl) T.g_p_word_text T.F_p_word_text.kp T.b_p_word_text .nil passL (pa_cons (L2.pv 6) pa_nil))) PJ.nil)))))))
      (pss_cons (ps_setLc (i := 3) (own := [("machine", 7), ("start", 8), ("act", 9), ("end", 10)]) (g := (gTup K 4 (gCons (gName 7) (gCons (gName 8) (gCons (gName 9) (gCons (gName 10) gNil)))))) (tt := tYes) (by rfl) sc_p_lab_lines.nd rfl rfl (sw_true rfl rfl rfl (by decide +kernel)) (pi_list (pe_meth0 (L2.pv 0) T.cl_Lab T.me_Lab_moves G_Lab_moves (hr.mono (by decide)) T.b_Lab_moves .nil (passes_call (takes_of rfl rfl rfl rfl) (fun _ _ _ _ h => h)))) (blkOk_by (own := [("machine", 7), ("start", 8), ("act", 9), ("end", 10)]) (N := N_p_lab_lines) (sc := defScope s_p_lab_lines) (by decide +kernel)) (fun _ _ _ _ _ => (pg_tup (by rfl) (pgs_cons (pg_name (i := 7) sc_p_lab_lines.nd rfl (.inl rfl)) (pgs_cons (pg_name (i := 8) sc_p_lab_lines.nd rfl (.inl rfl)) (pgs_cons (pg_name (i := 9) sc_p_lab_lines.nd rfl (.inl rfl)) (pgs_cons (pg_name (i := 10) sc_p_lab_lines.nd rfl (.inl rfl)) pgs_nil)))))) (fun _ _ _ _ _ => pts_nil) (fun _ _ _ _ _ => (pe_joined (PJ.cons pe_str (PJ.cons (pe_fmt (L2.pv 7)) (PJ.cons pe_str (PJ.cons (pe_fmt (L2.pv 8)) (PJ.cons pe_str (PJ.cons (pe_fmt (pe_call G_p_act_text (hr.mono (by decide)) (by rfl) T.g_p_act_text T.F_p_act_text.kp T.b_p_act_text .nil passL (pa_cons (L2.pv 9) pa_nil))) (PJ.cons pe_str (PJ.cons (pe_fmt (L2.pv 10)) PJ.nil)))))))))))
      (pss_one (ps_ret (pe_op op_cat (pe_op op_cat (L2.pv 1) (L2.pv 2)) (L2.pv 3))))))),
    (sm_seq (sm_asg (sm_lc (sm_iL (sm_meth cvs_nil sm_var sm_nil)) (sg_tup (sg_cons sg_nm (sg_cons sg_nm sg_nil)) (cnt_cons (cnt_cons cnt_nil))) sm_yes (sm_js (.cons (sm_c (cv_str (by decide +kernel))) (.cons (sm_fmt sm_var) (.cons (sm_c (cv_str (by decide +kernel))) (.cons (sm_fmt sm_var) .nil))))) (by decide)) sg_nm)
      (sm_seq (sm_asg (sm_lc (sm_iL (sm_meth cvs_nil sm_var sm_nil)) (sg_tup (sg_cons sg_nm (sg_cons sg_nm sg_nil)) (cnt_cons (cnt_cons cnt_nil))) sm_yes (sm_js (.cons (sm_c (cv_str (by decide +kernel))) (.cons (sm_fmt sm_var) (.cons (sm_c (cv_str (by decide +kernel))) (.cons (sm_fmt (sm_callN cvs_nil (sm_cons sm_var sm_nil))) .nil))))) (by decide)) sg_nm)
      (sm_seq (sm_asg (sm_lc (sm_iL (sm_meth cvs_nil sm_var sm_nil)) (sg_tup (sg_cons sg_nm (sg_cons sg_nm (sg_cons sg_nm (sg_cons sg_nm sg_nil)))) (cnt_cons (cnt_cons (cnt_cons (cnt_cons cnt_nil))))) sm_yes (sm_js (.cons (sm_c (cv_str (by decide +kernel))) (.cons (sm_fmt sm_var) (.cons (sm_c (cv_str (by decide +kernel))) (.cons (sm_fmt sm_var) (.cons (sm_c (cv_str (by decide +kernel))) (.cons (sm_fmt (sm_callN cvs_nil (sm_cons sm_var sm_nil))) (.cons (sm_c (cv_str (by decide +kernel))) (.cons (sm_fmt sm_var) .nil))))))))) (by decide)) sg_nm)
      (sm_ret (sm_op smr_addL (sm_op smr_addL sm_var sm_var) sm_var)))))⟩
/-! #### Lab.is_over -/
set_option maxHeartbeats 0 in
theorem ok_Lab_is_over (T : Tx K mg w) : FnP P w K mg base tb 1 T.f_Lab_is_over T.fd_Lab_is_over P_Lab_is_over (F_Lab_is_over T.ca) := by
  exact FnP.of T.F_Lab_is_over sc_Lab_is_over fun cdv A outer s H E hr => ⟨_, (pss_cons (ps_if (PW.pt (pw_or (pt_cmpR op_gt (pe_callB call_len_seq (by rfl) T.m_len PySem.boot_len (pa_cons (pe_fld (L2.pv 0) rfl) pa_nil)) (pe_glob (by rfl) T.c_MOST_MACHINES T.r_MOST_MACHINES) (nomark _)) (pw_or1 (pt_cmpR op_gt (pe_callB call_len_seq (by rfl) T.m_len PySem.boot_len (pa_cons (pe_fld (L2.pv 0) rfl) pa_nil)) (pe_glob (by rfl) T.c_MOST_ROWS T.r_MOST_ROWS) (nomark _)))))
        (pss_one (ps_ret pe_bl))
        pss_nil)
      (pss_cons (ps_if (pt_cmpR op_gt (pe_callB call_len_seq (by rfl) T.m_len PySem.boot_len (pa_cons (pe_fld (L2.pv 0) rfl) pa_nil)) (pe_glob (by rfl) T.c_MOST_MOVES T.r_MOST_MOVES) (nomark _))
        (pss_one (ps_ret pe_bl))
        pss_nil)
      (pss_one (ps_ret (pe_callB (cr_any rfl) (by rfl) T.m_any (by decide +kernel) (pa_cons (pe_lock (pe_lc (own := [("stands", 1)]) (g := (gName 1)) (tt := tYes) (by rfl) sc_Lab_is_over.nd (pi_values (pe_fld (L2.pv 0) rfl)) (blkOk_by (own := [("stands", 1)]) (N := N_Lab_is_over) (sc := defScope s_Lab_is_over) (by decide +kernel)) (fun _ _ _ _ _ => (pg_name (i := 1) sc_Lab_is_over.nd rfl (.inl rfl))) (fun _ _ _ _ _ => pts_nil) (fun _ _ _ _ _ => (pe_cmpR op_gt (pe_callB (r := LB.rLenOf K) LB.cr_lenOf (by rfl) T.m_len PySem.boot_len (pa_cons (L2.pv 1) pa_nil)) (pe_glob (by rfl) T.c_MOST_STANDS T.r_MOST_STANDS) (nomark _))))) pa_nil)))))),
    (sm_seq (sm_ifS (sm_or (sm_test (sm_op (smr_I0 fun _ _ => cv_bl) (sm_B sb_len (sm_cons (sm_fld T.cl_Lab T.no_Lab_machine_pairs sm_var) sm_nil)) (sm_c cv_int))) (sm_test (sm_op (smr_I0 fun _ _ => cv_bl) (sm_B sb_len (sm_cons (sm_fld T.cl_Lab T.no_Lab_row_pairs sm_var) sm_nil)) (sm_c cv_int)))) (sm_ret (sm_c cv_bl)) sm_next)
      (sm_seq (sm_ifS (sm_test (sm_op (smr_I0 fun _ _ => cv_bl) (sm_B sb_len (sm_cons (sm_fld T.cl_Lab T.no_Lab_whole_moves sm_var) sm_nil)) (sm_c cv_int))) (sm_ret (sm_c cv_bl)) sm_next)
      (sm_ret (sm_gc (sm_B sb_any (sm_cons (sm_lock (sm_lc (sm_iV (sm_fld T.cl_Lab T.no_Lab_stand_lists sm_var)) sg_nm sm_yes (sm_op (smr_I0 fun _ _ => cv_bl) (sm_B sb_len (sm_cons sm_var sm_nil)) (sm_c cv_int)) (by decide))) sm_nil))))))⟩
/-! #### Lab.__init__ -/
set_option maxHeartbeats 0 in
theorem ok_Lab_init (T : Tx K mg w) : FnP P w K mg base tb 6 T.f_Lab_init T.fd_Lab_init P_Lab_init (F_Lab_init T.ca) := by
  have G_Lab_is_over : FnP P w K mg base tb 1 T.f_Lab_is_over T.fd_Lab_is_over P_Lab_is_over (F_Lab_is_over T.ca) := ok_Lab_is_over T
  have G_p_check_machines : FnP P w K mg base tb 4 T.f_p_check_machines T.fd_p_check_machines P_p_check_machines (F_p_check_machines T.ca) := ok_p_check_machines T
  have G_p_check_rows : FnP P w K mg base tb 4 T.f_p_check_rows T.fd_p_check_rows P_p_check_rows (F_p_check_rows T.ca) := ok_p_check_rows T
  have G_p_places_of : FnP P w K mg base tb 1 T.f_p_places_of T.fd_p_places_of P_p_places_of (F_p_places_of T.ca) := ok_p_places_of T
  have G_p_check_moves : FnP P w K mg base tb 5 T.f_p_check_moves T.fd_p_check_moves P_p_check_moves (F_p_check_moves T.ca) := ok_p_check_moves T
  have G_p_stands_of : FnP P w K mg base tb 1 T.f_p_stands_of T.fd_p_stands_of P_p_stands_of (F_p_stands_of T.ca) := ok_p_stands_of T
  have G_Full_init : FnOk P w K mg base CX0 2 T.f_Full_init T.fd_Full_init P_Full_init (spErr K (Str.ofString "full")) := ok_Full_init T
  have G_p_step_of : FnP P w K mg base tb 1 T.f_p_step_of T.fd_p_step_of P_p_step_of (F_p_step_of T.ca) := ok_p_step_of T
  exact FnP.ofD T.F_Lab_init sc_Lab_init fun cdv A outer s H E hr => ⟨_, (pss_cons (ps_fld (L2.pv 0) (pe_callTy call_tuple_of (by rfl) T.m_tuple (by decide +kernel) (pa_cons (pe_lc (own := [("pair", 4)]) (g := (gName 4)) (tt := tYes) (by rfl) sc_Lab_init.nd (pi_seq (L2.pv 1)) (blkOk_by (own := [("pair", 4)]) (N := N_Lab_init) (sc := defScope s_Lab_init) (by decide +kernel)) (fun _ _ _ _ _ => (pg_name (i := 4) sc_Lab_init.nd rfl (.inl rfl))) (fun _ _ _ _ _ => pts_nil) (fun _ _ _ _ _ => (pe_callTy (r := LB.rTupOf K) LB.cr_tupOf (by rfl) T.m_tuple (by decide +kernel) (pa_cons (L2.pv 4) pa_nil)))) pa_nil)) rfl)
      (pss_cons (ps_fld (L2.pv 0) (pe_callTy call_tuple_of (by rfl) T.m_tuple (by decide +kernel) (pa_cons (pe_lc (own := [("pair", 4)]) (g := (gName 4)) (tt := tYes) (by rfl) sc_Lab_init.nd (pi_seq (L2.pv 2)) (blkOk_by (own := [("pair", 4)]) (N := N_Lab_init) (sc := defScope s_Lab_init) (by decide +kernel)) (fun _ _ _ _ _ => (pg_name (i := 4) sc_Lab_init.nd rfl (.inl rfl))) (fun _ _ _ _ _ => pts_nil) (fun _ _ _ _ _ => (pe_callTy (r := LB.rTupOf K) LB.cr_tupOf (by rfl) T.m_tuple (by decide +kernel) (pa_cons (L2.pv 4) pa_nil)))) pa_nil)) rfl)
      (pss_cons (ps_fld (L2.pv 0) (pe_callTy call_tuple_of (by rfl) T.m_tuple (by decide +kernel) (pa_cons (pe_lc (own := [("name", 5), ("start", 6), ("act", 7), ("end", 8)]) (g := (gTup K 4 (gCons (gName 5) (gCons (gName 6) (gCons (gName 7) (gCons (gName 8) gNil)))))) (tt := tYes) (by rfl) sc_Lab_init.nd (pi_seq (L2.pv 3)) (blkOk_by (own := [("name", 5), ("start", 6), ("act", 7), ("end", 8)]) (N := N_Lab_init) (sc := defScope s_Lab_init) (by decide +kernel)) (fun _ _ _ _ _ => (pg_tup (by rfl) (pgs_cons (pg_name (i := 5) sc_Lab_init.nd rfl (.inl rfl)) (pgs_cons (pg_name (i := 6) sc_Lab_init.nd rfl (.inl rfl)) (pgs_cons (pg_name (i := 7) sc_Lab_init.nd rfl (.inl rfl)) (pgs_cons (pg_name (i := 8) sc_Lab_init.nd rfl (.inl rfl)) pgs_nil)))))) (fun _ _ _ _ _ => pts_nil) (fun _ _ _ _ _ => (pe_tup (pa_cons (L2.pv 5) (pa_cons (L2.pv 6) (pa_cons (pe_callTy (r := LB.rTupOf K) LB.cr_tupOf (by rfl) T.m_tuple (by decide +kernel) (pa_cons (L2.pv 7) pa_nil)) (pa_cons (L2.pv 8) pa_nil))))))) pa_nil)) rfl)
      (pss_cons (ps_expr (pe_call G_p_check_machines (hr.mono (by decide)) (by rfl) T.g_p_check_machines T.F_p_check_machines.kp T.b_p_check_machines .nil (passes_call (takes_of rfl rfl rfl rfl) (fun _ _ _ _ h => h)) (pa_cons (pe_fld (L2.pv 0) rfl) pa_nil)))
      (pss_cons (ps_expr (pe_call G_p_check_rows (hr.mono (by decide)) (by rfl) T.g_p_check_rows T.F_p_check_rows.kp T.b_p_check_rows .nil (passes_call (takes_of rfl rfl rfl rfl) (fun _ _ _ _ h => h)) (pa_cons (pe_fld (L2.pv 0) rfl) pa_nil)))
      (pss_cons (ps_fld (L2.pv 0) (pe_call G_p_places_of (hr.mono (by decide)) (by rfl) T.g_p_places_of T.F_p_places_of.kp T.b_p_places_of .nil (passes_call (takes_of rfl rfl rfl rfl) (fun _ _ _ _ h => h)) (pa_cons (pe_fld (L2.pv 0) rfl) pa_nil)) rfl)
      (pss_cons (ps_fld (L2.pv 0) (pe_call G_p_places_of (hr.mono (by decide)) (by rfl) T.g_p_places_of T.F_p_places_of.kp T.b_p_places_of .nil (passes_call (takes_of rfl rfl rfl rfl) (fun _ _ _ _ h => h)) (pa_cons (pe_fld (L2.pv 0) rfl) pa_nil)) rfl)
      (pss_cons (ps_expr (pe_call G_p_check_moves (hr.mono (by decide)) (by rfl) T.g_p_check_moves T.F_p_check_moves.kp T.b_p_check_moves .nil (passes_call (takes_of rfl rfl rfl rfl) (fun _ _ _ _ h => h)) (pa_cons (pe_fld (L2.pv 0) rfl) (pa_cons (pe_fld (L2.pv 0) rfl) (pa_cons (pe_fld (L2.pv 0) rfl) pa_nil)))))
      (pss_cons (ps_fld (L2.pv 0) (pe_call G_p_stands_of (hr.mono (by decide)) (by rfl) T.g_p_stands_of T.F_p_stands_of.kp T.b_p_stands_of .nil (passes_call (takes_of rfl rfl rfl rfl) (fun _ _ _ _ h => h)) (pa_cons (pe_fld (L2.pv 0) rfl) (pa_cons (pe_fld (L2.pv 0) rfl) pa_nil))) rfl)
      (pss_cons (ps_if (pt_val (pe_meth0 (L2.pv 0) T.cl_Lab T.me_Lab_is_over G_Lab_is_over (hr.mono (by decide)) T.b_Lab_is_over .nil (passes_call (takes_of rfl rfl rfl rfl) (fun _ _ _ _ h => h))))
        (pss_one (ps_raise rfl (takes_of rfl rfl rfl rfl) (LB.pmk_oex0 T.ox_Full T.iC_Full T.tI_Full G_Full_init (hr.mono (by decide)) T.b_Full_init_1 T.dv_Full_init_1 pass0 (by rfl) T.gC_Full)))
        pss_nil)
      (pss_one (ps_fld (L2.pv 0) (pe_callTy call_tuple_of (by rfl) T.m_tuple (by decide +kernel) (pa_cons (pe_lc (own := [("move", 9)]) (g := (gName 9)) (tt := tYes) (by rfl) sc_Lab_init.nd (pi_tup (pe_fld (L2.pv 0) rfl)) (blkOk_by (own := [("move", 9)]) (N := N_Lab_init) (sc := defScope s_Lab_init) (by decide +kernel)) (fun _ _ _ _ _ => (pg_name (i := 9) sc_Lab_init.nd rfl (.inl rfl))) (fun _ _ _ _ _ => pts_nil) (fun _ _ _ _ _ => (pe_call G_p_step_of (hr.mono (by decide)) (by rfl) T.g_p_step_of T.F_p_step_of.kp T.b_p_step_of .nil passL (pa_cons (L2.pv 9) (pa_cons (LB.pe_fldK (Kk := K) (ta := tVar 0) (L2.pv 0) rfl) (pa_cons (LB.pe_fldK (Kk := K) (ta := tVar 0) (L2.pv 0) rfl) pa_nil)))))) pa_nil)) rfl)))))))))))),
    (sm_seq (sm_setF T.cl_Lab T.no_Lab_machine_pairs sm_var (sm_gc (sm_B sb_tup (sm_cons (sm_lc (sm_iQ T.mtOk sm_var) sg_nm sm_yes (sm_B sb_tup (sm_cons sm_var sm_nil)) (by decide)) sm_nil))))
      (sm_seq (sm_setF T.cl_Lab T.no_Lab_row_pairs sm_var (sm_gc (sm_B sb_tup (sm_cons (sm_lc (sm_iQ T.mtOk sm_var) sg_nm sm_yes (sm_B sb_tup (sm_cons sm_var sm_nil)) (by decide)) sm_nil))))
      (sm_seq (sm_setF T.cl_Lab T.no_Lab_whole_moves sm_var (sm_gc (sm_B sb_tup (sm_cons (sm_lc (sm_iQ T.mtOk sm_var) (sg_tup (sg_cons sg_nm (sg_cons sg_nm (sg_cons sg_nm (sg_cons sg_nm sg_nil)))) (cnt_cons (cnt_cons (cnt_cons (cnt_cons cnt_nil))))) sm_yes (sm_tup (sm_cons sm_var (sm_cons sm_var (sm_cons (sm_B sb_tup (sm_cons sm_var sm_nil)) (sm_cons sm_var sm_nil))))) (by decide)) sm_nil))))
      (sm_seq (sm_drop (sm_call cvs_nil (sm_cons (sm_fld T.cl_Lab T.no_Lab_machine_pairs sm_var) sm_nil)))
      (sm_seq (sm_drop (sm_call cvs_nil (sm_cons (sm_fld T.cl_Lab T.no_Lab_row_pairs sm_var) sm_nil)))
      (sm_seq (sm_setF T.cl_Lab T.no_Lab_machine_places sm_var (sm_call cvs_nil (sm_cons (sm_fld T.cl_Lab T.no_Lab_machine_pairs sm_var) sm_nil)))
      (sm_seq (sm_setF T.cl_Lab T.no_Lab_row_places sm_var (sm_call cvs_nil (sm_cons (sm_fld T.cl_Lab T.no_Lab_row_pairs sm_var) sm_nil)))
      (sm_seq (sm_drop (sm_call cvs_nil (sm_cons (sm_fld T.cl_Lab T.no_Lab_whole_moves sm_var) (sm_cons (sm_fld T.cl_Lab T.no_Lab_machine_places sm_var) (sm_cons (sm_fld T.cl_Lab T.no_Lab_row_places sm_var) sm_nil)))))
      (sm_seq (sm_setF T.cl_Lab T.no_Lab_stand_lists sm_var (sm_call cvs_nil (sm_cons (sm_fld T.cl_Lab T.no_Lab_machine_pairs sm_var) (sm_cons (sm_fld T.cl_Lab T.no_Lab_whole_moves sm_var) sm_nil))))
      (sm_seq (sm_ifS (sm_tB (sm_meth cvs_nil sm_var sm_nil)) (sm_raise T.ox_Full T.no_Full_word T.no_Full_at (cvs_cons cv_int cvs_nil) sm_nil) sm_next)
      (sm_setF T.cl_Lab T.no_Lab_steps sm_var (sm_gc (sm_B sb_tup (sm_cons (sm_lc (sm_iT (sm_fld T.cl_Lab T.no_Lab_whole_moves sm_var)) sg_nm sm_yes (sm_callN cvs_nil (sm_cons sm_var (sm_cons (sm_fld T.cl_Lab T.no_Lab_machine_places sm_var) (sm_cons (sm_fld T.cl_Lab T.no_Lab_row_places sm_var) sm_nil)))) (by decide)) sm_nil))))))))))))))⟩
/-! #### Lab.begin -/
set_option maxHeartbeats 0 in
theorem ok_Lab_begin (T : Tx K mg w) : FnP P w K mg base tb 1 T.f_Lab_begin T.fd_Lab_begin P_Lab_begin (F_Lab_begin T.ca) := by
  exact FnP.of T.F_Lab_begin sc_Lab_begin fun cdv A outer s H E hr => ⟨_, (pss_one (ps_ret (pe_tup (pa_cons (pe_callTy call_tuple_of (by rfl) T.m_tuple (by decide +kernel) (pa_cons (pe_lc (own := [("name", 1), ("first", 2)]) (g := (gTup K 2 (gCons (gName 1) (gCons (gName 2) gNil)))) (tt := tYes) (by rfl) sc_Lab_begin.nd (pi_tup (pe_fld (L2.pv 0) rfl)) (blkOk_by (own := [("name", 1), ("first", 2)]) (N := N_Lab_begin) (sc := defScope s_Lab_begin) (by decide +kernel)) (fun _ _ _ _ _ => (pg_tup (by rfl) (pgs_cons (pg_name (i := 1) sc_Lab_begin.nd rfl (.inl rfl)) (pgs_cons (pg_name (i := 2) sc_Lab_begin.nd rfl (.inl rfl)) pgs_nil)))) (fun _ _ _ _ _ => pts_nil) (fun _ _ _ _ _ => (L2.pv 2))) pa_nil)) (pa_cons (pe_callTy call_tuple_of (by rfl) T.m_tuple (by decide +kernel) (pa_cons (pe_lc (own := [("name", 1), ("word", 3)]) (g := (gTup K 2 (gCons (gName 1) (gCons (gName 3) gNil)))) (tt := tYes) (by rfl) sc_Lab_begin.nd (pi_tup (pe_fld (L2.pv 0) rfl)) (blkOk_by (own := [("name", 1), ("word", 3)]) (N := N_Lab_begin) (sc := defScope s_Lab_begin) (by decide +kernel)) (fun _ _ _ _ _ => (pg_tup (by rfl) (pgs_cons (pg_name (i := 1) sc_Lab_begin.nd rfl (.inl rfl)) (pgs_cons (pg_name (i := 3) sc_Lab_begin.nd rfl (.inl rfl)) pgs_nil)))) (fun _ _ _ _ _ => pts_nil) (fun _ _ _ _ _ => (L2.pv 3))) pa_nil)) pa_nil))))),
    (sm_ret (sm_tup (sm_cons (sm_gc (sm_B sb_tup (sm_cons (sm_lc (sm_iT (sm_fld T.cl_Lab T.no_Lab_machine_pairs sm_var)) (sg_tup (sg_cons sg_nm (sg_cons sg_nm sg_nil)) (cnt_cons (cnt_cons cnt_nil))) sm_yes sm_var (by decide)) sm_nil))) (sm_cons (sm_gc (sm_B sb_tup (sm_cons (sm_lc (sm_iT (sm_fld T.cl_Lab T.no_Lab_row_pairs sm_var)) (sg_tup (sg_cons sg_nm (sg_cons sg_nm sg_nil)) (cnt_cons (cnt_cons cnt_nil))) sm_yes sm_var (by decide)) sm_nil))) sm_nil))))⟩
/-! #### Lab.__eq__ -/
set_option maxHeartbeats 0 in
theorem ok_Lab_eq (T : Tx K mg w) : FnP P w K mg base tb 8 T.f_Lab_eq T.fd_Lab_eq P_Lab_eq (F_Lab_eq T.ca) := by
  have G_Lab_init : FnP P w K mg base tb 6 T.f_Lab_init T.fd_Lab_init P_Lab_init (F_Lab_init T.ca) := ok_Lab_init T
  exact FnP.of T.F_Lab_eq sc_Lab_eq fun cdv A outer s H E hr => ⟨_, (pss_one (ps_ret (pe_and (pe_callB call_isi (by rfl) T.m_isinstance (by decide +kernel) (pa_cons (L2.pv 1) (pa_cons (pe_glob (v := .ref T.C_Lab) (by rfl) T.gC_Lab rfl) pa_nil))) (pe_and (pe_cmpR (op_eqD hr.units) (pe_fld (L2.pv 0) rfl) (pe_fld (L2.pv 1) rfl) (nomark _)) (pe_and (pe_cmpR (op_eqD hr.units) (pe_fld (L2.pv 0) rfl) (pe_fld (L2.pv 1) rfl) (nomark _)) (pe_one (pe_cmpR (op_eqD hr.units) (pe_fld (L2.pv 0) rfl) (pe_fld (L2.pv 1) rfl) (nomark _)))))))),
    (sm_ret (sm_andV (sm_B (sb_isiC T.oc_Lab) (sm_cons sm_var (sm_cons (sm_c cv_adr) sm_nil))) (sm_andV (sm_op smr_eqD (sm_fld T.cl_Lab T.no_Lab_machine_pairs sm_var) (sm_fld T.cl_Lab T.no_Lab_machine_pairs sm_var)) (sm_andV (sm_op smr_eqD (sm_fld T.cl_Lab T.no_Lab_row_pairs sm_var) (sm_fld T.cl_Lab T.no_Lab_row_pairs sm_var)) (sm_op smr_eqD (sm_fld T.cl_Lab T.no_Lab_whole_moves sm_var) (sm_fld T.cl_Lab T.no_Lab_whole_moves sm_var))))))⟩
/-! #### Lab.__str__ -/
set_option maxHeartbeats 0 in
theorem ok_Lab_str (T : Tx K mg w) : FnP P w K mg base tb 3 T.f_Lab_str T.fd_Lab_str P_Lab_str (F_Lab_str T.ca) := by
  have G_p_lab_lines : FnP P w K mg base tb 2 T.f_p_lab_lines T.fd_p_lab_lines P_p_lab_lines (F_p_lab_lines T.ca) := ok_p_lab_lines T
  exact FnP.of T.F_Lab_str sc_Lab_str fun cdv A outer s H E hr => ⟨_, (pss_one (ps_ret (pe_join pe_str (pe_lc (own := [("line", 1)]) (g := (gName 1)) (tt := tYes) (by rfl) sc_Lab_str.nd (pi_list (pe_call G_p_lab_lines (hr.mono (by decide)) (by rfl) T.g_p_lab_lines T.F_p_lab_lines.kp T.b_p_lab_lines .nil (passes_call (takes_of rfl rfl rfl rfl) (fun _ _ _ _ h => h)) (pa_cons (L2.pv 0) pa_nil))) (blkOk_by (own := [("line", 1)]) (N := N_Lab_str) (sc := defScope s_Lab_str) (by decide +kernel)) (fun _ _ _ _ _ => (pg_name (i := 1) sc_Lab_str.nd rfl (.inl rfl))) (fun _ _ _ _ _ => pts_nil) (fun _ _ _ _ _ => (pe_op op_add_str (L2.pv 1) pe_str)))))),
    (sm_ret (sm_gc (sm_M1 mm_join (sm_c (cv_str (by decide +kernel))) (sm_lc (sm_iL (sm_call cvs_nil (sm_cons sm_var sm_nil))) sg_nm sm_yes (sm_op smr_addS sm_var (sm_c (cv_str (by decide +kernel)))) (by decide)))))⟩
/-! #### read_word -/
set_option maxHeartbeats 0 in
theorem ok_p_read_word (T : Tx K mg w) : FnP P w K mg base tb 4 T.f_p_read_word T.fd_p_read_word P_p_read_word (F_p_read_word T.ca) := by
  have G_BadText_init : FnOk P w K mg base CX0 2 T.f_BadText_init T.fd_BadText_init P_BadText_init (spErr K (Str.ofString "badtext")) := ok_BadText_init T
  have G_p_is_word : FnP P w K mg base tb 1 T.f_p_is_word T.fd_p_is_word P_p_is_word (F_p_is_word T.ca) := ok_p_is_word T
  exact FnP.of T.F_p_read_word sc_p_read_word fun cdv A outer s H E hr => ⟨_, (pss_cons (ps_if (PW.pt (pw_or (pt_cmpR op_eq (L2.pv 0) pe_str (nomark _)) (pw_or1 (PW.pt (pw_and (pt_not (pt_val (pe_call G_p_is_word (hr.mono (by decide)) (by rfl) T.g_p_is_word T.F_p_is_word.kp T.b_p_is_word .nil (passes_call (takes_of rfl rfl rfl rfl) (fun _ _ _ _ h => h)) (pa_cons (L2.pv 0) pa_nil)))) (pw_and1 (pt_cmpR op_ne (L2.pv 0) pe_str (nomark _))))))))
        (pss_one (ps_raise rfl (takes_of rfl rfl rfl rfl) (pmk_oex T.ox_BadText T.iC_BadText T.tI_BadText G_BadText_init (hr.mono (by decide)) T.b_BadText_init_2 T.dv_BadText_init_2 pass0 (by rfl) T.gC_BadText (pa_cons pe_int pa_nil))))
        pss_nil)
      (pss_one (ps_ret (pe_ifExp (pt_cmpR op_eq (L2.pv 0) pe_str (nomark _)) pe_str (L2.pv 0))))),
    (sm_seq (sm_ifS (sm_or (sm_test (sm_op smr_eq sm_var (sm_c (cv_str (by decide +kernel))))) (sm_and (sm_not (sm_tB (sm_call cvs_nil (sm_cons sm_var sm_nil)))) (sm_test (sm_op smr_ne sm_var (sm_c (cv_str (by decide +kernel))))))) (sm_raise T.ox_BadText T.no_BadText_word T.no_BadText_at cvs_nil (sm_cons (sm_c cv_int) sm_nil)) sm_next)
      (sm_ret (sm_if (sm_test (sm_op smr_eq sm_var (sm_c (cv_str (by decide +kernel))))) (sm_c (cv_str (by decide +kernel))) sm_var)))⟩
/-! #### read_act -/
set_option maxHeartbeats 0 in
theorem ok_p_read_act (T : Tx K mg w) : FnP P w K mg base tb 1 T.f_p_read_act T.fd_p_read_act P_p_read_act (F_p_read_act T.ca) := by
  exact FnP.of T.F_p_read_act sc_p_read_act fun cdv A outer s H E hr => ⟨_, (pss_one (ps_ret (pe_callTy call_tuple_of (by rfl) T.m_tuple (by decide +kernel) (pa_cons (pe_split (L2.pv 0) pe_str) pa_nil)))),
    (sm_ret (sm_B sb_tup (sm_cons (sm_M1 mm_split sm_var (sm_c (cv_str (by decide +kernel)))) sm_nil)))⟩
/-! #### thing_of -/
set_option maxHeartbeats 0 in
theorem ok_p_thing_of (T : Tx K mg w) : FnP P w K mg base tb 5 T.f_p_thing_of T.fd_p_thing_of P_p_thing_of (F_p_thing_of T.ca) := by
  have G_BadText_init : FnOk P w K mg base CX0 2 T.f_BadText_init T.fd_BadText_init P_BadText_init (spErr K (Str.ofString "badtext")) := ok_BadText_init T
  have G_p_read_act : FnP P w K mg base tb 1 T.f_p_read_act T.fd_p_read_act P_p_read_act (F_p_read_act T.ca) := ok_p_read_act T
  have G_p_read_word : FnP P w K mg base tb 4 T.f_p_read_word T.fd_p_read_word P_p_read_word (F_p_read_word T.ca) := ok_p_read_word T
  exact FnP.of T.F_p_thing_of sc_p_thing_of fun cdv A outer s H E hr => ⟨_, (pss_cons (ps_if (pt_cmpR op_ne (LB.pe_kget (pe_glob (v := .ref T.d_LINE_SIZES) (by rfl) T.c_LINE_SIZES rfl) (pe_ix ix_list (L2.pv 0) pe_int (fun _ _ => rfl)) ⟨rfl, rfl, rfl, rfl⟩) (pe_callB call_len_seq (by rfl) T.m_len PySem.boot_len (pa_cons (L2.pv 0) pa_nil)) (nomark _))
        (pss_one (ps_raise rfl (takes_of rfl rfl rfl rfl) (pmk_oex T.ox_BadText T.iC_BadText T.tI_BadText G_BadText_init (hr.mono (by decide)) T.b_BadText_init_2 T.dv_BadText_init_2 pass0 (by rfl) T.gC_BadText (pa_cons pe_int pa_nil))))
        pss_nil)
      (pss_cons (ps_if (pt_cmpR op_eq (pe_ix ix_list (L2.pv 0) pe_int (fun _ _ => rfl)) pe_str (nomark _))
        (pss_one (ps_ret (pe_tup (pa_cons (pe_ix ix_list (L2.pv 0) pe_int (fun _ _ => rfl)) (pa_cons (pe_ix ix_list (L2.pv 0) pe_int (fun _ _ => rfl)) pa_nil)))))
        pss_nil)
      (pss_cons (ps_if (pt_cmpR op_eq (pe_ix ix_list (L2.pv 0) pe_int (fun _ _ => rfl)) pe_str (nomark _))
        (pss_one (ps_ret (pe_tup (pa_cons (pe_ix ix_list (L2.pv 0) pe_int (fun _ _ => rfl)) (pa_cons (pe_call G_p_read_word (hr.mono (by decide)) (by rfl) T.g_p_read_word T.F_p_read_word.kp T.b_p_read_word .nil (passes_call (takes_of rfl rfl rfl rfl) (fun _ _ _ _ h => h)) (pa_cons (pe_ix ix_list (L2.pv 0) pe_int (fun _ _ => rfl)) pa_nil)) pa_nil)))))
        pss_nil)
      (pss_one (ps_ret (pe_tup (pa_cons (pe_ix ix_list (L2.pv 0) pe_int (fun _ _ => rfl)) (pa_cons (pe_ix ix_list (L2.pv 0) pe_int (fun _ _ => rfl)) (pa_cons (pe_call G_p_read_act (hr.mono (by decide)) (by rfl) T.g_p_read_act T.F_p_read_act.kp T.b_p_read_act .nil (passes_call (takes_of rfl rfl rfl rfl) (fun _ _ _ _ h => h)) (pa_cons (pe_ix ix_list (L2.pv 0) pe_int (fun _ _ => rfl)) pa_nil)) (pa_cons (pe_ix ix_list (L2.pv 0) pe_int (fun _ _ => rfl)) pa_nil)))))))))),
    (sm_seq (sm_ifS (sm_test (sm_op smr_ne (sm_kget T.kd_LINE_SIZES (lkv_cons T.ns_LINE_SIZES_machine (by decide +kernel) (lkv_cons T.ns_LINE_SIZES_row (by decide +kernel) (lkv_cons T.ns_LINE_SIZES_move (by decide +kernel) lkv_nil))) (lkn_cons (by decide +kernel) (lkn_cons (by decide +kernel) (lkn_cons (by decide +kernel) lkn_nil))) (sm_op smr_ixL sm_var (sm_c cv_int))) (sm_B sb_len (sm_cons sm_var sm_nil)))) (sm_raise T.ox_BadText T.no_BadText_word T.no_BadText_at cvs_nil (sm_cons (sm_c cv_int) sm_nil)) sm_next)
      (sm_seq (sm_ifS (sm_test (sm_op smr_eq (sm_op smr_ixL sm_var (sm_c cv_int)) (sm_c (cv_str (by decide +kernel))))) (sm_ret (sm_tup (sm_cons (sm_op smr_ixL sm_var (sm_c cv_int)) (sm_cons (sm_op smr_ixL sm_var (sm_c cv_int)) sm_nil)))) sm_next)
      (sm_seq (sm_ifS (sm_test (sm_op smr_eq (sm_op smr_ixL sm_var (sm_c cv_int)) (sm_c (cv_str (by decide +kernel))))) (sm_ret (sm_tup (sm_cons (sm_op smr_ixL sm_var (sm_c cv_int)) (sm_cons (sm_call cvs_nil (sm_cons (sm_op smr_ixL sm_var (sm_c cv_int)) sm_nil)) sm_nil)))) sm_next)
      (sm_ret (sm_tup (sm_cons (sm_op smr_ixL sm_var (sm_c cv_int)) (sm_cons (sm_op smr_ixL sm_var (sm_c cv_int)) (sm_cons (sm_call cvs_nil (sm_cons (sm_op smr_ixL sm_var (sm_c cv_int)) sm_nil)) (sm_cons (sm_op smr_ixL sm_var (sm_c cv_int)) sm_nil)))))))))⟩
/-! #### read_line -/
set_option maxHeartbeats 0 in
theorem ok_p_read_line (T : Tx K mg w) : FnP P w K mg base tb 8 T.f_p_read_line T.fd_p_read_line P_p_read_line (F_p_read_line T.ca) := by
  have G_p_thing_of : FnP P w K mg base tb 5 T.f_p_thing_of T.fd_p_thing_of P_p_thing_of (F_p_thing_of T.ca) := ok_p_thing_of T
  have G_Lab_moves : FnP P w K mg base tb 1 T.f_Lab_moves T.fd_Lab_moves P_Lab_moves (F_Lab_moves T.ca) := ok_Lab_moves T
  have G_Lab_init : FnP P w K mg base tb 6 T.f_Lab_init T.fd_Lab_init P_Lab_init (F_Lab_init T.ca) := ok_Lab_init T
  have G_Lab_machines : FnP P w K mg base tb 1 T.f_Lab_machines T.fd_Lab_machines P_Lab_machines (F_Lab_machines T.ca) := ok_Lab_machines T
  have G_Lab_rows : FnP P w K mg base tb 1 T.f_Lab_rows T.fd_Lab_rows P_Lab_rows (F_Lab_rows T.ca) := ok_Lab_rows T
  have G_BadText_init : FnOk P w K mg base CX0 2 T.f_BadText_init T.fd_BadText_init P_BadText_init (spErr K (Str.ofString "badtext")) := ok_BadText_init T
  exact FnP.of T.F_p_read_line sc_p_read_line fun cdv A outer s H E hr => ⟨_, (pss_cons (ps_set (i := 2) sc_p_read_line.nd rfl (.inl rfl) (pe_split (L2.pv 1) pe_str))
      (pss_cons (ps_set (i := 3) sc_p_read_line.nd rfl (.inl rfl) (pe_call G_p_thing_of (hr.mono (by decide)) (by rfl) T.g_p_thing_of T.F_p_thing_of.kp T.b_p_thing_of .nil (passes_call (takes_of rfl rfl rfl rfl) (fun _ _ _ _ h => h)) (pa_cons (L2.pv 2) pa_nil)))
      (pss_cons (ps_if (pt_cmpR op_eq (pe_ix ix_list (L2.pv 2) pe_int (fun _ _ => rfl)) pe_str (nomark _))
        (pss_one (ps_ret (pe_make T.mk_Lab G_Lab_init (hr.mono (by decide)) (by rfl) T.gC_Lab T.b_Lab_init_4 T.dv_Lab_init_4 (passes_call (takes_of rfl rfl rfl rfl) (fun _ _ _ _ h => h)) (pa_cons (pe_meth0 (L2.pv 0) T.cl_Lab T.me_Lab_machines G_Lab_machines (hr.mono (by decide)) T.b_Lab_machines .nil (passes_call (takes_of rfl rfl rfl rfl) (fun _ _ _ _ h => h))) (pa_cons (pe_meth0 (L2.pv 0) T.cl_Lab T.me_Lab_rows G_Lab_rows (hr.mono (by decide)) T.b_Lab_rows .nil (passes_call (takes_of rfl rfl rfl rfl) (fun _ _ _ _ h => h))) (pa_cons (pe_op op_cat (pe_meth0 (L2.pv 0) T.cl_Lab T.me_Lab_moves G_Lab_moves (hr.mono (by decide)) T.b_Lab_moves .nil (passes_call (takes_of rfl rfl rfl rfl) (fun _ _ _ _ h => h))) (pe_lst (pa_cons (L2.pv 3) pa_nil))) pa_nil))))))
        pss_nil)
      (pss_cons (ps_if (PW.pt (pw_or (pt_truth (pe_meth0 (L2.pv 0) T.cl_Lab T.me_Lab_moves G_Lab_moves (hr.mono (by decide)) T.b_Lab_moves .nil (passes_call (takes_of rfl rfl rfl rfl) (fun _ _ _ _ h => h))) (by intro _; rfl)) (pw_or1 (PW.pt (pw_and (pt_cmpR op_eq (pe_ix ix_list (L2.pv 2) pe_int (fun _ _ => rfl)) pe_str (nomark _)) (pw_and1 (pt_truth (pe_meth0 (L2.pv 0) T.cl_Lab T.me_Lab_rows G_Lab_rows (hr.mono (by decide)) T.b_Lab_rows .nil (passes_call (takes_of rfl rfl rfl rfl) (fun _ _ _ _ h => h))) (by intro _; rfl))))))))
        (pss_one (ps_raise rfl (takes_of rfl rfl rfl rfl) (pmk_oex T.ox_BadText T.iC_BadText T.tI_BadText G_BadText_init (hr.mono (by decide)) T.b_BadText_init_2 T.dv_BadText_init_2 pass0 (by rfl) T.gC_BadText (pa_cons pe_int pa_nil))))
        pss_nil)
      (pss_cons (ps_if (pt_cmpR op_eq (pe_ix ix_list (L2.pv 2) pe_int (fun _ _ => rfl)) pe_str (nomark _))
        (pss_one (ps_ret (pe_make T.mk_Lab G_Lab_init (hr.mono (by decide)) (by rfl) T.gC_Lab T.b_Lab_init_3 T.dv_Lab_init_3 (passes_call (takes_of rfl rfl rfl rfl) (fun _ _ _ _ h => h)) (pa_cons (pe_meth0 (L2.pv 0) T.cl_Lab T.me_Lab_machines G_Lab_machines (hr.mono (by decide)) T.b_Lab_machines .nil (passes_call (takes_of rfl rfl rfl rfl) (fun _ _ _ _ h => h))) (pa_cons (pe_op op_cat (pe_meth0 (L2.pv 0) T.cl_Lab T.me_Lab_rows G_Lab_rows (hr.mono (by decide)) T.b_Lab_rows .nil (passes_call (takes_of rfl rfl rfl rfl) (fun _ _ _ _ h => h))) (pe_lst (pa_cons (L2.pv 3) pa_nil))) pa_nil)))))
        pss_nil)
      (pss_one (ps_ret (pe_make T.mk_Lab G_Lab_init (hr.mono (by decide)) (by rfl) T.gC_Lab T.b_Lab_init_2 T.dv_Lab_init_2 (passes_call (takes_of rfl rfl rfl rfl) (fun _ _ _ _ h => h)) (pa_cons (pe_op op_cat (pe_meth0 (L2.pv 0) T.cl_Lab T.me_Lab_machines G_Lab_machines (hr.mono (by decide)) T.b_Lab_machines .nil (passes_call (takes_of rfl rfl rfl rfl) (fun _ _ _ _ h => h))) (pe_lst (pa_cons (L2.pv 3) pa_nil))) pa_nil))))))))),
    (sm_seq (sm_asg (sm_M1 mm_split sm_var (sm_c (cv_str (by decide +kernel)))) sg_nm)
      (sm_seq (sm_asg (sm_call cvs_nil (sm_cons sm_var sm_nil)) sg_nm)
      (sm_seq (sm_ifS (sm_test (sm_op smr_eq (sm_op smr_ixL sm_var (sm_c cv_int)) (sm_c (cv_str (by decide +kernel))))) (sm_ret (sm_make cvs_nil (sm_cons (sm_meth cvs_nil sm_var sm_nil) (sm_cons (sm_meth cvs_nil sm_var sm_nil) (sm_cons (sm_op smr_addL (sm_meth cvs_nil sm_var sm_nil) (sm_lst (sm_cons sm_var sm_nil))) sm_nil))))) sm_next)
      (sm_seq (sm_ifS (sm_or (sm_truth (sm_meth cvs_nil sm_var sm_nil)) (sm_and (sm_test (sm_op smr_eq (sm_op smr_ixL sm_var (sm_c cv_int)) (sm_c (cv_str (by decide +kernel))))) (sm_truth (sm_meth cvs_nil sm_var sm_nil)))) (sm_raise T.ox_BadText T.no_BadText_word T.no_BadText_at cvs_nil (sm_cons (sm_c cv_int) sm_nil)) sm_next)
      (sm_seq (sm_ifS (sm_test (sm_op smr_eq (sm_op smr_ixL sm_var (sm_c cv_int)) (sm_c (cv_str (by decide +kernel))))) (sm_ret (sm_make (cvs_cons cv_adr cvs_nil) (sm_cons (sm_meth cvs_nil sm_var sm_nil) (sm_cons (sm_op smr_addL (sm_meth cvs_nil sm_var sm_nil) (sm_lst (sm_cons sm_var sm_nil))) sm_nil)))) sm_next)
      (sm_ret (sm_make (cvs_cons cv_adr (cvs_cons cv_adr cvs_nil)) (sm_cons (sm_op smr_addL (sm_meth cvs_nil sm_var sm_nil) (sm_lst (sm_cons sm_var sm_nil))) sm_nil))))))))⟩
/-! #### lab_text -/
set_option maxHeartbeats 0 in
theorem ok_p_lab_text (T : Tx K mg w) : FnP P w K mg base tb 6 T.f_p_lab_text T.fd_p_lab_text P_p_lab_text (F_p_lab_text T.ca) := by
  have G_Lab_str : FnP P w K mg base tb 3 T.f_Lab_str T.fd_Lab_str P_Lab_str (F_Lab_str T.ca) := ok_Lab_str T
  exact FnP.of T.F_p_lab_text sc_p_lab_text fun cdv A outer s H E hr => ⟨_, (pss_one (ps_ret (pe_callTy (call_strOwn (fn_none G_Lab_str) (hr.mono (by decide)) T.me_Lab_str T.b_Lab_str) (by rfl) T.m_str (by decide +kernel) (pa_cons (L2.pv 0) pa_nil)))),
    (sm_ret (sm_B sb_reprOwn (sm_cons sm_var sm_nil)))⟩
/-! #### read_lab -/
set_option maxHeartbeats 0 in
theorem ok_p_read_lab (T : Tx K mg w) : FnP P w K mg base tb 9 T.f_p_read_lab T.fd_p_read_lab P_p_read_lab (F_p_read_lab T.ca) := by
  have G_Lab_init : FnP P w K mg base tb 6 T.f_Lab_init T.fd_Lab_init P_Lab_init (F_Lab_init T.ca) := ok_Lab_init T
  have G_BadText_init : FnOk P w K mg base CX0 2 T.f_BadText_init T.fd_BadText_init P_BadText_init (spErr K (Str.ofString "badtext")) := ok_BadText_init T
  have G_p_read_line : FnP P w K mg base tb 8 T.f_p_read_line T.fd_p_read_line P_p_read_line (F_p_read_line T.ca) := ok_p_read_line T
  exact FnP.of T.F_p_read_lab sc_p_read_lab fun cdv A outer s H E hr => ⟨_, (pss_cons (ps_set (i := 1) sc_p_read_lab.nd rfl (.inl rfl) (pe_split (L2.pv 0) pe_str))
      (pss_cons (ps_set (i := 2) sc_p_read_lab.nd rfl (.inl rfl) (pe_bm0 PySem.F.plainAttrs_list PySem.F.slot_list_pop PySem.F.type_list_pop mt_pop (L2.pv 1)))
      (pss_cons (ps_set (i := 3) sc_p_read_lab.nd rfl (.inl rfl) (pe_make0 T.mk_Lab G_Lab_init (hr.mono (by decide)) (by rfl) T.gC_Lab T.b_Lab_init_1 T.dv_Lab_init_1 (passes_call (takes_of rfl rfl rfl rfl) (fun _ _ _ _ h => h))))
      (pss_cons (ps_for (passes_of rfl) rfl (pi_enum (by rfl) T.m_enumerate (pa_cons (L2.pv 1) pa_nil)) (pg_tup (by rfl) (pgs_cons (pg_name (i := 4) sc_p_read_lab.nd rfl (.inl rfl)) (pgs_cons (pg_name (i := 5) sc_p_read_lab.nd rfl (.inl rfl)) pgs_nil)))
        (pss_one (ps_try_thru0
          (pss_one (ps_set (i := 3) sc_p_read_lab.nd rfl (.inl rfl) (pe_call G_p_read_line (hr.mono (by decide)) (by rfl) T.g_p_read_line T.F_p_read_line.kp T.b_p_read_line .nil passL (pa_cons (L2.pv 3) (pa_cons (L2.pv 5) pa_nil))))))))
      (pss_cons (ps_if (pt_cmpR op_ne (L2.pv 2) pe_str (nomark _))
        (pss_one (ps_raise rfl (takes_of rfl rfl rfl rfl) (pmk_oex T.ox_BadText T.iC_BadText T.tI_BadText G_BadText_init (hr.mono (by decide)) T.b_BadText_init_2 T.dv_BadText_init_2 pass0 (by rfl) T.gC_BadText (pa_cons (pe_callB call_len_seq (by rfl) T.m_len PySem.boot_len (pa_cons (L2.pv 1) pa_nil)) pa_nil))))
        pss_nil)
      (pss_one (ps_ret (L2.pv 3)))))))),
    (sm_seq (sm_asg (sm_M1 mm_split sm_var (sm_c (cv_str (by decide +kernel)))) sg_nm)
      (sm_seq (sm_asg (sm_BM0 mm_pop sm_var) sg_nm)
      (sm_seq (sm_asg (sm_make (cvs_cons cv_adr (cvs_cons cv_adr (cvs_cons cv_adr cvs_nil))) sm_nil) sg_nm)
      (sm_seq (sm_for (sm_iEL (sm_cons sm_var sm_nil)) (sg_tup (sg_cons sg_nm (sg_cons sg_nm sg_nil)) (cnt_cons (cnt_cons cnt_nil))) (sm_asg (sm_callN cvs_nil (sm_cons sm_var (sm_cons sm_var sm_nil))) sg_nm))
      (sm_seq (sm_ifS (sm_test (sm_op smr_ne sm_var (sm_c (cv_str (by decide +kernel))))) (sm_raise T.ox_BadText T.no_BadText_word T.no_BadText_at cvs_nil (sm_cons (sm_B sb_len (sm_cons sm_var sm_nil)) sm_nil)) sm_next)
      (sm_ret sm_var))))))⟩
/-! #### law: pull -/
set_option maxHeartbeats 0 in
theorem ok_pull (T : Tx K mg w) : FnP P w K mg base tb 1 T.f_pull T.fd_pull P_pull (F_pull T.ca) := by
  exact FnP.of T.F_pull sc_pull fun cdv A outer s H E hr => ⟨_, (pss_cons (ps_augS (L2.pv 0) pe_int LB.get_list pe_int ip_add set_list)
      (pss_cons (ps_if (pt_cmpR op_gt (pe_ix ix_list (L2.pv 0) pe_int (fun _ _ => rfl)) pe_int (nomark _))
        (pss_cons (ps_set (i := 2) sc_pull.nd rfl (.inl rfl) (pe_ix ix_list (L2.pv 0) pe_int (fun _ _ => rfl)))
        (pss_cons (ps_asg (pe_op op_fdiv (L2.pv 2) (L2.pv 1)) (pg_sub (L2.pv 0) pe_int set_list))
        (pss_one (ps_ret (pe_op op_mod (L2.pv 2) (L2.pv 1))))))
        pss_nil)
      (pss_cons (ps_set (i := 3) sc_pull.nd rfl (.inl rfl) (pe_ix ix_list (L2.pv 0) pe_int (fun _ _ => rfl)))
      (pss_cons (ps_if (pt_cmpR op_lt (pe_ix ix_list (L2.pv 0) pe_int (fun _ _ => rfl)) (pe_callB call_len_seq (by rfl) T.m_len PySem.boot_len (pa_cons (pe_ix ix_list (L2.pv 0) pe_int (fun _ _ => rfl)) pa_nil)) (nomark _))
        (pss_cons (ps_set (i := 3) sc_pull.nd rfl (.inl rfl) (pe_ix ix_list (pe_ix ix_list (L2.pv 0) pe_int (fun _ _ => rfl)) (pe_ix ix_list (L2.pv 0) pe_int (fun _ _ => rfl)) (fun _ _ => rfl)))
        (pss_one (ps_augS (L2.pv 0) pe_int LB.get_list pe_int ip_add set_list)))
        pss_nil)
      (pss_cons (ps_if (pt_cmpR op_ge (L2.pv 3) (pe_op op_pow pe_int pe_int) (nomark _))
        (pss_cons (ps_asg (pe_op op_fdiv (L2.pv 3) (L2.pv 1)) (pg_sub (L2.pv 0) pe_int set_list))
        (pss_one (ps_ret (pe_op op_mod (L2.pv 3) (L2.pv 1)))))
        pss_nil)
      (pss_cons (ps_set (i := 4) sc_pull.nd rfl (.inl rfl) (pe_op op_mod (pe_op op_add (pe_op op_add (pe_op op_add (pe_op op_mul (L2.pv 3) pe_int) (pe_op op_mul (pe_ix ix_list (L2.pv 0) pe_int (fun _ _ => rfl)) pe_int)) (pe_op op_mul (pe_ix ix_list (L2.pv 0) pe_int (fun _ _ => rfl)) pe_int)) pe_int) pe_int))
      (pss_cons (ps_set (i := 5) sc_pull.nd rfl (.inl rfl) (pe_op op_mod (pe_op op_add (pe_op op_add (pe_op op_mul (L2.pv 4) (pe_op op_add (pe_op op_mod (L2.pv 4) pe_int) pe_int)) (pe_op op_mul (pe_ix ix_list (L2.pv 0) pe_int (fun _ _ => rfl)) pe_int)) (pe_op op_mod (pe_ix ix_list (L2.pv 0) pe_int (fun _ _ => rfl)) pe_int)) pe_int))
      (pss_cons (ps_asg (pe_op op_mod (pe_op op_add (pe_op op_mul (pe_ix ix_list (L2.pv 0) pe_int (fun _ _ => rfl)) pe_int) (L2.pv 5)) pe_int) (pg_sub (L2.pv 0) pe_int set_list))
      (pss_one (ps_ret (pe_op op_mod (pe_op op_fdiv (L2.pv 5) pe_int) (L2.pv 1)))))))))))),
    (sm_seq (sm_augL sm_var (sm_c cv_int) (sm_c cv_int) smr_ip)
      (sm_seq (sm_ifS (sm_test (sm_op (smr_I0 fun _ _ => cv_bl) (sm_op smr_ixL sm_var (sm_c cv_int)) (sm_c cv_int))) (sm_seq (sm_asg (sm_op smr_ixL sm_var (sm_c cv_int)) sg_nm)
      (sm_seq (sm_asgL (sm_op (smr_I fun _ _ => cv_int) sm_var sm_var) sm_var (sm_c cv_int))
      (sm_ret (sm_op (smr_I fun _ _ => cv_int) sm_var sm_var)))) sm_next)
      (sm_seq (sm_asg (sm_op smr_ixL sm_var (sm_c cv_int)) sg_nm)
      (sm_seq (sm_ifS (sm_test (sm_op (smr_I0 fun _ _ => cv_bl) (sm_op smr_ixL sm_var (sm_c cv_int)) (sm_B sb_len (sm_cons (sm_op smr_ixL sm_var (sm_c cv_int)) sm_nil)))) (sm_seq (sm_asg (sm_op smr_ixL (sm_op smr_ixL sm_var (sm_c cv_int)) (sm_op smr_ixL sm_var (sm_c cv_int))) sg_nm)
      (sm_augL sm_var (sm_c cv_int) (sm_c cv_int) smr_ip)) sm_next)
      (sm_seq (sm_ifS (sm_test (sm_op (smr_I0 fun _ _ => cv_bl) sm_var (sm_op (smr_I fun _ _ => cv_int) (sm_c cv_int) (sm_c cv_int)))) (sm_seq (sm_asgL (sm_op (smr_I fun _ _ => cv_int) sm_var sm_var) sm_var (sm_c cv_int))
      (sm_ret (sm_op (smr_I fun _ _ => cv_int) sm_var sm_var))) sm_next)
      (sm_seq (sm_asg (sm_op (smr_I fun _ _ => cv_int) (sm_op (smr_I0 fun _ _ => cv_int) (sm_op (smr_I0 fun _ _ => cv_int) (sm_op (smr_I0 fun _ _ => cv_int) (sm_op (smr_I fun _ _ => cv_int) sm_var (sm_c cv_int)) (sm_op (smr_I fun _ _ => cv_int) (sm_op smr_ixL sm_var (sm_c cv_int)) (sm_c cv_int))) (sm_op (smr_I fun _ _ => cv_int) (sm_op smr_ixL sm_var (sm_c cv_int)) (sm_c cv_int))) (sm_c cv_int)) (sm_c cv_int)) sg_nm)
      (sm_seq (sm_asg (sm_op (smr_I fun _ _ => cv_int) (sm_op (smr_I0 fun _ _ => cv_int) (sm_op (smr_I0 fun _ _ => cv_int) (sm_op (smr_I fun _ _ => cv_int) sm_var (sm_op (smr_I0 fun _ _ => cv_int) (sm_op (smr_I fun _ _ => cv_int) sm_var (sm_c cv_int)) (sm_c cv_int))) (sm_op (smr_I fun _ _ => cv_int) (sm_op smr_ixL sm_var (sm_c cv_int)) (sm_c cv_int))) (sm_op (smr_I fun _ _ => cv_int) (sm_op smr_ixL sm_var (sm_c cv_int)) (sm_c cv_int))) (sm_c cv_int)) sg_nm)
      (sm_seq (sm_asgL (sm_op (smr_I fun _ _ => cv_int) (sm_op (smr_I0 fun _ _ => cv_int) (sm_op (smr_I fun _ _ => cv_int) (sm_op smr_ixL sm_var (sm_c cv_int)) (sm_c cv_int)) sm_var) (sm_c cv_int)) sm_var (sm_c cv_int))
      (sm_ret (sm_op (smr_I fun _ _ => cv_int) (sm_op (smr_I fun _ _ => cv_int) sm_var (sm_c cv_int)) sm_var))))))))))⟩
/-! #### law: of -/
set_option maxHeartbeats 0 in
theorem ok_of (T : Tx K mg w) : FnP P w K mg base tb 2 T.f_of T.fd_of P_of (F_of T.ca) := by
  have G_pull : FnP P w K mg base tb 1 T.f_pull T.fd_pull P_pull (F_pull T.ca) := ok_pull T
  exact FnP.of T.F_of sc_of fun cdv A outer s H E hr => ⟨_, (pss_one (ps_ret (pe_ix ix_seq (L2.pv 1) (pe_call G_pull (hr.mono (by decide)) (by rfl) T.g_pull T.F_pull.kp T.b_pull .nil (passes_call (takes_of rfl rfl rfl rfl) (fun _ _ _ _ h => h)) (pa_cons (L2.pv 0) (pa_cons (pe_callB (CallR.or call_len_seq call_len_str) (by rfl) T.m_len PySem.boot_len (pa_cons (L2.pv 1) pa_nil)) pa_nil))) (fun _ _ => rfl)))),
    (sm_ret (sm_op smr_ixQ sm_var (sm_call cvs_nil (sm_cons sm_var (sm_cons (sm_B sb_lenQ (sm_cons sm_var sm_nil)) sm_nil)))))⟩
/-! #### law: letters -/
set_option maxHeartbeats 0 in
theorem ok_letters (T : Tx K mg w) : FnP P w K mg base tb 3 T.f_letters T.fd_letters P_letters (F_letters T.ca) := by
  have G_pull : FnP P w K mg base tb 1 T.f_pull T.fd_pull P_pull (F_pull T.ca) := ok_pull T
  have G_of : FnP P w K mg base tb 2 T.f_of T.fd_of P_of (F_of T.ca) := ok_of T
  exact FnP.of T.F_letters sc_letters fun cdv A outer s H E hr => ⟨_, (pss_cons (ps_set (i := 1) sc_letters.nd rfl (.inr rfl) pe_str)
      (pss_cons (ps_set (i := 2) sc_letters.nd rfl (.inr rfl) (pe_call G_pull (hr.mono (by decide)) (by rfl) T.g_pull T.F_pull.kp T.b_pull .nil (passes_call (takes_of rfl rfl rfl rfl) (fun _ _ _ _ h => h)) (pa_cons (L2.pv 0) (pa_cons pe_int pa_nil))))
      (pss_cons (ps_set (i := 3) sc_letters.nd rfl (.inr rfl) (pe_call G_of (hr.mono (by decide)) (by rfl) T.g_of T.F_of.kp T.b_of .nil (passes_call (takes_of rfl rfl rfl rfl) (fun _ _ _ _ h => h)) (pa_cons (L2.pv 0) (pa_cons (pe_lst (pa_cons pe_int (pa_cons pe_int (pa_cons pe_int (pa_cons pe_int (pa_cons pe_int (pa_cons pe_int pa_nil))))))) pa_nil))))
      (pss_one (ps_ret (pe_lc (own := [("_law_k", 4)]) (g := (gName 4)) (tt := tYes) (by rfl) sc_letters.nd (pi_range1 (by rfl) T.m_range (pa_cons pe_int pa_nil)) (blkOk_by (own := [("_law_k", 4)]) (N := N_letters) (sc := defScope s_letters) (by decide +kernel)) (fun _ _ _ _ _ => (pg_name (i := 4) sc_letters.nd rfl (.inl rfl))) (fun _ _ _ _ _ => pts_nil) (fun _ _ _ _ _ => (pe_ix ix_str (L2.pv 1) (pe_op op_mod (pe_op op_add (L2.pv 2) (pe_op op_mul (L2.pv 3) (L2.pv 4))) pe_int) (fun _ _ => rfl))))))))),
    (sm_seq (sm_asg (sm_c (cv_str (by decide +kernel))) sg_nm)
      (sm_seq (sm_asg (sm_call cvs_nil (sm_cons sm_var (sm_cons (sm_c cv_int) sm_nil))) sg_nm)
      (sm_seq (sm_asg (sm_call cvs_nil (sm_cons sm_var (sm_cons (sm_lst (sm_cons (sm_c cv_int) (sm_cons (sm_c cv_int) (sm_cons (sm_c cv_int) (sm_cons (sm_c cv_int) (sm_cons (sm_c cv_int) (sm_cons (sm_c cv_int) sm_nil))))))) sm_nil))) sg_nm)
      (sm_ret (sm_lc (sm_iR1 (sm_cons (sm_c cv_int) sm_nil)) sg_nm sm_yes (sm_op smr_ixS sm_var (sm_op (smr_I fun _ _ => cv_int) (sm_op (smr_I0 fun _ _ => cv_int) sm_var (sm_op (smr_I fun _ _ => cv_int) sm_var sm_var)) (sm_c cv_int))) (by decide))))))⟩
/-! #### law: names -/
set_option maxHeartbeats 0 in
theorem ok_names (T : Tx K mg w) : FnP P w K mg base tb 3 T.f_names T.fd_names P_names (F_names T.ca) := by
  have G_pull : FnP P w K mg base tb 1 T.f_pull T.fd_pull P_pull (F_pull T.ca) := ok_pull T
  have G_of : FnP P w K mg base tb 2 T.f_of T.fd_of P_of (F_of T.ca) := ok_of T
  exact FnP.of T.F_names sc_names fun cdv A outer s H E hr => ⟨_, (pss_cons (ps_set (i := 2) sc_names.nd rfl (.inr rfl) pe_str)
      (pss_cons (ps_set (i := 3) sc_names.nd rfl (.inr rfl) (pe_join pe_str (pe_lc (own := [("_law_k", 7)]) (g := (gName 7)) (tt := tYes) (by rfl) sc_names.nd (pi_range1 (by rfl) T.m_range (pa_cons (pe_call G_pull (hr.mono (by decide)) (by rfl) T.g_pull T.F_pull.kp T.b_pull .nil (passes_call (takes_of rfl rfl rfl rfl) (fun _ _ _ _ h => h)) (pa_cons (L2.pv 0) (pa_cons pe_int pa_nil))) pa_nil)) (blkOk_by (own := [("_law_k", 7)]) (N := N_names) (sc := defScope s_names) (by decide +kernel)) (fun _ _ _ _ _ => (pg_name (i := 7) sc_names.nd rfl (.inl rfl))) (fun _ _ _ _ _ => pts_nil) (fun _ _ _ _ _ => (pe_call G_of (hr.mono (by decide)) (by rfl) T.g_of T.F_of.kp T.b_of .nil passL (pa_cons (L2.pv 0) (pa_cons (L2.pv 2) pa_nil)))))))
      (pss_cons (ps_set (i := 4) sc_names.nd rfl (.inr rfl) (pe_call G_pull (hr.mono (by decide)) (by rfl) T.g_pull T.F_pull.kp T.b_pull .nil (passes_call (takes_of rfl rfl rfl rfl) (fun _ _ _ _ h => h)) (pa_cons (L2.pv 0) (pa_cons (pe_op op_add (pe_callB call_len_str (by rfl) T.m_len PySem.boot_len (pa_cons (L2.pv 3) pa_nil)) pe_int) pa_nil))))
      (pss_cons (ps_set (i := 5) sc_names.nd rfl (.inr rfl) (pe_call G_pull (hr.mono (by decide)) (by rfl) T.g_pull T.F_pull.kp T.b_pull .nil (passes_call (takes_of rfl rfl rfl rfl) (fun _ _ _ _ h => h)) (pa_cons (L2.pv 0) (pa_cons pe_int pa_nil))))
      (pss_cons (ps_set (i := 6) sc_names.nd rfl (.inr rfl) (pe_call G_of (hr.mono (by decide)) (by rfl) T.g_of T.F_of.kp T.b_of .nil (passes_call (takes_of rfl rfl rfl rfl) (fun _ _ _ _ h => h)) (pa_cons (L2.pv 0) (pa_cons (pe_lst (pa_cons pe_int (pa_cons pe_int (pa_cons pe_int (pa_cons pe_int (pa_cons pe_int (pa_cons pe_int pa_nil))))))) pa_nil))))
      (pss_one (ps_ret (pe_lc (own := [("_law_k", 7)]) (g := (gName 7)) (tt := tYes) (by rfl) sc_names.nd (pi_range1 (by rfl) T.m_range (pa_cons (L2.pv 1) pa_nil)) (blkOk_by (own := [("_law_k", 7)]) (N := N_names) (sc := defScope s_names) (by decide +kernel)) (fun _ _ _ _ _ => (pg_name (i := 7) sc_names.nd rfl (.inl rfl))) (fun _ _ _ _ _ => pts_nil) (fun _ _ _ _ _ => (pe_op op_add_str (pe_op op_add_str (pe_slice sl_str (L2.pv 3) po_none (po_some (L2.pv 4))) (pe_ix ix_str (L2.pv 2) (pe_op op_mod (pe_op op_add (L2.pv 5) (pe_op op_mul (L2.pv 6) (L2.pv 7))) pe_int) (fun _ _ => rfl))) (pe_slice sl_str (L2.pv 3) (po_some (L2.pv 4)) po_none))))))))))),
    (sm_seq (sm_asg (sm_c (cv_str (by decide +kernel))) sg_nm)
      (sm_seq (sm_asg (sm_gc (sm_M1 mm_join (sm_c (cv_str (by decide +kernel))) (sm_lc (sm_iR1 (sm_cons (sm_call cvs_nil (sm_cons sm_var (sm_cons (sm_c cv_int) sm_nil))) sm_nil)) sg_nm sm_yes (sm_callN cvs_nil (sm_cons sm_var (sm_cons sm_var sm_nil))) (by decide)))) sg_nm)
      (sm_seq (sm_asg (sm_call cvs_nil (sm_cons sm_var (sm_cons (sm_op (smr_I0 fun _ _ => cv_int) (sm_B sb_lenS (sm_cons sm_var sm_nil)) (sm_c cv_int)) sm_nil))) sg_nm)
      (sm_seq (sm_asg (sm_call cvs_nil (sm_cons sm_var (sm_cons (sm_c cv_int) sm_nil))) sg_nm)
      (sm_seq (sm_asg (sm_call cvs_nil (sm_cons sm_var (sm_cons (sm_lst (sm_cons (sm_c cv_int) (sm_cons (sm_c cv_int) (sm_cons (sm_c cv_int) (sm_cons (sm_c cv_int) (sm_cons (sm_c cv_int) (sm_cons (sm_c cv_int) sm_nil))))))) sm_nil))) sg_nm)
      (sm_ret (sm_lc (sm_iR1 (sm_cons sm_var sm_nil)) sg_nm sm_yes (sm_op smr_addS (sm_op smr_addS (sm_sl sms_S sm_var sm_noPart (sm_part sm_var)) (sm_op smr_ixS sm_var (sm_op (smr_I fun _ _ => cv_int) (sm_op (smr_I0 fun _ _ => cv_int) sm_var (sm_op (smr_I fun _ _ => cv_int) sm_var sm_var)) (sm_c cv_int)))) (sm_sl sms_S sm_var (sm_part sm_var) sm_noPart)) (by decide))))))))⟩
/-! #### law: word -/
set_option maxHeartbeats 0 in
theorem ok_word (T : Tx K mg w) : FnP P w K mg base tb 3 T.f_word T.fd_word P_word (F_word T.ca) := by
  have G_of : FnP P w K mg base tb 2 T.f_of T.fd_of P_of (F_of T.ca) := ok_of T
  have G_pull : FnP P w K mg base tb 1 T.f_pull T.fd_pull P_pull (F_pull T.ca) := ok_pull T
  exact FnP.of T.F_word sc_word fun cdv A outer s H E hr => ⟨_, (pss_one (ps_ret (pe_join pe_str (pe_lc (own := [("_law_k", 3)]) (g := (gName 3)) (tt := tYes) (by rfl) sc_word.nd (pi_range1 (by rfl) T.m_range (pa_cons (pe_call G_pull (hr.mono (by decide)) (by rfl) T.g_pull T.F_pull.kp T.b_pull .nil (passes_call (takes_of rfl rfl rfl rfl) (fun _ _ _ _ h => h)) (pa_cons (L2.pv 0) (pa_cons (pe_op op_add (L2.pv 2) pe_int) pa_nil))) pa_nil)) (blkOk_by (own := [("_law_k", 3)]) (N := N_word) (sc := defScope s_word) (by decide +kernel)) (fun _ _ _ _ _ => (pg_name (i := 3) sc_word.nd rfl (.inl rfl))) (fun _ _ _ _ _ => pts_nil) (fun _ _ _ _ _ => (pe_call G_of (hr.mono (by decide)) (by rfl) T.g_of T.F_of.kp T.b_of .nil passL (pa_cons (L2.pv 0) (pa_cons (L2.pv 1) pa_nil)))))))),
    (sm_ret (sm_gc (sm_M1 mm_join (sm_c (cv_str (by decide +kernel))) (sm_lc (sm_iR1 (sm_cons (sm_call cvs_nil (sm_cons sm_var (sm_cons (sm_op (smr_I0 fun _ _ => cv_int) sm_var (sm_c cv_int)) sm_nil))) sm_nil)) sg_nm sm_yes (sm_callN cvs_nil (sm_cons sm_var (sm_cons sm_var sm_nil))) (by decide)))))⟩
/-! #### law: act -/
set_option maxHeartbeats 0 in
theorem ok_act (T : Tx K mg w) : FnP P w K mg base tb 3 T.f_act T.fd_act P_act (F_act T.ca) := by
  have G_pull : FnP P w K mg base tb 1 T.f_pull T.fd_pull P_pull (F_pull T.ca) := ok_pull T
  have G_of : FnP P w K mg base tb 2 T.f_of T.fd_of P_of (F_of T.ca) := ok_of T
  exact FnP.of T.F_act sc_act fun cdv A outer s H E hr => ⟨_, (pss_cons (ps_set (i := 2) sc_act.nd rfl (.inl rfl) (pe_call G_pull (hr.mono (by decide)) (by rfl) T.g_pull T.F_pull.kp T.b_pull .nil (passes_call (takes_of rfl rfl rfl rfl) (fun _ _ _ _ h => h)) (pa_cons (L2.pv 0) (pa_cons pe_int pa_nil))))
      (pss_cons (ps_if (PW.pt (pw_or (pt_cmpR op_eq (L2.pv 2) pe_int (nomark _)) (pw_or1 (pt_cmpR (op_eqD hr.units) (pe_dget (hu_of hr) (L2.pv 1) pe_str (fun _ _ => rfl)) (pe_lst pa_nil) (nomark _)))))
        (pss_one (ps_ret (pe_tup (pa_cons pe_str pa_nil))))
        pss_nil)
      (pss_cons (ps_set (i := 3) sc_act.nd rfl (.inl rfl) (pe_ix ix_tup (pe_call G_of (hr.mono (by decide)) (by rfl) T.g_of T.F_of.kp T.b_of .nil (passes_call (takes_of rfl rfl rfl rfl) (fun _ _ _ _ h => h)) (pa_cons (L2.pv 0) (pa_cons (pe_dget (hu_of hr) (L2.pv 1) pe_str (fun _ _ => rfl)) pa_nil))) pe_int (fun _ _ => rfl)))
      (pss_cons (ps_if (pt_cmpR op_eq (L2.pv 2) pe_int (nomark _))
        (pss_one (ps_ret (pe_tup (pa_cons pe_str (pa_cons (L2.pv 3) pa_nil)))))
        pss_nil)
      (pss_one (ps_ret (pe_tup (pa_cons (pe_ix ix_list (pe_lst (pa_cons pe_str (pa_cons pe_str pa_nil))) (pe_op op_mod (L2.pv 2) pe_int) (fun _ _ => rfl)) (pa_cons (L2.pv 3) (pa_cons (pe_call G_of (hr.mono (by decide)) (by rfl) T.g_of T.F_of.kp T.b_of .nil (passes_call (takes_of rfl rfl rfl rfl) (fun _ _ _ _ h => h)) (pa_cons (L2.pv 0) (pa_cons (pe_dget (hu_of hr) (L2.pv 1) pe_str (fun _ _ => rfl)) pa_nil))) pa_nil)))))))))),
    (sm_seq (sm_asg (sm_call cvs_nil (sm_cons sm_var (sm_cons (sm_c cv_int) sm_nil))) sg_nm)
      (sm_seq (sm_ifS (sm_or (sm_test (sm_op smr_eq sm_var (sm_c cv_int))) (sm_test (sm_op smr_eqD (sm_dget sm_var (sm_c (cv_str (by decide +kernel)))) (sm_lst sm_nil)))) (sm_ret (sm_tup (sm_cons (sm_c (cv_str (by decide +kernel))) sm_nil))) sm_next)
      (sm_seq (sm_asg (sm_op smr_ixT (sm_call cvs_nil (sm_cons sm_var (sm_cons (sm_dget sm_var (sm_c (cv_str (by decide +kernel)))) sm_nil))) (sm_c cv_int)) sg_nm)
      (sm_seq (sm_ifS (sm_test (sm_op smr_eq sm_var (sm_c cv_int))) (sm_ret (sm_tup (sm_cons (sm_c (cv_str (by decide +kernel))) (sm_cons sm_var sm_nil)))) sm_next)
      (sm_ret (sm_tup (sm_cons (sm_op smr_ixL (sm_lst (sm_cons (sm_c (cv_str (by decide +kernel))) (sm_cons (sm_c (cv_str (by decide +kernel))) sm_nil))) (sm_op (smr_I fun _ _ => cv_int) sm_var (sm_c cv_int))) (sm_cons sm_var (sm_cons (sm_call cvs_nil (sm_cons sm_var (sm_cons (sm_dget sm_var (sm_c (cv_str (by decide +kernel)))) sm_nil))) sm_nil)))))))))⟩
/-! #### law: move -/
set_option maxHeartbeats 0 in
theorem ok_move (T : Tx K mg w) : FnP P w K mg base tb 4 T.f_move T.fd_move P_move (F_move T.ca) := by
  have G_pull : FnP P w K mg base tb 1 T.f_pull T.fd_pull P_pull (F_pull T.ca) := ok_pull T
  have G_of : FnP P w K mg base tb 2 T.f_of T.fd_of P_of (F_of T.ca) := ok_of T
  have G_act : FnP P w K mg base tb 3 T.f_act T.fd_act P_act (F_act T.ca) := ok_act T
  exact FnP.of T.F_move sc_move fun cdv A outer s H E hr => ⟨_, (pss_cons (ps_set (i := 2) sc_move.nd rfl (.inl rfl) (pe_call G_pull (hr.mono (by decide)) (by rfl) T.g_pull T.F_pull.kp T.b_pull .nil (passes_call (takes_of rfl rfl rfl rfl) (fun _ _ _ _ h => h)) (pa_cons (L2.pv 0) (pa_cons (pe_callB call_len_seq (by rfl) T.m_len PySem.boot_len (pa_cons (pe_dget (hu_of hr) (L2.pv 1) pe_str (fun _ _ => rfl)) pa_nil)) pa_nil))))
      (pss_cons (ps_set (i := 3) sc_move.nd rfl (.inl rfl) (pe_ix ix_list (pe_dget (hu_of hr) (L2.pv 1) pe_str (fun _ _ => rfl)) (L2.pv 2) (fun _ _ => rfl)))
      (pss_one (ps_ret (pe_tup (pa_cons (pe_ix ix_tup (pe_ix ix_list (pe_dget (hu_of hr) (L2.pv 1) pe_str (fun _ _ => rfl)) (L2.pv 2) (fun _ _ => rfl)) pe_int (fun _ _ => rfl)) (pa_cons (pe_call G_of (hr.mono (by decide)) (by rfl) T.g_of T.F_of.kp T.b_of .nil (passes_call (takes_of rfl rfl rfl rfl) (fun _ _ _ _ h => h)) (pa_cons (L2.pv 0) (pa_cons (L2.pv 3) pa_nil))) (pa_cons (pe_call G_act (hr.mono (by decide)) (by rfl) T.g_act T.F_act.kp T.b_act .nil (passes_call (takes_of rfl rfl rfl rfl) (fun _ _ _ _ h => h)) (pa_cons (L2.pv 0) (pa_cons (L2.pv 1) pa_nil))) (pa_cons (pe_call G_of (hr.mono (by decide)) (by rfl) T.g_of T.F_of.kp T.b_of .nil (passes_call (takes_of rfl rfl rfl rfl) (fun _ _ _ _ h => h)) (pa_cons (L2.pv 0) (pa_cons (L2.pv 3) pa_nil))) pa_nil))))))))),
    (sm_seq (sm_asg (sm_call cvs_nil (sm_cons sm_var (sm_cons (sm_B sb_len (sm_cons (sm_dget sm_var (sm_c (cv_str (by decide +kernel)))) sm_nil)) sm_nil))) sg_nm)
      (sm_seq (sm_asg (sm_op smr_ixL (sm_dget sm_var (sm_c (cv_str (by decide +kernel)))) sm_var) sg_nm)
      (sm_ret (sm_tup (sm_cons (sm_op smr_ixT (sm_op smr_ixL (sm_dget sm_var (sm_c (cv_str (by decide +kernel)))) sm_var) (sm_c cv_int)) (sm_cons (sm_call cvs_nil (sm_cons sm_var (sm_cons sm_var sm_nil))) (sm_cons (sm_call cvs_nil (sm_cons sm_var (sm_cons sm_var sm_nil))) (sm_cons (sm_call cvs_nil (sm_cons sm_var (sm_cons sm_var sm_nil))) sm_nil))))))))⟩
/-! #### law: plan -/
set_option maxHeartbeats 0 in
theorem ok_plan (T : Tx K mg w) : FnP P w K mg base tb 5 T.f_plan T.fd_plan P_plan (F_plan T.ca) := by
  have G_names : FnP P w K mg base tb 3 T.f_names T.fd_names P_names (F_names T.ca) := ok_names T
  have G_letters : FnP P w K mg base tb 3 T.f_letters T.fd_letters P_letters (F_letters T.ca) := ok_letters T
  have G_move : FnP P w K mg base tb 4 T.f_move T.fd_move P_move (F_move T.ca) := ok_move T
  have G_pull : FnP P w K mg base tb 1 T.f_pull T.fd_pull P_pull (F_pull T.ca) := ok_pull T
  have G_of : FnP P w K mg base tb 2 T.f_of T.fd_of P_of (F_of T.ca) := ok_of T
  have G_word : FnP P w K mg base tb 3 T.f_word T.fd_word P_word (F_word T.ca) := ok_word T
  exact FnP.of T.F_plan sc_plan fun cdv A outer s H E hr => ⟨_, (pss_cons (ps_set (i := 5) sc_plan.nd rfl (.inl rfl) (pe_call G_names (hr.mono (by decide)) (by rfl) T.g_names T.F_names.kp T.b_names .nil (passes_call (takes_of rfl rfl rfl rfl) (fun _ _ _ _ h => h)) (pa_cons (L2.pv 0) (pa_cons pe_int pa_nil))))
      (pss_cons (ps_set (i := 6) sc_plan.nd rfl (.inl rfl) (pe_slice sl_list (pe_call G_letters (hr.mono (by decide)) (by rfl) T.g_letters T.F_letters.kp T.b_letters .nil (passes_call (takes_of rfl rfl rfl rfl) (fun _ _ _ _ h => h)) (pa_cons (L2.pv 0) pa_nil)) po_none (po_some (pe_op op_add pe_int (pe_call G_pull (hr.mono (by decide)) (by rfl) T.g_pull T.F_pull.kp T.b_pull .nil (passes_call (takes_of rfl rfl rfl rfl) (fun _ _ _ _ h => h)) (pa_cons (L2.pv 0) (pa_cons pe_int pa_nil)))))))
      (pss_cons (ps_set (i := 7) sc_plan.nd rfl (.inl rfl) (pe_disp (pps_cons pe_str (L2.pv 6) (pps_cons pe_str (pe_lst pa_nil) (pps_cons pe_str (pe_lst pa_nil) (pps_cons pe_str (pe_lst pa_nil) (pps_cons pe_str (pe_lst pa_nil) pps_nil))))) (by rfl) (by rfl) (fun z => by cases z) (by decide)))
      (pss_cons (ps_for (passes_of rfl) rfl (pi_range1 (by rfl) T.m_range (pa_cons (L2.pv 1) pa_nil)) (pg_name (i := 8) sc_plan.nd rfl (.inl rfl))
        (pss_cons (ps_set (i := 9) sc_plan.nd rfl (.inl rfl) (pe_slice sl_list (pe_call G_names (hr.mono (by decide)) (by rfl) T.g_names T.F_names.kp T.b_names .nil (passes_call (takes_of rfl rfl rfl rfl) (fun _ _ _ _ h => h)) (pa_cons (L2.pv 0) (pa_cons pe_int pa_nil))) po_none (po_some (pe_op op_add pe_int (pe_call G_pull (hr.mono (by decide)) (by rfl) T.g_pull T.F_pull.kp T.b_pull .nil (passes_call (takes_of rfl rfl rfl rfl) (fun _ _ _ _ h => h)) (pa_cons (L2.pv 0) (pa_cons (L2.pv 2) pa_nil)))))))
        (pss_cons (ps_expr (pe_bm PySem.F.plainAttrs_list PySem.F.slot_list_append PySem.F.type_list_append mt_append (pe_dget (hu_of hr) (L2.pv 7) pe_str (fun _ _ => rfl)) (pa_cons (L2.pv 9) pa_nil)))
        (pss_one (ps_expr (pe_bm PySem.F.plainAttrs_list PySem.F.slot_list_append PySem.F.type_list_append mt_append (pe_dget (hu_of hr) (L2.pv 7) pe_str (fun _ _ => rfl)) (pa_cons (pe_tup (pa_cons (pe_ix ix_list (L2.pv 5) (L2.pv 8) (fun _ _ => rfl)) (pa_cons (pe_call G_of (hr.mono (by decide)) (by rfl) T.g_of T.F_of.kp T.b_of .nil (passes_call (takes_of rfl rfl rfl rfl) (fun _ _ _ _ h => h)) (pa_cons (L2.pv 0) (pa_cons (L2.pv 9) pa_nil))) pa_nil))) pa_nil)))))))
      (pss_cons (ps_for (passes_of rfl) rfl (pi_range1 (by rfl) T.m_range (pa_cons (L2.pv 3) pa_nil)) (pg_name (i := 8) sc_plan.nd rfl (.inl rfl))
        (pss_one (ps_expr (pe_bm PySem.F.plainAttrs_list PySem.F.slot_list_append PySem.F.type_list_append mt_append (pe_dget (hu_of hr) (L2.pv 7) pe_str (fun _ _ => rfl)) (pa_cons (pe_tup (pa_cons (pe_ix ix_list (L2.pv 5) (pe_op op_add pe_int (L2.pv 8)) (fun _ _ => rfl)) (pa_cons (pe_call G_word (hr.mono (by decide)) (by rfl) T.g_word T.F_word.kp T.b_word .nil (passes_call (takes_of rfl rfl rfl rfl) (fun _ _ _ _ h => h)) (pa_cons (L2.pv 0) (pa_cons (L2.pv 6) (pa_cons pe_int pa_nil)))) pa_nil))) pa_nil)))))
      (pss_cons (ps_for (passes_of rfl) rfl (pi_range1 (by rfl) T.m_range (pa_cons (pe_op op_mul (L2.pv 4) (pe_callTy call_int1 (by rfl) T.m_int (by decide +kernel) (pa_cons (pe_cmpR op_gt (L2.pv 1) pe_int (nomark _)) pa_nil))) pa_nil)) (pg_name (i := 8) sc_plan.nd rfl (.inl rfl))
        (pss_one (ps_expr (pe_bm PySem.F.plainAttrs_list PySem.F.slot_list_append PySem.F.type_list_append mt_append (pe_dget (hu_of hr) (L2.pv 7) pe_str (fun _ _ => rfl)) (pa_cons (pe_call G_move (hr.mono (by decide)) (by rfl) T.g_move T.F_move.kp T.b_move .nil (passes_call (takes_of rfl rfl rfl rfl) (fun _ _ _ _ h => h)) (pa_cons (L2.pv 0) (pa_cons (L2.pv 7) pa_nil))) pa_nil)))))
      (pss_one (ps_ret (L2.pv 7))))))))),
    (sm_seq (sm_asg (sm_call cvs_nil (sm_cons sm_var (sm_cons (sm_c cv_int) sm_nil))) sg_nm)
      (sm_seq (sm_asg (sm_sl sms_L (sm_call cvs_nil (sm_cons sm_var sm_nil)) sm_noPart (sm_part (sm_op (smr_I0 fun _ _ => cv_int) (sm_c cv_int) (sm_call cvs_nil (sm_cons sm_var (sm_cons (sm_c cv_int) sm_nil)))))) sg_nm)
      (sm_seq (sm_asg (sm_disp (SmPs.cons (sm_c (cv_str (by decide +kernel))) sm_var (SmPs.cons (sm_c (cv_str (by decide +kernel))) (sm_lst sm_nil) (SmPs.cons (sm_c (cv_str (by decide +kernel))) (sm_lst sm_nil) (SmPs.cons (sm_c (cv_str (by decide +kernel))) (sm_lst sm_nil) (SmPs.cons (sm_c (cv_str (by decide +kernel))) (sm_lst sm_nil) SmPs.nil)))))) sg_nm)
      (sm_seq (sm_for (sm_iR1 (sm_cons sm_var sm_nil)) sg_nm (sm_seq (sm_asg (sm_sl sms_L (sm_call cvs_nil (sm_cons sm_var (sm_cons (sm_c cv_int) sm_nil))) sm_noPart (sm_part (sm_op (smr_I0 fun _ _ => cv_int) (sm_c cv_int) (sm_call cvs_nil (sm_cons sm_var (sm_cons sm_var sm_nil)))))) sg_nm)
      (sm_seq (sm_drop (sm_BM mm_append (sm_dget sm_var (sm_c (cv_str (by decide +kernel)))) (sm_cons sm_var sm_nil)))
      (sm_drop (sm_BM mm_append (sm_dget sm_var (sm_c (cv_str (by decide +kernel)))) (sm_cons (sm_tup (sm_cons (sm_op smr_ixL sm_var sm_var) (sm_cons (sm_call cvs_nil (sm_cons sm_var (sm_cons sm_var sm_nil))) sm_nil))) sm_nil))))))
      (sm_seq (sm_for (sm_iR1 (sm_cons sm_var sm_nil)) sg_nm (sm_drop (sm_BM mm_append (sm_dget sm_var (sm_c (cv_str (by decide +kernel)))) (sm_cons (sm_tup (sm_cons (sm_op smr_ixL sm_var (sm_op (smr_I0 fun _ _ => cv_int) (sm_c cv_int) sm_var)) (sm_cons (sm_call cvs_nil (sm_cons sm_var (sm_cons sm_var (sm_cons (sm_c cv_int) sm_nil)))) sm_nil))) sm_nil))))
      (sm_seq (sm_for (sm_iR1 (sm_cons (sm_op (smr_I fun _ _ => cv_int) sm_var (sm_B sb_int (sm_cons (sm_op (smr_I0 fun _ _ => cv_bl) sm_var (sm_c cv_int)) sm_nil))) sm_nil)) sg_nm (sm_drop (sm_BM mm_append (sm_dget sm_var (sm_c (cv_str (by decide +kernel)))) (sm_cons (sm_call cvs_nil (sm_cons sm_var (sm_cons sm_var sm_nil))) sm_nil))))
      (sm_ret sm_var)))))))⟩
/-! #### law: lab -/
set_option maxHeartbeats 0 in
theorem ok_lab (T : Tx K mg w) : FnP P w K mg base tb 8 T.f_lab T.fd_lab P_lab (F_lab T.ca) := by
  have G_Lab_init : FnP P w K mg base tb 6 T.f_Lab_init T.fd_Lab_init P_Lab_init (F_Lab_init T.ca) := ok_Lab_init T
  exact FnP.of T.F_lab sc_lab fun cdv A outer s H E hr => ⟨_, (pss_one (ps_ret (pe_make T.mk_Lab G_Lab_init (hr.mono (by decide)) (by rfl) T.gC_Lab T.b_Lab_init_4 T.dv_Lab_init_4 (passes_call (takes_of rfl rfl rfl rfl) (fun _ _ _ _ h => h)) (pa_cons (pe_callTy call_list_of (by rfl) T.m_list (by decide +kernel) (pa_cons (pe_dget (hu_of hr) (L2.pv 0) pe_str (fun _ _ => rfl)) pa_nil)) (pa_cons (pe_callTy call_list_of (by rfl) T.m_list (by decide +kernel) (pa_cons (pe_dget (hu_of hr) (L2.pv 0) pe_str (fun _ _ => rfl)) pa_nil)) (pa_cons (pe_callTy call_list_of (by rfl) T.m_list (by decide +kernel) (pa_cons (pe_dget (hu_of hr) (L2.pv 0) pe_str (fun _ _ => rfl)) pa_nil)) pa_nil)))))),
    (sm_ret (sm_make cvs_nil (sm_cons (sm_B sb_lst (sm_cons (sm_dget sm_var (sm_c (cv_str (by decide +kernel)))) sm_nil)) (sm_cons (sm_B sb_lst (sm_cons (sm_dget sm_var (sm_c (cv_str (by decide +kernel)))) sm_nil)) (sm_cons (sm_B sb_lst (sm_cons (sm_dget sm_var (sm_c (cv_str (by decide +kernel)))) sm_nil)) sm_nil)))))⟩
/-! #### law: begin -/
set_option maxHeartbeats 0 in
theorem ok_begin (T : Tx K mg w) : FnP P w K mg base tb 1 T.f_begin T.fd_begin P_begin (F_begin T.ca) := by
  exact FnP.of T.F_begin sc_begin fun cdv A outer s H E hr => ⟨_, (pss_one (ps_ret (pe_tup (pa_cons (pe_callTy call_tuple_of (by rfl) T.m_tuple (by decide +kernel) (pa_cons (pe_lc (own := [("_law_name", 1), ("_law_first", 2)]) (g := (gTup K 2 (gCons (gName 1) (gCons (gName 2) gNil)))) (tt := tYes) (by rfl) sc_begin.nd (pi_list (pe_dget (hu_of hr) (L2.pv 0) pe_str (fun _ _ => rfl))) (blkOk_by (own := [("_law_name", 1), ("_law_first", 2)]) (N := N_begin) (sc := defScope s_begin) (by decide +kernel)) (fun _ _ _ _ _ => (pg_tup (by rfl) (pgs_cons (pg_name (i := 1) sc_begin.nd rfl (.inl rfl)) (pgs_cons (pg_name (i := 2) sc_begin.nd rfl (.inl rfl)) pgs_nil)))) (fun _ _ _ _ _ => pts_nil) (fun _ _ _ _ _ => (L2.pv 2))) pa_nil)) (pa_cons (pe_callTy call_tuple_of (by rfl) T.m_tuple (by decide +kernel) (pa_cons (pe_lc (own := [("_law_name", 1), ("_law_word_here", 3)]) (g := (gTup K 2 (gCons (gName 1) (gCons (gName 3) gNil)))) (tt := tYes) (by rfl) sc_begin.nd (pi_list (pe_dget (hu_of hr) (L2.pv 0) pe_str (fun _ _ => rfl))) (blkOk_by (own := [("_law_name", 1), ("_law_word_here", 3)]) (N := N_begin) (sc := defScope s_begin) (by decide +kernel)) (fun _ _ _ _ _ => (pg_tup (by rfl) (pgs_cons (pg_name (i := 1) sc_begin.nd rfl (.inl rfl)) (pgs_cons (pg_name (i := 3) sc_begin.nd rfl (.inl rfl)) pgs_nil)))) (fun _ _ _ _ _ => pts_nil) (fun _ _ _ _ _ => (L2.pv 3))) pa_nil)) pa_nil))))),
    (sm_ret (sm_tup (sm_cons (sm_gc (sm_B sb_tup (sm_cons (sm_lc (sm_iL (sm_dget sm_var (sm_c (cv_str (by decide +kernel))))) (sg_tup (sg_cons sg_nm (sg_cons sg_nm sg_nil)) (cnt_cons (cnt_cons cnt_nil))) sm_yes sm_var (by decide)) sm_nil))) (sm_cons (sm_gc (sm_B sb_tup (sm_cons (sm_lc (sm_iL (sm_dget sm_var (sm_c (cv_str (by decide +kernel))))) (sg_tup (sg_cons sg_nm (sg_cons sg_nm sg_nil)) (cnt_cons (cnt_cons cnt_nil))) sm_yes sm_var (by decide)) sm_nil))) sm_nil))))⟩
/-! #### law: lab_lines -/
set_option maxHeartbeats 0 in
theorem ok_lab_lines (T : Tx K mg w) : FnP P w K mg base tb 1 T.f_lab_lines T.fd_lab_lines P_lab_lines (F_lab_lines T.ca) := by
  exact FnP.of T.F_lab_lines sc_lab_lines fun cdv A outer s H E hr => ⟨_, (pss_cons (ps_setLc (i := 2) (own := [("_law_name", 1), ("_law_first", 6)]) (g := (gTup K 2 (gCons (gName 1) (gCons (gName 6) gNil)))) (tt := tYes) (by rfl) sc_lab_lines.nd rfl rfl (sw_true rfl rfl rfl (by decide +kernel)) (pi_list (pe_dget (hu_of hr) (L2.pv 0) pe_str (fun _ _ => rfl))) (blkOk_by (own := [("_law_name", 1), ("_law_first", 6)]) (N := N_lab_lines) (sc := defScope s_lab_lines) (by decide +kernel)) (fun _ _ _ _ _ => (pg_tup (by rfl) (pgs_cons (pg_name (i := 1) sc_lab_lines.nd rfl (.inl rfl)) (pgs_cons (pg_name (i := 6) sc_lab_lines.nd rfl (.inl rfl)) pgs_nil)))) (fun _ _ _ _ _ => pts_nil) (fun _ _ _ _ _ => (pe_op op_add_str (pe_op op_add_str (pe_op op_add_str pe_str (L2.pv 1)) pe_str) (L2.pv 6))))
      (pss_cons (ps_set (i := 2) sc_lab_lines.nd rfl (.inl rfl) (pe_op op_cat (L2.pv 2) (pe_lc (own := [("_law_name", 1), ("_law_word_here", 7)]) (g := (gTup K 2 (gCons (gName 1) (gCons (gName 7) gNil)))) (tt := tYes) (by rfl) sc_lab_lines.nd (pi_list (pe_dget (hu_of hr) (L2.pv 0) pe_str (fun _ _ => rfl))) (blkOk_by (own := [("_law_name", 1), ("_law_word_here", 7)]) (N := N_lab_lines) (sc := defScope s_lab_lines) (by decide +kernel)) (fun _ _ _ _ _ => (pg_tup (by rfl) (pgs_cons (pg_name (i := 1) sc_lab_lines.nd rfl (.inl rfl)) (pgs_cons (pg_name (i := 7) sc_lab_lines.nd rfl (.inl rfl)) pgs_nil)))) (fun _ _ _ _ _ => pts_nil) (fun _ _ _ _ _ => (pe_op op_add_str (pe_op op_add_str (pe_op op_add_str pe_str (L2.pv 1)) pe_str) (pe_orT (L2.pv 7) (pe_one pe_str)))))))
      (pss_cons (ps_for (passes_of rfl) rfl (pi_list (pe_dget (hu_of hr) (L2.pv 0) pe_str (fun _ _ => rfl))) (pg_tup (by rfl) (pgs_cons (pg_name (i := 1) sc_lab_lines.nd rfl (.inl rfl)) (pgs_cons (pg_name (i := 3) sc_lab_lines.nd rfl (.inl rfl)) (pgs_cons (pg_name (i := 4) sc_lab_lines.nd rfl (.inl rfl)) (pgs_cons (pg_name (i := 5) sc_lab_lines.nd rfl (.inl rfl)) pgs_nil)))))
        (pss_one (ps_expr (pe_bm PySem.F.plainAttrs_list PySem.F.slot_list_append PySem.F.type_list_append mt_append (L2.pv 2) (pa_cons (pe_join pe_str (pe_lst (pa_cons pe_str (pa_cons (L2.pv 1) (pa_cons (L2.pv 3) (pa_cons (pe_join pe_str (L2.pv 4)) (pa_cons (L2.pv 5) pa_nil))))))) pa_nil)))))
      (pss_one (ps_ret (L2.pv 2)))))),
    (sm_seq (sm_asg (sm_lc (sm_iL (sm_dget sm_var (sm_c (cv_str (by decide +kernel))))) (sg_tup (sg_cons sg_nm (sg_cons sg_nm sg_nil)) (cnt_cons (cnt_cons cnt_nil))) sm_yes (sm_op smr_addS (sm_op smr_addS (sm_op smr_addS (sm_c (cv_str (by decide +kernel))) sm_var) (sm_c (cv_str (by decide +kernel)))) sm_var) (by decide)) sg_nm)
      (sm_seq (sm_asg (sm_op smr_addL sm_var (sm_lc (sm_iL (sm_dget sm_var (sm_c (cv_str (by decide +kernel))))) (sg_tup (sg_cons sg_nm (sg_cons sg_nm sg_nil)) (cnt_cons (cnt_cons cnt_nil))) sm_yes (sm_op smr_addS (sm_op smr_addS (sm_op smr_addS (sm_c (cv_str (by decide +kernel))) sm_var) (sm_c (cv_str (by decide +kernel)))) (sm_orT sm_var (sm_c (cv_str (by decide +kernel))))) (by decide))) sg_nm)
      (sm_seq (sm_for (sm_iL (sm_dget sm_var (sm_c (cv_str (by decide +kernel))))) (sg_tup (sg_cons sg_nm (sg_cons sg_nm (sg_cons sg_nm (sg_cons sg_nm sg_nil)))) (cnt_cons (cnt_cons (cnt_cons (cnt_cons cnt_nil))))) (sm_drop (sm_BM mm_append sm_var (sm_cons (sm_gc (sm_M1 mm_join (sm_c (cv_str (by decide +kernel))) (sm_lst (sm_cons (sm_c (cv_str (by decide +kernel))) (sm_cons sm_var (sm_cons sm_var (sm_cons (sm_M1 mm_join (sm_c (cv_str (by decide +kernel))) sm_var) (sm_cons sm_var sm_nil)))))))) sm_nil))))
      (sm_ret sm_var))))⟩
/-! #### law: text_of -/
set_option maxHeartbeats 0 in
theorem ok_text_of (T : Tx K mg w) : FnP P w K mg base tb 1 T.f_text_of T.fd_text_of P_text_of (F_text_of T.ca) := by
  exact FnP.of T.F_text_of sc_text_of fun cdv A outer s H E hr => ⟨_, (pss_one (ps_ret (pe_join pe_str (pe_lc (own := [("_law_line", 1)]) (g := (gName 1)) (tt := tYes) (by rfl) sc_text_of.nd (pi_list (L2.pv 0)) (blkOk_by (own := [("_law_line", 1)]) (N := N_text_of) (sc := defScope s_text_of) (by decide +kernel)) (fun _ _ _ _ _ => (pg_name (i := 1) sc_text_of.nd rfl (.inl rfl))) (fun _ _ _ _ _ => pts_nil) (fun _ _ _ _ _ => (pe_op op_add_str (L2.pv 1) pe_str)))))),
    (sm_ret (sm_gc (sm_M1 mm_join (sm_c (cv_str (by decide +kernel))) (sm_lc (sm_iL sm_var) sg_nm sm_yes (sm_op smr_addS sm_var (sm_c (cv_str (by decide +kernel)))) (by decide)))))⟩

set_option maxHeartbeats 0 in
theorem ok_law_at {P : Program} {w : World} {K : PySem.W.Frag} {mg : Str → Option Value} {base : Heap} (T : Tx K mg w) : FnOk P w K mg base CX0 14 T.f_law T.fd_law P_law (sp_law K) := by
  have G_bag : FnOk P w K mg base (L2.CX P w) 1 T.f_bag T.fd_bag P_bag (sp_bag K) := fn_any (ok_bag T)
  have G_Lab_eq : FnP P w K mg base [] 8 T.f_Lab_eq T.fd_Lab_eq P_Lab_eq (F_Lab_eq T.ca) := ok_Lab_eq T
  have G_plan : FnP P w K mg base [] 5 T.f_plan T.fd_plan P_plan (F_plan T.ca) := ok_plan T
  have G_lab : FnP P w K mg base [] 8 T.f_lab T.fd_lab P_lab (F_lab T.ca) := ok_lab T
  have G_text_of : FnP P w K mg base [] 1 T.f_text_of T.fd_text_of P_text_of (F_text_of T.ca) := ok_text_of T
  have G_p_read_lab : FnP P w K mg base [] 9 T.f_p_read_lab T.fd_p_read_lab P_p_read_lab (F_p_read_lab T.ca) := ok_p_read_lab T
  have G_Lab_machines : FnP P w K mg base [] 1 T.f_Lab_machines T.fd_Lab_machines P_Lab_machines (F_Lab_machines T.ca) := ok_Lab_machines T
  have G_Lab_rows : FnP P w K mg base [] 1 T.f_Lab_rows T.fd_Lab_rows P_Lab_rows (F_Lab_rows T.ca) := ok_Lab_rows T
  have G_Lab_moves : FnP P w K mg base [] 1 T.f_Lab_moves T.fd_Lab_moves P_Lab_moves (F_Lab_moves T.ca) := ok_Lab_moves T
  have G_Lab_begin : FnP P w K mg base [] 1 T.f_Lab_begin T.fd_Lab_begin P_Lab_begin (F_Lab_begin T.ca) := ok_Lab_begin T
  have G_pull : FnP P w K mg base [] 1 T.f_pull T.fd_pull P_pull (F_pull T.ca) := ok_pull T
  have G_lab_lines : FnP P w K mg base [] 1 T.f_lab_lines T.fd_lab_lines P_lab_lines (F_lab_lines T.ca) := ok_lab_lines T
  have G_same : FnP P w K mg base [] 5 T.f_same T.fd_same P_same (F_same 4) := ok_sameP T
  have G_begin : FnP P w K mg base [] 1 T.f_begin T.fd_begin P_begin (F_begin T.ca) := ok_begin T
  have G_p_lab_text : FnP P w K mg base [] 6 T.f_p_lab_text T.fd_p_lab_text P_p_lab_text (F_p_lab_text T.ca) := ok_p_lab_text T
  have G_Lab_init : FnP P w K mg base [] 6 T.f_Lab_init T.fd_Lab_init P_Lab_init (F_Lab_init T.ca) := ok_Lab_init T
  have G_Lab_str : FnP P w K mg base [] 3 T.f_Lab_str T.fd_Lab_str P_Lab_str (F_Lab_str T.ca) := ok_Lab_str T
  refine T.F_law.ok sc_law (fun vs H Q E h => ?_) (fun cdv A outer s H vs Q E hr h => ?_)
  · obtain ⟨a, ns, rfl, _⟩ := h
    rfl
  · obtain ⟨a, ns, rfl, hS, hlen, q⟩ := h
    refine law_cut (tb := []) (E := E) (B := B_law T.ca) (ps_set (i := 1) sc_law.nd rfl (.inl rfl) (pe_call G_bag (hr.mono (by decide)) (by rfl) T.g_bag T.F_bag.kp T.b_bag .nil passL (pa_cons (L2.pv 0) pa_nil))) ?_ fun tr hsm => ?_
    · refine ⟨_, (pss_cons (ps_for PassesOwn.never rfl (pi_range1 (by rfl) T.m_range (pa_cons pe_int pa_nil)) (pg_name (i := 2) sc_law.nd rfl (.inl rfl))
        (pss_cons (ps_set (i := 3) sc_law.nd rfl (.inl rfl) (pe_call G_plan (hr.mono (by decide)) (by rfl) T.g_plan T.F_plan.kp T.b_plan .nil passL (pa_cons (L2.pv 1) (pa_cons (pe_call G_pull (hr.mono (by decide)) (by rfl) T.g_pull T.F_pull.kp T.b_pull .nil passL (pa_cons (L2.pv 1) (pa_cons pe_int pa_nil))) (pa_cons pe_int (pa_cons (pe_call G_pull (hr.mono (by decide)) (by rfl) T.g_pull T.F_pull.kp T.b_pull .nil passL (pa_cons (L2.pv 1) (pa_cons pe_int pa_nil))) (pa_cons (pe_call G_pull (hr.mono (by decide)) (by rfl) T.g_pull T.F_pull.kp T.b_pull .nil passL (pa_cons (L2.pv 1) (pa_cons pe_int pa_nil))) pa_nil)))))))
        (pss_cons (ps_set (i := 4) sc_law.nd rfl (.inl rfl) (pe_call G_lab (hr.mono (by decide)) (by rfl) T.g_lab T.F_lab.kp T.b_lab .nil passL (pa_cons (L2.pv 3) pa_nil)))
        (pss_cons (ps_set (i := 5) sc_law.nd rfl (.inl rfl) (pe_call G_text_of (hr.mono (by decide)) (by rfl) T.g_text_of T.F_text_of.kp T.b_text_of .nil passL (pa_cons (pe_call G_lab_lines (hr.mono (by decide)) (by rfl) T.g_lab_lines T.F_lab_lines.kp T.b_lab_lines .nil passL (pa_cons (L2.pv 3) pa_nil)) pa_nil)))
        (pss_cons (ps_if (pt_not (pt_val (pe_call G_same (hr.mono (by decide)) (by rfl) T.g_same T.F_same.kp T.b_same .nil passL (pa_cons (pe_lst (pa_cons (pe_call G_p_lab_text (hr.mono (by decide)) (by rfl) T.g_p_lab_text T.F_p_lab_text.kp T.b_p_lab_text .nil passL (pa_cons (L2.pv 4) pa_nil)) (pa_cons (pe_callTy (call_strOwn (fn_none G_Lab_str) (hr.mono (by decide)) T.me_Lab_str T.b_Lab_str) (by rfl) T.m_str (by decide +kernel) (pa_cons (L2.pv 4) pa_nil)) pa_nil))) (pa_cons (pe_lst (pa_cons (L2.pv 5) (pa_cons (L2.pv 5) pa_nil))) pa_nil)))))
          (pss_one (ps_ret pe_bl))
          pss_nil)
        (pss_cons (ps_set (i := 6) sc_law.nd rfl (.inl rfl) (pe_call G_p_read_lab (hr.mono (by decide)) (by rfl) T.g_p_read_lab T.F_p_read_lab.kp T.b_p_read_lab .nil passL (pa_cons (L2.pv 5) pa_nil)))
        (pss_cons (ps_set (i := 7) sc_law.nd rfl (.inl rfl) (pe_lst (pa_cons (pe_meth0 (L2.pv 6) T.cl_Lab T.me_Lab_machines G_Lab_machines (hr.mono (by decide)) T.b_Lab_machines .nil passL) (pa_cons (pe_meth0 (L2.pv 6) T.cl_Lab T.me_Lab_rows G_Lab_rows (hr.mono (by decide)) T.b_Lab_rows .nil passL) (pa_cons (pe_meth0 (L2.pv 6) T.cl_Lab T.me_Lab_moves G_Lab_moves (hr.mono (by decide)) T.b_Lab_moves .nil passL) (pa_cons (pe_meth0 (L2.pv 6) T.cl_Lab T.me_Lab_begin G_Lab_begin (hr.mono (by decide)) T.b_Lab_begin .nil passL) pa_nil))))))
        (pss_cons (ps_set (i := 8) sc_law.nd rfl (.inl rfl) (pe_lst (pa_cons (pe_dget (hu_of hr) (L2.pv 3) pe_str (fun _ _ => rfl)) (pa_cons (pe_dget (hu_of hr) (L2.pv 3) pe_str (fun _ _ => rfl)) (pa_cons (pe_dget (hu_of hr) (L2.pv 3) pe_str (fun _ _ => rfl)) (pa_cons (pe_call G_begin (hr.mono (by decide)) (by rfl) T.g_begin T.F_begin.kp T.b_begin .nil passL (pa_cons (L2.pv 3) pa_nil)) pa_nil))))))
        (pss_one (ps_if (PW.pt (pw_or (pt_not (pt_val (pe_call G_same (hr.mono (by decide)) (by rfl) T.g_same T.F_same.kp T.b_same .nil passL (pa_cons (L2.pv 7) (pa_cons (L2.pv 8) pa_nil))))) (pw_or1 (pt_cmpR (op_ownNe (fn_none G_Lab_eq) (hr.mono (by decide)) T.me_Lab_eq T.oc_Lab.own T.b_Lab_eq) (L2.pv 6) (L2.pv 4) (nomark _)))))
          (pss_one (ps_ret pe_bl))
          pss_nil))))))))))
      (pss_one (ps_ret (pe_and (pe_cmpR op_eq (pe_call G_p_lab_text (hr.mono (by decide)) (by rfl) T.g_p_lab_text T.F_p_lab_text.kp T.b_p_lab_text .nil passL (pa_cons (pe_make0 T.mk_Lab G_Lab_init (hr.mono (by decide)) (by rfl) T.gC_Lab T.b_Lab_init_1 T.dv_Lab_init_1 passL) pa_nil)) pe_str (nomark _)) (pe_one (pe_cmpR (op_own G_Lab_eq (hr.mono (by decide)) T.me_Lab_eq.at_ T.me_Lab_eq.fn T.b_Lab_eq passL) (pe_call G_p_read_lab (hr.mono (by decide)) (by rfl) T.g_p_read_lab T.F_p_read_lab.kp T.b_p_read_lab .nil passL (pa_cons pe_str pa_nil)) (pe_make0 T.mk_Lab G_Lab_init (hr.mono (by decide)) (by rfl) T.gC_Lab T.b_Lab_init_1 T.dv_Lab_init_1 passL) (nomark _))))))), ?_⟩
      exact (sm_seq (sm_for (sm_iR1 (sm_cons (sm_c cv_int) sm_nil)) sg_nm (sm_seq (sm_asg (sm_callN cvs_nil (sm_cons sm_var (sm_cons (sm_callN cvs_nil (sm_cons sm_var (sm_cons (sm_c cv_int) sm_nil))) (sm_cons (sm_c cv_int) (sm_cons (sm_callN cvs_nil (sm_cons sm_var (sm_cons (sm_c cv_int) sm_nil))) (sm_cons (sm_callN cvs_nil (sm_cons sm_var (sm_cons (sm_c cv_int) sm_nil))) sm_nil)))))) sg_nm)
      (sm_seq (sm_asg (sm_callN cvs_nil (sm_cons sm_var sm_nil)) sg_nm)
      (sm_seq (sm_asg (sm_callN cvs_nil (sm_cons (sm_callN cvs_nil (sm_cons sm_var sm_nil)) sm_nil)) sg_nm)
      (sm_seq (sm_ifS (sm_not (sm_tB (sm_callN cvs_nil (sm_cons (sm_lst (sm_cons (sm_callN cvs_nil (sm_cons sm_var sm_nil)) (sm_cons (sm_B sb_reprOwn (sm_cons sm_var sm_nil)) sm_nil))) (sm_cons (sm_lst (sm_cons sm_var (sm_cons sm_var sm_nil))) sm_nil))))) (sm_ret (sm_c cv_bl)) sm_next)
      (sm_seq (sm_asg (sm_callN cvs_nil (sm_cons sm_var sm_nil)) sg_nm)
      (sm_seq (sm_asg (sm_lst (sm_cons (sm_methN cvs_nil sm_var sm_nil) (sm_cons (sm_methN cvs_nil sm_var sm_nil) (sm_cons (sm_methN cvs_nil sm_var sm_nil) (sm_cons (sm_methN cvs_nil sm_var sm_nil) sm_nil))))) sg_nm)
      (sm_seq (sm_asg (sm_lst (sm_cons (sm_dget sm_var (sm_c (cv_str (by decide +kernel)))) (sm_cons (sm_dget sm_var (sm_c (cv_str (by decide +kernel)))) (sm_cons (sm_dget sm_var (sm_c (cv_str (by decide +kernel)))) (sm_cons (sm_callN cvs_nil (sm_cons sm_var sm_nil)) sm_nil))))) sg_nm)
      (sm_ifS (sm_or (sm_not (sm_tB (sm_callN cvs_nil (sm_cons sm_var (sm_cons sm_var sm_nil))))) (sm_test (sm_op smr_ownNe sm_var sm_var))) (sm_ret (sm_c cv_bl)) sm_next)))))))))
      (sm_ret (sm_andV (sm_op smr_eq (sm_callN cvs_nil (sm_cons (sm_makeN (cvs_cons cv_adr (cvs_cons cv_adr (cvs_cons cv_adr cvs_nil))) sm_nil) sm_nil)) (sm_c (cv_str (by decide +kernel)))) (sm_op smr_own (sm_callN cvs_nil (sm_cons (sm_c (cv_str (by decide +kernel))) sm_nil)) (sm_makeN (cvs_cons cv_adr (cvs_cons cv_adr (cvs_cons cv_adr cvs_nil))) sm_nil)))))
    refine ⟨.ref a, rfl, a, ns, rfl, hS, hlen, fun H1 b cl s1 hB nb => ?_⟩
    exact Pu.law_end (t := tr) (tb := []) (n := 7) (B := B_law T.ca) hsm hB (fun _ h => nomatch h) (law_pure T.ca) q
end
set_option maxHeartbeats 0 in
theorem all_mk {l : PySem.W.OpenLaw} {w : World} {K : PySem.W.Frag} {h : Heap} {mg : Str → Option Value} {fa : Addr} (X : K.In h) (G : h.Ns mainGlobals mg) (hfa : mg "law" = some (.ref fa))
    {f0 : Addr} {od0 an0 : Option Addr} {sl0 : Array (Option Value)} {oc0 kV0 dc0 pm0 cd0 ct0 : Value}
    {td0 : Addr} {ot0 : Value} {ht0 : Option Addr} {st0 : Array (Option Value)} {nt0 : Nat}
    {w0_0 : Tok}
    {w0_1 : Tok}
    {f1 : Addr} {od1 an1 : Option Addr} {sl1 : Array (Option Value)} {oc1 kV1 dc1 pm1 cd1 ct1 : Value}
    {td1 : Addr} {ot1 : Value} {ht1 : Option Addr} {st1 : Array (Option Value)} {nt1 : Nat}
    {w1_0 : Tok}
    {f2 : Addr} {od2 an2 : Option Addr} {sl2 : Array (Option Value)} {oc2 kV2 dc2 pm2 cd2 ct2 : Value}
    {td2 : Addr} {ot2 : Value} {ht2 : Option Addr} {st2 : Array (Option Value)} {nt2 : Nat}
    {w2_0 : Tok}
    {f3 : Addr} {od3 an3 : Option Addr} {sl3 : Array (Option Value)} {oc3 kV3 dc3 pm3 cd3 ct3 : Value}
    {td3 : Addr} {ot3 : Value} {ht3 : Option Addr} {st3 : Array (Option Value)} {nt3 : Nat}
    {w3_0 : Tok}
    {f4 : Addr} {od4 an4 : Option Addr} {sl4 : Array (Option Value)} {oc4 kV4 dc4 pm4 cd4 ct4 : Value}
    {td4 : Addr} {ot4 : Value} {ht4 : Option Addr} {st4 : Array (Option Value)} {nt4 : Nat}
    {w4_0 : Tok}
    {f5 : Addr} {od5 an5 : Option Addr} {sl5 : Array (Option Value)} {oc5 kV5 dc5 pm5 cd5 ct5 : Value}
    {td5 : Addr} {ot5 : Value} {ht5 : Option Addr} {st5 : Array (Option Value)} {nt5 : Nat}
    {w5_0 : Tok}
    {f6 : Addr} {od6 an6 : Option Addr} {sl6 : Array (Option Value)} {oc6 kV6 dc6 pm6 cd6 ct6 : Value}
    {td6 : Addr} {ot6 : Value} {ht6 : Option Addr} {st6 : Array (Option Value)} {nt6 : Nat}
    {w6_0 : Tok}
    {f7 : Addr} {od7 an7 : Option Addr} {sl7 : Array (Option Value)} {oc7 kV7 dc7 pm7 cd7 ct7 : Value}
    {td7 : Addr} {ot7 : Value} {ht7 : Option Addr} {st7 : Array (Option Value)} {nt7 : Nat}
    {w7_0 : Tok}
    {f8 : Addr} {od8 an8 : Option Addr} {sl8 : Array (Option Value)} {oc8 kV8 dc8 pm8 cd8 ct8 : Value}
    {td8 : Addr} {ot8 : Value} {ht8 : Option Addr} {st8 : Array (Option Value)} {nt8 : Nat}
    {w8_0 : Tok}
    {f9 : Addr} {od9 an9 : Option Addr} {sl9 : Array (Option Value)} {oc9 kV9 dc9 pm9 cd9 ct9 : Value}
    {f10 : Addr} {od10 an10 : Option Addr} {sl10 : Array (Option Value)} {oc10 kV10 dc10 pm10 cd10 ct10 : Value}
    {f11 : Addr} {od11 an11 : Option Addr} {sl11 : Array (Option Value)} {oc11 kV11 dc11 pm11 cd11 ct11 : Value}
    {f12 : Addr} {od12 an12 : Option Addr} {sl12 : Array (Option Value)} {oc12 kV12 dc12 pm12 cd12 ct12 : Value}
    {f13 : Addr} {od13 an13 : Option Addr} {sl13 : Array (Option Value)} {oc13 kV13 dc13 pm13 cd13 ct13 : Value}
    {f14 : Addr} {od14 an14 : Option Addr} {sl14 : Array (Option Value)} {oc14 kV14 dc14 pm14 cd14 ct14 : Value}
    {f15 : Addr} {od15 an15 : Option Addr} {sl15 : Array (Option Value)} {oc15 kV15 dc15 pm15 cd15 ct15 : Value}
    {f16 : Addr} {od16 an16 : Option Addr} {sl16 : Array (Option Value)} {oc16 kV16 dc16 pm16 cd16 ct16 : Value}
    {f17 : Addr} {od17 an17 : Option Addr} {sl17 : Array (Option Value)} {oc17 kV17 dc17 pm17 cd17 ct17 : Value}
    {f18 : Addr} {od18 an18 : Option Addr} {sl18 : Array (Option Value)} {oc18 kV18 dc18 pm18 cd18 ct18 : Value}
    {f19 : Addr} {od19 an19 : Option Addr} {sl19 : Array (Option Value)} {oc19 kV19 dc19 pm19 cd19 ct19 : Value}
    {f20 : Addr} {od20 an20 : Option Addr} {sl20 : Array (Option Value)} {oc20 kV20 dc20 pm20 cd20 ct20 : Value}
    {f21 : Addr} {od21 an21 : Option Addr} {sl21 : Array (Option Value)} {oc21 kV21 dc21 pm21 cd21 ct21 : Value}
    {f22 : Addr} {od22 an22 : Option Addr} {sl22 : Array (Option Value)} {oc22 kV22 dc22 pm22 cd22 ct22 : Value}
    {f23 : Addr} {od23 an23 : Option Addr} {sl23 : Array (Option Value)} {oc23 kV23 dc23 pm23 cd23 ct23 : Value}
    {td23 : Addr} {ot23 : Value} {ht23 : Option Addr} {st23 : Array (Option Value)} {nt23 : Nat}
    {w23_0 : Addr}
    {w23_1 : Addr}
    {w23_2 : Addr}
    {f24 : Addr} {od24 an24 : Option Addr} {sl24 : Array (Option Value)} {oc24 kV24 dc24 pm24 cd24 ct24 : Value}
    {f25 : Addr} {od25 an25 : Option Addr} {sl25 : Array (Option Value)} {oc25 kV25 dc25 pm25 cd25 ct25 : Value}
    {f26 : Addr} {od26 an26 : Option Addr} {sl26 : Array (Option Value)} {oc26 kV26 dc26 pm26 cd26 ct26 : Value}
    {f27 : Addr} {od27 an27 : Option Addr} {sl27 : Array (Option Value)} {oc27 kV27 dc27 pm27 cd27 ct27 : Value}
    {f28 : Addr} {od28 an28 : Option Addr} {sl28 : Array (Option Value)} {oc28 kV28 dc28 pm28 cd28 ct28 : Value}
    {f29 : Addr} {od29 an29 : Option Addr} {sl29 : Array (Option Value)} {oc29 kV29 dc29 pm29 cd29 ct29 : Value}
    {f30 : Addr} {od30 an30 : Option Addr} {sl30 : Array (Option Value)} {oc30 kV30 dc30 pm30 cd30 ct30 : Value}
    {f31 : Addr} {od31 an31 : Option Addr} {sl31 : Array (Option Value)} {oc31 kV31 dc31 pm31 cd31 ct31 : Value}
    {f32 : Addr} {od32 an32 : Option Addr} {sl32 : Array (Option Value)} {oc32 kV32 dc32 pm32 cd32 ct32 : Value}
    {f33 : Addr} {od33 an33 : Option Addr} {sl33 : Array (Option Value)} {oc33 kV33 dc33 pm33 cd33 ct33 : Value}
    {f34 : Addr} {od34 an34 : Option Addr} {sl34 : Array (Option Value)} {oc34 kV34 dc34 pm34 cd34 ct34 : Value}
    {f35 : Addr} {od35 an35 : Option Addr} {sl35 : Array (Option Value)} {oc35 kV35 dc35 pm35 cd35 ct35 : Value}
    {f36 : Addr} {od36 an36 : Option Addr} {sl36 : Array (Option Value)} {oc36 kV36 dc36 pm36 cd36 ct36 : Value}
    {f37 : Addr} {od37 an37 : Option Addr} {sl37 : Array (Option Value)} {oc37 kV37 dc37 pm37 cd37 ct37 : Value}
    {f38 : Addr} {od38 an38 : Option Addr} {sl38 : Array (Option Value)} {oc38 kV38 dc38 pm38 cd38 ct38 : Value}
    {f39 : Addr} {od39 an39 : Option Addr} {sl39 : Array (Option Value)} {oc39 kV39 dc39 pm39 cd39 ct39 : Value}
    {f40 : Addr} {od40 an40 : Option Addr} {sl40 : Array (Option Value)} {oc40 kV40 dc40 pm40 cd40 ct40 : Value}
    {f41 : Addr} {od41 an41 : Option Addr} {sl41 : Array (Option Value)} {oc41 kV41 dc41 pm41 cd41 ct41 : Value}
    {f42 : Addr} {od42 an42 : Option Addr} {sl42 : Array (Option Value)} {oc42 kV42 dc42 pm42 cd42 ct42 : Value}
    {f43 : Addr} {od43 an43 : Option Addr} {sl43 : Array (Option Value)} {oc43 kV43 dc43 pm43 cd43 ct43 : Value}
    {f44 : Addr} {od44 an44 : Option Addr} {sl44 : Array (Option Value)} {oc44 kV44 dc44 pm44 cd44 ct44 : Value}
    {f45 : Addr} {od45 an45 : Option Addr} {sl45 : Array (Option Value)} {oc45 kV45 dc45 pm45 cd45 ct45 : Value}
    {f46 : Addr} {od46 an46 : Option Addr} {sl46 : Array (Option Value)} {oc46 kV46 dc46 pm46 cd46 ct46 : Value}
    {f47 : Addr} {od47 an47 : Option Addr} {sl47 : Array (Option Value)} {oc47 kV47 dc47 pm47 cd47 ct47 : Value}
    {f48 : Addr} {od48 an48 : Option Addr} {sl48 : Array (Option Value)} {oc48 kV48 dc48 pm48 cd48 ct48 : Value}
    {f49 : Addr} {od49 an49 : Option Addr} {sl49 : Array (Option Value)} {oc49 kV49 dc49 pm49 cd49 ct49 : Value}
    {f50 : Addr} {od50 an50 : Option Addr} {sl50 : Array (Option Value)} {oc50 kV50 dc50 pm50 cd50 ct50 : Value}
    {f51 : Addr} {od51 an51 : Option Addr} {sl51 : Array (Option Value)} {oc51 kV51 dc51 pm51 cd51 ct51 : Value}
    {q0 : Addr}
    {q1 : Addr}
    {q2 : Addr}
    {q3 : Addr}
    {q4 : Addr}
    {q5 : Addr}
    {q6 : Addr}
    {q7 : Addr}
    {q8 : Addr}
    {q9 : Addr}
    {q0nm q0qn : Str} {q0N : Addr} {q0bs q0sub : List Value} {q0sn : List Str} {q0ab : Bool} {q0col : Option Bool} {q0dd : Option Addr} {q0m0 q0m1 q0m2 q0m3 q0m5 : Option Value}
    {q1nm q1qn : Str} {q1N : Addr} {q1bs q1sub : List Value} {q1sn : List Str} {q1ab : Bool} {q1col : Option Bool} {q1dd : Option Addr} {q1m0 q1m1 q1m2 q1m3 q1m5 : Option Value}
    {q2nm q2qn : Str} {q2N : Addr} {q2bs q2sub : List Value} {q2sn : List Str} {q2ab : Bool} {q2col : Option Bool} {q2dd : Option Addr} {q2m0 q2m1 q2m2 q2m3 q2m5 : Option Value}
    {q3nm q3qn : Str} {q3N : Addr} {q3bs q3sub : List Value} {q3sn : List Str} {q3ab : Bool} {q3col : Option Bool} {q3dd : Option Addr} {q3m0 q3m1 q3m2 q3m3 q3m5 : Option Value}
    {q4nm q4qn : Str} {q4N : Addr} {q4bs q4sub : List Value} {q4sn : List Str} {q4ab : Bool} {q4col : Option Bool} {q4dd : Option Addr} {q4m0 q4m1 q4m2 q4m3 q4m5 : Option Value}
    {q5nm q5qn : Str} {q5N : Addr} {q5bs q5sub : List Value} {q5sn : List Str} {q5ab : Bool} {q5col : Option Bool} {q5dd : Option Addr} {q5m0 q5m1 q5m2 q5m3 q5m5 : Option Value}
    {q6nm q6qn : Str} {q6N : Addr} {q6bs q6sub : List Value} {q6sn : List Str} {q6ab : Bool} {q6col : Option Bool} {q6dd : Option Addr} {q6m0 q6m1 q6m2 q6m3 q6m5 : Option Value}
    {q7nm q7qn : Str} {q7N : Addr} {q7bs q7sub : List Value} {q7sn : List Str} {q7ab : Bool} {q7col : Option Bool} {q7dd : Option Addr} {q7m0 q7m1 q7m2 q7m3 q7m5 : Option Value}
    {q8nm q8qn : Str} {q8N : Addr} {q8bs q8sub : List Value} {q8sn : List Str} {q8ab : Bool} {q8col : Option Bool} {q8dd : Option Addr} {q8m0 q8m1 q8m2 q8m3 q8m5 : Option Value}
    {mc23_0 : Option Addr} {ms23_0 : Array (Option Value)} {mn23_0 : Nat}
    {mc23_1 : Option Addr} {ms23_1 : Array (Option Value)} {mn23_1 : Nat}
    {mc23_2 : Option Addr} {ms23_2 : Array (Option Value)} {mn23_2 : Nat}
    (q0C : PySem.W.nsIn K mainGlobals "LeakError" = some (some (.ref q0)))
    (q0XX : K.lookup q0 = some (excClassObj q0nm q0qn q0 q0N q0bs [.type "ValueError", .type "Exception", .type "BaseException", .type "object"] true q0sn q0sub q0ab q0col q0dd q0m0 q0m1 q0m2 q0m3 q0m5 "ValueError.__new__"))
    (q0sa : PySem.W.findIn K (.ref q0) "__setattr__" = some (some (.builtin "object.__setattr__")))
    (q0ec : PySem.W.subIn K (.ref q0) (.type "BaseException") = some true)
    (q0ty : PySem.W.typeIn K (.ref q0) = some (.type "type"))
    (q0kc : PySem.W.keepIn K (.ref q0) = true)
    (q0rd : PySem.W.readsIn K q0 (.type "type") = true)
    (q0ga : PySem.W.specialIn K (.ref q0) "__getattribute__" = some (some (.builtin "type.__getattribute__")))
    (q0x1 : (PySem.W.clsIn K q0).isSome = true)
    (q0x2 : PySem.W.findIn K (.ref q0) "__getattribute__" = some (some (.builtin "BaseException.__getattribute__")))
    (q0x3 : PySem.W.findIn K (.ref q0) "__getattr__" = some none)
    (q0x5 : PySem.W.findIn K (.ref q0) "__class__" = some (some (.builtin "object.__class__")))
    (q0x6 : PySem.W.specialIn K (.builtin "object.__class__") "__get__" = some (some (.builtin "getset_descriptor.__get__")))
    (q0x7 : PySem.W.takesIn K (.builtin "object.__class__") = some true)
    (q0x8 : PySem.W.mroIn K q0 (.type "object") = some true)
    (q0x9 : PySem.W.hasDictIn K q0 = true)
    (q0nw : PySem.W.findIn K (.ref q0) "word" = some none)
    (q0na : PySem.W.findIn K (.ref q0) "at" = some none)
    (q0kv : PySem.W.kitOne K (.ref q0) (.type "ValueError") = some true)
    (q0kl : PySem.W.kitOne K (.ref q0) (.type "LookupError") = some false)
    (q1C : PySem.W.nsIn K mainGlobals "BadName" = some (some (.ref q1)))
    (q1XX : K.lookup q1 = some (excClassObj q1nm q1qn q1 q1N q1bs [.ref q0, .type "ValueError", .type "Exception", .type "BaseException", .type "object"] true q1sn q1sub q1ab q1col q1dd q1m0 q1m1 q1m2 q1m3 q1m5 "ValueError.__new__"))
    (q1sa : PySem.W.findIn K (.ref q1) "__setattr__" = some (some (.builtin "object.__setattr__")))
    (q1ec : PySem.W.subIn K (.ref q1) (.type "BaseException") = some true)
    (q1ty : PySem.W.typeIn K (.ref q1) = some (.type "type"))
    (q1kc : PySem.W.keepIn K (.ref q1) = true)
    (q1rd : PySem.W.readsIn K q1 (.type "type") = true)
    (q1ga : PySem.W.specialIn K (.ref q1) "__getattribute__" = some (some (.builtin "type.__getattribute__")))
    (q1x1 : (PySem.W.clsIn K q1).isSome = true)
    (q1x2 : PySem.W.findIn K (.ref q1) "__getattribute__" = some (some (.builtin "BaseException.__getattribute__")))
    (q1x3 : PySem.W.findIn K (.ref q1) "__getattr__" = some none)
    (q1x5 : PySem.W.findIn K (.ref q1) "__class__" = some (some (.builtin "object.__class__")))
    (q1x6 : PySem.W.specialIn K (.builtin "object.__class__") "__get__" = some (some (.builtin "getset_descriptor.__get__")))
    (q1x7 : PySem.W.takesIn K (.builtin "object.__class__") = some true)
    (q1x8 : PySem.W.mroIn K q1 (.type "object") = some true)
    (q1x9 : PySem.W.hasDictIn K q1 = true)
    (q1nw : PySem.W.findIn K (.ref q1) "word" = some none)
    (q1na : PySem.W.findIn K (.ref q1) "at" = some none)
    (q1kv : PySem.W.kitOne K (.ref q1) (.type "ValueError") = some true)
    (q1kl : PySem.W.kitOne K (.ref q1) (.type "LookupError") = some false)
    (q2C : PySem.W.nsIn K mainGlobals "BadWord" = some (some (.ref q2)))
    (q2XX : K.lookup q2 = some (excClassObj q2nm q2qn q2 q2N q2bs [.ref q0, .type "ValueError", .type "Exception", .type "BaseException", .type "object"] true q2sn q2sub q2ab q2col q2dd q2m0 q2m1 q2m2 q2m3 q2m5 "ValueError.__new__"))
    (q2sa : PySem.W.findIn K (.ref q2) "__setattr__" = some (some (.builtin "object.__setattr__")))
    (q2ec : PySem.W.subIn K (.ref q2) (.type "BaseException") = some true)
    (q2ty : PySem.W.typeIn K (.ref q2) = some (.type "type"))
    (q2kc : PySem.W.keepIn K (.ref q2) = true)
    (q2rd : PySem.W.readsIn K q2 (.type "type") = true)
    (q2ga : PySem.W.specialIn K (.ref q2) "__getattribute__" = some (some (.builtin "type.__getattribute__")))
    (q2x1 : (PySem.W.clsIn K q2).isSome = true)
    (q2x2 : PySem.W.findIn K (.ref q2) "__getattribute__" = some (some (.builtin "BaseException.__getattribute__")))
    (q2x3 : PySem.W.findIn K (.ref q2) "__getattr__" = some none)
    (q2x5 : PySem.W.findIn K (.ref q2) "__class__" = some (some (.builtin "object.__class__")))
    (q2x6 : PySem.W.specialIn K (.builtin "object.__class__") "__get__" = some (some (.builtin "getset_descriptor.__get__")))
    (q2x7 : PySem.W.takesIn K (.builtin "object.__class__") = some true)
    (q2x8 : PySem.W.mroIn K q2 (.type "object") = some true)
    (q2x9 : PySem.W.hasDictIn K q2 = true)
    (q2nw : PySem.W.findIn K (.ref q2) "word" = some none)
    (q2na : PySem.W.findIn K (.ref q2) "at" = some none)
    (q2kv : PySem.W.kitOne K (.ref q2) (.type "ValueError") = some true)
    (q2kl : PySem.W.kitOne K (.ref q2) (.type "LookupError") = some false)
    (q3C : PySem.W.nsIn K mainGlobals "BadAct" = some (some (.ref q3)))
    (q3XX : K.lookup q3 = some (excClassObj q3nm q3qn q3 q3N q3bs [.ref q0, .type "ValueError", .type "Exception", .type "BaseException", .type "object"] true q3sn q3sub q3ab q3col q3dd q3m0 q3m1 q3m2 q3m3 q3m5 "ValueError.__new__"))
    (q3sa : PySem.W.findIn K (.ref q3) "__setattr__" = some (some (.builtin "object.__setattr__")))
    (q3ec : PySem.W.subIn K (.ref q3) (.type "BaseException") = some true)
    (q3ty : PySem.W.typeIn K (.ref q3) = some (.type "type"))
    (q3kc : PySem.W.keepIn K (.ref q3) = true)
    (q3rd : PySem.W.readsIn K q3 (.type "type") = true)
    (q3ga : PySem.W.specialIn K (.ref q3) "__getattribute__" = some (some (.builtin "type.__getattribute__")))
    (q3x1 : (PySem.W.clsIn K q3).isSome = true)
    (q3x2 : PySem.W.findIn K (.ref q3) "__getattribute__" = some (some (.builtin "BaseException.__getattribute__")))
    (q3x3 : PySem.W.findIn K (.ref q3) "__getattr__" = some none)
    (q3x5 : PySem.W.findIn K (.ref q3) "__class__" = some (some (.builtin "object.__class__")))
    (q3x6 : PySem.W.specialIn K (.builtin "object.__class__") "__get__" = some (some (.builtin "getset_descriptor.__get__")))
    (q3x7 : PySem.W.takesIn K (.builtin "object.__class__") = some true)
    (q3x8 : PySem.W.mroIn K q3 (.type "object") = some true)
    (q3x9 : PySem.W.hasDictIn K q3 = true)
    (q3nw : PySem.W.findIn K (.ref q3) "word" = some none)
    (q3na : PySem.W.findIn K (.ref q3) "at" = some none)
    (q3kv : PySem.W.kitOne K (.ref q3) (.type "ValueError") = some true)
    (q3kl : PySem.W.kitOne K (.ref q3) (.type "LookupError") = some false)
    (q4C : PySem.W.nsIn K mainGlobals "BadText" = some (some (.ref q4)))
    (q4XX : K.lookup q4 = some (excClassObj q4nm q4qn q4 q4N q4bs [.ref q0, .type "ValueError", .type "Exception", .type "BaseException", .type "object"] true q4sn q4sub q4ab q4col q4dd q4m0 q4m1 q4m2 q4m3 q4m5 "ValueError.__new__"))
    (q4sa : PySem.W.findIn K (.ref q4) "__setattr__" = some (some (.builtin "object.__setattr__")))
    (q4ec : PySem.W.subIn K (.ref q4) (.type "BaseException") = some true)
    (q4ty : PySem.W.typeIn K (.ref q4) = some (.type "type"))
    (q4kc : PySem.W.keepIn K (.ref q4) = true)
    (q4rd : PySem.W.readsIn K q4 (.type "type") = true)
    (q4ga : PySem.W.specialIn K (.ref q4) "__getattribute__" = some (some (.builtin "type.__getattribute__")))
    (q4x1 : (PySem.W.clsIn K q4).isSome = true)
    (q4x2 : PySem.W.findIn K (.ref q4) "__getattribute__" = some (some (.builtin "BaseException.__getattribute__")))
    (q4x3 : PySem.W.findIn K (.ref q4) "__getattr__" = some none)
    (q4x5 : PySem.W.findIn K (.ref q4) "__class__" = some (some (.builtin "object.__class__")))
    (q4x6 : PySem.W.specialIn K (.builtin "object.__class__") "__get__" = some (some (.builtin "getset_descriptor.__get__")))
    (q4x7 : PySem.W.takesIn K (.builtin "object.__class__") = some true)
    (q4x8 : PySem.W.mroIn K q4 (.type "object") = some true)
    (q4x9 : PySem.W.hasDictIn K q4 = true)
    (q4nw : PySem.W.findIn K (.ref q4) "word" = some none)
    (q4na : PySem.W.findIn K (.ref q4) "at" = some none)
    (q4kv : PySem.W.kitOne K (.ref q4) (.type "ValueError") = some true)
    (q4kl : PySem.W.kitOne K (.ref q4) (.type "LookupError") = some false)
    (q5C : PySem.W.nsIn K mainGlobals "Taken" = some (some (.ref q5)))
    (q5XX : K.lookup q5 = some (excClassObj q5nm q5qn q5 q5N q5bs [.ref q0, .type "ValueError", .type "Exception", .type "BaseException", .type "object"] true q5sn q5sub q5ab q5col q5dd q5m0 q5m1 q5m2 q5m3 q5m5 "ValueError.__new__"))
    (q5sa : PySem.W.findIn K (.ref q5) "__setattr__" = some (some (.builtin "object.__setattr__")))
    (q5ec : PySem.W.subIn K (.ref q5) (.type "BaseException") = some true)
    (q5ty : PySem.W.typeIn K (.ref q5) = some (.type "type"))
    (q5kc : PySem.W.keepIn K (.ref q5) = true)
    (q5rd : PySem.W.readsIn K q5 (.type "type") = true)
    (q5ga : PySem.W.specialIn K (.ref q5) "__getattribute__" = some (some (.builtin "type.__getattribute__")))
    (q5x1 : (PySem.W.clsIn K q5).isSome = true)
    (q5x2 : PySem.W.findIn K (.ref q5) "__getattribute__" = some (some (.builtin "BaseException.__getattribute__")))
    (q5x3 : PySem.W.findIn K (.ref q5) "__getattr__" = some none)
    (q5x5 : PySem.W.findIn K (.ref q5) "__class__" = some (some (.builtin "object.__class__")))
    (q5x6 : PySem.W.specialIn K (.builtin "object.__class__") "__get__" = some (some (.builtin "getset_descriptor.__get__")))
    (q5x7 : PySem.W.takesIn K (.builtin "object.__class__") = some true)
    (q5x8 : PySem.W.mroIn K q5 (.type "object") = some true)
    (q5x9 : PySem.W.hasDictIn K q5 = true)
    (q5nw : PySem.W.findIn K (.ref q5) "word" = some none)
    (q5na : PySem.W.findIn K (.ref q5) "at" = some none)
    (q5kv : PySem.W.kitOne K (.ref q5) (.type "ValueError") = some true)
    (q5kl : PySem.W.kitOne K (.ref q5) (.type "LookupError") = some false)
    (q6C : PySem.W.nsIn K mainGlobals "Full" = some (some (.ref q6)))
    (q6XX : K.lookup q6 = some (excClassObj q6nm q6qn q6 q6N q6bs [.ref q0, .type "ValueError", .type "Exception", .type "BaseException", .type "object"] true q6sn q6sub q6ab q6col q6dd q6m0 q6m1 q6m2 q6m3 q6m5 "ValueError.__new__"))
    (q6sa : PySem.W.findIn K (.ref q6) "__setattr__" = some (some (.builtin "object.__setattr__")))
    (q6ec : PySem.W.subIn K (.ref q6) (.type "BaseException") = some true)
    (q6ty : PySem.W.typeIn K (.ref q6) = some (.type "type"))
    (q6kc : PySem.W.keepIn K (.ref q6) = true)
    (q6rd : PySem.W.readsIn K q6 (.type "type") = true)
    (q6ga : PySem.W.specialIn K (.ref q6) "__getattribute__" = some (some (.builtin "type.__getattribute__")))
    (q6x1 : (PySem.W.clsIn K q6).isSome = true)
    (q6x2 : PySem.W.findIn K (.ref q6) "__getattribute__" = some (some (.builtin "BaseException.__getattribute__")))
    (q6x3 : PySem.W.findIn K (.ref q6) "__getattr__" = some none)
    (q6x5 : PySem.W.findIn K (.ref q6) "__class__" = some (some (.builtin "object.__class__")))
    (q6x6 : PySem.W.specialIn K (.builtin "object.__class__") "__get__" = some (some (.builtin "getset_descriptor.__get__")))
    (q6x7 : PySem.W.takesIn K (.builtin "object.__class__") = some true)
    (q6x8 : PySem.W.mroIn K q6 (.type "object") = some true)
    (q6x9 : PySem.W.hasDictIn K q6 = true)
    (q6nw : PySem.W.findIn K (.ref q6) "word" = some none)
    (q6na : PySem.W.findIn K (.ref q6) "at" = some none)
    (q6kv : PySem.W.kitOne K (.ref q6) (.type "ValueError") = some true)
    (q6kl : PySem.W.kitOne K (.ref q6) (.type "LookupError") = some false)
    (q7C : PySem.W.nsIn K mainGlobals "NoMachine" = some (some (.ref q7)))
    (q7XX : K.lookup q7 = some (excClassObj q7nm q7qn q7 q7N q7bs [.ref q0, .type "ValueError", .type "Exception", .type "BaseException", .type "object"] true q7sn q7sub q7ab q7col q7dd q7m0 q7m1 q7m2 q7m3 q7m5 "ValueError.__new__"))
    (q7sa : PySem.W.findIn K (.ref q7) "__setattr__" = some (some (.builtin "object.__setattr__")))
    (q7ec : PySem.W.subIn K (.ref q7) (.type "BaseException") = some true)
    (q7ty : PySem.W.typeIn K (.ref q7) = some (.type "type"))
    (q7kc : PySem.W.keepIn K (.ref q7) = true)
    (q7rd : PySem.W.readsIn K q7 (.type "type") = true)
    (q7ga : PySem.W.specialIn K (.ref q7) "__getattribute__" = some (some (.builtin "type.__getattribute__")))
    (q7x1 : (PySem.W.clsIn K q7).isSome = true)
    (q7x2 : PySem.W.findIn K (.ref q7) "__getattribute__" = some (some (.builtin "BaseException.__getattribute__")))
    (q7x3 : PySem.W.findIn K (.ref q7) "__getattr__" = some none)
    (q7x5 : PySem.W.findIn K (.ref q7) "__class__" = some (some (.builtin "object.__class__")))
    (q7x6 : PySem.W.specialIn K (.builtin "object.__class__") "__get__" = some (some (.builtin "getset_descriptor.__get__")))
    (q7x7 : PySem.W.takesIn K (.builtin "object.__class__") = some true)
    (q7x8 : PySem.W.mroIn K q7 (.type "object") = some true)
    (q7x9 : PySem.W.hasDictIn K q7 = true)
    (q7nw : PySem.W.findIn K (.ref q7) "word" = some none)
    (q7na : PySem.W.findIn K (.ref q7) "at" = some none)
    (q7kv : PySem.W.kitOne K (.ref q7) (.type "ValueError") = some true)
    (q7kl : PySem.W.kitOne K (.ref q7) (.type "LookupError") = some false)
    (q8C : PySem.W.nsIn K mainGlobals "NoRow" = some (some (.ref q8)))
    (q8XX : K.lookup q8 = some (excClassObj q8nm q8qn q8 q8N q8bs [.ref q0, .type "ValueError", .type "Exception", .type "BaseException", .type "object"] true q8sn q8sub q8ab q8col q8dd q8m0 q8m1 q8m2 q8m3 q8m5 "ValueError.__new__"))
    (q8sa : PySem.W.findIn K (.ref q8) "__setattr__" = some (some (.builtin "object.__setattr__")))
    (q8ec : PySem.W.subIn K (.ref q8) (.type "BaseException") = some true)
    (q8ty : PySem.W.typeIn K (.ref q8) = some (.type "type"))
    (q8kc : PySem.W.keepIn K (.ref q8) = true)
    (q8rd : PySem.W.readsIn K q8 (.type "type") = true)
    (q8ga : PySem.W.specialIn K (.ref q8) "__getattribute__" = some (some (.builtin "type.__getattribute__")))
    (q8x1 : (PySem.W.clsIn K q8).isSome = true)
    (q8x2 : PySem.W.findIn K (.ref q8) "__getattribute__" = some (some (.builtin "BaseException.__getattribute__")))
    (q8x3 : PySem.W.findIn K (.ref q8) "__getattr__" = some none)
    (q8x5 : PySem.W.findIn K (.ref q8) "__class__" = some (some (.builtin "object.__class__")))
    (q8x6 : PySem.W.specialIn K (.builtin "object.__class__") "__get__" = some (some (.builtin "getset_descriptor.__get__")))
    (q8x7 : PySem.W.takesIn K (.builtin "object.__class__") = some true)
    (q8x8 : PySem.W.mroIn K q8 (.type "object") = some true)
    (q8x9 : PySem.W.hasDictIn K q8 = true)
    (q8nw : PySem.W.findIn K (.ref q8) "word" = some none)
    (q8na : PySem.W.findIn K (.ref q8) "at" = some none)
    (q8kv : PySem.W.kitOne K (.ref q8) (.type "ValueError") = some true)
    (q8kl : PySem.W.kitOne K (.ref q8) (.type "LookupError") = some false)
    (q9C : PySem.W.nsIn K mainGlobals "Lab" = some (some (.ref q9)))
    (q9pg : PySem.W.plainGet K q9 Str.empty = true)
    (q9hd : PySem.W.hasDictIn K q9 = true)
    (q9po : PySem.W.plainOver K q9 = true)
    (q9sa : PySem.W.findIn K (.ref q9) "__setattr__" = some (some (.builtin "object.__setattr__")))
    (q9mk : PySem.W.makesIn K q9 = true)
    (q9kc : PySem.W.keepIn K (.ref q9) = true)
    (q9no_machine_pairs : PySem.W.findIn K (.ref q9) "machine_pairs" = some none)
    (q9no_row_pairs : PySem.W.findIn K (.ref q9) "row_pairs" = some none)
    (q9no_whole_moves : PySem.W.findIn K (.ref q9) "whole_moves" = some none)
    (q9no_machine_places : PySem.W.findIn K (.ref q9) "machine_places" = some none)
    (q9no_row_places : PySem.W.findIn K (.ref q9) "row_places" = some none)
    (q9no_stand_lists : PySem.W.findIn K (.ref q9) "stand_lists" = some none)
    (q9no_steps : PySem.W.findIn K (.ref q9) "steps" = some none)
    (q9oa : PySem.W.findIn K (.ref q9) "__class__" = some (some (.builtin "object.__class__")))
    (q9og : PySem.W.specialIn K (.builtin "object.__class__") "__get__" = some (some (.builtin "getset_descriptor.__get__")))
    (q9ot : PySem.W.takesIn K (.builtin "object.__class__") = some true)
    (q9om : PySem.W.mroIn K q9 (.type "object") = some true)
    (q9oi : PySem.W.kitOne K (.ref q9) (.ref q9) = some true)
    (q9on : PySem.W.findIn K (.ref q9) "__ne__" = some (some (.builtin "object.__ne__")))
    (q9os : PySem.W.kitOne K (.type "str") (.ref q9) = some false)
    (q9ok : PySem.W.kitOne K (.type "int") (.ref q9) = some false)
    (q9ou : PySem.W.kitOne K (.type "tuple") (.ref q9) = some false)
    (q9ol : PySem.W.kitOne K (.type "list") (.ref q9) = some false)
    (vV : PySem.W.findCls K (.type "ValueError") (.type "type") "__init__" = some (.val (.builtin "ValueError.__init__")))
    (a0 : PySem.W.findIn K (.ref q0) "__init__" = some (some (.ref f0)))
    (i0 : PySem.W.isFn K (.ref f0) = true)
    (l0 : K.lookup f0 = some ⟨oc0, od0, .func (PySem.W.fnOf "__init__" "LeakError.__init__" (defArgs s_LeakError_init) (defBody s_LeakError_init) (defScope s_LeakError_init) (.ref td0) kV0 dc0 pm0 an0 cd0 ct0), sl0⟩)
    (c0 : PySem.W.codeIn K cd0 "LeakError.__init__" = true)
    (k0 : PySem.W.keepIn K (.ref f0) = true)
    (t0 : K.lookup td0 = some ⟨ot0, ht0, .seq ([.int (-1) w0_0, .str (PySem.Str.ofString "leakerror") w0_1] : List Value).toArray nt0, st0⟩)
    (a1 : PySem.W.findIn K (.ref q1) "__init__" = some (some (.ref f1)))
    (i1 : PySem.W.isFn K (.ref f1) = true)
    (l1 : K.lookup f1 = some ⟨oc1, od1, .func (PySem.W.fnOf "__init__" "BadName.__init__" (defArgs s_BadName_init) (defBody s_BadName_init) (defScope s_BadName_init) (.ref td1) kV1 dc1 pm1 an1 cd1 ct1), sl1⟩)
    (c1 : PySem.W.codeIn K cd1 "BadName.__init__" = true)
    (k1 : PySem.W.keepIn K (.ref f1) = true)
    (t1 : K.lookup td1 = some ⟨ot1, ht1, .seq ([.int (-1) w1_0] : List Value).toArray nt1, st1⟩)
    (a2 : PySem.W.findIn K (.ref q2) "__init__" = some (some (.ref f2)))
    (i2 : PySem.W.isFn K (.ref f2) = true)
    (l2 : K.lookup f2 = some ⟨oc2, od2, .func (PySem.W.fnOf "__init__" "BadWord.__init__" (defArgs s_BadWord_init) (defBody s_BadWord_init) (defScope s_BadWord_init) (.ref td2) kV2 dc2 pm2 an2 cd2 ct2), sl2⟩)
    (c2 : PySem.W.codeIn K cd2 "BadWord.__init__" = true)
    (k2 : PySem.W.keepIn K (.ref f2) = true)
    (t2 : K.lookup td2 = some ⟨ot2, ht2, .seq ([.int (-1) w2_0] : List Value).toArray nt2, st2⟩)
    (a3 : PySem.W.findIn K (.ref q3) "__init__" = some (some (.ref f3)))
    (i3 : PySem.W.isFn K (.ref f3) = true)
    (l3 : K.lookup f3 = some ⟨oc3, od3, .func (PySem.W.fnOf "__init__" "BadAct.__init__" (defArgs s_BadAct_init) (defBody s_BadAct_init) (defScope s_BadAct_init) (.ref td3) kV3 dc3 pm3 an3 cd3 ct3), sl3⟩)
    (c3 : PySem.W.codeIn K cd3 "BadAct.__init__" = true)
    (k3 : PySem.W.keepIn K (.ref f3) = true)
    (t3 : K.lookup td3 = some ⟨ot3, ht3, .seq ([.int (-1) w3_0] : List Value).toArray nt3, st3⟩)
    (a4 : PySem.W.findIn K (.ref q4) "__init__" = some (some (.ref f4)))
    (i4 : PySem.W.isFn K (.ref f4) = true)
    (l4 : K.lookup f4 = some ⟨oc4, od4, .func (PySem.W.fnOf "__init__" "BadText.__init__" (defArgs s_BadText_init) (defBody s_BadText_init) (defScope s_BadText_init) (.ref td4) kV4 dc4 pm4 an4 cd4 ct4), sl4⟩)
    (c4 : PySem.W.codeIn K cd4 "BadText.__init__" = true)
    (k4 : PySem.W.keepIn K (.ref f4) = true)
    (t4 : K.lookup td4 = some ⟨ot4, ht4, .seq ([.int (-1) w4_0] : List Value).toArray nt4, st4⟩)
    (a5 : PySem.W.findIn K (.ref q5) "__init__" = some (some (.ref f5)))
    (i5 : PySem.W.isFn K (.ref f5) = true)
    (l5 : K.lookup f5 = some ⟨oc5, od5, .func (PySem.W.fnOf "__init__" "Taken.__init__" (defArgs s_Taken_init) (defBody s_Taken_init) (defScope s_Taken_init) (.ref td5) kV5 dc5 pm5 an5 cd5 ct5), sl5⟩)
    (c5 : PySem.W.codeIn K cd5 "Taken.__init__" = true)
    (k5 : PySem.W.keepIn K (.ref f5) = true)
    (t5 : K.lookup td5 = some ⟨ot5, ht5, .seq ([.int (-1) w5_0] : List Value).toArray nt5, st5⟩)
    (a6 : PySem.W.findIn K (.ref q6) "__init__" = some (some (.ref f6)))
    (i6 : PySem.W.isFn K (.ref f6) = true)
    (l6 : K.lookup f6 = some ⟨oc6, od6, .func (PySem.W.fnOf "__init__" "Full.__init__" (defArgs s_Full_init) (defBody s_Full_init) (defScope s_Full_init) (.ref td6) kV6 dc6 pm6 an6 cd6 ct6), sl6⟩)
    (c6 : PySem.W.codeIn K cd6 "Full.__init__" = true)
    (k6 : PySem.W.keepIn K (.ref f6) = true)
    (t6 : K.lookup td6 = some ⟨ot6, ht6, .seq ([.int (-1) w6_0] : List Value).toArray nt6, st6⟩)
    (a7 : PySem.W.findIn K (.ref q7) "__init__" = some (some (.ref f7)))
    (i7 : PySem.W.isFn K (.ref f7) = true)
    (l7 : K.lookup f7 = some ⟨oc7, od7, .func (PySem.W.fnOf "__init__" "NoMachine.__init__" (defArgs s_NoMachine_init) (defBody s_NoMachine_init) (defScope s_NoMachine_init) (.ref td7) kV7 dc7 pm7 an7 cd7 ct7), sl7⟩)
    (c7 : PySem.W.codeIn K cd7 "NoMachine.__init__" = true)
    (k7 : PySem.W.keepIn K (.ref f7) = true)
    (t7 : K.lookup td7 = some ⟨ot7, ht7, .seq ([.int (-1) w7_0] : List Value).toArray nt7, st7⟩)
    (a8 : PySem.W.findIn K (.ref q8) "__init__" = some (some (.ref f8)))
    (i8 : PySem.W.isFn K (.ref f8) = true)
    (l8 : K.lookup f8 = some ⟨oc8, od8, .func (PySem.W.fnOf "__init__" "NoRow.__init__" (defArgs s_NoRow_init) (defBody s_NoRow_init) (defScope s_NoRow_init) (.ref td8) kV8 dc8 pm8 an8 cd8 ct8), sl8⟩)
    (c8 : PySem.W.codeIn K cd8 "NoRow.__init__" = true)
    (k8 : PySem.W.keepIn K (.ref f8) = true)
    (t8 : K.lookup td8 = some ⟨ot8, ht8, .seq ([.int (-1) w8_0] : List Value).toArray nt8, st8⟩)
    (a9 : PySem.W.nsIn K mainGlobals "is_word" = some (some (.ref f9)))
    (l9 : K.lookup f9 = some ⟨oc9, od9, .func (PySem.W.fnOf "is_word" "is_word" (defArgs s_p_is_word) (defBody s_p_is_word) (defScope s_p_is_word) .none kV9 dc9 pm9 an9 cd9 ct9), sl9⟩)
    (c9 : PySem.W.codeIn K cd9 "is_word" = true)
    (k9 : PySem.W.keepIn K (.ref f9) = true)
    (a10 : PySem.W.nsIn K mainGlobals "is_name" = some (some (.ref f10)))
    (l10 : K.lookup f10 = some ⟨oc10, od10, .func (PySem.W.fnOf "is_name" "is_name" (defArgs s_p_is_name) (defBody s_p_is_name) (defScope s_p_is_name) .none kV10 dc10 pm10 an10 cd10 ct10), sl10⟩)
    (c10 : PySem.W.codeIn K cd10 "is_name" = true)
    (k10 : PySem.W.keepIn K (.ref f10) = true)
    (a11 : PySem.W.nsIn K mainGlobals "is_letter" = some (some (.ref f11)))
    (l11 : K.lookup f11 = some ⟨oc11, od11, .func (PySem.W.fnOf "is_letter" "is_letter" (defArgs s_p_is_letter) (defBody s_p_is_letter) (defScope s_p_is_letter) .none kV11 dc11 pm11 an11 cd11 ct11), sl11⟩)
    (c11 : PySem.W.codeIn K cd11 "is_letter" = true)
    (k11 : PySem.W.keepIn K (.ref f11) = true)
    (a12 : PySem.W.nsIn K mainGlobals "is_short_word" = some (some (.ref f12)))
    (l12 : K.lookup f12 = some ⟨oc12, od12, .func (PySem.W.fnOf "is_short_word" "is_short_word" (defArgs s_p_is_short_word) (defBody s_p_is_short_word) (defScope s_p_is_short_word) .none kV12 dc12 pm12 an12 cd12 ct12), sl12⟩)
    (c12 : PySem.W.codeIn K cd12 "is_short_word" = true)
    (k12 : PySem.W.keepIn K (.ref f12) = true)
    (a13 : PySem.W.nsIn K mainGlobals "check_machines" = some (some (.ref f13)))
    (l13 : K.lookup f13 = some ⟨oc13, od13, .func (PySem.W.fnOf "check_machines" "check_machines" (defArgs s_p_check_machines) (defBody s_p_check_machines) (defScope s_p_check_machines) .none kV13 dc13 pm13 an13 cd13 ct13), sl13⟩)
    (c13 : PySem.W.codeIn K cd13 "check_machines" = true)
    (k13 : PySem.W.keepIn K (.ref f13) = true)
    (a14 : PySem.W.nsIn K mainGlobals "check_rows" = some (some (.ref f14)))
    (l14 : K.lookup f14 = some ⟨oc14, od14, .func (PySem.W.fnOf "check_rows" "check_rows" (defArgs s_p_check_rows) (defBody s_p_check_rows) (defScope s_p_check_rows) .none kV14 dc14 pm14 an14 cd14 ct14), sl14⟩)
    (c14 : PySem.W.codeIn K cd14 "check_rows" = true)
    (k14 : PySem.W.keepIn K (.ref f14) = true)
    (a15 : PySem.W.nsIn K mainGlobals "check_act" = some (some (.ref f15)))
    (l15 : K.lookup f15 = some ⟨oc15, od15, .func (PySem.W.fnOf "check_act" "check_act" (defArgs s_p_check_act) (defBody s_p_check_act) (defScope s_p_check_act) .none kV15 dc15 pm15 an15 cd15 ct15), sl15⟩)
    (c15 : PySem.W.codeIn K cd15 "check_act" = true)
    (k15 : PySem.W.keepIn K (.ref f15) = true)
    (a16 : PySem.W.nsIn K mainGlobals "check_moves" = some (some (.ref f16)))
    (l16 : K.lookup f16 = some ⟨oc16, od16, .func (PySem.W.fnOf "check_moves" "check_moves" (defArgs s_p_check_moves) (defBody s_p_check_moves) (defScope s_p_check_moves) .none kV16 dc16 pm16 an16 cd16 ct16), sl16⟩)
    (c16 : PySem.W.codeIn K cd16 "check_moves" = true)
    (k16 : PySem.W.keepIn K (.ref f16) = true)
    (a17 : PySem.W.nsIn K mainGlobals "places_of" = some (some (.ref f17)))
    (l17 : K.lookup f17 = some ⟨oc17, od17, .func (PySem.W.fnOf "places_of" "places_of" (defArgs s_p_places_of) (defBody s_p_places_of) (defScope s_p_places_of) .none kV17 dc17 pm17 an17 cd17 ct17), sl17⟩)
    (c17 : PySem.W.codeIn K cd17 "places_of" = true)
    (k17 : PySem.W.keepIn K (.ref f17) = true)
    (a18 : PySem.W.nsIn K mainGlobals "stands_of" = some (some (.ref f18)))
    (l18 : K.lookup f18 = some ⟨oc18, od18, .func (PySem.W.fnOf "stands_of" "stands_of" (defArgs s_p_stands_of) (defBody s_p_stands_of) (defScope s_p_stands_of) .none kV18 dc18 pm18 an18 cd18 ct18), sl18⟩)
    (c18 : PySem.W.codeIn K cd18 "stands_of" = true)
    (k18 : PySem.W.keepIn K (.ref f18) = true)
    (a19 : PySem.W.nsIn K mainGlobals "step_of" = some (some (.ref f19)))
    (l19 : K.lookup f19 = some ⟨oc19, od19, .func (PySem.W.fnOf "step_of" "step_of" (defArgs s_p_step_of) (defBody s_p_step_of) (defScope s_p_step_of) .none kV19 dc19 pm19 an19 cd19 ct19), sl19⟩)
    (c19 : PySem.W.codeIn K cd19 "step_of" = true)
    (k19 : PySem.W.keepIn K (.ref f19) = true)
    (a20 : PySem.W.nsIn K mainGlobals "word_text" = some (some (.ref f20)))
    (l20 : K.lookup f20 = some ⟨oc20, od20, .func (PySem.W.fnOf "word_text" "word_text" (defArgs s_p_word_text) (defBody s_p_word_text) (defScope s_p_word_text) .none kV20 dc20 pm20 an20 cd20 ct20), sl20⟩)
    (c20 : PySem.W.codeIn K cd20 "word_text" = true)
    (k20 : PySem.W.keepIn K (.ref f20) = true)
    (a21 : PySem.W.nsIn K mainGlobals "act_text" = some (some (.ref f21)))
    (l21 : K.lookup f21 = some ⟨oc21, od21, .func (PySem.W.fnOf "act_text" "act_text" (defArgs s_p_act_text) (defBody s_p_act_text) (defScope s_p_act_text) .none kV21 dc21 pm21 an21 cd21 ct21), sl21⟩)
    (c21 : PySem.W.codeIn K cd21 "act_text" = true)
    (k21 : PySem.W.keepIn K (.ref f21) = true)
    (a22 : PySem.W.nsIn K mainGlobals "lab_lines" = some (some (.ref f22)))
    (l22 : K.lookup f22 = some ⟨oc22, od22, .func (PySem.W.fnOf "lab_lines" "lab_lines" (defArgs s_p_lab_lines) (defBody s_p_lab_lines) (defScope s_p_lab_lines) .none kV22 dc22 pm22 an22 cd22 ct22), sl22⟩)
    (c22 : PySem.W.codeIn K cd22 "lab_lines" = true)
    (k22 : PySem.W.keepIn K (.ref f22) = true)
    (a23 : PySem.W.findIn K (.ref q9) "__init__" = some (some (.ref f23)))
    (i23 : PySem.W.isFn K (.ref f23) = true)
    (l23 : K.lookup f23 = some ⟨oc23, od23, .func (PySem.W.fnOf "__init__" "Lab.__init__" (defArgs s_Lab_init) (defBody s_Lab_init) (defScope s_Lab_init) (.ref td23) kV23 dc23 pm23 an23 cd23 ct23), sl23⟩)
    (c23 : PySem.W.codeIn K cd23 "Lab.__init__" = true)
    (k23 : PySem.W.keepIn K (.ref f23) = true)
    (t23 : K.lookup td23 = some ⟨ot23, ht23, .seq ([.ref w23_0, .ref w23_1, .ref w23_2] : List Value).toArray nt23, st23⟩)
    (mt23_0 : K.lookup w23_0 = some ⟨.type "tuple", mc23_0, .seq #[] mn23_0, ms23_0⟩)
    (mt23_1 : K.lookup w23_1 = some ⟨.type "tuple", mc23_1, .seq #[] mn23_1, ms23_1⟩)
    (mt23_2 : K.lookup w23_2 = some ⟨.type "tuple", mc23_2, .seq #[] mn23_2, ms23_2⟩)
    (a24 : PySem.W.findIn K (.ref q9) "is_over" = some (some (.ref f24)))
    (i24 : PySem.W.isFn K (.ref f24) = true)
    (l24 : K.lookup f24 = some ⟨oc24, od24, .func (PySem.W.fnOf "is_over" "Lab.is_over" (defArgs s_Lab_is_over) (defBody s_Lab_is_over) (defScope s_Lab_is_over) .none kV24 dc24 pm24 an24 cd24 ct24), sl24⟩)
    (c24 : PySem.W.codeIn K cd24 "Lab.is_over" = true)
    (k24 : PySem.W.keepIn K (.ref f24) = true)
    (a25 : PySem.W.findIn K (.ref q9) "machines" = some (some (.ref f25)))
    (i25 : PySem.W.isFn K (.ref f25) = true)
    (l25 : K.lookup f25 = some ⟨oc25, od25, .func (PySem.W.fnOf "machines" "Lab.machines" (defArgs s_Lab_machines) (defBody s_Lab_machines) (defScope s_Lab_machines) .none kV25 dc25 pm25 an25 cd25 ct25), sl25⟩)
    (c25 : PySem.W.codeIn K cd25 "Lab.machines" = true)
    (k25 : PySem.W.keepIn K (.ref f25) = true)
    (a26 : PySem.W.findIn K (.ref q9) "rows" = some (some (.ref f26)))
    (i26 : PySem.W.isFn K (.ref f26) = true)
    (l26 : K.lookup f26 = some ⟨oc26, od26, .func (PySem.W.fnOf "rows" "Lab.rows" (defArgs s_Lab_rows) (defBody s_Lab_rows) (defScope s_Lab_rows) .none kV26 dc26 pm26 an26 cd26 ct26), sl26⟩)
    (c26 : PySem.W.codeIn K cd26 "Lab.rows" = true)
    (k26 : PySem.W.keepIn K (.ref f26) = true)
    (a27 : PySem.W.findIn K (.ref q9) "moves" = some (some (.ref f27)))
    (i27 : PySem.W.isFn K (.ref f27) = true)
    (l27 : K.lookup f27 = some ⟨oc27, od27, .func (PySem.W.fnOf "moves" "Lab.moves" (defArgs s_Lab_moves) (defBody s_Lab_moves) (defScope s_Lab_moves) .none kV27 dc27 pm27 an27 cd27 ct27), sl27⟩)
    (c27 : PySem.W.codeIn K cd27 "Lab.moves" = true)
    (k27 : PySem.W.keepIn K (.ref f27) = true)
    (a28 : PySem.W.findIn K (.ref q9) "begin" = some (some (.ref f28)))
    (i28 : PySem.W.isFn K (.ref f28) = true)
    (l28 : K.lookup f28 = some ⟨oc28, od28, .func (PySem.W.fnOf "begin" "Lab.begin" (defArgs s_Lab_begin) (defBody s_Lab_begin) (defScope s_Lab_begin) .none kV28 dc28 pm28 an28 cd28 ct28), sl28⟩)
    (c28 : PySem.W.codeIn K cd28 "Lab.begin" = true)
    (k28 : PySem.W.keepIn K (.ref f28) = true)
    (a29 : PySem.W.findIn K (.ref q9) "__eq__" = some (some (.ref f29)))
    (i29 : PySem.W.isFn K (.ref f29) = true)
    (l29 : K.lookup f29 = some ⟨oc29, od29, .func (PySem.W.fnOf "__eq__" "Lab.__eq__" (defArgs s_Lab_eq) (defBody s_Lab_eq) (defScope s_Lab_eq) .none kV29 dc29 pm29 an29 cd29 ct29), sl29⟩)
    (c29 : PySem.W.codeIn K cd29 "Lab.__eq__" = true)
    (k29 : PySem.W.keepIn K (.ref f29) = true)
    (a30 : PySem.W.findIn K (.ref q9) "__str__" = some (some (.ref f30)))
    (i30 : PySem.W.isFn K (.ref f30) = true)
    (l30 : K.lookup f30 = some ⟨oc30, od30, .func (PySem.W.fnOf "__str__" "Lab.__str__" (defArgs s_Lab_str) (defBody s_Lab_str) (defScope s_Lab_str) .none kV30 dc30 pm30 an30 cd30 ct30), sl30⟩)
    (c30 : PySem.W.codeIn K cd30 "Lab.__str__" = true)
    (k30 : PySem.W.keepIn K (.ref f30) = true)
    (a31 : PySem.W.nsIn K mainGlobals "read_word" = some (some (.ref f31)))
    (l31 : K.lookup f31 = some ⟨oc31, od31, .func (PySem.W.fnOf "read_word" "read_word" (defArgs s_p_read_word) (defBody s_p_read_word) (defScope s_p_read_word) .none kV31 dc31 pm31 an31 cd31 ct31), sl31⟩)
    (c31 : PySem.W.codeIn K cd31 "read_word" = true)
    (k31 : PySem.W.keepIn K (.ref f31) = true)
    (a32 : PySem.W.nsIn K mainGlobals "read_act" = some (some (.ref f32)))
    (l32 : K.lookup f32 = some ⟨oc32, od32, .func (PySem.W.fnOf "read_act" "read_act" (defArgs s_p_read_act) (defBody s_p_read_act) (defScope s_p_read_act) .none kV32 dc32 pm32 an32 cd32 ct32), sl32⟩)
    (c32 : PySem.W.codeIn K cd32 "read_act" = true)
    (k32 : PySem.W.keepIn K (.ref f32) = true)
    (a33 : PySem.W.nsIn K mainGlobals "thing_of" = some (some (.ref f33)))
    (l33 : K.lookup f33 = some ⟨oc33, od33, .func (PySem.W.fnOf "thing_of" "thing_of" (defArgs s_p_thing_of) (defBody s_p_thing_of) (defScope s_p_thing_of) .none kV33 dc33 pm33 an33 cd33 ct33), sl33⟩)
    (c33 : PySem.W.codeIn K cd33 "thing_of" = true)
    (k33 : PySem.W.keepIn K (.ref f33) = true)
    (a34 : PySem.W.nsIn K mainGlobals "read_line" = some (some (.ref f34)))
    (l34 : K.lookup f34 = some ⟨oc34, od34, .func (PySem.W.fnOf "read_line" "read_line" (defArgs s_p_read_line) (defBody s_p_read_line) (defScope s_p_read_line) .none kV34 dc34 pm34 an34 cd34 ct34), sl34⟩)
    (c34 : PySem.W.codeIn K cd34 "read_line" = true)
    (k34 : PySem.W.keepIn K (.ref f34) = true)
    (a35 : PySem.W.nsIn K mainGlobals "lab_text" = some (some (.ref f35)))
    (l35 : K.lookup f35 = some ⟨oc35, od35, .func (PySem.W.fnOf "lab_text" "lab_text" (defArgs s_p_lab_text) (defBody s_p_lab_text) (defScope s_p_lab_text) .none kV35 dc35 pm35 an35 cd35 ct35), sl35⟩)
    (c35 : PySem.W.codeIn K cd35 "lab_text" = true)
    (k35 : PySem.W.keepIn K (.ref f35) = true)
    (a36 : PySem.W.nsIn K mainGlobals "read_lab" = some (some (.ref f36)))
    (l36 : K.lookup f36 = some ⟨oc36, od36, .func (PySem.W.fnOf "read_lab" "read_lab" (defArgs s_p_read_lab) (defBody s_p_read_lab) (defScope s_p_read_lab) .none kV36 dc36 pm36 an36 cd36 ct36), sl36⟩)
    (c36 : PySem.W.codeIn K cd36 "read_lab" = true)
    (k36 : PySem.W.keepIn K (.ref f36) = true)
    (a37 : PySem.W.nsIn K mainGlobals "_law_bag" = some (some (.ref f37)))
    (l37 : K.lookup f37 = some ⟨oc37, od37, .func (PySem.W.fnOf "_law_bag" "_law_bag" (defArgs s_bag) (defBody s_bag) (defScope s_bag) .none kV37 dc37 pm37 an37 cd37 ct37), sl37⟩)
    (c37 : PySem.W.codeIn K cd37 "_law_bag" = true)
    (k37 : PySem.W.keepIn K (.ref f37) = true)
    (a38 : PySem.W.nsIn K mainGlobals "_law_pull" = some (some (.ref f38)))
    (l38 : K.lookup f38 = some ⟨oc38, od38, .func (PySem.W.fnOf "_law_pull" "_law_pull" (defArgs s_pull) (defBody s_pull) (defScope s_pull) .none kV38 dc38 pm38 an38 cd38 ct38), sl38⟩)
    (c38 : PySem.W.codeIn K cd38 "_law_pull" = true)
    (k38 : PySem.W.keepIn K (.ref f38) = true)
    (a39 : PySem.W.nsIn K mainGlobals "_law_of" = some (some (.ref f39)))
    (l39 : K.lookup f39 = some ⟨oc39, od39, .func (PySem.W.fnOf "_law_of" "_law_of" (defArgs s_of) (defBody s_of) (defScope s_of) .none kV39 dc39 pm39 an39 cd39 ct39), sl39⟩)
    (c39 : PySem.W.codeIn K cd39 "_law_of" = true)
    (k39 : PySem.W.keepIn K (.ref f39) = true)
    (a40 : PySem.W.nsIn K mainGlobals "_law_same" = some (some (.ref f40)))
    (l40 : K.lookup f40 = some ⟨oc40, od40, .func (PySem.W.fnOf "_law_same" "_law_same" (defArgs s_same) (defBody s_same) (defScope s_same) .none kV40 dc40 pm40 an40 cd40 ct40), sl40⟩)
    (c40 : PySem.W.codeIn K cd40 "_law_same" = true)
    (k40 : PySem.W.keepIn K (.ref f40) = true)
    (a41 : PySem.W.nsIn K mainGlobals "_law_letters" = some (some (.ref f41)))
    (l41 : K.lookup f41 = some ⟨oc41, od41, .func (PySem.W.fnOf "_law_letters" "_law_letters" (defArgs s_letters) (defBody s_letters) (defScope s_letters) .none kV41 dc41 pm41 an41 cd41 ct41), sl41⟩)
    (c41 : PySem.W.codeIn K cd41 "_law_letters" = true)
    (k41 : PySem.W.keepIn K (.ref f41) = true)
    (a42 : PySem.W.nsIn K mainGlobals "_law_names" = some (some (.ref f42)))
    (l42 : K.lookup f42 = some ⟨oc42, od42, .func (PySem.W.fnOf "_law_names" "_law_names" (defArgs s_names) (defBody s_names) (defScope s_names) .none kV42 dc42 pm42 an42 cd42 ct42), sl42⟩)
    (c42 : PySem.W.codeIn K cd42 "_law_names" = true)
    (k42 : PySem.W.keepIn K (.ref f42) = true)
    (a43 : PySem.W.nsIn K mainGlobals "_law_word" = some (some (.ref f43)))
    (l43 : K.lookup f43 = some ⟨oc43, od43, .func (PySem.W.fnOf "_law_word" "_law_word" (defArgs s_word) (defBody s_word) (defScope s_word) .none kV43 dc43 pm43 an43 cd43 ct43), sl43⟩)
    (c43 : PySem.W.codeIn K cd43 "_law_word" = true)
    (k43 : PySem.W.keepIn K (.ref f43) = true)
    (a44 : PySem.W.nsIn K mainGlobals "_law_plan" = some (some (.ref f44)))
    (l44 : K.lookup f44 = some ⟨oc44, od44, .func (PySem.W.fnOf "_law_plan" "_law_plan" (defArgs s_plan) (defBody s_plan) (defScope s_plan) .none kV44 dc44 pm44 an44 cd44 ct44), sl44⟩)
    (c44 : PySem.W.codeIn K cd44 "_law_plan" = true)
    (k44 : PySem.W.keepIn K (.ref f44) = true)
    (a45 : PySem.W.nsIn K mainGlobals "_law_act" = some (some (.ref f45)))
    (l45 : K.lookup f45 = some ⟨oc45, od45, .func (PySem.W.fnOf "_law_act" "_law_act" (defArgs s_act) (defBody s_act) (defScope s_act) .none kV45 dc45 pm45 an45 cd45 ct45), sl45⟩)
    (c45 : PySem.W.codeIn K cd45 "_law_act" = true)
    (k45 : PySem.W.keepIn K (.ref f45) = true)
    (a46 : PySem.W.nsIn K mainGlobals "_law_move" = some (some (.ref f46)))
    (l46 : K.lookup f46 = some ⟨oc46, od46, .func (PySem.W.fnOf "_law_move" "_law_move" (defArgs s_move) (defBody s_move) (defScope s_move) .none kV46 dc46 pm46 an46 cd46 ct46), sl46⟩)
    (c46 : PySem.W.codeIn K cd46 "_law_move" = true)
    (k46 : PySem.W.keepIn K (.ref f46) = true)
    (a47 : PySem.W.nsIn K mainGlobals "_law_lab" = some (some (.ref f47)))
    (l47 : K.lookup f47 = some ⟨oc47, od47, .func (PySem.W.fnOf "_law_lab" "_law_lab" (defArgs s_lab) (defBody s_lab) (defScope s_lab) .none kV47 dc47 pm47 an47 cd47 ct47), sl47⟩)
    (c47 : PySem.W.codeIn K cd47 "_law_lab" = true)
    (k47 : PySem.W.keepIn K (.ref f47) = true)
    (a48 : PySem.W.nsIn K mainGlobals "_law_begin" = some (some (.ref f48)))
    (l48 : K.lookup f48 = some ⟨oc48, od48, .func (PySem.W.fnOf "_law_begin" "_law_begin" (defArgs s_begin) (defBody s_begin) (defScope s_begin) .none kV48 dc48 pm48 an48 cd48 ct48), sl48⟩)
    (c48 : PySem.W.codeIn K cd48 "_law_begin" = true)
    (k48 : PySem.W.keepIn K (.ref f48) = true)
    (a49 : PySem.W.nsIn K mainGlobals "_law_lab_lines" = some (some (.ref f49)))
    (l49 : K.lookup f49 = some ⟨oc49, od49, .func (PySem.W.fnOf "_law_lab_lines" "_law_lab_lines" (defArgs s_lab_lines) (defBody s_lab_lines) (defScope s_lab_lines) .none kV49 dc49 pm49 an49 cd49 ct49), sl49⟩)
    (c49 : PySem.W.codeIn K cd49 "_law_lab_lines" = true)
    (k49 : PySem.W.keepIn K (.ref f49) = true)
    (a50 : PySem.W.nsIn K mainGlobals "_law_text_of" = some (some (.ref f50)))
    (l50 : K.lookup f50 = some ⟨oc50, od50, .func (PySem.W.fnOf "_law_text_of" "_law_text_of" (defArgs s_text_of) (defBody s_text_of) (defScope s_text_of) .none kV50 dc50 pm50 an50 cd50 ct50), sl50⟩)
    (c50 : PySem.W.codeIn K cd50 "_law_text_of" = true)
    (k50 : PySem.W.keepIn K (.ref f50) = true)
    (a51 : PySem.W.nsIn K mainGlobals "law" = some (some (.ref f51)))
    (l51 : K.lookup f51 = some ⟨oc51, od51, .func (PySem.W.fnOf "law" "law" (defArgs s_law) (defBody s_law) (defScope s_law) .none kV51 dc51 pm51 an51 cd51 ct51), sl51⟩)
    (c51 : PySem.W.codeIn K cd51 "law" = true)
    (k51 : PySem.W.keepIn K (.ref f51) = true)
    (q0ti : PySem.W.typeIn K (.ref f0) = some (.type "function"))
    (q0fn : PySem.W.findCls K (.ref q0) (.type "type") "__init__" = some (.val (.ref f0)))
    (q0em : PySem.W.exmOne K (.ref q0) (.ref q0) = some true)
    (q1ti : PySem.W.typeIn K (.ref f1) = some (.type "function"))
    (q1fn : PySem.W.findCls K (.ref q1) (.type "type") "__init__" = some (.val (.ref f1)))
    (q1em : PySem.W.exmOne K (.ref q1) (.ref q0) = some true)
    (q2ti : PySem.W.typeIn K (.ref f2) = some (.type "function"))
    (q2fn : PySem.W.findCls K (.ref q2) (.type "type") "__init__" = some (.val (.ref f2)))
    (q2em : PySem.W.exmOne K (.ref q2) (.ref q0) = some true)
    (q3ti : PySem.W.typeIn K (.ref f3) = some (.type "function"))
    (q3fn : PySem.W.findCls K (.ref q3) (.type "type") "__init__" = some (.val (.ref f3)))
    (q3em : PySem.W.exmOne K (.ref q3) (.ref q0) = some true)
    (q4ti : PySem.W.typeIn K (.ref f4) = some (.type "function"))
    (q4fn : PySem.W.findCls K (.ref q4) (.type "type") "__init__" = some (.val (.ref f4)))
    (q4em : PySem.W.exmOne K (.ref q4) (.ref q0) = some true)
    (q5ti : PySem.W.typeIn K (.ref f5) = some (.type "function"))
    (q5fn : PySem.W.findCls K (.ref q5) (.type "type") "__init__" = some (.val (.ref f5)))
    (q5em : PySem.W.exmOne K (.ref q5) (.ref q0) = some true)
    (q6ti : PySem.W.typeIn K (.ref f6) = some (.type "function"))
    (q6fn : PySem.W.findCls K (.ref q6) (.type "type") "__init__" = some (.val (.ref f6)))
    (q6em : PySem.W.exmOne K (.ref q6) (.ref q0) = some true)
    (q7ti : PySem.W.typeIn K (.ref f7) = some (.type "function"))
    (q7fn : PySem.W.findCls K (.ref q7) (.type "type") "__init__" = some (.val (.ref f7)))
    (q7em : PySem.W.exmOne K (.ref q7) (.ref q0) = some true)
    (q8ti : PySem.W.typeIn K (.ref f8) = some (.type "function"))
    (q8fn : PySem.W.findCls K (.ref q8) (.type "type") "__init__" = some (.val (.ref f8)))
    (q8em : PySem.W.exmOne K (.ref q8) (.ref q0) = some true)
    (z0 : PySem.W.nsIn K mainGlobals "ValueError" = some none)
    (z1 : PySem.W.nsIn K mainGlobals "all" = some none)
    (z2 : PySem.W.nsIn K mainGlobals "any" = some none)
    (z3 : PySem.W.nsIn K mainGlobals "bool" = some none)
    (z4 : PySem.W.nsIn K mainGlobals "enumerate" = some none)
    (z5 : PySem.W.nsIn K mainGlobals "int" = some none)
    (z6 : PySem.W.nsIn K mainGlobals "isinstance" = some none)
    (z7 : PySem.W.nsIn K mainGlobals "len" = some none)
    (z8 : PySem.W.nsIn K mainGlobals "list" = some none)
    (z9 : PySem.W.nsIn K mainGlobals "range" = some none)
    (z10 : PySem.W.nsIn K mainGlobals "set" = some none)
    (z11 : PySem.W.nsIn K mainGlobals "sorted" = some none)
    (z12 : PySem.W.nsIn K mainGlobals "str" = some none)
    (z13 : PySem.W.nsIn K mainGlobals "tuple" = some none)
    (z14 : PySem.W.nsIn K mainGlobals "zip" = some none)
    {u0 : Value}
    (d0 : PySem.W.nsIn K mainGlobals "LETTERS" = some (some u0))
    (e0 : RelV (V.str (PySem.Str.ofString "abcdefghijklmnopqrstuvwxyz")) u0)
    {u1 : Value}
    (d1 : PySem.W.nsIn K mainGlobals "MOST_NAME" = some (some u1))
    (e1 : RelV (V.int 8) u1)
    {u2 : Value}
    (d2 : PySem.W.nsIn K mainGlobals "MOST_MACHINES" = some (some u2))
    (e2 : RelV (V.int 3) u2)
    {u3 : Value}
    (d3 : PySem.W.nsIn K mainGlobals "MOST_ROWS" = some (some u3))
    (e3 : RelV (V.int 3) u3)
    {u4 : Value}
    (d4 : PySem.W.nsIn K mainGlobals "MOST_MOVES" = some (some u4))
    (e4 : RelV (V.int 24) u4)
    {u5 : Value}
    (d5 : PySem.W.nsIn K mainGlobals "MOST_STANDS" = some (some u5))
    (e5 : RelV (V.int 6) u5)
    {u6 : Value}
    (d6 : PySem.W.nsIn K mainGlobals "MOST_WORD" = some (some u6))
    (e6 : RelV (V.int 8) u6)
    {uD7 : Addr}
    (d7 : PySem.W.nsIn K mainGlobals "ACT_SIZES" = some (some (.ref uD7)))
    (kd7 : He.dicW K uD7 = some (He.keysIn w.params ["send", "take", "bare", "idle"]))
    (kn7_0 : ∃ t, PySem.W.nsIn K uD7 "send" = some (some (.int 3 t)))
    (kn7_1 : ∃ t, PySem.W.nsIn K uD7 "take" = some (some (.int 3 t)))
    (kn7_2 : ∃ t, PySem.W.nsIn K uD7 "bare" = some (some (.int 2 t)))
    (kn7_3 : ∃ t, PySem.W.nsIn K uD7 "idle" = some (some (.int 1 t)))
    {uD8 : Addr}
    (d8 : PySem.W.nsIn K mainGlobals "LINE_SIZES" = some (some (.ref uD8)))
    (kd8 : He.dicW K uD8 = some (He.keysIn w.params ["machine", "row", "move"]))
    (kn8_0 : ∃ t, PySem.W.nsIn K uD8 "machine" = some (some (.int 3 t)))
    (kn8_1 : ∃ t, PySem.W.nsIn K uD8 "row" = some (some (.int 3 t)))
    (kn8_2 : ∃ t, PySem.W.nsIn K uD8 "move" = some (some (.int 5 t)))
    : ∃ fd : FuncData, (∀ (s : Shared) (v : Value), BindsTo s fd ⟨[v], []⟩ [("_law_script", v)]) ∧ ∀ base : Heap, K.In base → base.Ns mainGlobals mg → FnOk l.prog w K mg base CX0 14 fa fd ["_law_script"] (sp_law K) := by
  have e := hfa.symm.trans (PySem.W.mg_of X G a51)
  cases e
  have F0 : FunD K "__init__" "LeakError.__init__" (defArgs s_LeakError_init) (defBody s_LeakError_init) (defScope s_LeakError_init) [V.int (-1), V.str (PySem.Str.ofString "leakerror")] [] f0 _ := ⟨⟨oc0, od0, .ref td0, kV0, dc0, pm0, an0, cd0, ct0, sl0, rfl, l0, c0, .inr ⟨by simp, td0, _, _, nt0, rfl, t0, rfl, (.cons ⟨_, rfl⟩ (.cons ⟨_, rfl⟩ .nil))⟩, .inl rfl⟩, k0⟩
  obtain ⟨ds0_1, dv0_1, b0_1⟩ := F0.binds1 (ps := P_LeakError_init) 1 0 (by simp) rfl (fun _ _ _ _ _ _ _ us its h1 h2 => match us, its, h1, h2 with | [_], [_, _], _, _ => ⟨_, rfl, rfl⟩)
  obtain ⟨ds0_2, dv0_2, b0_2⟩ := F0.binds1 (ps := P_LeakError_init) 2 1 (by simp) rfl (fun _ _ _ _ _ _ _ us its h1 h2 => match us, its, h1, h2 with | [_, _], [_, _], _, _ => ⟨_, rfl, rfl⟩)
  obtain ⟨ds0_3, dv0_3, b0_3⟩ := F0.binds1 (ps := P_LeakError_init) 3 2 (by simp) rfl (fun _ _ _ _ _ _ _ us its h1 h2 => match us, its, h1, h2 with | [_, _, _], [_, _], _, _ => ⟨_, rfl, rfl⟩)
  have F1 : FunD K "__init__" "BadName.__init__" (defArgs s_BadName_init) (defBody s_BadName_init) (defScope s_BadName_init) [V.int (-1)] [] f1 _ := ⟨⟨oc1, od1, .ref td1, kV1, dc1, pm1, an1, cd1, ct1, sl1, rfl, l1, c1, .inr ⟨by simp, td1, _, _, nt1, rfl, t1, rfl, (.cons ⟨_, rfl⟩ .nil)⟩, .inl rfl⟩, k1⟩
  obtain ⟨ds1_1, dv1_1, b1_1⟩ := F1.binds1 (ps := P_BadName_init) 1 0 (by simp) rfl (fun _ _ _ _ _ _ _ us its h1 h2 => match us, its, h1, h2 with | [_], [_], _, _ => ⟨_, rfl, rfl⟩)
  obtain ⟨ds1_2, dv1_2, b1_2⟩ := F1.binds1 (ps := P_BadName_init) 2 1 (by simp) rfl (fun _ _ _ _ _ _ _ us its h1 h2 => match us, its, h1, h2 with | [_, _], [_], _, _ => ⟨_, rfl, rfl⟩)
  have F2 : FunD K "__init__" "BadWord.__init__" (defArgs s_BadWord_init) (defBody s_BadWord_init) (defScope s_BadWord_init) [V.int (-1)] [] f2 _ := ⟨⟨oc2, od2, .ref td2, kV2, dc2, pm2, an2, cd2, ct2, sl2, rfl, l2, c2, .inr ⟨by simp, td2, _, _, nt2, rfl, t2, rfl, (.cons ⟨_, rfl⟩ .nil)⟩, .inl rfl⟩, k2⟩
  obtain ⟨ds2_1, dv2_1, b2_1⟩ := F2.binds1 (ps := P_BadWord_init) 1 0 (by simp) rfl (fun _ _ _ _ _ _ _ us its h1 h2 => match us, its, h1, h2 with | [_], [_], _, _ => ⟨_, rfl, rfl⟩)
  obtain ⟨ds2_2, dv2_2, b2_2⟩ := F2.binds1 (ps := P_BadWord_init) 2 1 (by simp) rfl (fun _ _ _ _ _ _ _ us its h1 h2 => match us, its, h1, h2 with | [_, _], [_], _, _ => ⟨_, rfl, rfl⟩)
  have F3 : FunD K "__init__" "BadAct.__init__" (defArgs s_BadAct_init) (defBody s_BadAct_init) (defScope s_BadAct_init) [V.int (-1)] [] f3 _ := ⟨⟨oc3, od3, .ref td3, kV3, dc3, pm3, an3, cd3, ct3, sl3, rfl, l3, c3, .inr ⟨by simp, td3, _, _, nt3, rfl, t3, rfl, (.cons ⟨_, rfl⟩ .nil)⟩, .inl rfl⟩, k3⟩
  obtain ⟨ds3_1, dv3_1, b3_1⟩ := F3.binds1 (ps := P_BadAct_init) 1 0 (by simp) rfl (fun _ _ _ _ _ _ _ us its h1 h2 => match us, its, h1, h2 with | [_], [_], _, _ => ⟨_, rfl, rfl⟩)
  obtain ⟨ds3_2, dv3_2, b3_2⟩ := F3.binds1 (ps := P_BadAct_init) 2 1 (by simp) rfl (fun _ _ _ _ _ _ _ us its h1 h2 => match us, its, h1, h2 with | [_, _], [_], _, _ => ⟨_, rfl, rfl⟩)
  have F4 : FunD K "__init__" "BadText.__init__" (defArgs s_BadText_init) (defBody s_BadText_init) (defScope s_BadText_init) [V.int (-1)] [] f4 _ := ⟨⟨oc4, od4, .ref td4, kV4, dc4, pm4, an4, cd4, ct4, sl4, rfl, l4, c4, .inr ⟨by simp, td4, _, _, nt4, rfl, t4, rfl, (.cons ⟨_, rfl⟩ .nil)⟩, .inl rfl⟩, k4⟩
  obtain ⟨ds4_1, dv4_1, b4_1⟩ := F4.binds1 (ps := P_BadText_init) 1 0 (by simp) rfl (fun _ _ _ _ _ _ _ us its h1 h2 => match us, its, h1, h2 with | [_], [_], _, _ => ⟨_, rfl, rfl⟩)
  obtain ⟨ds4_2, dv4_2, b4_2⟩ := F4.binds1 (ps := P_BadText_init) 2 1 (by simp) rfl (fun _ _ _ _ _ _ _ us its h1 h2 => match us, its, h1, h2 with | [_, _], [_], _, _ => ⟨_, rfl, rfl⟩)
  have F5 : FunD K "__init__" "Taken.__init__" (defArgs s_Taken_init) (defBody s_Taken_init) (defScope s_Taken_init) [V.int (-1)] [] f5 _ := ⟨⟨oc5, od5, .ref td5, kV5, dc5, pm5, an5, cd5, ct5, sl5, rfl, l5, c5, .inr ⟨by simp, td5, _, _, nt5, rfl, t5, rfl, (.cons ⟨_, rfl⟩ .nil)⟩, .inl rfl⟩, k5⟩
  obtain ⟨ds5_1, dv5_1, b5_1⟩ := F5.binds1 (ps := P_Taken_init) 1 0 (by simp) rfl (fun _ _ _ _ _ _ _ us its h1 h2 => match us, its, h1, h2 with | [_], [_], _, _ => ⟨_, rfl, rfl⟩)
  obtain ⟨ds5_2, dv5_2, b5_2⟩ := F5.binds1 (ps := P_Taken_init) 2 1 (by simp) rfl (fun _ _ _ _ _ _ _ us its h1 h2 => match us, its, h1, h2 with | [_, _], [_], _, _ => ⟨_, rfl, rfl⟩)
  have F6 : FunD K "__init__" "Full.__init__" (defArgs s_Full_init) (defBody s_Full_init) (defScope s_Full_init) [V.int (-1)] [] f6 _ := ⟨⟨oc6, od6, .ref td6, kV6, dc6, pm6, an6, cd6, ct6, sl6, rfl, l6, c6, .inr ⟨by simp, td6, _, _, nt6, rfl, t6, rfl, (.cons ⟨_, rfl⟩ .nil)⟩, .inl rfl⟩, k6⟩
  obtain ⟨ds6_1, dv6_1, b6_1⟩ := F6.binds1 (ps := P_Full_init) 1 0 (by simp) rfl (fun _ _ _ _ _ _ _ us its h1 h2 => match us, its, h1, h2 with | [_], [_], _, _ => ⟨_, rfl, rfl⟩)
  obtain ⟨ds6_2, dv6_2, b6_2⟩ := F6.binds1 (ps := P_Full_init) 2 1 (by simp) rfl (fun _ _ _ _ _ _ _ us its h1 h2 => match us, its, h1, h2 with | [_, _], [_], _, _ => ⟨_, rfl, rfl⟩)
  have F7 : FunD K "__init__" "NoMachine.__init__" (defArgs s_NoMachine_init) (defBody s_NoMachine_init) (defScope s_NoMachine_init) [V.int (-1)] [] f7 _ := ⟨⟨oc7, od7, .ref td7, kV7, dc7, pm7, an7, cd7, ct7, sl7, rfl, l7, c7, .inr ⟨by simp, td7, _, _, nt7, rfl, t7, rfl, (.cons ⟨_, rfl⟩ .nil)⟩, .inl rfl⟩, k7⟩
  obtain ⟨ds7_1, dv7_1, b7_1⟩ := F7.binds1 (ps := P_NoMachine_init) 1 0 (by simp) rfl (fun _ _ _ _ _ _ _ us its h1 h2 => match us, its, h1, h2 with | [_], [_], _, _ => ⟨_, rfl, rfl⟩)
  obtain ⟨ds7_2, dv7_2, b7_2⟩ := F7.binds1 (ps := P_NoMachine_init) 2 1 (by simp) rfl (fun _ _ _ _ _ _ _ us its h1 h2 => match us, its, h1, h2 with | [_, _], [_], _, _ => ⟨_, rfl, rfl⟩)
  have F8 : FunD K "__init__" "NoRow.__init__" (defArgs s_NoRow_init) (defBody s_NoRow_init) (defScope s_NoRow_init) [V.int (-1)] [] f8 _ := ⟨⟨oc8, od8, .ref td8, kV8, dc8, pm8, an8, cd8, ct8, sl8, rfl, l8, c8, .inr ⟨by simp, td8, _, _, nt8, rfl, t8, rfl, (.cons ⟨_, rfl⟩ .nil)⟩, .inl rfl⟩, k8⟩
  obtain ⟨ds8_1, dv8_1, b8_1⟩ := F8.binds1 (ps := P_NoRow_init) 1 0 (by simp) rfl (fun _ _ _ _ _ _ _ us its h1 h2 => match us, its, h1, h2 with | [_], [_], _, _ => ⟨_, rfl, rfl⟩)
  obtain ⟨ds8_2, dv8_2, b8_2⟩ := F8.binds1 (ps := P_NoRow_init) 2 1 (by simp) rfl (fun _ _ _ _ _ _ _ us its h1 h2 => match us, its, h1, h2 with | [_, _], [_], _, _ => ⟨_, rfl, rfl⟩)
  have F9 := fun_mk (st := s_p_is_word) l9 c9 k9
  have b9 := F9.binds (ps := P_p_is_word) fun _ _ _ _ _ _ us hl => match us, hl with | [_], _ => rfl
  have F10 := fun_mk (st := s_p_is_name) l10 c10 k10
  have b10 := F10.binds (ps := P_p_is_name) fun _ _ _ _ _ _ us hl => match us, hl with | [_], _ => rfl
  have F11 := fun_mk (st := s_p_is_letter) l11 c11 k11
  have b11 := F11.binds (ps := P_p_is_letter) fun _ _ _ _ _ _ us hl => match us, hl with | [_], _ => rfl
  have F12 := fun_mk (st := s_p_is_short_word) l12 c12 k12
  have b12 := F12.binds (ps := P_p_is_short_word) fun _ _ _ _ _ _ us hl => match us, hl with | [_], _ => rfl
  have F13 := fun_mk (st := s_p_check_machines) l13 c13 k13
  have b13 := F13.binds (ps := P_p_check_machines) fun _ _ _ _ _ _ us hl => match us, hl with | [_], _ => rfl
  have F14 := fun_mk (st := s_p_check_rows) l14 c14 k14
  have b14 := F14.binds (ps := P_p_check_rows) fun _ _ _ _ _ _ us hl => match us, hl with | [_], _ => rfl
  have F15 := fun_mk (st := s_p_check_act) l15 c15 k15
  have b15 := F15.binds (ps := P_p_check_act) fun _ _ _ _ _ _ us hl => match us, hl with | [_, _], _ => rfl
  have F16 := fun_mk (st := s_p_check_moves) l16 c16 k16
  have b16 := F16.binds (ps := P_p_check_moves) fun _ _ _ _ _ _ us hl => match us, hl with | [_, _, _], _ => rfl
  have F17 := fun_mk (st := s_p_places_of) l17 c17 k17
  have b17 := F17.binds (ps := P_p_places_of) fun _ _ _ _ _ _ us hl => match us, hl with | [_], _ => rfl
  have F18 := fun_mk (st := s_p_stands_of) l18 c18 k18
  have b18 := F18.binds (ps := P_p_stands_of) fun _ _ _ _ _ _ us hl => match us, hl with | [_, _], _ => rfl
  have F19 := fun_mk (st := s_p_step_of) l19 c19 k19
  have b19 := F19.binds (ps := P_p_step_of) fun _ _ _ _ _ _ us hl => match us, hl with | [_, _, _], _ => rfl
  have F20 := fun_mk (st := s_p_word_text) l20 c20 k20
  have b20 := F20.binds (ps := P_p_word_text) fun _ _ _ _ _ _ us hl => match us, hl with | [_], _ => rfl
  have F21 := fun_mk (st := s_p_act_text) l21 c21 k21
  have b21 := F21.binds (ps := P_p_act_text) fun _ _ _ _ _ _ us hl => match us, hl with | [_], _ => rfl
  have F22 := fun_mk (st := s_p_lab_lines) l22 c22 k22
  have b22 := F22.binds (ps := P_p_lab_lines) fun _ _ _ _ _ _ us hl => match us, hl with | [_], _ => rfl
  have F23 : FunD K "__init__" "Lab.__init__" (defArgs s_Lab_init) (defBody s_Lab_init) (defScope s_Lab_init) [V.ref w23_0, V.ref w23_1, V.ref w23_2] [] f23 _ := ⟨⟨oc23, od23, .ref td23, kV23, dc23, pm23, an23, cd23, ct23, sl23, rfl, l23, c23, .inr ⟨by simp, td23, _, _, nt23, rfl, t23, rfl, (.cons rfl (.cons rfl (.cons rfl .nil)))⟩, .inl rfl⟩, k23⟩
  obtain ⟨ds23_1, dv23_1, b23_1⟩ := F23.binds1 (ps := P_Lab_init) 1 0 (by simp) rfl (fun _ _ _ _ _ _ _ us its h1 h2 => match us, its, h1, h2 with | [_], [_, _, _], _, _ => ⟨_, rfl, rfl⟩)
  obtain ⟨ds23_2, dv23_2, b23_2⟩ := F23.binds1 (ps := P_Lab_init) 2 1 (by simp) rfl (fun _ _ _ _ _ _ _ us its h1 h2 => match us, its, h1, h2 with | [_, _], [_, _, _], _, _ => ⟨_, rfl, rfl⟩)
  obtain ⟨ds23_3, dv23_3, b23_3⟩ := F23.binds1 (ps := P_Lab_init) 3 2 (by simp) rfl (fun _ _ _ _ _ _ _ us its h1 h2 => match us, its, h1, h2 with | [_, _, _], [_, _, _], _, _ => ⟨_, rfl, rfl⟩)
  obtain ⟨ds23_4, dv23_4, b23_4⟩ := F23.binds1 (ps := P_Lab_init) 4 3 (by simp) rfl (fun _ _ _ _ _ _ _ us its h1 h2 => match us, its, h1, h2 with | [_, _, _, _], [_, _, _], _, _ => ⟨_, rfl, rfl⟩)
  have F24 := fun_mk (st := s_Lab_is_over) l24 c24 k24
  have b24 := F24.binds (ps := P_Lab_is_over) fun _ _ _ _ _ _ us hl => match us, hl with | [_], _ => rfl
  have F25 := fun_mk (st := s_Lab_machines) l25 c25 k25
  have b25 := F25.binds (ps := P_Lab_machines) fun _ _ _ _ _ _ us hl => match us, hl with | [_], _ => rfl
  have F26 := fun_mk (st := s_Lab_rows) l26 c26 k26
  have b26 := F26.binds (ps := P_Lab_rows) fun _ _ _ _ _ _ us hl => match us, hl with | [_], _ => rfl
  have F27 := fun_mk (st := s_Lab_moves) l27 c27 k27
  have b27 := F27.binds (ps := P_Lab_moves) fun _ _ _ _ _ _ us hl => match us, hl with | [_], _ => rfl
  have F28 := fun_mk (st := s_Lab_begin) l28 c28 k28
  have b28 := F28.binds (ps := P_Lab_begin) fun _ _ _ _ _ _ us hl => match us, hl with | [_], _ => rfl
  have F29 := fun_mk (st := s_Lab_eq) l29 c29 k29
  have b29 := F29.binds (ps := P_Lab_eq) fun _ _ _ _ _ _ us hl => match us, hl with | [_, _], _ => rfl
  have F30 := fun_mk (st := s_Lab_str) l30 c30 k30
  have b30 := F30.binds (ps := P_Lab_str) fun _ _ _ _ _ _ us hl => match us, hl with | [_], _ => rfl
  have F31 := fun_mk (st := s_p_read_word) l31 c31 k31
  have b31 := F31.binds (ps := P_p_read_word) fun _ _ _ _ _ _ us hl => match us, hl with | [_], _ => rfl
  have F32 := fun_mk (st := s_p_read_act) l32 c32 k32
  have b32 := F32.binds (ps := P_p_read_act) fun _ _ _ _ _ _ us hl => match us, hl with | [_], _ => rfl
  have F33 := fun_mk (st := s_p_thing_of) l33 c33 k33
  have b33 := F33.binds (ps := P_p_thing_of) fun _ _ _ _ _ _ us hl => match us, hl with | [_], _ => rfl
  have F34 := fun_mk (st := s_p_read_line) l34 c34 k34
  have b34 := F34.binds (ps := P_p_read_line) fun _ _ _ _ _ _ us hl => match us, hl with | [_, _], _ => rfl
  have F35 := fun_mk (st := s_p_lab_text) l35 c35 k35
  have b35 := F35.binds (ps := P_p_lab_text) fun _ _ _ _ _ _ us hl => match us, hl with | [_], _ => rfl
  have F36 := fun_mk (st := s_p_read_lab) l36 c36 k36
  have b36 := F36.binds (ps := P_p_read_lab) fun _ _ _ _ _ _ us hl => match us, hl with | [_], _ => rfl
  have F37 := fun_mk (st := s_bag) l37 c37 k37
  have b37 := F37.binds (ps := P_bag) fun _ _ _ _ _ _ us hl => match us, hl with | [_], _ => rfl
  have F38 := fun_mk (st := s_pull) l38 c38 k38
  have b38 := F38.binds (ps := P_pull) fun _ _ _ _ _ _ us hl => match us, hl with | [_, _], _ => rfl
  have F39 := fun_mk (st := s_of) l39 c39 k39
  have b39 := F39.binds (ps := P_of) fun _ _ _ _ _ _ us hl => match us, hl with | [_, _], _ => rfl
  have F40 := fun_mk (st := s_same) l40 c40 k40
  have b40 := F40.binds (ps := P_same) fun _ _ _ _ _ _ us hl => match us, hl with | [_, _], _ => rfl
  have F41 := fun_mk (st := s_letters) l41 c41 k41
  have b41 := F41.binds (ps := P_letters) fun _ _ _ _ _ _ us hl => match us, hl with | [_], _ => rfl
  have F42 := fun_mk (st := s_names) l42 c42 k42
  have b42 := F42.binds (ps := P_names) fun _ _ _ _ _ _ us hl => match us, hl with | [_, _], _ => rfl
  have F43 := fun_mk (st := s_word) l43 c43 k43
  have b43 := F43.binds (ps := P_word) fun _ _ _ _ _ _ us hl => match us, hl with | [_, _, _], _ => rfl
  have F44 := fun_mk (st := s_plan) l44 c44 k44
  have b44 := F44.binds (ps := P_plan) fun _ _ _ _ _ _ us hl => match us, hl with | [_, _, _, _, _], _ => rfl
  have F45 := fun_mk (st := s_act) l45 c45 k45
  have b45 := F45.binds (ps := P_act) fun _ _ _ _ _ _ us hl => match us, hl with | [_, _], _ => rfl
  have F46 := fun_mk (st := s_move) l46 c46 k46
  have b46 := F46.binds (ps := P_move) fun _ _ _ _ _ _ us hl => match us, hl with | [_, _], _ => rfl
  have F47 := fun_mk (st := s_lab) l47 c47 k47
  have b47 := F47.binds (ps := P_lab) fun _ _ _ _ _ _ us hl => match us, hl with | [_], _ => rfl
  have F48 := fun_mk (st := s_begin) l48 c48 k48
  have b48 := F48.binds (ps := P_begin) fun _ _ _ _ _ _ us hl => match us, hl with | [_], _ => rfl
  have F49 := fun_mk (st := s_lab_lines) l49 c49 k49
  have b49 := F49.binds (ps := P_lab_lines) fun _ _ _ _ _ _ us hl => match us, hl with | [_], _ => rfl
  have F50 := fun_mk (st := s_text_of) l50 c50 k50
  have b50 := F50.binds (ps := P_text_of) fun _ _ _ _ _ _ us hl => match us, hl with | [_], _ => rfl
  have F51 := fun_mk (st := s_law) l51 c51 k51
  have b51 := F51.binds (ps := P_law) fun _ _ _ _ _ _ us hl => match us, hl with | [_], _ => rfl
  exact ⟨PySem.W.fnOf "law" "law" (defArgs s_law) (defBody s_law) (defScope s_law) .none kV51 dc51 pm51 an51 cd51 ct51, fun s v => .of_eq rfl, fun base _ _ => ok_law_at ⟨q0, PySem.W.mg_of X G q0C, q1, PySem.W.mg_of X G q1C, q2, PySem.W.mg_of X G q2C, q3, PySem.W.mg_of X G q3C, q4, PySem.W.mg_of X G q4C, q5, PySem.W.mg_of X G q5C, q6, PySem.W.mg_of X G q6C, q7, PySem.W.mg_of X G q7C, q8, PySem.W.mg_of X G q8C, q9, PySem.W.mg_of X G q9C, _, _, F0, ds0_1, dv0_1, b0_1, ds0_2, dv0_2, b0_2, ds0_3, dv0_3, b0_3, _, _, F1, ds1_1, dv1_1, b1_1, ds1_2, dv1_2, b1_2, _, _, F2, ds2_1, dv2_1, b2_1, ds2_2, dv2_2, b2_2, _, _, F3, ds3_1, dv3_1, b3_1, ds3_2, dv3_2, b3_2, _, _, F4, ds4_1, dv4_1, b4_1, ds4_2, dv4_2, b4_2, _, _, F5, ds5_1, dv5_1, b5_1, ds5_2, dv5_2, b5_2, _, _, F6, ds6_1, dv6_1, b6_1, ds6_2, dv6_2, b6_2, _, _, F7, ds7_1, dv7_1, b7_1, ds7_2, dv7_2, b7_2, _, _, F8, ds8_1, dv8_1, b8_1, ds8_2, dv8_2, b8_2, _, _, F9, b9, PySem.W.mg_of X G a9, _, _, F10, b10, PySem.W.mg_of X G a10, _, _, F11, b11, PySem.W.mg_of X G a11, _, _, F12, b12, PySem.W.mg_of X G a12, _, _, F13, b13, PySem.W.mg_of X G a13, _, _, F14, b14, PySem.W.mg_of X G a14, _, _, F15, b15, PySem.W.mg_of X G a15, _, _, F16, b16, PySem.W.mg_of X G a16, _, _, F17, b17, PySem.W.mg_of X G a17, _, _, F18, b18, PySem.W.mg_of X G a18, _, _, F19, b19, PySem.W.mg_of X G a19, _, _, F20, b20, PySem.W.mg_of X G a20, _, _, F21, b21, PySem.W.mg_of X G a21, _, _, F22, b22, PySem.W.mg_of X G a22, _, _, w23_0, (fun H => Pu.mt_of mt23_0 rfl rfl H), w23_1, (fun H => Pu.mt_of mt23_1 rfl rfl H), w23_2, (fun H => Pu.mt_of mt23_2 rfl rfl H), F23, ds23_1, dv23_1, b23_1, ds23_2, dv23_2, b23_2, ds23_3, dv23_3, b23_3, ds23_4, dv23_4, b23_4, _, _, F24, b24, ⟨a24, i24, k24⟩, _, _, F25, b25, ⟨a25, i25, k25⟩, _, _, F26, b26, ⟨a26, i26, k26⟩, _, _, F27, b27, ⟨a27, i27, k27⟩, _, _, F28, b28, ⟨a28, i28, k28⟩, _, _, F29, b29, ⟨a29, i29, k29⟩, _, _, F30, b30, ⟨a30, i30, k30⟩, _, _, F31, b31, PySem.W.mg_of X G a31, _, _, F32, b32, PySem.W.mg_of X G a32, _, _, F33, b33, PySem.W.mg_of X G a33, _, _, F34, b34, PySem.W.mg_of X G a34, _, _, F35, b35, PySem.W.mg_of X G a35, _, _, F36, b36, PySem.W.mg_of X G a36, _, _, F37, b37, PySem.W.mg_of X G a37, _, _, F38, b38, PySem.W.mg_of X G a38, _, _, F39, b39, PySem.W.mg_of X G a39, _, _, F40, b40, PySem.W.mg_of X G a40, _, _, F41, b41, PySem.W.mg_of X G a41, _, _, F42, b42, PySem.W.mg_of X G a42, _, _, F43, b43, PySem.W.mg_of X G a43, _, _, F44, b44, PySem.W.mg_of X G a44, _, _, F45, b45, PySem.W.mg_of X G a45, _, _, F46, b46, PySem.W.mg_of X G a46, _, _, F47, b47, PySem.W.mg_of X G a47, _, _, F48, b48, PySem.W.mg_of X G a48, _, _, F49, b49, PySem.W.mg_of X G a49, _, _, F50, b50, PySem.W.mg_of X G a50, _, _, F51, b51, PySem.W.mg_of X G a51, ⟨⟨_, _, _, _, _, _, _, _, _, _, _, _, _, _, _, q0XX, rfl⟩, q0sa, q0ec, q0ty, q0kc⟩, a0, q0ti, ⟨q0rd, q0ga, q0fn, k0⟩, ⟨q0x1, q0x2, q0x3, q0ec, q0x5, q0x6, q0x7, q0x8, q0x9⟩, q0nw, q0na, q0em, q0kv, q0kl, ⟨⟨_, _, _, _, _, _, _, _, _, _, _, _, _, _, _, q1XX, rfl⟩, q1sa, q1ec, q1ty, q1kc⟩, a1, q1ti, ⟨q1rd, q1ga, q1fn, k1⟩, ⟨q1x1, q1x2, q1x3, q1ec, q1x5, q1x6, q1x7, q1x8, q1x9⟩, q1nw, q1na, q1em, q1kv, q1kl, ⟨⟨_, _, _, _, _, _, _, _, _, _, _, _, _, _, _, q2XX, rfl⟩, q2sa, q2ec, q2ty, q2kc⟩, a2, q2ti, ⟨q2rd, q2ga, q2fn, k2⟩, ⟨q2x1, q2x2, q2x3, q2ec, q2x5, q2x6, q2x7, q2x8, q2x9⟩, q2nw, q2na, q2em, q2kv, q2kl, ⟨⟨_, _, _, _, _, _, _, _, _, _, _, _, _, _, _, q3XX, rfl⟩, q3sa, q3ec, q3ty, q3kc⟩, a3, q3ti, ⟨q3rd, q3ga, q3fn, k3⟩, ⟨q3x1, q3x2, q3x3, q3ec, q3x5, q3x6, q3x7, q3x8, q3x9⟩, q3nw, q3na, q3em, q3kv, q3kl, ⟨⟨_, _, _, _, _, _, _, _, _, _, _, _, _, _, _, q4XX, rfl⟩, q4sa, q4ec, q4ty, q4kc⟩, a4, q4ti, ⟨q4rd, q4ga, q4fn, k4⟩, ⟨q4x1, q4x2, q4x3, q4ec, q4x5, q4x6, q4x7, q4x8, q4x9⟩, q4nw, q4na, q4em, q4kv, q4kl, ⟨⟨_, _, _, _, _, _, _, _, _, _, _, _, _, _, _, q5XX, rfl⟩, q5sa, q5ec, q5ty, q5kc⟩, a5, q5ti, ⟨q5rd, q5ga, q5fn, k5⟩, ⟨q5x1, q5x2, q5x3, q5ec, q5x5, q5x6, q5x7, q5x8, q5x9⟩, q5nw, q5na, q5em, q5kv, q5kl, ⟨⟨_, _, _, _, _, _, _, _, _, _, _, _, _, _, _, q6XX, rfl⟩, q6sa, q6ec, q6ty, q6kc⟩, a6, q6ti, ⟨q6rd, q6ga, q6fn, k6⟩, ⟨q6x1, q6x2, q6x3, q6ec, q6x5, q6x6, q6x7, q6x8, q6x9⟩, q6nw, q6na, q6em, q6kv, q6kl, ⟨⟨_, _, _, _, _, _, _, _, _, _, _, _, _, _, _, q7XX, rfl⟩, q7sa, q7ec, q7ty, q7kc⟩, a7, q7ti, ⟨q7rd, q7ga, q7fn, k7⟩, ⟨q7x1, q7x2, q7x3, q7ec, q7x5, q7x6, q7x7, q7x8, q7x9⟩, q7nw, q7na, q7em, q7kv, q7kl, ⟨⟨_, _, _, _, _, _, _, _, _, _, _, _, _, _, _, q8XX, rfl⟩, q8sa, q8ec, q8ty, q8kc⟩, a8, q8ti, ⟨q8rd, q8ga, q8fn, k8⟩, ⟨q8x1, q8x2, q8x3, q8ec, q8x5, q8x6, q8x7, q8x8, q8x9⟩, q8nw, q8na, q8em, q8kv, q8kl, ⟨q9pg, q9hd, q9po, q9sa⟩, ⟨q9mk, a23, i23, q9kc⟩, q9no_machine_pairs, q9no_row_pairs, q9no_whole_moves, q9no_machine_places, q9no_row_places, q9no_stand_lists, q9no_steps, ⟨⟨⟨q9pg, q9hd, q9po, q9sa⟩, q9oa, q9og, q9ot, q9om, q9oi⟩, q9on, q9os, q9ok, q9ou, q9ol⟩, vV, PySem.W.mg_none_of X G z0, PySem.W.mg_none_of X G z1, PySem.W.mg_none_of X G z2, PySem.W.mg_none_of X G z3, PySem.W.mg_none_of X G z4, PySem.W.mg_none_of X G z5, PySem.W.mg_none_of X G z6, PySem.W.mg_none_of X G z7, PySem.W.mg_none_of X G z8, PySem.W.mg_none_of X G z9, PySem.W.mg_none_of X G z10, PySem.W.mg_none_of X G z11, PySem.W.mg_none_of X G z12, PySem.W.mg_none_of X G z13, PySem.W.mg_none_of X G z14, _, PySem.W.mg_of X G d0, e0, _, PySem.W.mg_of X G d1, e1, _, PySem.W.mg_of X G d2, e2, _, PySem.W.mg_of X G d3, e3, _, PySem.W.mg_of X G d4, e4, _, PySem.W.mg_of X G d5, e5, _, PySem.W.mg_of X G d6, e6, _, PySem.W.mg_of X G d7, kd7, kn7_0, kn7_1, kn7_2, kn7_3, _, PySem.W.mg_of X G d8, kd8, kn8_0, kn8_1, kn8_2⟩⟩
end K49
theorem PySem.Challenge.cw_leakpost_k49_labs_written_holds : PySem.Challenge.rw_leakpost_k49_labs_written.Holds :=
  fin_of @K49.all_mk
