import PyProof.Rows.All
import Wide.All
import OpenK.AllK
import Wide.FinOn
import KE.OsRunLaw
import HandS.Head2
import HandS.ForMost
import HandS.Walk
import HandS.Zip
import HandS.IsInst
import HandS.StrMore
import HandS.Evl
import HandS.Codes
import HandS.Defaults
import HandS.Dict
import HandS.DictComp
import HandS.DictTup
import HandS.EndOwn
import HandS.ExcField
import HandS.ExcInit
import HandS.ExcIs
import HandS.Flow
import HandS.HeadHook3
import HandS.Iter
import HandS.Lambda
import HandS.More
import HandS.Replace
import HandS.Sort
import HandS.SortInts
import HandS.SortKw
import HandS.SortOrd
import HandS.TupLe
import KE.KDictKeyed
import KE.KSortKey
import KE.KSortKeySt
import KE.KSortTupG
import HandS.Set
import HandS.SetFor
import HandS.SetTxt0
import HandS.Style
import HandS.TupAny
import HandS.TupSets
import HandS.WordsExc
import HandS.MakeKwOnly
import HandS.TryOnly
import KE.KDictWalk
import KE.KExcIs
import KE.KRevSl
import KE.GoesEnum
import PyProof.ListStr
import PyProof.Rows.SortShellAny
import HandS.FStr
import HandS.Deep
import HandS.Text
import KE.KDictPairs
import HandS.IsInst
import HandS.OwnEq
import KE.KeyNested
import PySem.Challenge.RW_leakpost_k48_compiled_moves
set_option Elab.async false
set_option linter.all false
set_option maxRecDepth 100000
namespace K48
open PySem PySem.Spec PyProof.Rows L2
def KG_p_compiled_2_stem : List V → List V → List V
  | [x0, x1], [k_stem] => [x0, x1, k_stem]
  | _, _ => []
def KG_p_compiled_2_stemV : List Value → List Value → List Value
  | [x0, x1], [k_stem] => [x0, x1, k_stem]
  | _, _ => []
def topS (i : Nat) : Stmt := PySem.Challenge.pw_leakpost_k48_compiled_moves.main.body.getD i (.Pass ⟨0, 0, 0, 0⟩)
def clsS (i j : Nat) : Stmt := (C8.clsBody (topS i)).getD j (.Pass ⟨0, 0, 0, 0⟩)
abbrev s_LeakError_init : Stmt := clsS 1 0
abbrev N_LeakError_init : List Str := ["self", "at", "word"]
abbrev P_LeakError_init : List Str := ["self", "at", "word"]
theorem sc_LeakError_init : FnScope N_LeakError_init P_LeakError_init (defScope s_LeakError_init) := ⟨rfl, rfl, rfl, by decide +kernel, rfl, by decide +kernel, by decide +kernel⟩
abbrev s_BadName_init : Stmt := clsS 2 0
abbrev N_BadName_init : List Str := ["self", "at"]
abbrev P_BadName_init : List Str := ["self", "at"]
theorem sc_BadName_init : FnScope N_BadName_init P_BadName_init (defScope s_BadName_init) := ⟨rfl, rfl, rfl, by decide +kernel, rfl, by decide +kernel, by decide +kernel⟩
abbrev s_BadBody_init : Stmt := clsS 3 0
abbrev N_BadBody_init : List Str := ["self", "at"]
abbrev P_BadBody_init : List Str := ["self", "at"]
theorem sc_BadBody_init : FnScope N_BadBody_init P_BadBody_init (defScope s_BadBody_init) := ⟨rfl, rfl, rfl, by decide +kernel, rfl, by decide +kernel, by decide +kernel⟩
abbrev s_p_is_word : Stmt := topS 7
abbrev N_p_is_word : List Str := ["text", "sign"]
abbrev P_p_is_word : List Str := ["text"]
theorem sc_p_is_word : FnScope N_p_is_word P_p_is_word (defScope s_p_is_word) := ⟨rfl, rfl, rfl, by decide +kernel, rfl, by decide +kernel, by decide +kernel⟩
abbrev s_p_is_name : Stmt := topS 8
abbrev N_p_is_name : List Str := ["text"]
abbrev P_p_is_name : List Str := ["text"]
theorem sc_p_is_name : FnScope N_p_is_name P_p_is_name (defScope s_p_is_name) := ⟨rfl, rfl, rfl, by decide +kernel, rfl, by decide +kernel, by decide +kernel⟩
abbrev s_p_is_letter : Stmt := topS 9
abbrev N_p_is_letter : List Str := ["text"]
abbrev P_p_is_letter : List Str := ["text"]
theorem sc_p_is_letter : FnScope N_p_is_letter P_p_is_letter (defScope s_p_is_letter) := ⟨rfl, rfl, rfl, by decide +kernel, rfl, by decide +kernel, by decide +kernel⟩
abbrev s_p_inner : Stmt := topS 14
abbrev N_p_inner : List Str := ["body"]
abbrev P_p_inner : List Str := ["body"]
theorem sc_p_inner : FnScope N_p_inner P_p_inner (defScope s_p_inner) := ⟨rfl, rfl, rfl, by decide +kernel, rfl, by decide +kernel, by decide +kernel⟩
abbrev s_p_is_single : Stmt := topS 15
abbrev N_p_is_single : List Str := ["thing", "one"]
abbrev P_p_is_single : List Str := ["thing"]
theorem sc_p_is_single : FnScope N_p_is_single P_p_is_single (defScope s_p_is_single) := ⟨rfl, rfl, rfl, by decide +kernel, rfl, by decide +kernel, by decide +kernel⟩
abbrev s_p_is_built : Stmt := topS 16
abbrev N_p_is_built : List Str := ["thing", "levels", "one"]
abbrev P_p_is_built : List Str := ["thing", "levels"]
theorem sc_p_is_built : FnScope N_p_is_built P_p_is_built (defScope s_p_is_built) := ⟨rfl, rfl, rfl, by decide +kernel, rfl, by decide +kernel, by decide +kernel⟩
abbrev s_p_all_parts : Stmt := topS 17
abbrev N_p_all_parts : List Str := ["body", "found", "one"]
abbrev P_p_all_parts : List Str := ["body"]
theorem sc_p_all_parts : FnScope N_p_all_parts P_p_all_parts (defScope s_p_all_parts) := ⟨rfl, rfl, rfl, by decide +kernel, rfl, by decide +kernel, by decide +kernel⟩
abbrev s_p_is_body : Stmt := topS 18
abbrev N_p_is_body : List Str := ["thing"]
abbrev P_p_is_body : List Str := ["thing"]
theorem sc_p_is_body : FnScope N_p_is_body P_p_is_body (defScope s_p_is_body) := ⟨rfl, rfl, rfl, by decide +kernel, rfl, by decide +kernel, by decide +kernel⟩
abbrev s_p_check_body : Stmt := topS 19
abbrev N_p_check_body : List Str := ["body"]
abbrev P_p_check_body : List Str := ["body"]
theorem sc_p_check_body : FnScope N_p_check_body P_p_check_body (defScope s_p_check_body) := ⟨rfl, rfl, rfl, by decide +kernel, rfl, by decide +kernel, by decide +kernel⟩
abbrev s_Plan_init : Stmt := clsS 22 0
abbrev N_Plan_init : List Str := ["self", "machine", "stem"]
abbrev P_Plan_init : List Str := ["self", "machine", "stem"]
theorem sc_Plan_init : FnScope N_Plan_init P_Plan_init (defScope s_Plan_init) := ⟨rfl, rfl, rfl, by decide +kernel, rfl, by decide +kernel, by decide +kernel⟩
abbrev s_Plan_new_stand : Stmt := clsS 22 1
abbrev N_Plan_new_stand : List Str := ["self"]
abbrev P_Plan_new_stand : List Str := ["self"]
theorem sc_Plan_new_stand : FnScope N_Plan_new_stand P_Plan_new_stand (defScope s_Plan_new_stand) := ⟨rfl, rfl, rfl, by decide +kernel, rfl, by decide +kernel, by decide +kernel⟩
abbrev s_Plan_put : Stmt := clsS 22 2
abbrev N_Plan_put : List Str := ["self", "start", "act", "end"]
abbrev P_Plan_put : List Str := ["self", "start", "act", "end"]
theorem sc_Plan_put : FnScope N_Plan_put P_Plan_put (defScope s_Plan_put) := ⟨rfl, rfl, rfl, by decide +kernel, rfl, by decide +kernel, by decide +kernel⟩
abbrev s_Plan_fill : Stmt := clsS 22 3
abbrev N_Plan_fill : List Str := ["self", "body", "start", "end", "kind", "mid"]
abbrev P_Plan_fill : List Str := ["self", "body", "start", "end"]
theorem sc_Plan_fill : FnScope N_Plan_fill P_Plan_fill (defScope s_Plan_fill) := ⟨rfl, rfl, rfl, by decide +kernel, rfl, by decide +kernel, by decide +kernel⟩
abbrev s_p_compiled : Stmt := topS 23
abbrev N_p_compiled : List Str := ["machine", "body", "stem", "plan", "first", "last"]
abbrev P_p_compiled : List Str := ["machine", "body", "stem"]
theorem sc_p_compiled : FnScope N_p_compiled P_p_compiled (defScope s_p_compiled) := ⟨rfl, rfl, rfl, by decide +kernel, rfl, by decide +kernel, by decide +kernel⟩
abbrev s_bag : Stmt := topS 25
abbrev N_bag : List Str := ["_law_script", "_law_seed", "_law_cell"]
abbrev P_bag : List Str := ["_law_script"]
theorem sc_bag : FnScope N_bag P_bag (defScope s_bag) := ⟨rfl, rfl, rfl, by decide +kernel, rfl, by decide +kernel, by decide +kernel⟩
abbrev s_pull : Stmt := topS 26
abbrev N_pull : List Str := ["_law_bag_here", "_law_many", "_law_rest", "_law_cell", "_law_one", "_law_two"]
abbrev P_pull : List Str := ["_law_bag_here", "_law_many"]
theorem sc_pull : FnScope N_pull P_pull (defScope s_pull) := ⟨rfl, rfl, rfl, by decide +kernel, rfl, by decide +kernel, by decide +kernel⟩
abbrev s_of : Stmt := topS 27
abbrev N_of : List Str := ["_law_bag_here", "_law_some"]
abbrev P_of : List Str := ["_law_bag_here", "_law_some"]
theorem sc_of : FnScope N_of P_of (defScope s_of) := ⟨rfl, rfl, rfl, by decide +kernel, rfl, by decide +kernel, by decide +kernel⟩
abbrev s_same : Stmt := topS 28
abbrev N_same : List Str := ["_law_found", "_law_due", "_law_a", "_law_b"]
abbrev P_same : List Str := ["_law_found", "_law_due"]
theorem sc_same : FnScope N_same P_same (defScope s_same) := ⟨rfl, rfl, rfl, by decide +kernel, rfl, by decide +kernel, by decide +kernel⟩
abbrev s_letters : Stmt := topS 29
abbrev N_letters : List Str := ["_law_bag_here", "_law_alphabet", "_law_first", "_law_by", "_law_k"]
abbrev P_letters : List Str := ["_law_bag_here"]
theorem sc_letters : FnScope N_letters P_letters (defScope s_letters) := ⟨rfl, rfl, rfl, by decide +kernel, rfl, by decide +kernel, by decide +kernel⟩
abbrev s_names : Stmt := topS 30
abbrev N_names : List Str := ["_law_bag_here", "_law_many", "_law_alphabet", "_law_tail", "_law_at", "_law_first", "_law_by", "_law_k"]
abbrev P_names : List Str := ["_law_bag_here", "_law_many"]
theorem sc_names : FnScope N_names P_names (defScope s_names) := ⟨rfl, rfl, rfl, by decide +kernel, rfl, by decide +kernel, by decide +kernel⟩
abbrev s_refusal : Stmt := topS 31
abbrev N_refusal : List Str := ["_law_ask", "_law_found", "e"]
abbrev P_refusal : List Str := ["_law_ask"]
theorem sc_refusal : FnScope N_refusal P_refusal (defScope s_refusal) := ⟨rfl, rfl, rfl, by decide +kernel, rfl, by decide +kernel, by decide +kernel⟩
abbrev s_leaf : Stmt := topS 32
abbrev N_leaf : List Str := ["_law_bag_here", "_law_rows", "_law_letters_here", "_law_kind", "_law_row"]
abbrev P_leaf : List Str := ["_law_bag_here", "_law_rows", "_law_letters_here"]
theorem sc_leaf : FnScope N_leaf P_leaf (defScope s_leaf) := ⟨rfl, rfl, rfl, by decide +kernel, rfl, by decide +kernel, by decide +kernel⟩
abbrev s_body : Stmt := topS 33
abbrev N_body : List Str := ["_law_bag_here", "_law_rows", "_law_letters_here", "_law_room", "_law_kind", "_law_word", "_law_first"]
abbrev P_body : List Str := ["_law_bag_here", "_law_rows", "_law_letters_here", "_law_room"]
theorem sc_body : FnScope N_body P_body (defScope s_body) := ⟨rfl, rfl, rfl, by decide +kernel, rfl, by decide +kernel, by decide +kernel⟩
abbrev s_forms : Stmt := topS 34
abbrev N_forms : List Str := []
abbrev P_forms : List Str := []
theorem sc_forms : FnScope N_forms P_forms (defScope s_forms) := ⟨rfl, rfl, rfl, by decide +kernel, rfl, by decide +kernel, by decide +kernel⟩
abbrev s_plain_text : Stmt := topS 35
abbrev N_plain_text : List Str := ["_law_thing", "_law_few", "_law_top", "_law_alphabet", "_law_good", "_law_sign"]
abbrev P_plain_text : List Str := ["_law_thing", "_law_few", "_law_top"]
theorem sc_plain_text : FnScope N_plain_text P_plain_text (defScope s_plain_text) := ⟨rfl, rfl, rfl, by decide +kernel, rfl, by decide +kernel, by decide +kernel⟩
abbrev s_inner : Stmt := topS 36
abbrev N_inner : List Str := ["_law_body_here"]
abbrev P_inner : List Str := ["_law_body_here"]
theorem sc_inner : FnScope N_inner P_inner (defScope s_inner) := ⟨rfl, rfl, rfl, by decide +kernel, rfl, by decide +kernel, by decide +kernel⟩
abbrev s_all_in : Stmt := topS 37
abbrev N_all_in : List Str := ["_law_body_here", "_law_found", "_law_part"]
abbrev P_all_in : List Str := ["_law_body_here"]
theorem sc_all_in : FnScope N_all_in P_all_in (defScope s_all_in) := ⟨rfl, rfl, rfl, by decide +kernel, rfl, by decide +kernel, by decide +kernel⟩
abbrev s_form_ok : Stmt := topS 38
abbrev N_form_ok : List Str := ["_law_body_here", "_law_signs", "_law_sign", "_law_thing"]
abbrev P_form_ok : List Str := ["_law_body_here"]
theorem sc_form_ok : FnScope N_form_ok P_form_ok (defScope s_form_ok) := ⟨rfl, rfl, rfl, by decide +kernel, rfl, by decide +kernel, by decide +kernel⟩
abbrev s_far_in : Stmt := topS 39
abbrev N_far_in : List Str := ["_law_body_here", "_law_part"]
abbrev P_far_in : List Str := ["_law_body_here"]
theorem sc_far_in : FnScope N_far_in P_far_in (defScope s_far_in) := ⟨rfl, rfl, rfl, by decide +kernel, rfl, by decide +kernel, by decide +kernel⟩
abbrev s_body_ok : Stmt := topS 40
abbrev N_body_ok : List Str := ["_law_body_here"]
abbrev P_body_ok : List Str := ["_law_body_here"]
theorem sc_body_ok : FnScope N_body_ok P_body_ok (defScope s_body_ok) := ⟨rfl, rfl, rfl, by decide +kernel, rfl, by decide +kernel, by decide +kernel⟩
abbrev s_law : Stmt := topS 41
abbrev N_law : List Str := ["_law_script", "_law_bag_here", "_law_letters_here", "_law_rows", "_law_alphabet", "_law_turn", "_law_good", "_law_first", "_law_moves", "_law_last", "_law_kept", "_law_many", "_law_stands", "_law_body_here", "_law_name", "_law_root", "_law_row", "_law_stand", "_law_move"]
abbrev P_law : List Str := ["_law_script"]
theorem sc_law : FnScope N_law P_law (defScope s_law) := ⟨rfl, rfl, rfl, by decide +kernel, rfl, by decide +kernel, by decide +kernel⟩
def AllMk : Prop := ∀ {l : PySem.W.OpenLaw} {w : World} {K : PySem.W.Frag} {h : Heap} {mg : Str → Option Value} {fa : Addr} (X : K.In h) (G : h.Ns mainGlobals mg) (hfa : mg "law" = some (.ref fa))
    {cC PC : Addr} {eC : Value} {dC : Option Addr} {vC : Array Value} {sC : Array (Option Value)}
    {f0 : Addr} {od0 an0 : Option Addr} {sl0 : Array (Option Value)} {oc0 kV0 dc0 pm0 cd0 ct0 : Value}
    {td0 : Addr} {ot0 : Value} {ht0 : Option Addr} {st0 : Array (Option Value)} {nt0 : Nat}
    {w0_0 : Tok}
    {w0_1 : Tok}
    {f1 : Addr} {od1 an1 : Option Addr} {sl1 : Array (Option Value)} {oc1 kV1 dc1 pm1 cd1 ct1 : Value}
    {td1 : Addr} {ot1 : Value} {ht1 : Option Addr} {st1 : Array (Option Value)} {nt1 : Nat}
    {w1_0 : Tok}
    {f2 : Addr} {od2 an2 : Option Addr} {sl2 : Array (Option Value)} {oc2 kV2 dc2 pm2 cd2 ct2 : Value}
    {td2 : Addr} {ot2 : Value} {ht2 : Option Addr} {st2 : Array (Option Value)} {nt2 : Nat}
    {w2_0 : Tok}
    {f3 : Addr} {od3 an3 : Option Addr} {sl3 : Array (Option Value)} {oc3 kV3 dc3 pm3 cd3 ct3 : Value}
    {f4 : Addr} {od4 an4 : Option Addr} {sl4 : Array (Option Value)} {oc4 kV4 dc4 pm4 cd4 ct4 : Value}
    {f5 : Addr} {od5 an5 : Option Addr} {sl5 : Array (Option Value)} {oc5 kV5 dc5 pm5 cd5 ct5 : Value}
    {f6 : Addr} {od6 an6 : Option Addr} {sl6 : Array (Option Value)} {oc6 kV6 dc6 pm6 cd6 ct6 : Value}
    {f7 : Addr} {od7 an7 : Option Addr} {sl7 : Array (Option Value)} {oc7 kV7 dc7 pm7 cd7 ct7 : Value}
    {f8 : Addr} {od8 an8 : Option Addr} {sl8 : Array (Option Value)} {oc8 kV8 dc8 pm8 cd8 ct8 : Value}
    {f9 : Addr} {od9 an9 : Option Addr} {sl9 : Array (Option Value)} {oc9 kV9 dc9 pm9 cd9 ct9 : Value}
    {f10 : Addr} {od10 an10 : Option Addr} {sl10 : Array (Option Value)} {oc10 kV10 dc10 pm10 cd10 ct10 : Value}
    {f11 : Addr} {od11 an11 : Option Addr} {sl11 : Array (Option Value)} {oc11 kV11 dc11 pm11 cd11 ct11 : Value}
    {f12 : Addr} {od12 an12 : Option Addr} {sl12 : Array (Option Value)} {oc12 kV12 dc12 pm12 cd12 ct12 : Value}
    {f13 : Addr} {od13 an13 : Option Addr} {sl13 : Array (Option Value)} {oc13 kV13 dc13 pm13 cd13 ct13 : Value}
    {f14 : Addr} {od14 an14 : Option Addr} {sl14 : Array (Option Value)} {oc14 kV14 dc14 pm14 cd14 ct14 : Value}
    {f15 : Addr} {od15 an15 : Option Addr} {sl15 : Array (Option Value)} {oc15 kV15 dc15 pm15 cd15 ct15 : Value}
    {f16 : Addr} {od16 an16 : Option Addr} {sl16 : Array (Option Value)} {oc16 dc16 pm16 cd16 ct16 : Value}
    {xk16 : Addr}
    {f17 : Addr} {od17 an17 : Option Addr} {sl17 : Array (Option Value)} {oc17 kV17 dc17 pm17 cd17 ct17 : Value}
    {f18 : Addr} {od18 an18 : Option Addr} {sl18 : Array (Option Value)} {oc18 kV18 dc18 pm18 cd18 ct18 : Value}
    {f19 : Addr} {od19 an19 : Option Addr} {sl19 : Array (Option Value)} {oc19 kV19 dc19 pm19 cd19 ct19 : Value}
    {f20 : Addr} {od20 an20 : Option Addr} {sl20 : Array (Option Value)} {oc20 kV20 dc20 pm20 cd20 ct20 : Value}
    {f21 : Addr} {od21 an21 : Option Addr} {sl21 : Array (Option Value)} {oc21 kV21 dc21 pm21 cd21 ct21 : Value}
    {f22 : Addr} {od22 an22 : Option Addr} {sl22 : Array (Option Value)} {oc22 kV22 dc22 pm22 cd22 ct22 : Value}
    {f23 : Addr} {od23 an23 : Option Addr} {sl23 : Array (Option Value)} {oc23 kV23 dc23 pm23 cd23 ct23 : Value}
    {f24 : Addr} {od24 an24 : Option Addr} {sl24 : Array (Option Value)} {oc24 kV24 dc24 pm24 cd24 ct24 : Value}
    {f25 : Addr} {od25 an25 : Option Addr} {sl25 : Array (Option Value)} {oc25 kV25 dc25 pm25 cd25 ct25 : Value}
    {f26 : Addr} {od26 an26 : Option Addr} {sl26 : Array (Option Value)} {oc26 kV26 dc26 pm26 cd26 ct26 : Value}
    {f27 : Addr} {od27 an27 : Option Addr} {sl27 : Array (Option Value)} {oc27 kV27 dc27 pm27 cd27 ct27 : Value}
    {f28 : Addr} {od28 an28 : Option Addr} {sl28 : Array (Option Value)} {oc28 kV28 dc28 pm28 cd28 ct28 : Value}
    {f29 : Addr} {od29 an29 : Option Addr} {sl29 : Array (Option Value)} {oc29 kV29 dc29 pm29 cd29 ct29 : Value}
    {f30 : Addr} {od30 an30 : Option Addr} {sl30 : Array (Option Value)} {oc30 kV30 dc30 pm30 cd30 ct30 : Value}
    {f31 : Addr} {od31 an31 : Option Addr} {sl31 : Array (Option Value)} {oc31 kV31 dc31 pm31 cd31 ct31 : Value}
    {f32 : Addr} {od32 an32 : Option Addr} {sl32 : Array (Option Value)} {oc32 kV32 dc32 pm32 cd32 ct32 : Value}
    {f33 : Addr} {od33 an33 : Option Addr} {sl33 : Array (Option Value)} {oc33 kV33 dc33 pm33 ct33 : Value}
    {q0 : Addr}
    {q1 : Addr}
    {q2 : Addr}
    {q3 : Addr}
    {q0nm q0qn : Str} {q0N : Addr} {q0bs q0sub : List Value} {q0sn : List Str} {q0ab : Bool} {q0col : Option Bool} {q0dd : Option Addr} {q0m0 q0m1 q0m2 q0m3 q0m5 : Option Value}
    {q1nm q1qn : Str} {q1N : Addr} {q1bs q1sub : List Value} {q1sn : List Str} {q1ab : Bool} {q1col : Option Bool} {q1dd : Option Addr} {q1m0 q1m1 q1m2 q1m3 q1m5 : Option Value}
    {q2nm q2qn : Str} {q2N : Addr} {q2bs q2sub : List Value} {q2sn : List Str} {q2ab : Bool} {q2col : Option Bool} {q2dd : Option Addr} {q2m0 q2m1 q2m2 q2m3 q2m5 : Option Value}
    (q0C : PySem.W.nsIn K mainGlobals "LeakError" = some (some (.ref q0)))
    (q0XX : K.lookup q0 = some (excClassObj q0nm q0qn q0 q0N q0bs [.type "ValueError", .type "Exception", .type "BaseException", .type "object"] true q0sn q0sub q0ab q0col q0dd q0m0 q0m1 q0m2 q0m3 q0m5 "ValueError.__new__"))
    (q0sa : PySem.W.findIn K (.ref q0) "__setattr__" = some (some (.builtin "object.__setattr__")))
    (q0ec : PySem.W.subIn K (.ref q0) (.type "BaseException") = some true)
    (q0ty : PySem.W.typeIn K (.ref q0) = some (.type "type"))
    (q0kc : PySem.W.keepIn K (.ref q0) = true)
    (q0rd : PySem.W.readsIn K q0 (.type "type") = true)
    (q0ga : PySem.W.specialIn K (.ref q0) "__getattribute__" = some (some (.builtin "type.__getattribute__")))
    (q0x1 : (PySem.W.clsIn K q0).isSome = true)
    (q0x2 : PySem.W.findIn K (.ref q0) "__getattribute__" = some (some (.builtin "BaseException.__getattribute__")))
    (q0x3 : PySem.W.findIn K (.ref q0) "__getattr__" = some none)
    (q0x5 : PySem.W.findIn K (.ref q0) "__class__" = some (some (.builtin "object.__class__")))
    (q0x6 : PySem.W.specialIn K (.builtin "object.__class__") "__get__" = some (some (.builtin "getset_descriptor.__get__")))
    (q0x7 : PySem.W.takesIn K (.builtin "object.__class__") = some true)
    (q0x8 : PySem.W.mroIn K q0 (.type "object") = some true)
    (q0x9 : PySem.W.hasDictIn K q0 = true)
    (q0nw : PySem.W.findIn K (.ref q0) "word" = some none)
    (q0na : PySem.W.findIn K (.ref q0) "at" = some none)
    (q0kv : PySem.W.kitOne K (.ref q0) (.type "ValueError") = some true)
    (q0kl : PySem.W.kitOne K (.ref q0) (.type "LookupError") = some false)
    (q1C : PySem.W.nsIn K mainGlobals "BadName" = some (some (.ref q1)))
    (q1XX : K.lookup q1 = some (excClassObj q1nm q1qn q1 q1N q1bs [.ref q0, .type "ValueError", .type "Exception", .type "BaseException", .type "object"] true q1sn q1sub q1ab q1col q1dd q1m0 q1m1 q1m2 q1m3 q1m5 "ValueError.__new__"))
    (q1sa : PySem.W.findIn K (.ref q1) "__setattr__" = some (some (.builtin "object.__setattr__")))
    (q1ec : PySem.W.subIn K (.ref q1) (.type "BaseException") = some true)
    (q1ty : PySem.W.typeIn K (.ref q1) = some (.type "type"))
    (q1kc : PySem.W.keepIn K (.ref q1) = true)
    (q1rd : PySem.W.readsIn K q1 (.type "type") = true)
    (q1ga : PySem.W.specialIn K (.ref q1) "__getattribute__" = some (some (.builtin "type.__getattribute__")))
    (q1x1 : (PySem.W.clsIn K q1).isSome = true)
    (q1x2 : PySem.W.findIn K (.ref q1) "__getattribute__" = some (some (.builtin "BaseException.__getattribute__")))
    (q1x3 : PySem.W.findIn K (.ref q1) "__getattr__" = some none)
    (q1x5 : PySem.W.findIn K (.ref q1) "__class__" = some (some (.builtin "object.__class__")))
    (q1x6 : PySem.W.specialIn K (.builtin "object.__class__") "__get__" = some (some (.builtin "getset_descriptor.__get__")))
    (q1x7 : PySem.W.takesIn K (.builtin "object.__class__") = some true)
    (q1x8 : PySem.W.mroIn K q1 (.type "object") = some true)
    (q1x9 : PySem.W.hasDictIn K q1 = true)
    (q1nw : PySem.W.findIn K (.ref q1) "word" = some none)
    (q1na : PySem.W.findIn K (.ref q1) "at" = some none)
    (q1kv : PySem.W.kitOne K (.ref q1) (.type "ValueError") = some true)
    (q1kl : PySem.W.kitOne K (.ref q1) (.type "LookupError") = some false)
    (q2C : PySem.W.nsIn K mainGlobals "BadBody" = some (some (.ref q2)))
    (q2XX : K.lookup q2 = some (excClassObj q2nm q2qn q2 q2N q2bs [.ref q0, .type "ValueError", .type "Exception", .type "BaseException", .type "object"] true q2sn q2sub q2ab q2col q2dd q2m0 q2m1 q2m2 q2m3 q2m5 "ValueError.__new__"))
    (q2sa : PySem.W.findIn K (.ref q2) "__setattr__" = some (some (.builtin "object.__setattr__")))
    (q2ec : PySem.W.subIn K (.ref q2) (.type "BaseException") = some true)
    (q2ty : PySem.W.typeIn K (.ref q2) = some (.type "type"))
    (q2kc : PySem.W.keepIn K (.ref q2) = true)
    (q2rd : PySem.W.readsIn K q2 (.type "type") = true)
    (q2ga : PySem.W.specialIn K (.ref q2) "__getattribute__" = some (some (.builtin "type.__getattribute__")))
    (q2x1 : (PySem.W.clsIn K q2).isSome = true)
    (q2x2 : PySem.W.findIn K (.ref q2) "__getattribute__" = some (some (.builtin "BaseException.__getattribute__")))
    (q2x3 : PySem.W.findIn K (.ref q2) "__getattr__" = some none)
    (q2x5 : PySem.W.findIn K (.ref q2) "__class__" = some (some (.builtin "object.__class__")))
    (q2x6 : PySem.W.specialIn K (.builtin "object.__class__") "__get__" = some (some (.builtin "getset_descriptor.__get__")))
    (q2x7 : PySem.W.takesIn K (.builtin "object.__class__") = some true)
    (q2x8 : PySem.W.mroIn K q2 (.type "object") = some true)
    (q2x9 : PySem.W.hasDictIn K q2 = true)
    (q2nw : PySem.W.findIn K (.ref q2) "word" = some none)
    (q2na : PySem.W.findIn K (.ref q2) "at" = some none)
    (q2kv : PySem.W.kitOne K (.ref q2) (.type "ValueError") = some true)
    (q2kl : PySem.W.kitOne K (.ref q2) (.type "LookupError") = some false)
    (q3C : PySem.W.nsIn K mainGlobals "Plan" = some (some (.ref q3)))
    (q3pg : PySem.W.plainGet K q3 Str.empty = true)
    (q3hd : PySem.W.hasDictIn K q3 = true)
    (q3po : PySem.W.plainOver K q3 = true)
    (q3sa : PySem.W.findIn K (.ref q3) "__setattr__" = some (some (.builtin "object.__setattr__")))
    (q3mk : PySem.W.makesIn K q3 = true)
    (q3kc : PySem.W.keepIn K (.ref q3) = true)
    (q3no_owner : PySem.W.findIn K (.ref q3) "owner" = some none)
    (q3no_stem : PySem.W.findIn K (.ref q3) "stem" = some none)
    (q3no_stand_count : PySem.W.findIn K (.ref q3) "stand_count" = some none)
    (q3no_made : PySem.W.findIn K (.ref q3) "made" = some none)
    (vV : PySem.W.findCls K (.type "ValueError") (.type "type") "__init__" = some (.val (.builtin "ValueError.__init__")))
    (a0 : PySem.W.findIn K (.ref q0) "__init__" = some (some (.ref f0)))
    (i0 : PySem.W.isFn K (.ref f0) = true)
    (l0 : K.lookup f0 = some ⟨oc0, od0, .func (PySem.W.fnOf "__init__" "LeakError.__init__" (defArgs s_LeakError_init) (defBody s_LeakError_init) (defScope s_LeakError_init) (.ref td0) kV0 dc0 pm0 an0 cd0 ct0), sl0⟩)
    (c0 : PySem.W.codeIn K cd0 "LeakError.__init__" = true)
    (k0 : PySem.W.keepIn K (.ref f0) = true)
    (t0 : K.lookup td0 = some ⟨ot0, ht0, .seq ([.int (-1) w0_0, .str (PySem.Str.ofString "leakerror") w0_1] : List Value).toArray nt0, st0⟩)
    (a1 : PySem.W.findIn K (.ref q1) "__init__" = some (some (.ref f1)))
    (i1 : PySem.W.isFn K (.ref f1) = true)
    (l1 : K.lookup f1 = some ⟨oc1, od1, .func (PySem.W.fnOf "__init__" "BadName.__init__" (defArgs s_BadName_init) (defBody s_BadName_init) (defScope s_BadName_init) (.ref td1) kV1 dc1 pm1 an1 cd1 ct1), sl1⟩)
    (c1 : PySem.W.codeIn K cd1 "BadName.__init__" = true)
    (k1 : PySem.W.keepIn K (.ref f1) = true)
    (t1 : K.lookup td1 = some ⟨ot1, ht1, .seq ([.int (-1) w1_0] : List Value).toArray nt1, st1⟩)
    (a2 : PySem.W.findIn K (.ref q2) "__init__" = some (some (.ref f2)))
    (i2 : PySem.W.isFn K (.ref f2) = true)
    (l2 : K.lookup f2 = some ⟨oc2, od2, .func (PySem.W.fnOf "__init__" "BadBody.__init__" (defArgs s_BadBody_init) (defBody s_BadBody_init) (defScope s_BadBody_init) (.ref td2) kV2 dc2 pm2 an2 cd2 ct2), sl2⟩)
    (c2 : PySem.W.codeIn K cd2 "BadBody.__init__" = true)
    (k2 : PySem.W.keepIn K (.ref f2) = true)
    (t2 : K.lookup td2 = some ⟨ot2, ht2, .seq ([.int (-1) w2_0] : List Value).toArray nt2, st2⟩)
    (a3 : PySem.W.nsIn K mainGlobals "is_word" = some (some (.ref f3)))
    (l3 : K.lookup f3 = some ⟨oc3, od3, .func (PySem.W.fnOf "is_word" "is_word" (defArgs s_p_is_word) (defBody s_p_is_word) (defScope s_p_is_word) .none kV3 dc3 pm3 an3 cd3 ct3), sl3⟩)
    (c3 : PySem.W.codeIn K cd3 "is_word" = true)
    (k3 : PySem.W.keepIn K (.ref f3) = true)
    (a4 : PySem.W.nsIn K mainGlobals "is_name" = some (some (.ref f4)))
    (l4 : K.lookup f4 = some ⟨oc4, od4, .func (PySem.W.fnOf "is_name" "is_name" (defArgs s_p_is_name) (defBody s_p_is_name) (defScope s_p_is_name) .none kV4 dc4 pm4 an4 cd4 ct4), sl4⟩)
    (c4 : PySem.W.codeIn K cd4 "is_name" = true)
    (k4 : PySem.W.keepIn K (.ref f4) = true)
    (a5 : PySem.W.nsIn K mainGlobals "is_letter" = some (some (.ref f5)))
    (l5 : K.lookup f5 = some ⟨oc5, od5, .func (PySem.W.fnOf "is_letter" "is_letter" (defArgs s_p_is_letter) (defBody s_p_is_letter) (defScope s_p_is_letter) .none kV5 dc5 pm5 an5 cd5 ct5), sl5⟩)
    (c5 : PySem.W.codeIn K cd5 "is_letter" = true)
    (k5 : PySem.W.keepIn K (.ref f5) = true)
    (a6 : PySem.W.nsIn K mainGlobals "inner" = some (some (.ref f6)))
    (l6 : K.lookup f6 = some ⟨oc6, od6, .func (PySem.W.fnOf "inner" "inner" (defArgs s_p_inner) (defBody s_p_inner) (defScope s_p_inner) .none kV6 dc6 pm6 an6 cd6 ct6), sl6⟩)
    (c6 : PySem.W.codeIn K cd6 "inner" = true)
    (k6 : PySem.W.keepIn K (.ref f6) = true)
    (a7 : PySem.W.nsIn K mainGlobals "is_single" = some (some (.ref f7)))
    (l7 : K.lookup f7 = some ⟨oc7, od7, .func (PySem.W.fnOf "is_single" "is_single" (defArgs s_p_is_single) (defBody s_p_is_single) (defScope s_p_is_single) .none kV7 dc7 pm7 an7 cd7 ct7), sl7⟩)
    (c7 : PySem.W.codeIn K cd7 "is_single" = true)
    (k7 : PySem.W.keepIn K (.ref f7) = true)
    (a8 : PySem.W.nsIn K mainGlobals "is_built" = some (some (.ref f8)))
    (l8 : K.lookup f8 = some ⟨oc8, od8, .func (PySem.W.fnOf "is_built" "is_built" (defArgs s_p_is_built) (defBody s_p_is_built) (defScope s_p_is_built) .none kV8 dc8 pm8 an8 cd8 ct8), sl8⟩)
    (c8 : PySem.W.codeIn K cd8 "is_built" = true)
    (k8 : PySem.W.keepIn K (.ref f8) = true)
    (a9 : PySem.W.nsIn K mainGlobals "all_parts" = some (some (.ref f9)))
    (l9 : K.lookup f9 = some ⟨oc9, od9, .func (PySem.W.fnOf "all_parts" "all_parts" (defArgs s_p_all_parts) (defBody s_p_all_parts) (defScope s_p_all_parts) .none kV9 dc9 pm9 an9 cd9 ct9), sl9⟩)
    (c9 : PySem.W.codeIn K cd9 "all_parts" = true)
    (k9 : PySem.W.keepIn K (.ref f9) = true)
    (a10 : PySem.W.nsIn K mainGlobals "is_body" = some (some (.ref f10)))
    (l10 : K.lookup f10 = some ⟨oc10, od10, .func (PySem.W.fnOf "is_body" "is_body" (defArgs s_p_is_body) (defBody s_p_is_body) (defScope s_p_is_body) .none kV10 dc10 pm10 an10 cd10 ct10), sl10⟩)
    (c10 : PySem.W.codeIn K cd10 "is_body" = true)
    (k10 : PySem.W.keepIn K (.ref f10) = true)
    (a11 : PySem.W.nsIn K mainGlobals "check_body" = some (some (.ref f11)))
    (l11 : K.lookup f11 = some ⟨oc11, od11, .func (PySem.W.fnOf "check_body" "check_body" (defArgs s_p_check_body) (defBody s_p_check_body) (defScope s_p_check_body) .none kV11 dc11 pm11 an11 cd11 ct11), sl11⟩)
    (c11 : PySem.W.codeIn K cd11 "check_body" = true)
    (k11 : PySem.W.keepIn K (.ref f11) = true)
    (a12 : PySem.W.findIn K (.ref q3) "__init__" = some (some (.ref f12)))
    (i12 : PySem.W.isFn K (.ref f12) = true)
    (l12 : K.lookup f12 = some ⟨oc12, od12, .func (PySem.W.fnOf "__init__" "Plan.__init__" (defArgs s_Plan_init) (defBody s_Plan_init) (defScope s_Plan_init) .none kV12 dc12 pm12 an12 cd12 ct12), sl12⟩)
    (c12 : PySem.W.codeIn K cd12 "Plan.__init__" = true)
    (k12 : PySem.W.keepIn K (.ref f12) = true)
    (a13 : PySem.W.findIn K (.ref q3) "new_stand" = some (some (.ref f13)))
    (i13 : PySem.W.isFn K (.ref f13) = true)
    (l13 : K.lookup f13 = some ⟨oc13, od13, .func (PySem.W.fnOf "new_stand" "Plan.new_stand" (defArgs s_Plan_new_stand) (defBody s_Plan_new_stand) (defScope s_Plan_new_stand) .none kV13 dc13 pm13 an13 cd13 ct13), sl13⟩)
    (c13 : PySem.W.codeIn K cd13 "Plan.new_stand" = true)
    (k13 : PySem.W.keepIn K (.ref f13) = true)
    (a14 : PySem.W.findIn K (.ref q3) "put" = some (some (.ref f14)))
    (i14 : PySem.W.isFn K (.ref f14) = true)
    (l14 : K.lookup f14 = some ⟨oc14, od14, .func (PySem.W.fnOf "put" "Plan.put" (defArgs s_Plan_put) (defBody s_Plan_put) (defScope s_Plan_put) .none kV14 dc14 pm14 an14 cd14 ct14), sl14⟩)
    (c14 : PySem.W.codeIn K cd14 "Plan.put" = true)
    (k14 : PySem.W.keepIn K (.ref f14) = true)
    (a15 : PySem.W.findIn K (.ref q3) "fill" = some (some (.ref f15)))
    (i15 : PySem.W.isFn K (.ref f15) = true)
    (l15 : K.lookup f15 = some ⟨oc15, od15, .func (PySem.W.fnOf "fill" "Plan.fill" (defArgs s_Plan_fill) (defBody s_Plan_fill) (defScope s_Plan_fill) .none kV15 dc15 pm15 an15 cd15 ct15), sl15⟩)
    (c15 : PySem.W.codeIn K cd15 "Plan.fill" = true)
    (k15 : PySem.W.keepIn K (.ref f15) = true)
    (a16 : PySem.W.nsIn K mainGlobals "compiled" = some (some (.ref f16)))
    (l16 : K.lookup f16 = some ⟨oc16, od16, .func (PySem.W.fnOf "compiled" "compiled" (defArgs s_p_compiled) (defBody s_p_compiled) (defScope s_p_compiled) .none (.ref xk16) dc16 pm16 an16 cd16 ct16), sl16⟩)
    (c16 : PySem.W.codeIn K cd16 "compiled" = true)
    (k16 : PySem.W.keepIn K (.ref f16) = true)
    (y16_0 : ∃ t, PySem.W.nsIn K xk16 "stem" = some (some (.str (PySem.Str.ofString "s") t)))
    (a17 : PySem.W.nsIn K mainGlobals "_law_bag" = some (some (.ref f17)))
    (l17 : K.lookup f17 = some ⟨oc17, od17, .func (PySem.W.fnOf "_law_bag" "_law_bag" (defArgs s_bag) (defBody s_bag) (defScope s_bag) .none kV17 dc17 pm17 an17 cd17 ct17), sl17⟩)
    (c17 : PySem.W.codeIn K cd17 "_law_bag" = true)
    (k17 : PySem.W.keepIn K (.ref f17) = true)
    (a18 : PySem.W.nsIn K mainGlobals "_law_pull" = some (some (.ref f18)))
    (l18 : K.lookup f18 = some ⟨oc18, od18, .func (PySem.W.fnOf "_law_pull" "_law_pull" (defArgs s_pull) (defBody s_pull) (defScope s_pull) .none kV18 dc18 pm18 an18 cd18 ct18), sl18⟩)
    (c18 : PySem.W.codeIn K cd18 "_law_pull" = true)
    (k18 : PySem.W.keepIn K (.ref f18) = true)
    (a19 : PySem.W.nsIn K mainGlobals "_law_of" = some (some (.ref f19)))
    (l19 : K.lookup f19 = some ⟨oc19, od19, .func (PySem.W.fnOf "_law_of" "_law_of" (defArgs s_of) (defBody s_of) (defScope s_of) .none kV19 dc19 pm19 an19 cd19 ct19), sl19⟩)
    (c19 : PySem.W.codeIn K cd19 "_law_of" = true)
    (k19 : PySem.W.keepIn K (.ref f19) = true)
    (a20 : PySem.W.nsIn K mainGlobals "_law_same" = some (some (.ref f20)))
    (l20 : K.lookup f20 = some ⟨oc20, od20, .func (PySem.W.fnOf "_law_same" "_law_same" (defArgs s_same) (defBody s_same) (defScope s_same) .none kV20 dc20 pm20 an20 cd20 ct20), sl20⟩)
    (c20 : PySem.W.codeIn K cd20 "_law_same" = true)
    (k20 : PySem.W.keepIn K (.ref f20) = true)
    (a21 : PySem.W.nsIn K mainGlobals "_law_letters" = some (some (.ref f21)))
    (l21 : K.lookup f21 = some ⟨oc21, od21, .func (PySem.W.fnOf "_law_letters" "_law_letters" (defArgs s_letters) (defBody s_letters) (defScope s_letters) .none kV21 dc21 pm21 an21 cd21 ct21), sl21⟩)
    (c21 : PySem.W.codeIn K cd21 "_law_letters" = true)
    (k21 : PySem.W.keepIn K (.ref f21) = true)
    (a22 : PySem.W.nsIn K mainGlobals "_law_names" = some (some (.ref f22)))
    (l22 : K.lookup f22 = some ⟨oc22, od22, .func (PySem.W.fnOf "_law_names" "_law_names" (defArgs s_names) (defBody s_names) (defScope s_names) .none kV22 dc22 pm22 an22 cd22 ct22), sl22⟩)
    (c22 : PySem.W.codeIn K cd22 "_law_names" = true)
    (k22 : PySem.W.keepIn K (.ref f22) = true)
    (a23 : PySem.W.nsIn K mainGlobals "_law_refusal" = some (some (.ref f23)))
    (l23 : K.lookup f23 = some ⟨oc23, od23, .func (PySem.W.fnOf "_law_refusal" "_law_refusal" (defArgs s_refusal) (defBody s_refusal) (defScope s_refusal) .none kV23 dc23 pm23 an23 cd23 ct23), sl23⟩)
    (c23 : PySem.W.codeIn K cd23 "_law_refusal" = true)
    (k23 : PySem.W.keepIn K (.ref f23) = true)
    (a24 : PySem.W.nsIn K mainGlobals "_law_leaf" = some (some (.ref f24)))
    (l24 : K.lookup f24 = some ⟨oc24, od24, .func (PySem.W.fnOf "_law_leaf" "_law_leaf" (defArgs s_leaf) (defBody s_leaf) (defScope s_leaf) .none kV24 dc24 pm24 an24 cd24 ct24), sl24⟩)
    (c24 : PySem.W.codeIn K cd24 "_law_leaf" = true)
    (k24 : PySem.W.keepIn K (.ref f24) = true)
    (a25 : PySem.W.nsIn K mainGlobals "_law_body" = some (some (.ref f25)))
    (l25 : K.lookup f25 = some ⟨oc25, od25, .func (PySem.W.fnOf "_law_body" "_law_body" (defArgs s_body) (defBody s_body) (defScope s_body) .none kV25 dc25 pm25 an25 cd25 ct25), sl25⟩)
    (c25 : PySem.W.codeIn K cd25 "_law_body" = true)
    (k25 : PySem.W.keepIn K (.ref f25) = true)
    (a26 : PySem.W.nsIn K mainGlobals "_law_forms" = some (some (.ref f26)))
    (l26 : K.lookup f26 = some ⟨oc26, od26, .func (PySem.W.fnOf "_law_forms" "_law_forms" (defArgs s_forms) (defBody s_forms) (defScope s_forms) .none kV26 dc26 pm26 an26 cd26 ct26), sl26⟩)
    (c26 : PySem.W.codeIn K cd26 "_law_forms" = true)
    (k26 : PySem.W.keepIn K (.ref f26) = true)
    (a27 : PySem.W.nsIn K mainGlobals "_law_plain_text" = some (some (.ref f27)))
    (l27 : K.lookup f27 = some ⟨oc27, od27, .func (PySem.W.fnOf "_law_plain_text" "_law_plain_text" (defArgs s_plain_text) (defBody s_plain_text) (defScope s_plain_text) .none kV27 dc27 pm27 an27 cd27 ct27), sl27⟩)
    (c27 : PySem.W.codeIn K cd27 "_law_plain_text" = true)
    (k27 : PySem.W.keepIn K (.ref f27) = true)
    (a28 : PySem.W.nsIn K mainGlobals "_law_inner" = some (some (.ref f28)))
    (l28 : K.lookup f28 = some ⟨oc28, od28, .func (PySem.W.fnOf "_law_inner" "_law_inner" (defArgs s_inner) (defBody s_inner) (defScope s_inner) .none kV28 dc28 pm28 an28 cd28 ct28), sl28⟩)
    (c28 : PySem.W.codeIn K cd28 "_law_inner" = true)
    (k28 : PySem.W.keepIn K (.ref f28) = true)
    (a29 : PySem.W.nsIn K mainGlobals "_law_all_in" = some (some (.ref f29)))
    (l29 : K.lookup f29 = some ⟨oc29, od29, .func (PySem.W.fnOf "_law_all_in" "_law_all_in" (defArgs s_all_in) (defBody s_all_in) (defScope s_all_in) .none kV29 dc29 pm29 an29 cd29 ct29), sl29⟩)
    (c29 : PySem.W.codeIn K cd29 "_law_all_in" = true)
    (k29 : PySem.W.keepIn K (.ref f29) = true)
    (a30 : PySem.W.nsIn K mainGlobals "_law_form_ok" = some (some (.ref f30)))
    (l30 : K.lookup f30 = some ⟨oc30, od30, .func (PySem.W.fnOf "_law_form_ok" "_law_form_ok" (defArgs s_form_ok) (defBody s_form_ok) (defScope s_form_ok) .none kV30 dc30 pm30 an30 cd30 ct30), sl30⟩)
    (c30 : PySem.W.codeIn K cd30 "_law_form_ok" = true)
    (k30 : PySem.W.keepIn K (.ref f30) = true)
    (a31 : PySem.W.nsIn K mainGlobals "_law_far_in" = some (some (.ref f31)))
    (l31 : K.lookup f31 = some ⟨oc31, od31, .func (PySem.W.fnOf "_law_far_in" "_law_far_in" (defArgs s_far_in) (defBody s_far_in) (defScope s_far_in) .none kV31 dc31 pm31 an31 cd31 ct31), sl31⟩)
    (c31 : PySem.W.codeIn K cd31 "_law_far_in" = true)
    (k31 : PySem.W.keepIn K (.ref f31) = true)
    (a32 : PySem.W.nsIn K mainGlobals "_law_body_ok" = some (some (.ref f32)))
    (l32 : K.lookup f32 = some ⟨oc32, od32, .func (PySem.W.fnOf "_law_body_ok" "_law_body_ok" (defArgs s_body_ok) (defBody s_body_ok) (defScope s_body_ok) .none kV32 dc32 pm32 an32 cd32 ct32), sl32⟩)
    (c32 : PySem.W.codeIn K cd32 "_law_body_ok" = true)
    (k32 : PySem.W.keepIn K (.ref f32) = true)
    (a33 : PySem.W.nsIn K mainGlobals "law" = some (some (.ref f33)))
    (l33 : K.lookup f33 = some ⟨oc33, od33, .func (PySem.W.fnOf "law" "law" (defArgs s_law) (defBody s_law) (defScope s_law) .none kV33 dc33 pm33 an33 (.ref cC) ct33), sl33⟩)
    (c33 : PySem.W.codeIn K (.ref cC) "law" = true)
    (k33 : PySem.W.keepIn K (.ref f33) = true)
    (q0ti : PySem.W.typeIn K (.ref f0) = some (.type "function"))
    (q0fn : PySem.W.findCls K (.ref q0) (.type "type") "__init__" = some (.val (.ref f0)))
    (q0em : PySem.W.exmOne K (.ref q0) (.ref q0) = some true)
    (q1ti : PySem.W.typeIn K (.ref f1) = some (.type "function"))
    (q1fn : PySem.W.findCls K (.ref q1) (.type "type") "__init__" = some (.val (.ref f1)))
    (q1em : PySem.W.exmOne K (.ref q1) (.ref q0) = some true)
    (q2ti : PySem.W.typeIn K (.ref f2) = some (.type "function"))
    (q2fn : PySem.W.findCls K (.ref q2) (.type "type") "__init__" = some (.val (.ref f2)))
    (q2em : PySem.W.exmOne K (.ref q2) (.ref q0) = some true)
    (z0 : PySem.W.nsIn K mainGlobals "LookupError" = some none)
    (z1 : PySem.W.nsIn K mainGlobals "ValueError" = some none)
    (z2 : PySem.W.nsIn K mainGlobals "all" = some none)
    (z3 : PySem.W.nsIn K mainGlobals "bool" = some none)
    (z4 : PySem.W.nsIn K mainGlobals "int" = some none)
    (z5 : PySem.W.nsIn K mainGlobals "isinstance" = some none)
    (z6 : PySem.W.nsIn K mainGlobals "len" = some none)
    (z7 : PySem.W.nsIn K mainGlobals "list" = some none)
    (z8 : PySem.W.nsIn K mainGlobals "max" = some none)
    (z9 : PySem.W.nsIn K mainGlobals "range" = some none)
    (z10 : PySem.W.nsIn K mainGlobals "set" = some none)
    (z11 : PySem.W.nsIn K mainGlobals "sorted" = some none)
    (z12 : PySem.W.nsIn K mainGlobals "str" = some none)
    (z13 : PySem.W.nsIn K mainGlobals "tuple" = some none)
    (z14 : PySem.W.nsIn K mainGlobals "zip" = some none)
    {u0 : Value}
    (d0 : PySem.W.nsIn K mainGlobals "LETTERS" = some (some u0))
    (e0 : RelV (V.str (PySem.Str.ofString "abcdefghijklmnopqrstuvwxyz")) u0)
    {u1 : Value}
    (d1 : PySem.W.nsIn K mainGlobals "MOST_NAME" = some (some u1))
    (e1 : RelV (V.int 8) u1)
    {u2 : Value}
    (d2 : PySem.W.nsIn K mainGlobals "MOST_PARTS" = some (some u2))
    (e2 : RelV (V.int 24) u2)
    {u3 : Value}
    (d3 : PySem.W.nsIn K mainGlobals "MOST_LEVELS" = some (some u3))
    (e3 : RelV (V.int 6) u3)
    {uD4 : Addr}
    (d4 : PySem.W.nsIn K mainGlobals "INNER_COUNTS" = some (some (.ref uD4)))
    (kd4 : He.dicW K uD4 = some (He.keysIn w.params ["then", "or", "again"]))
    (kn4_0 : ∃ t, PySem.W.nsIn K uD4 "then" = some (some (.int 2 t)))
    (kn4_1 : ∃ t, PySem.W.nsIn K uD4 "or" = some (some (.int 2 t)))
    (kn4_2 : ∃ t, PySem.W.nsIn K uD4 "again" = some (some (.int 1 t)))
    {u5 : Value}
    (d5 : PySem.W.nsIn K mainGlobals "MOST_STEM" = some (some u5))
    (e5 : RelV (V.int 7) u5)
    (kc1 : K.lookup cC = some ⟨eC, dC, .fields vC, sC⟩) (kc2 : vC[11]? = some (.ref PC)) (kc3 : K.lookup PC = none) (kc4 : PySem.W.codeHdIn K cC PC = true)
    (own : LamX.OwnTab K fa h), LamX.LawAtS l w K CX0 19 63 "_law_script" mg fa h
end K48
section
namespace Hd
open PySem PySem.W PySem.Calls PyProof.Rows
abbrev R : OpenRow := OpenLaw.row PySem.Challenge.rw_leakpost_k48_compiled_moves
abbrev qv : Program := view R.prog [41]
def names0 : List PySem.Str := ["LeakError", "BadName", "BadBody", "LETTERS", "MOST_NAME", "is_word", "is_name", "is_letter", "MOST_PARTS", "MOST_LEVELS", "INNER_COUNTS", "inner", "is_single", "is_built", "all_parts", "is_body"]
def names1 : List PySem.Str := ["check_body", "MOST_STEM", "Plan", "compiled", "_law_bag", "_law_pull", "_law_of", "_law_same", "_law_letters", "_law_names", "_law_refusal", "_law_leaf", "_law_body", "_law_forms", "_law_plain_text", "_law_inner"]
def names2 : List PySem.Str := ["_law_all_in", "_law_form_ok", "_law_far_in", "_law_body_ok"]
def names : List PySem.Str := names0 ++ names1 ++ names2
theorem left_km {p q : Program} {loose : List PySem.Str} {Xt : Shared → Bool} {K : Params → Frag} {as : List Addr} {ek : ∀ P, as = (K P).map (·.1)} {ts : List Addr} {N M : Nat}
    (e : opening p = plainProg p.main.scope.names) (hN : Nat.ble 600 N = true) (f : ∀ s, fenceModules? p s = some s) (le : Nat.ble M N = true)
    (run : ∀ (w : World) (os : OsState), (HandSHeadRun.endF (HandSHeadRun.stepQ (HandSHeadRun.denQ HandSHeadRun.tabQ) p w) M p w os).map (fun s => (HandSHeadRun.looksF p (boot_heap w.params) s.abs, HandSHeadRun.seenQ q loose (importedModules p.main.body) Xt s.abs, (as.map (HandSHeadRun.getT s), ts.map (HandSHeadRun.getT s)))) = some (true, openGood q loose, ((K w.params).map fun x => some x.2, ts.map fun _ => some (tabObj #[])))) :
    LeftO p q loose Xt (Hook.obs (kmHook K as ek ts)) (Hook.val (kmHook K as ek ts)) N true :=
  HandSHeadRun.left_one (M := M) e hN f le fun w os => by
    have z := run w os
    have eg : ∀ s : SharedT, HandSHeadRun.getT s = s.abs.heap.get? := fun s => funext fun a => HandSHeadRun.getT_eq s a
    simp only [eg] at z
    simp only [HandSHeadRun.endQ_eq, HandSHeadRun.seenQ_eq]
    exact z
end Hd
open PySem PySem.W PySem.Calls PyProof.Rows
local macro_rules | `(tactic| o_head $H) => do let hw := Lean.mkIdent `hw; let hc := Lean.mkIdent `hc; `(tactic| (
  refine PySem.W.holds_open (r := Hd.R) (q := Hd.qv) (loose := Hd.names) (Xt := fun s => xlAt Hd.qv [] s && recOk Hd.R.toRowW.records s) (XP := XL Hd.qv []) (Yf := Hook.obs $H) (Ya := Hook.val $H) (YP := Hook.says $H) (d := HandSHeadRun.topDef Hd.R.prog 41) (kwd := []) (N := 40600) ?_ (Hook.of $H) (Hook.keeps $H) (fun s e => xl_of s (Bool.and_eq_true_iff.mp e).1) XL.keeps (by kernel_rfl) (by kernel_rfl) (by kernel_rfl) (fun s e => recFacts_of (Bool.and_eq_true_iff.mp e).2) (by rfl) (by first | assumption | decide +kernel) (by decide +kernel) ⟨rfl, rfl, rfl, rfl, rfl, by decide +kernel⟩ ?$hw ?$hc
  · refine Hd.left_km (M := 40000) (by kernel_rfl) (by rfl) (fun s => by kernel_rfl) (by rfl) ?_
    refine byRow2 "special-get-raises" (fun w os => ?_) (fun w os => ?_)
    · kernel_rfl
    · kernel_rfl))
set_option maxHeartbeats 0 in
open_top Hd.top for PySem.Challenge.rw_leakpost_k48_compiled_moves
set_option maxHeartbeats 0 in
theorem fin_of (H : K48.AllMk) : PySem.Challenge.rw_leakpost_k48_compiled_moves.Holds := by
  refine Hd.top ?_
  k_fill
  refine LamX.walk_ofOwn (l := PySem.Challenge.rw_leakpost_k48_compiled_moves) (n := 63) (k := 19) (x := "_law_script") (CX := fun _ => L2.CX0) rfl (by decide) rfl ⟨rfl, by decide, by decide⟩ (by decide +kernel) (fun w h Y => PySem.W.km_in_of Y) ?F (fun _ _ _ _ _ h => h)
  case F =>
    intro w mg fa h Y KX G hmg own
    refine' H KX G hmg ?q0C ?q0XX ?q0sa ?q0ec ?q0ty ?q0kc ?q0rd ?q0ga ?q0x1 ?q0x2 ?q0x3 ?q0x5 ?q0x6 ?q0x7 ?q0x8 ?q0x9 ?q0nw ?q0na ?q0kv ?q0kl ?q1C ?q1XX ?q1sa ?q1ec ?q1ty ?q1kc ?q1rd ?q1ga ?q1x1 ?q1x2 ?q1x3 ?q1x5 ?q1x6 ?q1x7 ?q1x8 ?q1x9 ?q1nw ?q1na ?q1kv ?q1kl ?q2C ?q2XX ?q2sa ?q2ec ?q2ty ?q2kc ?q2rd ?q2ga ?q2x1 ?q2x2 ?q2x3 ?q2x5 ?q2x6 ?q2x7 ?q2x8 ?q2x9 ?q2nw ?q2na ?q2kv ?q2kl ?q3C ?q3pg ?q3hd ?q3po ?q3sa ?q3mk ?q3kc ?q3no_owner ?q3no_stem ?q3no_stand_count ?q3no_made ?vV ?a0 ?i0 ?l0 ?c0 ?k0 ?t0 ?a1 ?i1 ?l1 ?c1 ?k1 ?t1 ?a2 ?i2 ?l2 ?c2 ?k2 ?t2 ?a3 ?l3 ?c3 ?k3 ?a4 ?l4 ?c4 ?k4 ?a5 ?l5 ?c5 ?k5 ?a6 ?l6 ?c6 ?k6 ?a7 ?l7 ?c7 ?k7 ?a8 ?l8 ?c8 ?k8 ?a9 ?l9 ?c9 ?k9 ?a10 ?l10 ?c10 ?k10 ?a11 ?l11 ?c11 ?k11 ?a12 ?i12 ?l12 ?c12 ?k12 ?a13 ?i13 ?l13 ?c13 ?k13 ?a14 ?i14 ?l14 ?c14 ?k14 ?a15 ?i15 ?l15 ?c15 ?k15 ?a16 ?l16 ?c16 ?k16 ?y16_0 ?a17 ?l17 ?c17 ?k17 ?a18 ?l18 ?c18 ?k18 ?a19 ?l19 ?c19 ?k19 ?a20 ?l20 ?c20 ?k20 ?a21 ?l21 ?c21 ?k21 ?a22 ?l22 ?c22 ?k22 ?a23 ?l23 ?c23 ?k23 ?a24 ?l24 ?c24 ?k24 ?a25 ?l25 ?c25 ?k25 ?a26 ?l26 ?c26 ?k26 ?a27 ?l27 ?c27 ?k27 ?a28 ?l28 ?c28 ?k28 ?a29 ?l29 ?c29 ?k29 ?a30 ?l30 ?c30 ?k30 ?a31 ?l31 ?c31 ?k31 ?a32 ?l32 ?c32 ?k32 ?a33 ?l33 ?c33 ?k33 ?q0ti ?q0fn ?q0em ?q1ti ?q1fn ?q1em ?q2ti ?q2fn ?q2em ?z0 ?z1 ?z2 ?z3 ?z4 ?z5 ?z6 ?z7 ?z8 ?z9 ?z10 ?z11 ?z12 ?z13 ?z14 ?d0 ?e0 ?d1 ?e1 ?d2 ?e2 ?d3 ?e3 ?d4 ?kd4 ?kn4_0 ?kn4_1 ?kn4_2 ?d5 ?e5 ?kc1 ?kc2 ?kc3 ?kc4 own
    (case q0C => k_is)
    (case q0XX => k_is)
    (case q0sa => k_is)
    (case q0ec => k_is)
    (case q0ty => k_is)
    (case q0kc => k_is)
    (case q0rd => k_is)
    (case q0ga => k_is)
    (case q0x1 => first | rfl | decide +kernel | k_is)
    (case q0x2 => k_is)
    (case q0x3 => k_is)
    (case q0x5 => k_is)
    (case q0x6 => k_is)
    (case q0x7 => k_is)
    (case q0x8 => k_is)
    (case q0x9 => k_is)
    (case q0nw => k_is)
    (case q0na => k_is)
    (case q0kv => first | rfl | decide +kernel | k_is)
    (case q0kl => first | rfl | decide +kernel | k_is)
    (case q1C => k_is)
    (case q1XX => k_is)
    (case q1sa => k_is)
    (case q1ec => k_is)
    (case q1ty => k_is)
    (case q1kc => k_is)
    (case q1rd => k_is)
    (case q1ga => k_is)
    (case q1x1 => first | rfl | decide +kernel | k_is)
    (case q1x2 => k_is)
    (case q1x3 => k_is)
    (case q1x5 => k_is)
    (case q1x6 => k_is)
    (case q1x7 => k_is)
    (case q1x8 => k_is)
    (case q1x9 => k_is)
    (case q1nw => k_is)
    (case q1na => k_is)
    (case q1kv => first | rfl | decide +kernel | k_is)
    (case q1kl => first | rfl | decide +kernel | k_is)
    (case q2C => k_is)
    (case q2XX => k_is)
    (case q2sa => k_is)
    (case q2ec => k_is)
    (case q2ty => k_is)
    (case q2kc => k_is)
    (case q2rd => k_is)
    (case q2ga => k_is)
    (case q2x1 => first | rfl | decide +kernel | k_is)
    (case q2x2 => k_is)
    (case q2x3 => k_is)
    (case q2x5 => k_is)
    (case q2x6 => k_is)
    (case q2x7 => k_is)
    (case q2x8 => k_is)
    (case q2x9 => k_is)
    (case q2nw => k_is)
    (case q2na => k_is)
    (case q2kv => first | rfl | decide +kernel | k_is)
    (case q2kl => first | rfl | decide +kernel | k_is)
    (case q3C => k_is)
    (case q3pg => k_is)
    (case q3hd => k_is)
    (case q3po => k_is)
    (case q3sa => k_is)
    (case q3mk => k_is)
    (case q3kc => k_is)
    (case q3no_owner => k_is)
    (case q3no_stem => k_is)
    (case q3no_stand_count => k_is)
    (case q3no_made => k_is)
    (case vV => k_is)
    (case a0 => k_is)
    (case i0 => k_is)
    (case l0 => k_is)
    (case c0 => k_is)
    (case k0 => k_is)
    (case t0 => k_is)
    (case a1 => k_is)
    (case i1 => k_is)
    (case l1 => k_is)
    (case c1 => k_is)
    (case k1 => k_is)
    (case t1 => k_is)
    (case a2 => k_is)
    (case i2 => k_is)
    (case l2 => k_is)
    (case c2 => k_is)
    (case k2 => k_is)
    (case t2 => k_is)
    (case a3 => k_is)
    (case l3 => k_is)
    (case c3 => k_is)
    (case k3 => k_is)
    (case a4 => k_is)
    (case l4 => k_is)
    (case c4 => k_is)
    (case k4 => k_is)
    (case a5 => k_is)
    (case l5 => k_is)
    (case c5 => k_is)
    (case k5 => k_is)
    (case a6 => k_is)
    (case l6 => k_is)
    (case c6 => k_is)
    (case k6 => k_is)
    (case a7 => k_is)
    (case l7 => k_is)
    (case c7 => k_is)
    (case k7 => k_is)
    (case a8 => k_is)
    (case l8 => k_is)
    (case c8 => k_is)
    (case k8 => k_is)
    (case a9 => k_is)
    (case l9 => k_is)
    (case c9 => k_is)
    (case k9 => k_is)
    (case a10 => k_is)
    (case l10 => k_is)
    (case c10 => k_is)
    (case k10 => k_is)
    (case a11 => k_is)
    (case l11 => k_is)
    (case c11 => k_is)
    (case k11 => k_is)
    (case a12 => k_is)
    (case i12 => k_is)
    (case l12 => k_is)
    (case c12 => k_is)
    (case k12 => k_is)
    (case a13 => k_is)
    (case i13 => k_is)
    (case l13 => k_is)
    (case c13 => k_is)
    (case k13 => k_is)
    (case a14 => k_is)
    (case i14 => k_is)
    (case l14 => k_is)
    (case c14 => k_is)
    (case k14 => k_is)
    (case a15 => k_is)
    (case i15 => k_is)
    (case l15 => k_is)
    (case c15 => k_is)
    (case k15 => k_is)
    (case a16 => k_is)
    (case l16 => k_is)
    (case c16 => k_is)
    (case k16 => k_is)
    (case y16_0 => first | k_is | exact ⟨_, by k_is⟩)
    (case a17 => k_is)
    (case l17 => k_is)
    (case c17 => k_is)
    (case k17 => k_is)
    (case a18 => k_is)
    (case l18 => k_is)
    (case c18 => k_is)
    (case k18 => k_is)
    (case a19 => k_is)
    (case l19 => k_is)
    (case c19 => k_is)
    (case k19 => k_is)
    (case a20 => k_is)
    (case l20 => k_is)
    (case c20 => k_is)
    (case k20 => k_is)
    (case a21 => k_is)
    (case l21 => k_is)
    (case c21 => k_is)
    (case k21 => k_is)
    (case a22 => k_is)
    (case l22 => k_is)
    (case c22 => k_is)
    (case k22 => k_is)
    (case a23 => k_is)
    (case l23 => k_is)
    (case c23 => k_is)
    (case k23 => k_is)
    (case a24 => k_is)
    (case l24 => k_is)
    (case c24 => k_is)
    (case k24 => k_is)
    (case a25 => k_is)
    (case l25 => k_is)
    (case c25 => k_is)
    (case k25 => k_is)
    (case a26 => k_is)
    (case l26 => k_is)
    (case c26 => k_is)
    (case k26 => k_is)
    (case a27 => k_is)
    (case l27 => k_is)
    (case c27 => k_is)
    (case k27 => k_is)
    (case a28 => k_is)
    (case l28 => k_is)
    (case c28 => k_is)
    (case k28 => k_is)
    (case a29 => k_is)
    (case l29 => k_is)
    (case c29 => k_is)
    (case k29 => k_is)
    (case a30 => k_is)
    (case l30 => k_is)
    (case c30 => k_is)
    (case k30 => k_is)
    (case a31 => k_is)
    (case l31 => k_is)
    (case c31 => k_is)
    (case k31 => k_is)
    (case a32 => k_is)
    (case l32 => k_is)
    (case c32 => k_is)
    (case k32 => k_is)
    (case a33 => k_is)
    (case l33 => k_is)
    (case c33 => k_is)
    (case k33 => k_is)
    (case q0ti => k_is)
    (case q0fn => k_is)
    (case q0em => first | rfl | decide +kernel | k_is)
    (case q1ti => k_is)
    (case q1fn => k_is)
    (case q1em => first | rfl | decide +kernel | k_is)
    (case q2ti => k_is)
    (case q2fn => k_is)
    (case q2em => first | rfl | decide +kernel | k_is)
    (case z0 => k_is)
    (case z1 => k_is)
    (case z2 => k_is)
    (case z3 => k_is)
    (case z4 => k_is)
    (case z5 => k_is)
    (case z6 => k_is)
    (case z7 => k_is)
    (case z8 => k_is)
    (case z9 => k_is)
    (case z10 => k_is)
    (case z11 => k_is)
    (case z12 => k_is)
    (case z13 => k_is)
    (case z14 => k_is)
    (case d0 => k_is)
    (case e0 => exact ⟨_, rfl⟩)
    (case d1 => k_is)
    (case e1 => exact ⟨_, rfl⟩)
    (case d2 => k_is)
    (case e2 => exact ⟨_, rfl⟩)
    (case d3 => k_is)
    (case e3 => exact ⟨_, rfl⟩)
    (case d4 => k_is)
    (case kd4 => first | rfl | k_is)
    (case kn4_0 => exact ⟨_, by k_is⟩)
    (case kn4_1 => exact ⟨_, by k_is⟩)
    (case kn4_2 => exact ⟨_, by k_is⟩)
    (case d5 => k_is)
    (case e5 => exact ⟨_, rfl⟩)
    (case kc1 => k_is)
    (case kc2 => first | rfl | decide +kernel | k_is)
    (case kc3 => first | rfl | decide +kernel | k_is)
    (case kc4 => first | rfl | decide +kernel | k_is)
end
namespace LB
open PySem PySem.Spec PyProof.Rows L2
/-! ### the bag of draws: a list of five at b, its cells at s -/
def bagL (s : Addr) (i r sd c : Int) : HO := .lst [.ref s, .int i, .int r, .int sd, .int c]
def Bag (b s : Addr) (H : Hp) : Prop := s ≠ b ∧ ∃ (ns : List Int) (i r sd c : Int), H b = some (bagL s i r sd c) ∧ H s = some (.lst (ns.map V.int)) ∧ ns.length ≤ 63 ∧ 0 ≤ i
/-- all but the bag is as it was -/
structure BX (b s : Addr) (H H' : Hp) : Prop where
  bag : Bag b s H'
  keep : ∀ a o, a ≠ b → H a = some o → H' a = some o
section
variable {b s p a : Addr} {H H' H'' : Hp} {o : HO} {K : PySem.W.Frag}
theorem Bag.nb (h : Bag b s H) (n : H p = none) : p ≠ b := by
  obtain ⟨_, ns, i, r, sd, c, e, _⟩ := h
  exact (ne_of_none e n).symm
theorem Bag.ns (h : Bag b s H) (n : H p = none) : p ≠ s := by
  obtain ⟨_, ns, i, r, sd, c, _, e, _⟩ := h
  exact (ne_of_none e n).symm
theorem BX.refl (h : Bag b s H) : BX b s H H := ⟨h, fun _ _ _ e => e⟩
theorem BX.trans (x : BX b s H H') (y : BX b s H' H'') : BX b s H H'' := ⟨y.bag, fun a o n e => y.keep a o n (x.keep a o n e)⟩
theorem Bag.same (h : Bag b s H) (x : Same H H') : Bag b s H' := by
  obtain ⟨n, ns, i, r, sd, c, e1, e2, l⟩ := h
  exact ⟨n, ns, i, r, sd, c, x _ _ e1, x _ _ e2, l⟩
theorem BX.same (h : Bag b s H) (x : Same H H') : BX b s H H' := ⟨h.same x, fun a o _ e => x a o e⟩
theorem same_new (h : H p = none) : Same H (upd H p o) := fun c x e => by
  rw [upd_ne (ne_of_none e h)]
  exact e
theorem BX.new (h : Bag b s H) (n : H p = none) : BX b s H (upd H p o) := .same h (same_new n)
theorem BX.back (x : BX b s H H') (n : H' p = none) : H p = none := by
  cases e : H p with
  | none => rfl
  | some o =>
    by_cases hb : p = b
    · exact absurd hb (x.bag.nb n)
    · rw [x.keep p o hb e] at n
      cases n
theorem same_mut (x : Same H H') (n : H p = none) : Same H (upd H' p o) := fun a u e => by
  rw [upd_ne (ne_of_none e n)]
  exact x a u e
/-- an object that is not the bag -/
def At (b : Addr) (H : Hp) (a : Addr) (o : HO) : Prop := a ≠ b ∧ H a = some o
theorem At.mv (h : At b H a o) (x : BX b s H H') : At b H' a o := ⟨h.1, x.keep a o h.1 h.2⟩
theorem At.new (h : Bag b s H) (n : H p = none) : At b (upd H p o) p o := ⟨h.nb n, upd_same⟩
theorem At.l {xs : List V} (h : At b H a (.lst xs)) : SqL K H a xs := .of h.2
theorem At.t {xs : List V} (h : At b H a (.tup xs)) : SqT K H a xs := .of h.2
/-- xs[i] of a list, by values: for xs[i] op= e -/
theorem get_list {X : Cx} : PGet X (rIxL X.K) := by
  intro pins s σ H o i ov iv Q I ro ri h
  obtain ⟨p, xs, k, z, rfl, rfl, hq, he, q⟩ := h
  cases ro
  obtain ⟨t, rfl⟩ := ri
  obtain ⟨its, r, pl, hz⟩ := I.list hq
  obtain ⟨j, h1, h2, h3, h4, h5⟩ := atI_get he
  obtain ⟨w, ew, rw'⟩ := r.get h2
  have hl := r.length
  have hn := line63
  have fin : EP X pins σ Q w s := ⟨z, H, I, rw', q⟩
  by_cases h0 : 0 ≤ k
  · have hj : k.toNat = j := by
      rw [seqIndex_of h0 h5] at h1
      exact Option.some.inj h1
    exact wpAny_getItem_list pl.isList h0 (by omega) (by rw [hj]; simpa using ew) fin
  · have hj : (k + (its.toArray.size : Int)).toNat = j := by
      rw [seqIndex_neg (by omega) h4] at h1
      rw [List.size_toArray, ← hl]
      exact Option.some.inj h1
    exact wpAny_getItem_list_neg pl.isList (by omega) (by rw [List.size_toArray] <;> omega) (by omega) (by rw [hj]; simpa using ew) fin
end
theorem cut_take (xs : List V) (k : Nat) : cutV xs none (some (k : Int)) = xs.take k := by
  unfold cutV
  rw [HT.sIx_none, HT.sIx_nat]
  show (xs.drop 0).take (min k xs.length - 0) = xs.take k
  rw [List.drop_zero, Nat.sub_zero]
  by_cases h : k ≤ xs.length
  · rw [Nat.min_eq_left h]
  · rw [Nat.min_eq_right (by omega), List.take_length, List.take_of_length_le (by omega)]
/-! ### texts by their signs -/
abbrev sg (c : Nat) : Str := ⟨#[c]⟩
abbrev tx (l : List Nat) : Str := ⟨l.toArray⟩
theorem tx_app (a b : List Nat) : tx a ++ tx b = tx (a ++ b) := by
  show (⟨a.toArray ++ b.toArray⟩ : Str) = _
  rw [List.append_toArray]
theorem tx_len (a : List Nat) : (tx a).length = a.length := by
  show a.toArray.size = _
  rw [List.size_toArray]
theorem tx_of (z : Str) : z = tx z.cps.toList := by
  cases z
  rfl
theorem join_tx (ls : List (List Nat)) : Txt.join (Str.ofString "") (ls.map tx) = tx ls.flatten := by
  show Builtin.Str.glued _ _ = _
  rw [StrLaws.glued_eq_join, show Str.ofString "" = (tx [] : Str) from by decide +kernel]
  induction ls with
  | nil => rfl
  | cons c r ih =>
    cases r with
    | nil => simp [Str.join]
    | cons d t =>
      show tx c ++ tx [] ++ Str.join (tx []) ((d :: t).map tx) = _
      rw [ih, tx_app, tx_app]
      simp
/-- the k-th of the letters drawn by (first, step) -/
def lett (f b : Int) (k : Nat) : Nat := ((f + b * (k : Int)) % 26).toNat + 97
/-! ### the same data, up to a depth -/
def flat1 : V → Bool
  | .non => true
  | .bl _ => true
  | .int _ => true
  | .str _ => true
  | _ => false
def Sam (K : PySem.W.Frag) (H : Hp) : Nat → V → V → Prop
  | 0, v, w => flat1 v = true ∧ v = w
  | n + 1, v, w => (flat1 v = true ∧ v = w) ∨ ∃ a c xs ys, v = .ref a ∧ w = .ref c ∧ ((H a = some (.lst xs) ∧ H c = some (.lst ys)) ∨ (H a = some (.tup xs) ∧ H c = some (.tup ys))) ∧ xs.length < 100000 ∧ Paired (Sam K H n) xs ys
theorem Sam.mono {K : PySem.W.Frag} {H H' : Hp} (x : Same H H') : ∀ {n : Nat} {v w : V}, Sam K H n v w → Sam K H' n v w
  | 0, _, _, h => h
  | n + 1, _, _, h => by
    rcases h with h | ⟨a, c, xs, ys, e1, e2, h, hz, p⟩
    · exact .inl h
    · refine .inr ⟨a, c, xs, ys, e1, e2, ?_, hz, Paired.mapP p fun _ _ q => Sam.mono x q⟩
      rcases h with ⟨h1, h2⟩ | ⟨h1, h2⟩
      · exact .inl ⟨x _ _ h1, x _ _ h2⟩
      · exact .inr ⟨x _ _ h1, x _ _ h2⟩
theorem paired_get {α β : Type} {F : α → β → Prop} : ∀ {xs : List α} {ys : List β} {i : Nat} {x : α} {y : β}, Paired F xs ys → xs[i]? = some x → ys[i]? = some y → F x y
  | _, _, _, _, _, .nil, h, _ => by simp at h
  | _, _, 0, _, _, .cons r _, h, h' => by
    simp at h h'
    subst h h'
    exact r
  | _, _, i + 1, _, _, .cons _ t, h, h' => paired_get (i := i) t (by simpa using h) (by simpa using h')
theorem kit_seq {K : PySem.W.Frag} {t : String} (h1 : kitB t "list" = some false) (h2 : kitB t "tuple" = some false) : PySem.W.kitAny K (.type t) [.type "list", .type "tuple"] = some false :=
  kitAny_cons (b := false) (kit_ty h1) (fun _ => kitAny_cons (b := false) (kit_ty h2) (fun _ => kitAny_nil) (fun z => nomatch z)) (fun z => nomatch z)
theorem kit_lst {K : PySem.W.Frag} : PySem.W.kitAny K (.type "list") [.type "list", .type "tuple"] = some true :=
  kitAny_cons (b := true) (kit_ty (by decide +kernel)) (fun z => nomatch z) (fun _ => rfl)
theorem kit_tup {K : PySem.W.Frag} : PySem.W.kitAny K (.type "tuple") [.type "list", .type "tuple"] = some true :=
  kitAny_cons (b := false) (kit_ty (by decide +kernel)) (fun _ => kitAny_cons (b := true) (kit_ty (by decide +kernel)) (fun z => nomatch z) (fun _ => rfl)) (fun z => nomatch z)
theorem walk_zipT {K : PySem.W.Frag} {a b : Addr} {xs ys : List V} {n : Nat} (hn : n = min xs.length ys.length) : Walk (RZ.ItzT K a b) n (fun H => SqT K H a xs ∧ SqT K H b ys) (YPair (fun i => xs[i]?) (fun i => ys[i]?)) := by
  subst hn
  refine ⟨fun i _ hi q => ?_, fun _ q => ⟨xs, ys, q.1, q.2, by omega⟩, fun i H v H' _ q y => ?_⟩
  · have u1 : i < xs.length := Nat.lt_of_lt_of_le hi (Nat.min_le_left _ _)
    have u2 : i < ys.length := Nat.lt_of_lt_of_le hi (Nat.min_le_right _ _)
    exact ⟨xs, ys, xs[i], ys[i], q.1, q.2, List.getElem?_eq_getElem u1, List.getElem?_eq_getElem u2⟩
  · obtain ⟨T, x, z, g1, g2, g3, g4, g5⟩ := y
    exact ⟨T, x, z, g1, g2, g3, g4 xs q.1, g5 ys q.2⟩
/-! ### f(k = v, ..): keywords alone -/
/-! ### lists of texts as data: for == and != -/
theorem strOk_tx {l : List Nat} (h : ∀ c ∈ l, c < 128) : PyData.strOk (tx l) = true := by
  unfold PyData.strOk
  rw [Array.all_eq_true_iff_forall_mem]
  intro c hc
  have := h c (by simpa using hc)
  exact decide_eq_true (by omega)
/-! ### sep.join(xs) within a comprehension -/
def rJoin (K : PySem.W.Frag) : V → List V → Hp → VK → Prop := fun x vs H Q => ∃ sep lst, ∃ ts : List Str, x = .str sep ∧ vs = [.ref lst] ∧ (SqL K H lst (ts.map V.str) ∨ SqT K H lst (ts.map V.str)) ∧
  (ts.map (·.length)).sum + ts.length * sep.length ≤ 16777216 ∧ Q (.str (Txt.join sep ts)) H
end LB
namespace LB
open PySem PySem.Spec PyProof.Rows L2
/-! ### enumerate(text): a new pair of place and sign at each turn -/
theorem drawsS {prog : Program} {w : World} {A : Around} (hh : A.handled = none) (it : Addr) (x : Str) (t : Tok) :
    Draws prog w A it [it] x.cps.size (fun i v => ∃ c u, x.cps[i]? = some c ∧ v = .str ⟨#[c]⟩ u) (fun i h => h.IsStrIter it (strIterType x) x t i) := by
  unfold strIterType
  cases ha : x.cps.all (· < 128)
  · simpa using Draws.strWide hh it x t
  · simpa using Draws.strAscii hh it x t
end LB
namespace LB
open PySem PySem.Spec PyProof.Rows L2
/-! ### enumerate(tuple): a new pair of place and item at each turn -/
end LB
namespace LB
open PySem PySem.Spec PyProof.Rows L2
/-! ### list(text), text[::-1] -/
end LB
namespace LB
open PySem PySem.Spec PyProof.Rows L2
abbrev freshSet (w : World) : Obj := { cls := .type "set", dict := none, data := .set #[] 0 (.fresh 0 0 (!w.params.followText "set-order")) }
section
variable {P : Program} {w : World} {A : Around} {E : Value → Shared → Prop} {s : Shared}
/-! ### set.update's loop, by what is kept of the set at Z -/
theorem upd_loop {it Z : Addr} {fp wr : List Addr} {G : Array GenState → Array GenState → Prop} {n : Nat} {Pv : Nat → Value → Prop} {St : Nat → Shared → Prop} {R : Result → Shared → Prop}
    (W : WalksS P w A.in1 it fp wr G n Pv St) (zf : Z ∉ fp) (g0 : Heap) (z0 : g0.get? Z = none) (w0 : ∀ b ∈ wr, g0.get? b = none) (Iv : Nat → Heap → Prop)
    (stay : ∀ i h h', Iv i h → (∀ o, h.get? Z = some o → h'.get? Z = some o) → (∀ b o, g0.get? b = some o → h'.get? b = some o) → Iv i h')
    (add : ∀ i v (s1 : Shared) (Q : Bool → Shared → Prop) (E' : Value → Shared → Prop), i < n → Pv i v → (∀ b o, g0.get? b = some o → s1.heap.get? b = some o) → Iv i s1.heap →
      (∀ b h' tk, s1.toks ≤ tk → Heap.SameBut Z s1.heap h' → Iv (i + 1) h' → Q b { s1 with heap := h', toks := tk }) → wpAny (model P w) A.in1 (setAdd Z v) Q E' s1) :
    ∀ (k i : Nat) (s : Shared), n - i = k → i ≤ n → St i s → (∀ b o, g0.get? b = some o → s.heap.get? b = some o) → Iv i s.heap →
      (∀ s', Moved (Z :: wr) G s s' → Iv n s'.heap → (∀ b o, g0.get? b = some o → s'.heap.get? b = some o) → R (.ok (.ret .none)) s') →
      codeAny (model P w) A (.builtin "set.update.loop" ⟨[.ref Z, .ref it], []⟩) R s := by
  have zw : Z ∉ wr := fun q => zf (W.sub _ q)
  have wz : ∀ b ∈ wr, b ∈ Z :: wr := fun b q => List.mem_cons_of_mem _ q
  have on : ∀ {s s' : Shared}, Moved wr G s s' → (∀ b o, g0.get? b = some o → s.heap.get? b = some o) → ∀ b o, g0.get? b = some o → s'.heap.get? b = some o := fun mv kp b o e =>
    mv.heap b o (fun q => by rw [w0 b q] at e; cases e) (kp b o e)
  intro k
  induction k with
  | zero =>
    intro i s ek ei st kp iv fin
    obtain rfl : i = n := by omega
    refine codeAny_builtin F.entry_set_update_loop ?_; rw [Around.under_plainId F.plain_set_update_loop _]
    show wpAny _ A.in1 (pyNext (.ref it) >>= _) _ _ s
    refine wpAny_bind (W.done s _ _ st fun s' mv => ?_)
    have kp' := on mv kp
    exact wpAny_pure (fin s' (mv.mono wz) (stay _ _ _ iv (fun o e => mv.heap Z o zw e) kp') kp')
  | succ k ih =>
    intro i s ek ei st kp iv fin
    have lt : i < n := by omega
    refine codeAny_builtin F.entry_set_update_loop ?_; rw [Around.under_plainId F.plain_set_update_loop _]
    show wpAny _ A.in1 (pyNext (.ref it) >>= _) _ _ s
    refine wpAny_bind (W.item i s _ _ lt st fun v s' pv st' mv => ?_)
    have kp' := on mv kp
    show wpAny _ A.in1 (holding [v] (setAdd Z v) >>= _) _ _ s'
    refine wpAny_bind (wpAny_holding (add i v s' _ _ lt pv kp' (stay _ _ _ iv (fun o e => mv.heap Z o zw e) kp') fun b h' tk lk sb iv' => ?_))
    have kp2 : ∀ b o, g0.get? b = some o → h'.get? b = some o := fun b o e => (sb.2 b (fun q => by rw [q, z0] at e; cases e)).trans (kp' b o e)
    refine wpAny_pure ⟨plainId_quiet F.plain_set_update_loop _, ih (i + 1) _ (by omega) lt (W.frame _ s' _ _ st' lk fun b q o e => ?_) kp2 iv' fun s2 mv2 iv2 kp3 => ?_⟩
    · rw [sb.2 b (fun q' : b = Z => zf (by rw [← q']; exact q))]; exact e
    · refine fin s2 (Moved.trans W.gtrans ((mv.mono wz).then_heap lk fun b o q e => ?_) mv2) iv2 kp3
      rw [sb.2 b (fun q' : b = Z => q (by rw [q']; exact List.mem_cons_self))]; exact e
set_option maxHeartbeats 3200000 in
/-- set(xs), xs a list: the set at the next free place, by what each add keeps -/
theorem call_set_iv {l : Addr} {items : Array Value} {Q : Value → Shared → Prop} (calm : A.handled = none) (isl : s.heap.IsList l items) (Iv : Nat → Heap → Prop)
    (ini : ∀ h, h.get? s.heap.objs.size = some (freshSet w) → (∀ b o, s.heap.get? b = some o → h.get? b = some o) → Iv 0 h)
    (stay : ∀ i h h', Iv i h → (∀ o, h.get? s.heap.objs.size = some o → h'.get? s.heap.objs.size = some o) → (∀ b o, s.heap.get? b = some o → h'.get? b = some o) → Iv i h')
    (add : ∀ (A' : Around) i v (s1 : Shared) (Q : Bool → Shared → Prop) (E' : Value → Shared → Prop), A'.handled = none → A'.units ≤ A.units + 4 → items[i]? = some v → (∀ b o, s.heap.get? b = some o → s1.heap.get? b = some o) → Iv i s1.heap →
      (∀ b h' tk, s1.toks ≤ tk → Heap.SameBut s.heap.objs.size s1.heap h' → Iv (i + 1) h' → Q b { s1 with heap := h', toks := tk }) → wpAny (model P w) A' (setAdd s.heap.objs.size v) Q E' s1)
    (out : ∀ (h' : Heap) (tk : Nat), Iv items.size h' → (∀ b o, s.heap.get? b = some o → h'.get? b = some o) → Q (.ref s.heap.objs.size) { s with heap := h', toks := tk }) :
    wpAny (model P w) A (call (.type "set") [.ref l]) Q E s := by
  obtain ⟨c, tl, hmro⟩ := F.called_set.mro
  have hmade := F.called_set.made; have hsub := F.called_set.sub
  refine wpAny_call (codeAny_of_tree ?_); show wpAny _ _ (callAny (.type "set") _) _ _ _
  refine wpAny_pure ⟨Code.quiet_builtin _ (by decide +kernel), codeAny_builtin F.entry_type_call ?_⟩; rw [Around.under_plain (weight_type_call_type "set" [.ref l] []) rfl]
  have k1 := F.called_set.notType; have k2 := F.called_set.canCreate; have k3 := F.typeCall_set_1 (.ref l)
  repeat (any_goals (first | assumption | wp_step))
  refine codeAny_mono (code_set_led1 (.ref l) (E := E) (Q₁ := fun obj s₁ => obj = .ref s.heap.objs.size ∧ s₁ = { s with heap := s.heap.push (freshSet w) }) ⟨rfl, rfl⟩) fun r s1 hr => ?_
  cases r with
  | error e => exact hr
  | ok fl =>
    cases fl with
    | ret obj =>
      obtain ⟨rfl, rfl⟩ := hr
      have hZ : (s.heap.push (freshSet w)).get? s.heap.objs.size = some (freshSet w) := Heap.get?_push_size _ rfl
      have hT : Shared.TypeIs { s with heap := s.heap.push (freshSet w) } (.ref s.heap.objs.size) "set" := ⟨_, hZ, rfl⟩
      have k4 := F.called_set.init.lookup; have k5 := F.called_set.init.bind (.ref s.heap.objs.size)
      repeat (any_goals (first | assumption | wp_step))
      refine codeAny_mono (codeAny_call_builtin (R := wants (fun r s₂ => r = .none ∧ ∃ h' tk, s₂ = { s with heap := h', toks := tk } ∧ Iv items.size h' ∧ (∀ b o, s.heap.get? b = some o → h'.get? b = some o)) E) F.called_set.init.plain F.entry_set_init (check_set_init_1 hT ?_)) fun r2 s2 hr2 => ?_
      · obtain ⟨⟨ocls, odict, odata, oslots⟩, hol, hcl, nl, hdl⟩ := isl
        simp only at hcl hdl
        subst hcl hdl
        have hol' : (s.heap.push (freshSet w)).get? l = some { cls := .type "list", dict := odict, data := .seq items nl, slots := oslots } := Heap.get?_push_of_some _ hol
        have k6 := F.sub_list_set; have k7 := F.sub_list_frozenset
        have k8 : (Value.type "list" == Value.type "dict") = false := by decide
        have isl1 : (s.heap.push (freshSet w)).IsList l items := ⟨_, hol', rfl, nl, rfl⟩
        unfold Builtin.«set.__init__» noKeywords Builtin.Frozenset.updateFrom
        generalize hPI : pyIter = PI
        wp_walk; subst hPI
        refine wpAny_pyIter_list isl1 (wpAny_bind (wpAny_runValue ?_))
        have lS : l < s.heap.objs.size := Heap.lt_size hol
        have calm3 : A.in1.in1.in1.handled = none := by simp [calm]
        have neI : l ≠ (s.heap.push (freshSet w)).objs.size := by
          rw [Heap.size_push]; exact Nat.ne_of_lt (Nat.lt_succ_of_lt lS)
        have zf : s.heap.objs.size ∉ [(s.heap.push (freshSet w)).objs.size, l] := by
          rw [Heap.size_push]; simp only [List.mem_cons, List.not_mem_nil, or_false, not_or]
          exact ⟨Nat.ne_of_lt (Nat.lt_succ_self _), Nat.ne_of_gt lS⟩
        have nn : ∀ b, s.heap.objs.size ≤ b → s.heap.get? b = none := fun b hb => by
          cases q : s.heap.get? b with
          | none => rfl
          | some o => exact absurd (Nat.lt_of_lt_of_le (Heap.lt_size q) hb) (Nat.lt_irrefl _)
        have kpp : ∀ b o, s.heap.get? b = some o → ((s.heap.push (freshSet w)).push { cls := .type "list_iterator", data := .fields #[.ref l, .int 0 0] }).get? b = some o := fun b o e => Heap.get?_push_of_some _ (Heap.get?_push_of_some _ e)
        refine upd_loop ((Walks.list calm3 _ l neI items).toS) zf s.heap (nn _ (Nat.le_refl _)) (fun b hb => nn b (by
            rw [List.mem_singleton.mp hb, Heap.size_push]
            exact Nat.le_succ _)) Iv stay (fun i v s3 Q' E' hi pv kp iv q => add _ i v s3 Q' E' (by simp [calm]) ?hu pv kp iv q) (items.size - 0) 0 _ (by omega) (Nat.zero_le _)
          ⟨⟨_, Heap.get?_push_size _ rfl, rfl, rfl⟩, (isl1.push _)⟩ kpp (ini _ (Heap.get?_push_of_some _ hZ) kpp) ?hR
        case hu => first | exact Nat.le_refl _ | (show A.units + _ ≤ A.units + 4; omega) | (show A.units + 1 + 1 + 1 ≤ A.units + 4; omega)
        case hR =>
          intro s' mv iv kp
          obtain ⟨h', g2, d', tk', os'⟩ := s'
          obtain rfl : g2 = s.gens := mv.gens
          obtain rfl : d' = s.drawn := mv.drawn
          obtain rfl : os' = s.os := mv.os
          show wpAny _ _ _ _ _ _
          exact wpAny_pure (wpAny_pure ⟨rfl, h', tk', rfl, iv, kp⟩)
      · cases r2 with
        | error e => exact hr2
        | ok fl2 =>
          cases fl2 with
          | ret r =>
            obtain ⟨rfl, h', tk, rfl, iv, kp⟩ := hr2
            repeat (any_goals (first | assumption | wp_step))
            exact out _ _ iv kp
          | _ => exact hr2.elim
    | _ => exact hr.elim
end
end LB
namespace LB
open PySem PySem.Spec PyProof.Rows L2
/-! ### sets of texts: made of a list, sorted -/
def kx (e : Int × Value) : Str := PyProof.Rows.strOf e.2
structure SetX (P : Program) (w : World) (h : Heap) (a : Addr) (ks : List Str) : Prop where
  ex : ∃ D : Froz.SD, h.get? a = some (Froz.sObj "set" D) ∧ Froz.TxOk P w D ks ∧ Ris D.2.2.place.toList ∧ (w.params.followText "set-order" = true ∨ D.2.2.led = true) ∧ (D.1.toList.map kx).Perm ks ∧ ∀ e ∈ D.1.toList, ∃ x t, e.2 = Value.str x t
  nd : ks.Nodup
theorem tail_ris {ep : Nat} {es : Array (Int × Value)} {t : SetTable} {wd : Bool} (r : Ris t.place.toList) : Ris (Froz.tailTx ep es t wd).2.2.place.toList := by
  unfold Froz.tailTx
  split
  · exact relayAll_ris _ _ _
  · exact r
theorem tail_led {ep : Nat} {es : Array (Int × Value)} {t : SetTable} {wd : Bool} : (Froz.tailTx ep es t wd).2.2.led = t.led := by
  unfold Froz.tailTx
  split
  · exact relayAll_led _ _ _
  · rfl
theorem tail_perm {ep : Nat} {es : Array (Int × Value)} {t : SetTable} {wd : Bool} : (Froz.tailTx ep es t wd).1.toList.Perm es.toList := by
  unfold Froz.tailTx
  split
  · exact relayAll_perm _ _ _
  · exact .refl _
theorem add_ris {D : Froz.SD} {h : Int} {v : Value} (r : Ris D.2.2.place.toList) : Ris (Froz.addTx h v D).2.2.place.toList := by
  unfold Froz.addTx
  refine tail_ris ?_
  by_cases c : (layNew D.2.2 D.1 h v).2.1.plain = true
  · rw [if_pos c]
    exact layNew_ris _ _ _ _ r
  · rw [if_neg c]
    exact layNew_ris _ _ _ _ r
theorem add_led {D : Froz.SD} {h : Int} {v : Value} : (Froz.addTx h v D).2.2.led = D.2.2.led := by
  unfold Froz.addTx
  rw [tail_led]
  by_cases c : (layNew D.2.2 D.1 h v).2.1.plain = true
  · rw [if_pos c]
    exact layNew_led _ _ _ _
  · rw [if_neg c]
    exact layNew_led _ _ _ _
theorem add_perm {D : Froz.SD} {h : Int} {v : Value} : (Froz.addTx h v D).1.toList.Perm ((h, v) :: D.1.toList) := by
  have p := layNew_perm D.2.2 D.1 h v
  rw [Array.toList_push] at p
  exact tail_perm.trans (p.trans (List.perm_append_singleton _ _))
section
variable {P : Program} {w : World} {A : Around} {E : Value → Shared → Prop} {s : Shared}
theorem add_tx {a : Addr} {D : Froz.SD} {l : List Str} {k : Str} {u : Tok} {Q : Bool → Shared → Prop} (ho : s.heap.get? a = some (Froz.sObj "set" D)) (F : Froz.TxOk P w D l) (hb : l.length + 1 < scanBound)
    (q1 : k ∈ l → Q false { s with toks := s.toks + 1 }) (q2 : k ∉ l → Q true { s with heap := s.heap.update a (fun _ => Froz.sObj "set" (Froz.addTx (hashStr w k) (.str k u) D)), toks := s.toks + 1 }) :
    wpAny (model P w) A (setAdd a (.str k u)) Q E s := by
  have ky : (PySem.strKind P w).is k (.str k u) = true := Froz.is_str k u
  unfold setAdd
  refine wpAny_holding (wpAny_bind ((PySem.strKind P w).pyHash ky ?_))
  by_cases hk : k ∈ l
  · obtain ⟨es, ep, t⟩ := D
    have sz : es.size = l.length := F.sz
    obtain ⟨e, he, pe⟩ := (F.mem k).mp hk
    obtain ⟨j, hj⟩ : ∃ j, List.findIdx? (fun e => (PySem.strKind P w).is k e.2) es.toList = some j := by
      cases q : List.findIdx? (fun e => (PySem.strKind P w).is k e.2) es.toList with
      | some j => exact ⟨j, rfl⟩
      | none =>
        have := List.findIdx?_eq_none_iff.mp q e he
        rw [pe] at this
        cases this
    show wpAny (model P w) A (setAddHashed a (.str k u) ((PySem.strKind P w).hash k)) _ _ _
    unfold setAddHashed setAddHashedIn
    refine wpAny_holding (wpAny_bind (wpAny_setState_of (s := { s with toks := s.toks + 1 }) ho rfl F.fit ?_))
    dsimp only
    rw [byScan_of rfl (by show es.size < scanBound; omega) F.el]
    simp only [↓reduceIte]
    unfold setAddByScan
    refine wpAny_bind (wpAny_bind (wpAny_rule (wpAny_bind (wpAny_setScan_of (knd := PySem.strKind P w) (k := k) (s := { s with toks := s.toks + 1 }) ky ho rfl F.fit F.el ?_))))
    rw [hj]
    exact wpAny_pure (wpAny_pure (q1 hk))
  · exact Froz.add_x (s := { s with toks := s.toks + 1 }) ho F hk hb (q2 hk)
theorem setX_fresh {h : Heap} {a : Addr} (e : h.get? a = some (freshSet w)) : SetX P w h a [] :=
  ⟨⟨(#[], 0, .fresh 0 0 (!w.params.followText "set-order")), e, .nil rfl, List.Pairwise.nil, by
    show _ ∨ (!w.params.followText "set-order") = true
    cases w.params.followText "set-order"
    · exact .inr rfl
    · exact .inl rfl, .nil, fun e he => by cases he⟩, .nil⟩
theorem SetX.keep {h h' : Heap} {a : Addr} {ks : List Str} (R : SetX P w h a ks) (k : ∀ o, h.get? a = some o → h'.get? a = some o) : SetX P w h' a ks := by
  obtain ⟨⟨D, e, r⟩, n⟩ := R
  exact ⟨⟨D, k _ e, r⟩, n⟩
/-- set(xs), xs a list of texts -/
theorem call_set_tx {l : Addr} {items : Array Value} {xs : List Str} {Q : Value → Shared → Prop} (calm : A.handled = none) (isl : s.heap.IsList l items) (hx : StrsAre items.toList xs) (few : xs.length + 2 < scanBound)
    (out : ∀ (h' : Heap) (tk : Nat) ks, SetX P w h' s.heap.objs.size ks → (∀ x, x ∈ ks ↔ x ∈ xs) → ks.length ≤ xs.length → (∀ b o, s.heap.get? b = some o → h'.get? b = some o) → Q (.ref s.heap.objs.size) { s with heap := h', toks := tk }) :
    wpAny (model P w) A (call (.type "set") [.ref l]) Q E s := by
  have at_ : ∀ {vs : List Value} {ys : List Str}, StrsAre vs ys → ∀ {i : Nat} {v : Value}, vs[i]? = some v → ∃ y t, ys[i]? = some y ∧ v = .str y t := by
    intro vs ys h
    induction h with
    | nil => intro i v e; simp at e
    | cons y t _ ih =>
      intro i v e
      cases i with
      | zero => simp at e; exact ⟨y, t, rfl, e.symm⟩
      | succ i => simpa using ih (by simpa using e)
  have hlen : items.size = xs.length := by
    have : ∀ {vs : List Value} {ys : List Str}, StrsAre vs ys → vs.length = ys.length := fun h => by
      induction h with
      | nil => rfl
      | cons _ _ _ ih => simp [ih]
    rw [← Array.length_toList]
    exact this hx
  refine call_set_iv calm isl (fun i h => ∃ ks, SetX P w h s.heap.objs.size ks ∧ (∀ x, x ∈ ks ↔ x ∈ xs.take i) ∧ ks.length ≤ i) (fun h e _ => ⟨[], setX_fresh e, fun x => by simp, Nat.le_refl _⟩) (fun i h h' ⟨ks, R, m⟩ k _ => ⟨ks, R.keep k, m⟩) (fun A' i v s1 Q' E' _ _ hv _ ⟨ks, ⟨⟨D, e, F, r, ld, pm, els⟩, nd⟩, m, lk⟩ q => ?_) (fun h' tk ⟨ks, R, m, lk⟩ kp => ?_)
  · obtain ⟨y, t, hy, rfl⟩ := at_ hx (by rw [Array.getElem?_toList]; exact hv)
    have hi : i < xs.length := (List.getElem?_eq_some_iff.mp hy).1
    have tk1 : xs.take (i + 1) = xs.take i ++ [y] := by
      rw [List.take_add_one, hy]
      rfl
    refine add_tx e F (by omega) (fun hk => ?_) (fun hk => ?_)
    · refine q false s1.heap (s1.toks + 1) (Nat.le_succ _) (.refl _ _) ⟨ks, ⟨⟨D, e, F, r, ld, pm, els⟩, nd⟩, fun x => ?_, by omega⟩
      rw [tk1, List.mem_append, List.mem_singleton, ← m x]
      exact ⟨.inl, fun z => z.elim id fun z => by rw [z]; exact hk⟩
    · have pp := add_perm (D := D) (h := hashStr w y) (v := .str y t)
      refine q true _ (s1.toks + 1) (Nat.le_succ _) (Heap.SameBut.update _ _ _) ⟨y :: ks, ⟨⟨_, Froz.get_upd _ e rfl, Froz.add_ok t F, add_ris r, ?_, ?_, ?_⟩, List.nodup_cons.mpr ⟨hk, nd⟩⟩, fun x => ?_, by simp; omega⟩
      · rw [add_led]
        exact ld
      · exact (pp.map kx).trans (.cons y pm)
      · intro e' he'
        rcases List.mem_cons.mp (pp.mem_iff.mp he') with z | z
        · rw [z]
          exact ⟨y, t, rfl⟩
        · exact els e' z
      · rw [tk1, List.mem_append, List.mem_singleton, List.mem_cons, m x]
        exact Or.comm
  · rw [hlen] at m lk
    rw [List.take_length] at m
    exact out h' tk ks R m lk kp
theorem strs_of : ∀ (l : List Value), (∀ v ∈ l, ∃ x t, v = Value.str x t) → StrsAre l (l.map PyProof.Rows.strOf)
  | [], _ => .nil
  | v :: l, h => by
    obtain ⟨x, t, rfl⟩ := h v List.mem_cons_self
    exact .cons x t (strs_of l fun u hu => h u (List.mem_cons_of_mem _ hu))
/-- sorted(a set of texts) -/
theorem sorted_setX {a : Addr} {ks : List Str} {Q : Value → Shared → Prop} (R : SetX P w s.heap a ks) (calm : A.handled = none) (few : ks.length < 4000)
    (q : ∀ s' p (o : Array Value) (c : Nat) (ys : List Str), (∀ b u, s.heap.get? b = some u → s'.heap.get? b = some u) → s'.gens = s.gens → s'.os = s.os → s.heap.objs.size ≤ p →
      s'.heap.get? p = some (seqObj "list" o c) → StrsAre o.toList ys → ys.Perm ks → sortedS ys = true → Q (.ref p) s') :
    wpAny (model P w) A (call (.builtin "sorted") [.ref a]) Q E s := by
  obtain ⟨⟨⟨es, ep, t⟩, e, F, r, ld, pm, els⟩, nd⟩ := R
  have sz : es.size = ks.length := F.sz
  have fw : es.size < scanBound := Nat.lt_of_lt_of_le (by omega : es.size < 4000) (by decide)
  refine Calls.call_function_entry kind_sorted plain_sorted entry_sorted (args_sorted1 _) ?_
  unfold Builtin.«sorted»
  refine wpAny_bind (m := checkCount "sorted" 1 1 _) (wpAny_pure (wpAny_bind (collect_set (A := A.in1) calm ⟨_, e, rfl, rfl⟩ F.fit fw r ld fun s1 vs k1 z1 g1 o1 pv => ?_)))
  have vl : vs.length = ks.length := by rw [pv.length_eq, List.length_map, Array.length_toList]; exact sz
  have hS : StrsAre vs (vs.map PyProof.Rows.strOf) := strs_of vs fun v hv => by
    obtain ⟨e', he', rfl⟩ := List.mem_map.mp (pv.mem_iff.mp hv)
    exact els e' he'
  have pk : (vs.map PyProof.Rows.strOf).Perm ks := by
    have := pv.map PyProof.Rows.strOf
    rw [List.map_map] at this
    exact this.trans pm
  refine wpAny_bind (wpAny_newList ?_ (by rw [vl, sizeLine_eq]; omega))
  have hL : (s1.heap.push (seqObj "list" vs.toArray 0)).get? s1.heap.objs.size = some (seqObj "list" vs.toArray 0) := Heap.get?_push_size _ rfl
  refine wpAny_bind (wpAny_holding (wpAny_call_entry slot_list_sort ⟨_, hL, rfl⟩ entry_list_sort (list_sort_treeKAny strKind_oneLt hL hS.keysOf (fun v₁ v₂ rest z => keyKind_strs (by rw [← z]; exact hS)) (by rw [vl, sizeLine_eq]; omega) fun st' a1 a2 => ⟨_, rfl, ?_⟩) (args_list_sort _)))
  obtain ⟨ys, y1, y2, y3⟩ := sorted_out_str hS a1 a2
  obtain ⟨c, hc⟩ := sortedHeap_at (vs := vs) (out := (arrOf st').map (·.2)) hL
  refine wpAny_pure ⟨_, rfl, q _ s1.heap.objs.size _ c ys (fun b u eb => ?_) g1 o1 z1 hc y1 (y2.trans pk) y3⟩
  have eb1 := k1 b u eb
  have lt := Heap.lt_size eb1
  show (sortedHeap (s1.heap.push (seqObj "list" vs.toArray 0)) s1.heap.objs.size vs _).get? b = some u
  rw [sortedHeap_old (Nat.ne_of_lt lt) (by rw [size_push']; exact Nat.lt_succ_of_lt lt)]
  exact Heap.get?_push_of_some _ eb1
end
/-! ### over the layer -/
def SetXO (P : Program) (w : World) (a : Addr) (ks : List Str) : HO := .ext fun h => SetX P w h a ks
section
variable {X : Cx}
def rSetX (K : PySem.W.Frag) (P : Program) (w : World) : List V → Hp → VK → Prop := fun vs H Q => ∃ (l : Addr) (xs : List Str), vs = [V.ref l] ∧ SqL K H l (xs.map V.str) ∧ xs.length < 2000 ∧
  ∀ a ks, H a = none → ks.Nodup → (∀ x, x ∈ ks ↔ x ∈ xs) → ks.length ≤ xs.length → Q (.ref a) (upd H a (SetXO P w a ks))
theorem cr_setX (hc : X.calm = true) : CallR X (.type "set") (rSetX X.K X.prog X.w) := by
  intro pins s σ H xs us Q I r h
  obtain ⟨l, ys, rfl, hl, few, q⟩ := h
  rw [Vals.ref1 r]
  obtain ⟨its, rv, pl, hz⟩ := I.list hl
  refine call_set_tx (P := X.prog) (w := X.w) (I.ok.hd hc) pl.isList (by simpa using rv.strs) (Nat.lt_of_lt_of_le (by omega : ys.length + 2 < 2002) (by decide)) fun h' tk ks R m lk kp => ?_
  have okS : ObjOk X.prog X.w (upd H s.heap.objs.size (SetXO X.prog X.w s.heap.objs.size ks)) h' s.heap.objs.size (SetXO X.prog X.w s.heap.objs.size ks) := by
    obtain ⟨⟨D, e, _⟩, _⟩ := id R
    exact ⟨R, ⟨_, e⟩, fun g1 g2 R1 k => R1.keep k⟩
  exact ⟨.ref s.heap.objs.size, _, I.laid (t' := tk) kp (Nat.le_refl _) okS, rfl, q _ ks (I.hok.fresh (Nat.le_refl _)) R.nd m lk⟩
def rSortX (P : Program) (w : World) : List V → Hp → VK → Prop := fun vs H Q => ∃ (a : Addr) (ks : List Str), vs = [V.ref a] ∧ H a = some (SetXO P w a ks) ∧ ks.length < 2000 ∧
  ∀ ys p, ys.Perm ks → sortedS ys = true → H p = none → Q (.ref p) (upd H p (.lst (ys.map V.str)))
theorem cr_sortX (hc : X.calm = true) : CallR X (.builtin "sorted") (rSortX X.prog X.w) := by
  intro pins s σ H vs us Q I r h
  obtain ⟨a, ks, rfl, ha, few, q⟩ := h
  have R : SetX X.prog X.w s.heap a ks := (I.hok a _ ha).1
  rw [Vals.ref1 r]
  refine sorted_setX R (I.ok.hd hc) (by omega) fun s' p o c ys k g os hp hg hS pm srt => ?_
  have hlen : (ys.map V.str).length ≤ sizeLine := by rw [List.length_map, pm.length_eq, sizeLine_eq]; omega
  have hn : H p = none := I.hok.fresh hp
  have J : Inv X pins σ (upd H p (.lst (ys.map V.str))) { s with heap := s'.heap, gens := s'.gens, drawn := s'.drawn, toks := s'.toks } :=
    I.call (ch := []) (Un.laid k hp hn) (I.hok.laid k hp ⟨hlen, o.toList, c, vals_of_strs hS, hg⟩) (by rw [g]; exact I.bare) (fun _ z => nomatch z)
  have e : s' = { s with heap := s'.heap, gens := s'.gens, drawn := s'.drawn, toks := s'.toks } := by
    cases s'; cases s; cases os; rfl
  rw [e]
  exact ⟨.ref p, _, J, rfl, q ys p pm srt hn⟩
end
end LB
namespace LB
open PySem PySem.Spec PyProof.Rows L2
/-! ### dicts whose keys are tuples: setdefault, values -/
/-! ### two fors in a list: the inner one, the outer one -/
end LB
namespace LB
open PySem PySem.Spec PyProof.Rows L2
/-! ### d.get(z), d a dict of the module with text keys -/
end LB
namespace LB
open PySem PySem.Spec PyProof.Rows L2
/-! ### the first place of a sign from a place on -/
/-! ### where the letters of the small word stand in the great one, each as early as can be -/
def gs : List Nat → List Nat → Nat → Option (List Nat)
  | [], _, _ => some []
  | _ :: _, [], _ => none
  | s :: ss, g :: gg, k => if g = s then (gs ss gg (k + 1)).map (k :: ·) else gs (s :: ss) gg (k + 1)
theorem gs_nil (g : List Nat) (k : Nat) : gs [] g k = some [] := by cases g <;> rfl
theorem gs_len : ∀ {a g : List Nat} {k : Nat} {ps : List Nat}, gs a g k = some ps → ps.length = a.length ∧ a.length ≤ g.length
  | [], g, k, ps, h => by
    rw [gs_nil] at h
    cases h
    exact ⟨rfl, Nat.zero_le _⟩
  | _ :: _, [], _, _, h => by cases h
  | s :: ss, x :: r, k, ps, h => by
    unfold gs at h
    by_cases e : x = s
    · rw [if_pos e] at h
      cases h2 : gs ss r (k + 1) with
      | none => rw [h2] at h; cases h
      | some qs =>
        rw [h2] at h
        cases h
        have := gs_len h2
        simp
        omega
    · rw [if_neg e] at h
      have := gs_len h
      simp at this ⊢
      omega
end LB
namespace LB
open PySem PySem.Spec PyProof.Rows L2
/-! ### data in the heap, up to a depth, apart from some addresses -/
inductive D where
  | non | bl (b : Bool) | int (i : Int) | str (l : List Nat) | lst (ds : List D) | tup (ds : List D)
abbrev ascii (l : List Nat) : Prop := ∀ c ∈ l, c < 128
def flatR : V → D → Prop
  | .non, .non => True
  | .bl a, .bl b => a = b
  | .int i, .int j => i = j
  | .str x, .str l => x = tx l ∧ ascii l
  | _, _ => False
def Rp (av : Addr → Prop) (H : Hp) : Nat → V → D → Prop
  | 0, v, d => flatR v d
  | n + 1, v, d => flatR v d ∨ (∃ a xs ds, v = .ref a ∧ d = .lst ds ∧ ¬ av a ∧ H a = some (.lst xs) ∧ xs.length < 100000 ∧ Paired (Rp av H n) xs ds) ∨
      (∃ a xs ds, v = .ref a ∧ d = .tup ds ∧ ¬ av a ∧ H a = some (.tup xs) ∧ xs.length < 100000 ∧ Paired (Rp av H n) xs ds)
def Kp (av : Addr → Prop) (H H' : Hp) : Prop := ∀ a o, ¬ av a → H a = some o → H' a = some o
section
variable {av av' : Addr → Prop} {H H' H'' : Hp} {b s a p : Addr} {o : HO} {n : Nat} {v w : V} {d : D} {ds : List D} {K : PySem.W.Frag}
theorem Kp.refl : Kp av H H := fun _ _ _ e => e
theorem Kp.trans (x : Kp av H H') (y : Kp av H' H'') : Kp av H H'' := fun a o n e => y a o n (x a o n e)
theorem Same.kp (x : Same H H') : Kp av H H' := fun a o _ e => x a o e
theorem BX.kp (x : BX b s H H') (h : av b) : Kp av H H' := fun a o n e => x.keep a o (fun z => n (z ▸ h)) e
theorem Kp.new (h : H p = none) : Kp av H (upd H p o) := Same.kp (same_new h)
theorem Rp.mv : ∀ {n : Nat} {v : V} {d : D}, Kp av H H' → Rp av H n v d → Rp av H' n v d
  | 0, _, _, _, h => h
  | n + 1, _, _, k, h => by
    rcases h with h | ⟨a, xs, ds, e1, e2, na, ha, hl, p⟩ | ⟨a, xs, ds, e1, e2, na, ha, hl, p⟩
    · exact .inl h
    · exact .inr (.inl ⟨a, xs, ds, e1, e2, na, k _ _ na ha, hl, Paired.mapP p fun _ _ q => Rp.mv k q⟩)
    · exact .inr (.inr ⟨a, xs, ds, e1, e2, na, k _ _ na ha, hl, Paired.mapP p fun _ _ q => Rp.mv k q⟩)
theorem Rp.tup (h : Rp av H (n + 1) v (.tup ds)) : ∃ a xs, v = .ref a ∧ ¬ av a ∧ H a = some (.tup xs) ∧ xs.length < 100000 ∧ Paired (Rp av H n) xs ds := by
  rcases h with h | ⟨a, xs, es, e1, e2, na, ha, hl, p⟩ | ⟨a, xs, es, e1, e2, na, ha, hl, p⟩
  · cases v <;> cases h
  · cases e2
  · cases e2
    exact ⟨a, xs, e1, na, ha, hl, p⟩
theorem Rp.lst (h : Rp av H (n + 1) v (.lst ds)) : ∃ a xs, v = .ref a ∧ ¬ av a ∧ H a = some (.lst xs) ∧ xs.length < 100000 ∧ Paired (Rp av H n) xs ds := by
  rcases h with h | ⟨a, xs, es, e1, e2, na, ha, hl, p⟩ | ⟨a, xs, es, e1, e2, na, ha, hl, p⟩
  · cases v <;> cases h
  · cases e2
    exact ⟨a, xs, e1, na, ha, hl, p⟩
  · cases e2
theorem Rp.str {l : List Nat} (h : Rp av H n v (.str l)) : v = .str (tx l) ∧ ascii l := by
  have go : flatR v (.str l) → v = .str (tx l) ∧ ascii l := fun h => by
    cases v with
    | str x => exact ⟨by rw [h.1], h.2⟩
    | non => cases h
    | bl _ => cases h
    | int _ => cases h
    | byt _ => cases h
    | flt _ => cases h
    | ref _ => cases h
    | ty _ => cases h
  cases n with
  | zero => exact go h
  | succ n =>
    rcases h with h | ⟨_, _, _, _, e, _⟩ | ⟨_, _, _, _, e, _⟩
    · exact go h
    · cases e
    · cases e
/-- a tuple of texts -/
def tupS (ls : List (List Nat)) : D := .tup (ls.map D.str)
end
/-! ### names -/
def isNm (x : List Nat) : Prop := 0 < x.length ∧ x.length ≤ 8 ∧ ∀ c ∈ x, 97 ≤ c ∧ c < 123
structure NameL (ns : List (List Nat)) : Prop where
  nd : ns.Nodup
  ok : ∀ x ∈ ns, isNm x
theorem NameL.take {ns : List (List Nat)} (h : NameL ns) (k : Nat) : NameL (ns.take k) := ⟨h.nd.sublist (List.take_sublist k ns), fun x hx => h.ok x (List.mem_of_mem_take hx)⟩
theorem lett_bd (f b : Int) (k : Nat) : 97 ≤ lett f b k ∧ lett f b k < 123 := by
  unfold lett
  omega
theorem lett_inj {f b : Int} (hb : b ∈ [(1 : Int), 3, 5, 7, 9, 11]) {j k : Nat} (hj : j < 26) (hk : k < 26) (h : lett f b j = lett f b k) : j = k := by
  unfold lett at h
  simp only [List.mem_cons, List.not_mem_nil, or_false] at hb
  rcases hb with rfl | rfl | rfl | rfl | rfl | rfl <;> omega
/-- a letter put into the tail -/
def nmAt (tail : List Nat) (i : Nat) (c : Nat) : List Nat := tail.take i ++ [c] ++ tail.drop i
theorem nmAt_inj {tail : List Nat} {i c d : Nat} (h : nmAt tail i c = nmAt tail i d) : c = d := by
  unfold nmAt at h
  rw [List.append_assoc, List.append_assoc] at h
  have := List.append_cancel_left h
  simpa using this
theorem nmAt_ok {tail : List Nat} {i c : Nat} (ht : tail.length ≤ 7) (ha : ∀ x ∈ tail, 97 ≤ x ∧ x < 123) (hc : 97 ≤ c ∧ c < 123) : isNm (nmAt tail i c) := by
  unfold nmAt isNm
  refine ⟨by simp; omega, by simp; omega, fun x hx => ?_⟩
  simp only [List.append_assoc, List.mem_append, List.mem_singleton] at hx
  rcases hx with hx | rfl | hx
  · exact ha x (List.mem_of_mem_take hx)
  · exact hc
  · exact ha x (List.mem_of_mem_drop hx)
theorem names_ok {tail : List Nat} {i : Nat} {f b : Int} (hb : b ∈ [(1 : Int), 3, 5, 7, 9, 11]) (ht : tail.length ≤ 7) (ha : ∀ x ∈ tail, 97 ≤ x ∧ x < 123) {m : Nat} (hm : m ≤ 26) :
    NameL ((List.range m).map fun k => nmAt tail i (lett f b k)) := by
  refine ⟨?_, fun x hx => ?_⟩
  · refine List.pairwise_map.mpr (List.Pairwise.imp_of_mem ?_ (List.nodup_range (n := m)))
    intro j k hj hk ne e
    have h1 := List.mem_range.mp hj
    have h2 := List.mem_range.mp hk
    exact ne (lett_inj hb (by omega) (by omega) (nmAt_inj e))
  · obtain ⟨k, _, rfl⟩ := List.mem_map.mp hx
    exact nmAt_ok ht ha (lett_bd f b k)
/-! ### data as the library's own, for == and != -/
theorem eqv_nil (qs : List PyData) : PyData.eqv (.list qs) (.list []) = decide (qs.length = 0) := by
  cases qs with
  | nil => rfl
  | cons q r => rfl
/-! ### a drawn plan -/
structure PD where
  letters : List Nat
  machines : List (List Nat × List Nat)
  rows : List (List Nat × List Nat)
  moves : List (List Nat × List Nat × List (List Nat) × List Nat)
  stands : List (List (List Nat))
def pairD (x : List Nat × List Nat) : D := .tup [.str x.1, .str x.2]
def mvD (x : List Nat × List Nat × List (List Nat) × List Nat) : D := .tup [.str x.1, .str x.2.1, tupS x.2.2.1, .str x.2.2.2]
def standD (ss : List (List Nat)) : D := .lst (ss.map D.str)
def letD (c : Nat) : D := .str [c]
def kLetters : Str := Str.ofString "letters"
def kMachines : Str := Str.ofString "machines"
def kRows : Str := Str.ofString "rows"
def kMoves : Str := Str.ofString "moves"
def kStands : Str := Str.ofString "stands"
def planK (l m r v t : Addr) : List (Key × V) := [(.inr kLetters, .ref l), (.inr kMachines, .ref m), (.inr kRows, .ref r), (.inr kMoves, .ref v), (.inr kStands, .ref t)]
theorem kne {x y : Str} (h : x ≠ y) : ¬ (Sum.inr x : Key) = Sum.inr y := fun z => h (Sum.inr.inj z)
structure PlanAt (av : Addr → Prop) (H : Hp) (d l m r v t : Addr) (p : PD) : Prop where
  nd : ¬ av d
  d : H d = some (.dK (planK l m r v t))
  l : Rp av H 1 (.ref l) (.lst (p.letters.map letD))
  m : Rp av H 2 (.ref m) (.lst (p.machines.map pairD))
  r : Rp av H 2 (.ref r) (.lst (p.rows.map pairD))
  v : Rp av H 3 (.ref v) (.lst (p.moves.map mvD))
  t : Rp av H 2 (.ref t) (.lst (p.stands.map standD))
section
variable {av av' : Addr → Prop} {H H' : Hp} {d l m r v t : Addr} {p : PD}
theorem PlanAt.mv (h : PlanAt av H d l m r v t p) (k : Kp av H H') : PlanAt av H' d l m r v t p := ⟨h.nd, k _ _ h.nd h.d, h.l.mv k, h.m.mv k, h.r.mv k, h.v.mv k, h.t.mv k⟩
end
def Plan (av : Addr → Prop) (H : Hp) (d : Addr) (p : PD) : Prop := ∃ l m r v t, PlanAt av H d l m r v t p
theorem Plan.mv {av : Addr → Prop} {H H' : Hp} {d : Addr} {p : PD} (h : Plan av H d p) (k : Kp av H H') : Plan av H' d p := by
  obtain ⟨l, m, r, v, t, h⟩ := h
  exact ⟨l, m, r, v, t, h.mv k⟩
/-- all that is told in H -/
def Old (H : Hp) : Addr → Prop := fun a => H a ≠ none
theorem Old.new {H : Hp} {a : Addr} (h : H a = none) : ¬ Old H a := fun z => z h
theorem Old.of {H : Hp} {a : Addr} {o : HO} (h : H a = some o) : Old H a := fun z => by rw [h] at z; cases z
def wIdle : List Nat := [105, 100, 108, 101]
def wBare : List Nat := [98, 97, 114, 101]
def wSend : List Nat := [115, 101, 110, 100]
def wTake : List Nat := [116, 97, 107, 101]
inductive ActOk (p : PD) : List (List Nat) → Prop
  | idle : ActOk p [wIdle]
  | bare {x : List Nat × List Nat} (h : x ∈ p.rows) : ActOk p [wBare, x.1]
  | send {x : List Nat × List Nat} {c : Nat} (h : x ∈ p.rows) (hc : c ∈ p.letters) : ActOk p [wSend, x.1, [c]]
  | take {x : List Nat × List Nat} {c : Nat} (h : x ∈ p.rows) (hc : c ∈ p.letters) : ActOk p [wTake, x.1, [c]]
theorem ActOk.of {p q : PD} (hr : p.rows = q.rows) (hl : p.letters = q.letters) {a : List (List Nat)} (h : ActOk p a) : ActOk q a := by
  cases h with
  | idle => exact .idle
  | bare h => exact .bare (hr ▸ h)
  | send h hc => exact .send (hr ▸ h) (hl ▸ hc)
  | take h hc => exact .take (hr ▸ h) (hl ▸ hc)
/-! ### a plan while it is made -/
structure PB (b cl : Addr) (H0 H : Hp) (d l nm m r v t : Addr) (cs : List Nat) (ns : List (List Nat)) (xm xr xv xt : List V) : Prop where
  bx : BX b cl H0 H
  d : H d = some (.dK (planK l m r v t))
  l : H l = some (.lst (cs.map fun c => V.str (sg c)))
  nm : H nm = some (.lst (ns.map fun l => V.str (tx l)))
  m : H m = some (.lst xm)
  r : H r = some (.lst xr)
  v : H v = some (.lst xv)
  t : H t = some (.lst xt)
structure PAd (H0 : Hp) (d l nm m r v t : Addr) : Prop where
  fd : H0 d = none
  fl : H0 l = none
  fn : H0 nm = none
  fm : H0 m = none
  fr : H0 r = none
  fv : H0 v = none
  ft : H0 t = none
  qdm : d ≠ m
  qdr : d ≠ r
  qdv : d ≠ v
  qdt : d ≠ t
  qlm : l ≠ m
  qlr : l ≠ r
  qlv : l ≠ v
  qlt : l ≠ t
  qnm : nm ≠ m
  qnr : nm ≠ r
  qnv : nm ≠ v
  qnt : nm ≠ t
  qmr : m ≠ r
  qmv : m ≠ v
  qmt : m ≠ t
  qrv : r ≠ v
  qrt : r ≠ t
  qvt : v ≠ t
section
variable {b cl : Addr} {H0 H H' : Hp} {d l nm m r v t : Addr} {cs : List Nat} {ns : List (List Nat)} {xm xr xv xt : List V}
theorem PB.mv (A : PAd H0 d l nm m r v t) (hB : Bag b cl H0) (h : PB b cl H0 H d l nm m r v t cs ns xm xr xv xt) (x : BX b cl H H') : PB b cl H0 H' d l nm m r v t cs ns xm xr xv xt :=
  ⟨h.bx.trans x, x.keep _ _ (hB.nb A.fd) h.d, x.keep _ _ (hB.nb A.fl) h.l, x.keep _ _ (hB.nb A.fn) h.nm, x.keep _ _ (hB.nb A.fm) h.m, x.keep _ _ (hB.nb A.fr) h.r, x.keep _ _ (hB.nb A.fv) h.v, x.keep _ _ (hB.nb A.ft) h.t⟩
end
/-! ### the stands of a machine; scenes -/
def foundIn (name : List Nat) (ms : List (List Nat × List Nat × List (List Nat) × List Nat)) : List (List Nat) := ms.flatMap fun x => if x.1 = name then [x.2.1, x.2.2.2] else []
end LB
set_option maxHeartbeats 1000000
namespace LB
open PySem PySem.Spec PyProof.Rows L2
/-! ### an own exception with fields, in an except suite: isinstance, its fields -/
/-- what the class D says, for isinstance and for fields -/
structure XC (K : PySem.W.Frag) (D : Addr) : Prop where
  cl : (PySem.W.clsIn K D).isSome = true
  ga : PySem.W.findIn K (.ref D) "__getattribute__" = some (some (.builtin "BaseException.__getattribute__"))
  gg : PySem.W.findIn K (.ref D) "__getattr__" = some none
  ex : PySem.W.subIn K (.ref D) (.type "BaseException") = some true
  ca : PySem.W.findIn K (.ref D) "__class__" = some (some (.builtin "object.__class__"))
  cg : PySem.W.specialIn K (.builtin "object.__class__") "__get__" = some (some (.builtin "getset_descriptor.__get__"))
  ct : PySem.W.takesIn K (.builtin "object.__class__") = some true
  mo : PySem.W.mroIn K D (.type "object") = some true
  hd : PySem.W.hasDictIn K D = true
def rIsX (K : PySem.W.Frag) (cls : Value) (d : Option Addr) (a : Addr) : List V → Hp → VK → Prop := fun xs H Q => ∃ (D dd : Addr) (fs : List (Str × V)) (c : V) (cv : Value) (b : Bool), cls = .ref D ∧ XC K D ∧ d = some dd ∧ H dd = some (.xd fs) ∧ xs = [.ref a, c] ∧ (∀ u, L2.RelV c u → u = cv) ∧ PySem.W.kitOne K (.ref D) cv = some b ∧ Q (.bl b) H
section
variable {X : Cx} {a : Addr} {oe : Obj} {cls : Value} {d : Option Addr} {pn : List (Addr × Obj)}
theorem suite_inst {pins : List (Addr × Obj)} {σ : L2.St} {H : Hp} {s : Shared} {D dd : Addr} {fs : List (Str × V)} (I : Inv (X.suite a ((a, oe) :: pn)) pins σ H s) (hz : Zc (.ref D) (some dd) oe) (hf : ∃ vs, oe.data = .fields vs) (hdd : H dd = some (.xd fs)) :
    ∃ od mA, PySem.W.InstAt s.heap a oe D (some od) ∧ s.heap.get? dd = some od ∧ s.heap.Ns1 dd mA ∧ ∀ f, RelO (fs.lookup f) (mA f) := by
  obtain ⟨ha, _⟩ := I.pin (a, oe) (List.mem_append_left _ List.mem_cons_self)
  obtain ⟨vs, hd⟩ := hf
  obtain ⟨mA, hns, hr⟩ := (show ObjOk X.prog X.w H s.heap dd (.xd fs) from I.hok dd _ hdd)
  obtain ⟨od, ho, hl⟩ := lookIn_ns hns
  exact ⟨od, mA, ⟨ha, hz.1, by unfold PySem.W.notCls; rw [hd] <;> rfl, by rw [hz.2]; exact ho⟩, ho, hns, hr⟩
theorem call_isX (hz : Zc cls d oe) (hf : ∃ vs, oe.data = .fields vs) : CallR (X.suite a ((a, oe) :: pn)) (.builtin "isinstance") (rIsX X.K cls d a) := by
  intro pins s σ H xs us Q I r h
  obtain ⟨D, dd, fs, c, cv, b, rfl, C, rfl, hdd, rfl, hcv, e, q⟩ := h
  obtain ⟨u1, u2, rfl, r1, r2⟩ := vals2 r
  cases r1
  obtain rfl := hcv _ r2
  obtain ⟨od, mA, J, _⟩ := suite_inst I hz hf hdd
  exact PySem.W.kia_one (PySem.W.kitx_exc C.cl C.ga C.gg C.ex C.ca C.cg C.ct C.mo) I.kIn J e (fun z => nomatch z) fun tk => ⟨.bl b, H, I.kept (t' := tk) fun _ _ z => z, rfl, q⟩
def tXfX (K : PySem.W.Frag) (a : Addr) (cls : Value) (d : Option Addr) (n : Str) (te : TE) : TE := fun σ H Q => te σ H fun x H1 => x = .ref a ∧ ∃ (D dd : Addr) (fs : List (Str × V)) (v : V), cls = .ref D ∧ XC K D ∧ PySem.W.findIn K (.ref D) n = some none ∧ d = some dd ∧ H1 dd = some (.xd fs) ∧ fs.lookup n = some v ∧ Q v H1
theorem pe_xfX {e : Expr} {te : TE} {pos : Pos} {n : Str} (hz : Zc cls d oe) (hf : ∃ vs, oe.data = .fields vs) (he : PE (X.suite a ((a, oe) :: pn)) e te) (hb : attributeBase e n X.env (eval e X.env) = eval e X.env := by rfl) :
    PE (X.suite a ((a, oe) :: pn)) (.Attribute e n pos) (tXfX X.K a cls d n te) := by
  refine ⟨fun pins s σ H Q I h => ?_⟩
  refine attr_of hb (thn (he.run pins s σ H _ I h) fun u s1 ⟨x, H1, I1, rx, ex, D, dd, fs, v, ec, C, hno, ed, hdd, l, q⟩ => ?_)
  subst ex ec ed
  obtain rfl : u = Value.ref a := rx
  obtain ⟨od, mA, J, ho, hns, hr⟩ := suite_inst I1 hz hf hdd
  obtain ⟨od', ho', hl⟩ := lookIn_ns hns
  obtain rfl : od = od' := Option.some.inj (ho.symm.trans ho')
  obtain ⟨w, hw, rw'⟩ := RelO.some_of (v := v) (o := mA n) (by rw [← l]; exact hr n)
  exact HandSPX.exc_get I1.kIn J C.ga C.gg C.ex (PySem.W.findObj_own C.hd hno rfl (by rw [hl, hw])) (handed_of rw') ⟨v, H1, I1.tok _, rw', q⟩
end
/-! ### C.m(self, ..): a def of an own class, called by the class's name -/
structure CFn (K : PySem.W.Frag) (C : Addr) (n : Str) (f : Addr) : Prop where
  rd : PySem.W.readsIn K C (.type "type") = true
  ga : PySem.W.specialIn K (.ref C) "__getattribute__" = some (some (.builtin "type.__getattribute__"))
  fn : PySem.W.findCls K (.ref C) (.type "type") n = some (.val (.ref f))
  kp : PySem.W.keepIn K (.ref f) = true
section
variable {X : Cx} {CX : CXT} {k : Nat} {f C : Addr} {fd : FuncData} {ps : List Str} {sp : Sp} {dvs : List V} {ds : List Value} {E : XK} {x n : Str} {p1 p2 pos : Pos} {e : Expr} {es : List Expr} {t : TA}
theorem pe_cfn {pl : Sem Bool} (c : CFn X.K C n f) (F : FnOk X.prog X.w X.K X.mg X.base CX k f fd ps sp) (hr : Room k X.A) (hg : Gl X x) (hm : X.mg x = some (.ref C)) (hb : L2.Binds X.K fd ps ds) (hd : Vals dvs ds) (hx : Passes CX X E) (ha : PA X (e :: es) t)
    (hdb : (x == ("__debug__" : Str)) = false := by decide)
    (hc : eval (.Call (.Attribute (.Name x p1) n p2) (e :: es) [] pos) X.env = (do
      let ov ← eval (.Name x p1) X.env
      standAt p2.atName
      let (f, first) ← holding [ov] (getMethod ov n pl)
      callWith pos f first (backTo pos (starEach (e :: es) X.env)) (backToKw pos (keywordEach [] X.env))) := by rfl)
    (he : starEach (e :: es) X.env = (false, eval e X.env) :: starEach es X.env := by rfl) (hpl : (backTo pos (starEach es X.env)).any (·.1) = false := by rfl) :
    PE X (.Call (.Attribute (.Name x p1) n p2) (e :: es) [] pos) (tCall sp dvs E t) := by
  refine ⟨fun pins s σ H Q I h => ?_⟩
  refine PySem.W.methodCall_KW (ld_glob I hg hm ?_ hdb) hc
  refine PySem.W.method_cls I.kIn c.ga (PySem.W.cls_value I.kIn c.rd c.fn rfl ?_)
  show wpAny _ _ (callWith pos (.ref f) [] (backTo pos (starEach (e :: es) X.env)) []) _ _ _
  refine PySem.W.callWith_K (h₀ := X.base) I.ok.mod.kin c.kp (thn (ha.run pos pins _ σ H _ (I.tok _) h) fun us s1 ⟨vs, H1, I1, r, q⟩ => ⟨I1.kIn, ?_⟩) he hpl
  exact run_fn F hr hb hd hx I1 r q
end
/-! ### C(), C an own exception class whose __init__ takes what is left out -/
section
variable {X : Cx} {p pos : Pos}
theorem pmk_oex0 {CX : CXT} {x : Str} {C fI : Addr} {k : Nat} {fd : FuncData} {ps : List Str} {sp : Sp} {ds : List Value} {dvs : List V} (T : OexC X.K C) (iC : PySem.W.findIn X.K (.ref C) "__init__" = some (some (.ref fI))) (tI : PySem.W.typeIn X.K (.ref fI) = some (.type "function"))
    (F1 : FnOk X.prog X.w X.K X.mg X.base CX k fI fd ps sp) (hr : Room (k + 1) X.A) (hb : L2.Binds X.K fd ps ds) (hd : Vals dvs ds) (hx : Passes CX X (fun _ _ _ => False)) (hg : Gl X x) (hm : X.mg x = some (.ref C)) (hdb : (x == ("__debug__" : Str)) = false := by decide) :
    PMk X (.Call (.Name x p) [] [] pos) (tMkO C sp dvs tNil) := by
  intro pins s σ H Q I h
  obtain ⟨nm, q, N, bs, bm, sn, sub, ab, col, dd, k0, k1, k2, k3, k5, hC, hbm⟩ := T.cls
  refine wpAny_Call_Name_kw (ld_glob I hg hm ?_ hdb)
  refine PySem.W.callWith_K0 I.kIn T.kC ?_
  show wpAny _ _ (call (.ref C) []) _ _ _
  obtain ⟨hp, g, dr, tk, os⟩ := s
  obtain ⟨_, q1⟩ := h
  have sz : hp.objs.size ≤ hp.objs.size + 1 := Nat.le_succ _
  have asked := q1 (hp.objs.size + 1) (I.hok.fresh sz)
  have kk : ∀ b o, hp.get? b = some o → ((hp.push (PySem.W.kdv_tup [])).push (PySem.HandSPX.excO C hp.objs.size)).get? b = some o := fun b o e => Heap.get?_push_of_some _ (Heap.get?_push_of_some _ e)
  have at_ : ((hp.push (PySem.W.kdv_tup [])).push (PySem.HandSPX.excO C hp.objs.size)).get? (hp.objs.size + 1) = some (PySem.HandSPX.excO C hp.objs.size) := by heap_get
  have I2 : Inv X pins σ (upd H (hp.objs.size + 1) (exo (hp.objs.size + 1) C none)) ⟨(hp.push (PySem.W.kdv_tup [])).push (PySem.HandSPX.excO C hp.objs.size), g, dr, tk, os⟩ :=
    I.laid (t' := tk) (a := hp.objs.size + 1) (o := exo (hp.objs.size + 1) C none) (h' := (hp.push (PySem.W.kdv_tup [])).push (PySem.HandSPX.excO C hp.objs.size)) kk sz (exo_ok at_)
  have r2 : Vals (V.ref (hp.objs.size + 1) :: ([] ++ dvs)) ([Value.ref (hp.objs.size + 1)] ++ ds) := .cons rfl hd
  have hl : ([Value.ref (hp.objs.size + 1)] ++ ds).length = ps.length := by
    have e := r2.length
    rw [F1.len _ _ _ _ asked] at e
    exact e.symm
  refine wpAny_call (PySem.HandSPX.call_own PySem.F.excBase_ValueError (fun Y => PySem.HandSPX.refsVE_contains Y bm hbm) (I.kIn _ _ hC) (PySem.W.looks_findIn I.kIn iC) (fun self => PySem.W.bind_fn I.kIn self tI) (Nat.zero_le _)
    (codeAny_mono (F1.run _ X.stack _ _ ⟨[Value.ref (hp.objs.size + 1)], []⟩ ([Value.ref (hp.objs.size + 1)] ++ ds) _ _ (fun _ _ _ => False) (hr.make C [] []) (I2.env0.make C [] []) (hb _ [Value.ref (hp.objs.size + 1)] I2.kIn hl) r2 asked) fun r s' hq' => ?_))
  cases r with
  | error er => exact hx pins σ _ _ er s' I2 hq'
  | ok fl =>
    cases fl with
    | ret u =>
      obtain ⟨v, H2, os2, bare2, un2, hok2, rv, ev, d, fs, ea, ed, hd1, q2⟩ := hq'
      subst ev
      obtain ⟨h2, g2, d2, t2, os'⟩ := s'
      exact ⟨rv, mk_end (raises_own T.exC T.tyC) I sz kk un2 hok2 os2 bare2 ea ed hd1 q2⟩
    | next => exact False.elim hq'
    | brk => exact False.elim hq'
    | cont => exact False.elim hq'
end
end LB
namespace LB
open PySem PySem.Spec PyProof.Rows L2
/-! ### a def that holds lambdas: its own code object is told -/
theorem okC {P : Program} {w : World} {K : PySem.W.Frag} {mg : Str → Option Value} {base : Heap} {x qual : Str} {st : Stmt} {f : Addr} {fd : FuncData} {N ps : List Str} {k : Nat} {sp : Sp} (F : Fun K x qual st f fd) (S : FnScope N ps (defScope st))
    (len : ∀ vs H Q E, sp vs H Q E → vs.length = ps.length)
    (hbody : ∀ (cdv : Value), fd.code = cdv → ∀ (A : Around) (outer : List Env) (s : Shared) (H : Hp) (vs : List V) (Q : VK) (E : XK), Room k (A.deeper (envOfC qual (defScope st) s.heap.objs.size f cdv)) → sp vs H Q E →
      ∃ t, PSs (cxOf CX0 P w K mg base N qual (defScope st) f cdv A outer s H E).nox (defBody st) t ∧ t { nx := fun _ H' => Q .non H', rt := Q } (start N vs) H) : FnOk P w K mg base CX0 (k + 1) f fd ps sp := by
  obtain ⟨oc, od, kV, doc, pm, an, cdv, ct, osl, rfl, lk, hcd⟩ := F.ex
  refine fn_of lk hcd S len fun A outer s H vs Q E room hsp => ?_
  obtain ⟨t, h, q⟩ := hbody cdv rfl A outer s H vs Q E room hsp
  exact ⟨t, h.nox, q⟩
end LB
set_option maxHeartbeats 200000
/-! Pure runs: values without a heap of tuples, a store of what changes; a run of a def as a function; how it speaks of the hand layer's readings. -/
namespace Pu
open PySem PySem.Spec PyProof.Rows L2 LB
/-! ### values, objects, results -/
inductive PV where
  | non | bl (b : Bool) | int (i : Int) | str (s : List Nat) | ty (n : String) | adr (a : Addr) | ref (n : Nat) | tup (xs : List PV) | tpb (xs : List PV)
mutual
def PV.wf (n : Nat) : PV → Prop
  | .non => True
  | .bl _ => True
  | .int _ => True
  | .str _ => True
  | .ty _ => True
  | .adr _ => True
  | .ref k => k < n
  | .tup xs => PV.wfs n xs
  | .tpb xs => PV.wfs n xs
def PV.wfs (n : Nat) : List PV → Prop
  | [] => True
  | x :: xs => PV.wf n x ∧ PV.wfs n xs
end
/-! a value as a nested key -/
mutual
def nkP : PV → NestedKey
  | .str s => .text (tx s)
  | .tup xs => .tup (nkPs xs)
  | .non => .none
  | .bl _ => .none
  | .int _ => .none
  | .ty _ => .none
  | .adr _ => .none
  | .ref _ => .none
  | .tpb _ => .none
def nkPs : List PV → List NestedKey
  | [] => []
  | x :: xs => nkP x :: nkPs xs
end
inductive PO where
  | lst (xs : List PV)
  | dct (kvs : List (PV × PV))
  | dtt (kvs : List (PV × PV))
  | lck (kvs : List (PV × PV))
  | lct (kvs : List (PV × PV))
  | ins (C : Addr) (fs : List (String × PV))
  | nd (f : List (Addr × NestedKey) → Addr → HO) (ks : List PV)
abbrev PM := List PO
def kvwf (n : Nat) (kvs : List (PV × PV)) : Prop := ∀ p ∈ kvs, p.1.wf n ∧ p.2.wf n
def PO.wf (n : Nat) : PO → Prop
  | .lst xs => PV.wfs n xs
  | .dct kvs => kvwf n kvs
  | .dtt kvs => kvwf n kvs
  | .lck kvs => kvwf n kvs
  | .lct kvs => kvwf n kvs
  | .ins _ fs => ∀ p ∈ fs, p.2.wf n
  | .nd _ ks => PV.wfs n ks
structure Xc where
  C : Addr
  w : Str
  n : Int
inductive Res (α : Type) where
  | ok (a : α) (M : PM)
  | exc (x : Xc) (M : PM)
  | bad
def Res.bnd {α β : Type} (r : Res α) (k : α → PM → Res β) : Res β := match r with
  | .ok a M => k a M
  | .exc x M => .exc x M
  | .bad => .bad
/-- what leaves counts for nothing -/
def Res.nox {α : Type} (r : Res α) : Res α := match r with
  | .ok a M => .ok a M
  | _ => .bad
abbrev PS := List (Option PV)
abbrev FE := PS → PM → Res PV
abbrev FT := PS → PM → Res Bool
abbrev FA := PS → PM → Res (List PV)
abbrev FO := PS → PM → Res (Option Int)
inductive SR where
  | nx (σ : PS) (M : PM)
  | rt (p : PV) (M : PM)
  | bk (σ : PS) (M : PM)
  | ct (σ : PS) (M : PM)
  | exc (x : Xc) (M : PM)
  | bad
abbrev FS := PS → PM → SR
@[simp] theorem bnd_ok {α β : Type} (a : α) (M : PM) (k : α → PM → Res β) : (Res.ok a M).bnd k = k a M := id rfl
@[simp] theorem bnd_exc {α β : Type} (x : Xc) (M : PM) (k : α → PM → Res β) : (Res.exc x M).bnd k = .exc x M := id rfl
@[simp] theorem bnd_bad {α β : Type} (k : α → PM → Res β) : Res.bad.bnd k = .bad := id rfl
@[simp] theorem nox_ok {α : Type} (a : α) (M : PM) : (Res.ok a M).nox = .ok a M := id rfl
/-! ### what stands for what -/
section
variable (ι : Nat → Addr) (N : Nat) (H : Hp)
mutual
def Rv : PV → V → Prop
  | .non, v => v = .non
  | .bl b, v => v = .bl b
  | .int i, v => v = .int i
  | .str s, v => v = .str (tx s)
  | .ty n, v => v = .ty n
  | .adr a, v => v = .ref a
  | .ref k, v => k < N ∧ v = .ref (ι k)
  | .tup ps, v => ∃ a vs, v = .ref a ∧ H a = some (.tup vs) ∧ Rvs ps vs
  | .tpb ps, v => ∃ a vs o, v = .ref a ∧ H a = some (.frz o (.tup vs)) ∧ o.dict = none ∧ Rvs ps vs
def Rvs : List PV → List V → Prop
  | [], vs => vs = []
  | p :: ps, vs => ∃ v r, vs = v :: r ∧ Rv p v ∧ Rvs ps r
end
end
structure Ex (ι ι' : Nat → Addr) (n : Nat) (H H' : Hp) : Prop where
  i : ∀ j, j < n → ι' j = ι j
  t : ∀ a vs, H a = some (.tup vs) → H' a = some (.tup vs)
  z : ∀ a o u, H a = some (.frz o u) → H' a = some (.frz o u)
section
variable {ι ι' ι'' : Nat → Addr} {n n' N N' : Nat} {H H' H'' : Hp}
theorem Ex.refl : Ex ι ι n H H := ⟨fun _ _ => rfl, fun _ _ e => e, fun _ _ _ e => e⟩
theorem Ex.trans (a : Ex ι ι' n H H') (b : Ex ι' ι'' n' H' H'') (h : n ≤ n') : Ex ι ι'' n H H'' :=
  ⟨fun j hj => (b.i j (Nat.lt_of_lt_of_le hj h)).trans (a.i j hj), fun x vs e => b.t x vs (a.t x vs e), fun x o u e => b.z x o u (a.z x o u e)⟩
mutual
theorem Rv.mono (e : Ex ι ι' N H H') (h : N ≤ N') : ∀ {p : PV} {v : V}, Rv ι N H p v → Rv ι' N' H' p v
  | .non, _, q => q
  | .bl _, _, q => q
  | .int _, _, q => q
  | .str _, _, q => q
  | .ty _, _, q => q
  | .adr _, _, q => q
  | .ref k, _, q => by
    unfold Rv at q ⊢
    exact ⟨Nat.lt_of_lt_of_le q.1 h, by rw [e.i k q.1]; exact q.2⟩
  | .tup ps, _, q => by
    unfold Rv at q ⊢
    obtain ⟨a, vs, e1, e2, r⟩ := q
    exact ⟨a, vs, e1, e.t _ _ e2, Rvs.mono e h r⟩
  | .tpb ps, _, q => by
    unfold Rv at q ⊢
    obtain ⟨a, vs, o, e1, e2, e3, r⟩ := q
    exact ⟨a, vs, o, e1, e.z _ _ _ e2, e3, Rvs.mono e h r⟩
theorem Rvs.mono (e : Ex ι ι' N H H') (h : N ≤ N') : ∀ {ps : List PV} {vs : List V}, Rvs ι N H ps vs → Rvs ι' N' H' ps vs
  | [], _, q => q
  | p :: ps, _, q => by
    unfold Rvs at q ⊢
    obtain ⟨v, r, e1, q1, q2⟩ := q
    exact ⟨v, r, e1, Rv.mono e h q1, Rvs.mono e h q2⟩
end
mutual
theorem Rv.wf : ∀ {p : PV} {v : V}, Rv ι N H p v → p.wf N
  | .non, _, _ => by unfold PV.wf; trivial
  | .bl _, _, _ => by unfold PV.wf; trivial
  | .int _, _, _ => by unfold PV.wf; trivial
  | .str _, _, _ => by unfold PV.wf; trivial
  | .ty _, _, _ => by unfold PV.wf; trivial
  | .adr _, _, _ => by unfold PV.wf; trivial
  | .ref k, _, q => by unfold Rv at q; unfold PV.wf; exact q.1
  | .tup ps, _, q => by
    unfold Rv at q
    unfold PV.wf
    obtain ⟨a, vs, e1, e2, r⟩ := q
    exact Rvs.wf r
  | .tpb ps, _, q => by
    unfold Rv at q
    unfold PV.wf
    obtain ⟨a, vs, o, e1, e2, e3, r⟩ := q
    exact Rvs.wf r
theorem Rvs.wf : ∀ {ps : List PV} {vs : List V}, Rvs ι N H ps vs → PV.wfs N ps
  | [], _, _ => by unfold PV.wfs; trivial
  | p :: ps, _, q => by
    unfold Rvs at q
    unfold PV.wfs
    obtain ⟨v, r, e1, q1, q2⟩ := q
    exact ⟨Rv.wf q1, Rvs.wf q2⟩
end
mutual
theorem Rv.cut : ∀ {p : PV} {v : V}, Rv ι N' H p v → p.wf N → Rv ι N H p v
  | .non, _, q, _ => q
  | .bl _, _, q, _ => q
  | .int _, _, q, _ => q
  | .str _, _, q, _ => q
  | .ty _, _, q, _ => q
  | .adr _, _, q, _ => q
  | .ref k, _, q, w => by
    unfold Rv at q ⊢
    unfold PV.wf at w
    exact ⟨w, q.2⟩
  | .tup ps, _, q, w => by
    unfold Rv at q ⊢
    unfold PV.wf at w
    obtain ⟨a, vs, e1, e2, r⟩ := q
    exact ⟨a, vs, e1, e2, Rvs.cut r w⟩
  | .tpb ps, _, q, w => by
    unfold Rv at q ⊢
    unfold PV.wf at w
    obtain ⟨a, vs, o, e1, e2, e3, r⟩ := q
    exact ⟨a, vs, o, e1, e2, e3, Rvs.cut r w⟩
theorem Rvs.cut : ∀ {ps : List PV} {vs : List V}, Rvs ι N' H ps vs → PV.wfs N ps → Rvs ι N H ps vs
  | [], _, q, _ => q
  | p :: ps, _, q, w => by
    unfold Rvs at q ⊢
    unfold PV.wfs at w
    obtain ⟨v, r, e1, q1, q2⟩ := q
    exact ⟨v, r, e1, Rv.cut q1 w.1, Rvs.cut q2 w.2⟩
end
theorem Rvs.pr : ∀ {ps : List PV} {vs : List V}, Rvs ι N H ps vs → Paired (Rv ι N H) ps vs
  | [], _, q => by unfold Rvs at q; subst q; exact .nil
  | p :: ps, _, q => by
    unfold Rvs at q
    obtain ⟨v, r, rfl, q1, q2⟩ := q
    exact .cons q1 q2.pr
theorem Rvs.of : ∀ {ps : List PV} {vs : List V}, Paired (Rv ι N H) ps vs → Rvs ι N H ps vs
  | _, _, .nil => by unfold Rvs; rfl
  | _, _, .cons a b => by unfold Rvs; exact ⟨_, _, rfl, a, Rvs.of b⟩
theorem Rvs.nil : Rvs ι N H [] [] := by unfold Rvs; rfl
theorem Rvs.cons {p : PV} {ps : List PV} {v : V} {vs : List V} (a : Rv ι N H p v) (b : Rvs ι N H ps vs) : Rvs ι N H (p :: ps) (v :: vs) := by unfold Rvs; exact ⟨_, _, rfl, a, b⟩
theorem Rvs.len {ps : List PV} {vs : List V} (h : Rvs ι N H ps vs) : ps.length = vs.length := Paired.length h.pr
theorem Rvs.get {ps : List PV} {vs : List V} (h : Rvs ι N H ps vs) {i : Nat} {p : PV} (e : ps[i]? = some p) : ∃ v, vs[i]? = some v ∧ Rv ι N H p v := by
  have l := h.len
  have li := (List.getElem?_eq_some_iff.mp e).1
  have e2 : vs[i]? = some vs[i] := List.getElem?_eq_getElem (by omega)
  exact ⟨_, e2, paired_get h.pr e e2⟩
theorem Rvs.app : ∀ {ps qs : List PV} {vs ws : List V}, Rvs ι N H ps vs → Rvs ι N H qs ws → Rvs ι N H (ps ++ qs) (vs ++ ws)
  | [], _, _, _, a, b => by unfold Rvs at a; subst a; exact b
  | p :: ps, _, _, _, a, b => by
    unfold Rvs at a
    obtain ⟨v, r, rfl, q1, q2⟩ := a
    exact Rvs.cons q1 (Rvs.app q2 b)
theorem Rvs.take : ∀ {ps : List PV} {vs : List V} (k : Nat), Rvs ι N H ps vs → Rvs ι N H (ps.take k) (vs.take k)
  | _, _, 0, _ => Rvs.nil
  | [], _, k + 1, a => by unfold Rvs at a; subst a; exact Rvs.nil
  | p :: ps, _, k + 1, a => by
    unfold Rvs at a
    obtain ⟨v, r, rfl, q1, q2⟩ := a
    exact Rvs.cons q1 (Rvs.take k q2)
theorem Rvs.drop : ∀ {ps : List PV} {vs : List V} (k : Nat), Rvs ι N H ps vs → Rvs ι N H (ps.drop k) (vs.drop k)
  | _, _, 0, a => a
  | [], _, k + 1, a => by unfold Rvs at a; subst a; exact Rvs.nil
  | p :: ps, _, k + 1, a => by
    unfold Rvs at a
    obtain ⟨v, r, rfl, q1, q2⟩ := a
    exact Rvs.drop k q2
theorem Rvs.set {p : PV} {v : V} (h : Rv ι N H p v) : ∀ {ps : List PV} {vs : List V} (k : Nat), Rvs ι N H ps vs → Rvs ι N H (ps.set k p) (vs.set k v)
  | [], _, _, a => by unfold Rvs at a; subst a; exact Rvs.nil
  | q :: ps, _, 0, a => by
    unfold Rvs at a
    obtain ⟨v, r, rfl, q1, q2⟩ := a
    exact Rvs.cons h q2
  | q :: ps, _, k + 1, a => by
    unfold Rvs at a
    obtain ⟨v, r, rfl, q1, q2⟩ := a
    exact Rvs.cons q1 (Rvs.set h k q2)
theorem Rv.tup_at {ps : List PV} {v : V} (h : Rv ι N H (.tup ps) v) : ∃ a vs, v = .ref a ∧ H a = some (.tup vs) ∧ Rvs ι N H ps vs := by unfold Rv at h; exact h
theorem Rv.mk_tup {ps : List PV} {a : Addr} {vs : List V} (h : H a = some (.tup vs)) (r : Rvs ι N H ps vs) : Rv ι N H (.tup ps) (.ref a) := by unfold Rv; exact ⟨a, vs, rfl, h, r⟩
theorem Rv.tpb_at {ps : List PV} {v : V} (h : Rv ι N H (.tpb ps) v) : ∃ a vs o, v = .ref a ∧ H a = some (.frz o (.tup vs)) ∧ o.dict = none ∧ Rvs ι N H ps vs := by unfold Rv at h; exact h
theorem Rv.ref_at {k : Nat} {v : V} (h : Rv ι N H (.ref k) v) : k < N ∧ v = .ref (ι k) := by unfold Rv at h; exact h
theorem Rv.mk_ref {k : Nat} (h : k < N) : Rv ι N H (.ref k) (.ref (ι k)) := by unfold Rv; exact ⟨h, rfl⟩
theorem Rv.int {i : Int} {v : V} (h : Rv ι N H (.int i) v) : v = .int i := by unfold Rv at h; exact h
theorem Rv.bl {i : Bool} {v : V} (h : Rv ι N H (.bl i) v) : v = .bl i := by unfold Rv at h; exact h
theorem Rv.str {i : List Nat} {v : V} (h : Rv ι N H (.str i) v) : v = .str (tx i) := by unfold Rv at h; exact h
theorem Rv.non {v : V} (h : Rv ι N H .non v) : v = .non := by unfold Rv at h; exact h
theorem Rv.mk_int {i : Int} : Rv ι N H (.int i) (.int i) := by unfold Rv; rfl
theorem Rv.mk_bl {i : Bool} : Rv ι N H (.bl i) (.bl i) := by unfold Rv; rfl
theorem Rv.mk_str {i : List Nat} : Rv ι N H (.str i) (.str (tx i)) := by unfold Rv; rfl
theorem Rv.mk_non : Rv ι N H .non .non := by unfold Rv; rfl
theorem Rv.mk_ty {n : String} : Rv ι N H (.ty n) (.ty n) := by unfold Rv; rfl
end
/-- keys of dicts -/
def keyOf : PV → Option Key
  | .int i => some (.inl i)
  | .str s => some (.inr (tx s))
  | _ => none
def keysOf : PV → Option (List Key)
  | .tup xs => xs.mapM keyOf
  | _ => none
def Rk {κ α : Type} (F : κ → α → Prop) (ι : Nat → Addr) (N : Nat) (H : Hp) : κ × PV → α × V → Prop := fun p q => F p.1 q.1 ∧ Rv ι N H p.2 q.2
def fK : PV → Key → Prop := fun p k => keyOf p = some k
def fT : PV → List Key → Prop := fun p k => keysOf p = some k
def fF : String → Str → Prop := fun p k => Str.ofString p = k
def xdF (x : Xc) : List (Str × V) := [(Str.ofString "at", .int x.n), (Str.ofString "word", .str x.w)]
def Ro (ι : Nat → Addr) (N : Nat) (H : Hp) (a : Addr) : PO → Prop
  | .lst xs => ∃ vs, H a = some (.lst vs) ∧ Rvs ι N H xs vs
  | .dct kvs => ∃ kws, H a = some (.dK kws) ∧ Paired (Rk fK ι N H) kvs kws
  | .lck kvs => ∃ o kws, H a = some (.frz o (.dK kws)) ∧ Paired (Rk fK ι N H) kvs kws
  | .dtt kvs => ∃ kws, H a = some (.dT kws) ∧ Paired (Rk fT ι N H) kvs kws
  | .lct kvs => ∃ o kws, H a = some (.frz o (.dT kws)) ∧ Paired (Rk fT ι N H) kvs kws
  | .ins C fs => ∃ dx fw, H a = some (.ins C dx fw) ∧ Paired (Rk fF ι N H) fs fw
  | .nd f ks => ∃ (as : List Addr) (φ : Heap → Prop), H a = some (.ext φ) ∧ HO.ext φ = f (as.zip (nkPs ks)) a ∧ (∀ q, HO.ext φ ≠ LamX.CodeO a q) ∧ Rvs ι N H ks (as.map V.ref)
structure RM (tb : List (Addr × Str)) (ι : Nat → Addr) (M : PM) (H : Hp) : Prop where
  inj : ∀ i j, i < M.length → j < M.length → ι i = ι j → i = j
  obj : ∀ i o, M[i]? = some o → Ro ι M.length H (ι i) o
  tab : LamX.Tabs tb H
def Rs (ι : Nat → Addr) (N : Nat) (H : Hp) (σp : PS) (σ : L2.St) : Prop := σp.length = σ.length ∧ ∀ (i : Nat) (p : PV), σp[i]? = some (some p) → ∃ v, σ[i]? = some (some v) ∧ Rv ι N H p v
section
variable {tb : List (Addr × Str)} {ι ι' ι'' : Nat → Addr} {n n' N N' : Nat} {H H' H'' : Hp} {M M' : PM} {a : Addr} {o : PO}
theorem Ro.mono (e : Ex ι ι' N H H') (h : N ≤ N') (ha : H' a = H a) (r : Ro ι N H a o) : Ro ι' N' H' a o := by
  cases o with
  | lst xs =>
    obtain ⟨vs, e1, r⟩ := r
    exact ⟨vs, ha.trans e1, r.mono e h⟩
  | dct kvs =>
    obtain ⟨vs, e1, r⟩ := r
    exact ⟨vs, ha.trans e1, Paired.mapP r fun _ _ q => ⟨q.1, q.2.mono e h⟩⟩
  | dtt kvs =>
    obtain ⟨vs, e1, r⟩ := r
    exact ⟨vs, ha.trans e1, Paired.mapP r fun _ _ q => ⟨q.1, q.2.mono e h⟩⟩
  | lck kvs =>
    obtain ⟨o, vs, e1, r⟩ := r
    exact ⟨o, vs, ha.trans e1, Paired.mapP r fun _ _ q => ⟨q.1, q.2.mono e h⟩⟩
  | lct kvs =>
    obtain ⟨o, vs, e1, r⟩ := r
    exact ⟨o, vs, ha.trans e1, Paired.mapP r fun _ _ q => ⟨q.1, q.2.mono e h⟩⟩
  | ins C fs =>
    obtain ⟨dx, vs, e1, r⟩ := r
    exact ⟨dx, vs, ha.trans e1, Paired.mapP r fun _ _ q => ⟨q.1, q.2.mono e h⟩⟩
  | nd f ks =>
    obtain ⟨as, φ, e1, e2, e3, r⟩ := r
    exact ⟨as, φ, ha.trans e1, e2, e3, r.mono e h⟩
theorem paired_wf {κ α : Type} {F : κ → α → Prop} : ∀ {kvs : List (κ × PV)} {kws : List (α × V)}, Paired (Rk F ι N H) kvs kws → ∀ p ∈ kvs, p.2.wf N
  | _, _, .nil, p, h => by cases h
  | _, _, .cons a b, p, h => by
    rcases List.mem_cons.mp h with rfl | h
    · exact a.2.wf
    · exact paired_wf b p h
theorem paired_fst {κ α : Type} {F : κ → α → Prop} {G : κ → Prop} (g : ∀ k a, F k a → G k) : ∀ {kvs : List (κ × PV)} {kws : List (α × V)}, Paired (Rk F ι N H) kvs kws → ∀ p ∈ kvs, G p.1
  | _, _, .nil, p, h => by cases h
  | _, _, .cons a b, p, h => by
    rcases List.mem_cons.mp h with rfl | h
    · exact g _ _ a.1
    · exact paired_fst g b p h
theorem keyOf_wf {k : PV} {q : Key} (h : keyOf k = some q) : k.wf n := by
  cases k <;> first | (cases h; done) | (unfold PV.wf; trivial)
theorem keysOf_wf {k : PV} {q : List Key} (h : keysOf k = some q) : k.wf n := by
  cases k <;> first | (cases h; done) | skip
  rename_i xs
  unfold PV.wf
  have h : xs.mapM keyOf = some q := h
  induction xs generalizing q with
  | nil => unfold PV.wfs; trivial
  | cons x xs ih =>
    unfold PV.wfs
    rw [List.mapM_cons] at h
    cases e : keyOf x with
    | none => rw [e] at h; cases h
    | some a =>
      rw [e] at h
      cases e2 : xs.mapM keyOf with
      | none => rw [e2] at h; cases h
      | some b => exact ⟨keyOf_wf e, ih e2 e2⟩
theorem Ro.wf (r : Ro ι N H a o) : o.wf N := by
  cases o with
  | lst xs =>
    obtain ⟨vs, e1, r⟩ := r
    exact r.wf
  | dct kvs =>
    obtain ⟨vs, e1, r⟩ := r
    exact fun p hp => ⟨paired_fst (G := fun k => k.wf N) (fun k a h => keyOf_wf h) r p hp, paired_wf r p hp⟩
  | dtt kvs =>
    obtain ⟨vs, e1, r⟩ := r
    exact fun p hp => ⟨paired_fst (G := fun k => k.wf N) (fun k a h => keysOf_wf h) r p hp, paired_wf r p hp⟩
  | lck kvs =>
    obtain ⟨o, vs, e1, r⟩ := r
    exact fun p hp => ⟨paired_fst (G := fun k => k.wf N) (fun k a h => keyOf_wf h) r p hp, paired_wf r p hp⟩
  | lct kvs =>
    obtain ⟨o, vs, e1, r⟩ := r
    exact fun p hp => ⟨paired_fst (G := fun k => k.wf N) (fun k a h => keysOf_wf h) r p hp, paired_wf r p hp⟩
  | ins C fs =>
    obtain ⟨dx, vs, e1, r⟩ := r
    exact fun p hp => paired_wf r p hp
  | nd f ks =>
    obtain ⟨as, φ, e1, e2, e3, r⟩ := r
    exact r.wf
theorem paired_cut {κ α : Type} {F : κ → α → Prop} : ∀ {kvs : List (κ × PV)} {kws : List (α × V)}, Paired (Rk F ι N' H) kvs kws → (∀ p ∈ kvs, p.2.wf N) → Paired (Rk F ι N H) kvs kws
  | _, _, .nil, _ => .nil
  | _, _, .cons a b, h => .cons ⟨a.1, a.2.cut (h _ List.mem_cons_self)⟩ (paired_cut b fun p hp => h p (List.mem_cons_of_mem _ hp))
theorem Ro.cut (r : Ro ι N' H a o) (w : o.wf N) : Ro ι N H a o := by
  cases o with
  | lst xs =>
    obtain ⟨vs, e1, r⟩ := r
    exact ⟨vs, e1, r.cut w⟩
  | dct kvs =>
    obtain ⟨vs, e1, r⟩ := r
    exact ⟨vs, e1, paired_cut r fun p hp => (w p hp).2⟩
  | dtt kvs =>
    obtain ⟨vs, e1, r⟩ := r
    exact ⟨vs, e1, paired_cut r fun p hp => (w p hp).2⟩
  | lck kvs =>
    obtain ⟨o, vs, e1, r⟩ := r
    exact ⟨o, vs, e1, paired_cut r fun p hp => (w p hp).2⟩
  | lct kvs =>
    obtain ⟨o, vs, e1, r⟩ := r
    exact ⟨o, vs, e1, paired_cut r fun p hp => (w p hp).2⟩
  | ins C fs =>
    obtain ⟨dx, vs, e1, r⟩ := r
    exact ⟨dx, vs, e1, paired_cut r w⟩
  | nd f ks =>
    obtain ⟨as, φ, e1, e2, e3, r⟩ := r
    exact ⟨as, φ, e1, e2, e3, r.cut w⟩
theorem Ro.some (r : Ro ι N H a o) : ∃ x, H a = some x ∧ (∀ vs, x ≠ .tup vs) ∧ (∀ ps, x ≠ .tbl ps) := by
  cases o with
  | lst xs => obtain ⟨vs, e1, r⟩ := r; exact ⟨_, e1, fun _ z => (nomatch z), fun _ z => (nomatch z)⟩
  | dct kvs => obtain ⟨vs, e1, r⟩ := r; exact ⟨_, e1, fun _ z => (nomatch z), fun _ z => (nomatch z)⟩
  | dtt kvs => obtain ⟨vs, e1, r⟩ := r; exact ⟨_, e1, fun _ z => (nomatch z), fun _ z => (nomatch z)⟩
  | lck kvs => obtain ⟨o, vs, e1, r⟩ := r; exact ⟨_, e1, fun _ z => (nomatch z), fun _ z => (nomatch z)⟩
  | lct kvs => obtain ⟨o, vs, e1, r⟩ := r; exact ⟨_, e1, fun _ z => (nomatch z), fun _ z => (nomatch z)⟩
  | ins C fs => obtain ⟨dx, vs, e1, r⟩ := r; exact ⟨_, e1, fun _ z => (nomatch z), fun _ z => (nomatch z)⟩
  | nd f ks => obtain ⟨as, φ, e1, e2, e3, r⟩ := r; exact ⟨_, e1, fun _ z => (nomatch z), fun _ z => (nomatch z)⟩
theorem RM.wf (r : RM tb ι M H) {i : Nat} (h : M[i]? = some o) : o.wf M.length := (r.obj i o h).wf
theorem RM.at (r : RM tb ι M H) {i : Nat} (h : i < M.length) : ∃ x, H (ι i) = some x ∧ (∀ vs, x ≠ .tup vs) ∧ (∀ ps, x ≠ .tbl ps) := (r.obj i _ (List.getElem?_eq_getElem h)).some
theorem RM.ne (r : RM tb ι M H) {i : Nat} (h : i < M.length) {p : Addr} (n : H p = none) : ι i ≠ p := by
  obtain ⟨x, e, _⟩ := r.at h
  exact ne_of_none e n
theorem RM.neT (r : RM tb ι M H) {i : Nat} (h : i < M.length) {p : Addr} {vs : List V} (n : H p = some (.tup vs)) : p ≠ ι i := by
  obtain ⟨x, e, t, _⟩ := r.at h
  intro z
  rw [z, e] at n
  exact t vs (Option.some.inj n)
theorem ex_new {p : Addr} {x : HO} (n : H p = none) : Ex ι ι N H (upd H p x) := ⟨fun _ _ => rfl, fun a vs e => (upd_ne (ne_of_none e n)).trans e, fun a o u e => (upd_ne (ne_of_none e n)).trans e⟩
theorem tabs_new {p : Addr} {x : HO} (n : H p = none) (t : LamX.Tabs tb H) : LamX.Tabs tb (upd H p x) := t.ext (same_new n)
/-- something new beside the store -/
theorem RM.new (r : RM tb ι M H) {p : Addr} {x : HO} (n : H p = none) : RM tb ι M (upd H p x) :=
  ⟨r.inj, fun i o h => (r.obj i o h).mono (ex_new n) (Nat.le_refl _) (upd_ne (r.ne (List.getElem?_eq_some_iff.mp h).1 n)), tabs_new n r.tab⟩
/-- a new object of the store -/
def ext (ι : Nat → Addr) (n : Nat) (p : Addr) : Nat → Addr := fun j => if j = n then p else ι j
theorem ext_same {p : Addr} : ext ι n p n = p := by unfold ext; rw [if_pos rfl]
theorem ext_lt {p : Addr} {j : Nat} (h : j < n) : ext ι n p j = ι j := by unfold ext; rw [if_neg (Nat.ne_of_lt h)]
theorem ex_ext {p : Addr} {x : HO} (n : H p = none) : Ex ι (ext ι N p) N H (upd H p x) := ⟨fun _ h => ext_lt h, fun a vs e => (upd_ne (ne_of_none e n)).trans e, fun a o u e => (upd_ne (ne_of_none e n)).trans e⟩
theorem RM.push (r : RM tb ι M H) {p : Addr} {x : HO} (n : H p = none) (h : Ro (ext ι M.length p) (M.length + 1) (upd H p x) p o) : RM tb (ext ι M.length p) (M ++ [o]) (upd H p x) := by
  have hl : (M ++ [o]).length = M.length + 1 := by simp
  refine ⟨fun i j hi hj e => ?_, fun i o' e => ?_, tabs_new n r.tab⟩
  · rw [hl] at hi hj
    rcases Nat.lt_or_ge i M.length with a | a <;> rcases Nat.lt_or_ge j M.length with b | b
    · rw [ext_lt a, ext_lt b] at e
      exact r.inj i j a b e
    · have : j = M.length := by omega
      subst this
      rw [ext_lt a, ext_same] at e
      exact absurd e (r.ne a n)
    · have : i = M.length := by omega
      subst this
      rw [ext_lt b, ext_same] at e
      exact absurd e.symm (r.ne b n)
    · omega
  · rw [hl]
    rcases Nat.lt_or_ge i M.length with a | a
    · rw [List.getElem?_append_left a] at e
      rw [ext_lt a]
      exact (r.obj i o' e).mono (ex_ext n) (by omega) (upd_ne (r.ne a n))
    · have li := (List.getElem?_eq_some_iff.mp e).1
      rw [hl] at li
      have : i = M.length := by omega
      subst this
      rw [List.getElem?_append_right (Nat.le_refl _), Nat.sub_self] at e
      cases e
      rw [ext_same]
      exact h
/-- an object of the store is changed -/
theorem ex_chg (r : RM tb ι M H) {k : Nat} (hk : k < M.length) {x : HO} (hz : ∀ o u, H (ι k) ≠ some (.frz o u)) : Ex ι ι N H (upd H (ι k) x) := ⟨fun _ _ => rfl, fun a vs e => (upd_ne (r.neT hk e)).trans e, fun a o u e => (upd_ne fun z => hz o u (by rw [← z]; exact e)).trans e⟩
theorem RM.chg (r : RM tb ι M H) {k : Nat} (hk : k < M.length) {x : HO} (hz : ∀ o u, H (ι k) ≠ some (.frz o u)) (h : Ro ι M.length (upd H (ι k) x) (ι k) o) : RM tb ι (M.set k o) (upd H (ι k) x) := by
  have ex : ∀ n, Ex ι ι n H (upd H (ι k) x) := fun n => ex_chg r hk hz
  refine ⟨fun i j hi hj e => r.inj i j (by simpa using hi) (by simpa using hj) e, fun i o' e => ?_, ?_⟩
  · rw [List.length_set]
    by_cases hi : i = k
    · subst hi
      rw [List.getElem?_set_self hk] at e
      cases e
      exact h
    · rw [List.getElem?_set_ne (Ne.symm hi)] at e
      have li := (List.getElem?_eq_some_iff.mp e).1
      exact (r.obj i o' e).mono (ex _) (Nat.le_refl _) (upd_ne fun z => hi (r.inj i k li hk z))
  · intro p hp
    obtain ⟨ps, e1, e2, e3⟩ := r.tab p hp
    obtain ⟨y, e, t, tt⟩ := r.at hk
    refine ⟨ps, (upd_ne fun z => ?_).trans e1, e2, fun pos cv hc => ?_⟩
    · rw [z, e] at e1
      exact tt ps (Option.some.inj e1)
    · obtain ⟨c, e4, e5⟩ := e3 pos cv hc
      refine ⟨c, e4, (upd_ne fun z => ?_).trans e5⟩
      rw [z, e] at e5
      have := Option.some.inj e5
      exact absurd e5 (by
        have o2 := (r.obj k _ (List.getElem?_eq_getElem hk))
        revert o2
        generalize M[k] = oo
        intro o2 z2
        cases oo with
        | lst xs => obtain ⟨vs, q, _⟩ := o2; rw [e] at q; rw [Option.some.inj q] at z2; cases z2
        | dct xs => obtain ⟨vs, q, _⟩ := o2; rw [e] at q; rw [Option.some.inj q] at z2; cases z2
        | dtt xs => obtain ⟨vs, q, _⟩ := o2; rw [e] at q; rw [Option.some.inj q] at z2; cases z2
        | lck xs => obtain ⟨_, vs, q, _⟩ := o2; rw [e] at q; rw [Option.some.inj q] at z2; cases z2
        | lct xs => obtain ⟨_, vs, q, _⟩ := o2; rw [e] at q; rw [Option.some.inj q] at z2; cases z2
        | ins C xs => obtain ⟨_, vs, q, _⟩ := o2; rw [e] at q; rw [Option.some.inj q] at z2; cases z2
        | nd f xs => obtain ⟨_, φ, q, _, nc, _⟩ := o2; rw [e] at q; rw [Option.some.inj q] at z2; exact nc _ (Option.some.inj z2))
theorem Rs.mono {σp : PS} {σ : L2.St} (e : Ex ι ι' N H H') (h : N ≤ N') (r : Rs ι N H σp σ) : Rs ι' N' H' σp σ :=
  ⟨r.1, fun i p q => by
    obtain ⟨v, e1, e2⟩ := r.2 i p q
    exact ⟨v, e1, e2.mono e h⟩⟩
theorem Rs.set {σp : PS} {σ : L2.St} {p : PV} {v : V} (r : Rs ι N H σp σ) (h : Rv ι N H p v) (i : Nat) : Rs ι N H (σp.set i (some p)) (σ.set i (some v)) := by
  refine ⟨by simpa using r.1, fun j q e => ?_⟩
  by_cases hj : j = i
  · subst hj
    have lj : j < (σp.set j (some p)).length := (List.getElem?_eq_some_iff.mp e).1
    rw [List.length_set] at lj
    rw [List.getElem?_set_self lj] at e
    cases e
    exact ⟨v, List.getElem?_set_self (by rw [← r.1]; exact lj), h⟩
  · rw [List.getElem?_set_ne (Ne.symm hj)] at e
    rw [List.getElem?_set_ne (Ne.symm hj)]
    exact r.2 j q e
theorem Rs.non {σp : PS} {σ : L2.St} (r : Rs ι N H σp σ) (i : Nat) : Rs ι N H (σp.set i none) (σ.set i none) := by
  refine ⟨by simpa using r.1, fun j q e => ?_⟩
  by_cases hj : j = i
  · subst hj
    have lj : j < (σp.set j none).length := (List.getElem?_eq_some_iff.mp e).1
    rw [List.length_set] at lj
    rw [List.getElem?_set_self lj] at e
    cases e
  · rw [List.getElem?_set_ne (Ne.symm hj)] at e
    rw [List.getElem?_set_ne (Ne.symm hj)]
    exact r.2 j q e
def wipeP (σ : PS) : List Nat → PS
  | [] => σ
  | v :: vs => (wipeP σ vs).set v none
theorem Rs.wipe {σp : PS} {σ : L2.St} (r : Rs ι N H σp σ) : ∀ vs : List Nat, Rs ι N H (wipeP σp vs) (wipe σ vs)
  | [] => r
  | v :: vs => (Rs.wipe r vs).non v
end
/-! ### what is wanted of a result -/
section
variable (tb : List (Addr × Str))
def Wp {α β : Type} (rel : (Nat → Addr) → Nat → Hp → α → β → Prop) (ι : Nat → Addr) (n : Nat) (H : Hp) (r : Res α) (Q : β → Hp → Prop) (E : XK) : Prop := match r with
  | .ok p M => ∀ ι' H' v, Ex ι ι' n H H' → n ≤ M.length → RM tb ι' M H' → rel ι' M.length H' p v → Q v H'
  | .exc x M => ∀ ι' H' d, Ex ι ι' n H H' → n ≤ M.length → RM tb ι' M H' → H' d = some (.xd (xdF x)) → E (.ref x.C) (some d) H'
  | .bad => False
abbrev rB : (Nat → Addr) → Nat → Hp → Bool → Bool → Prop := fun _ _ _ a b => a = b
abbrev rO : (Nat → Addr) → Nat → Hp → Option Int → Option Int → Prop := fun _ _ _ a b => a = b
def WpS (ι : Nat → Addr) (n : Nat) (H : Hp) (r : SR) (D : Ends) (E : XK) : Prop := match r with
  | .nx s M => ∀ ι' H' σ, Ex ι ι' n H H' → n ≤ M.length → RM tb ι' M H' → Rs ι' M.length H' s σ → D.nx σ H'
  | .rt p M => ∀ ι' H' v, Ex ι ι' n H H' → n ≤ M.length → RM tb ι' M H' → Rv ι' M.length H' p v → D.rt v H'
  | .bk s M => ∀ ι' H' σ, Ex ι ι' n H H' → n ≤ M.length → RM tb ι' M H' → Rs ι' M.length H' s σ → D.bk σ H'
  | .ct s M => ∀ ι' H' σ, Ex ι ι' n H H' → n ≤ M.length → RM tb ι' M H' → Rs ι' M.length H' s σ → D.ct σ H'
  | .exc x M => ∀ ι' H' d, Ex ι ι' n H H' → n ≤ M.length → RM tb ι' M H' → H' d = some (.xd (xdF x)) → E (.ref x.C) (some d) H'
  | .bad => False
variable (E : XK)
def SmE (t : TE) (f : FE) : Prop := ∀ ι M H σp σ Q, RM tb ι M H → Rs ι M.length H σp σ → Wp tb Rv ι M.length H (f σp M) Q E → t σ H Q
def SmT (t : TT) (f : FT) : Prop := ∀ ι M H σp σ Q, RM tb ι M H → Rs ι M.length H σp σ → Wp tb rB ι M.length H (f σp M) Q E → t σ H Q
def SmA (t : TA) (f : FA) : Prop := ∀ ι M H σp σ Q, RM tb ι M H → Rs ι M.length H σp σ → Wp tb Rvs ι M.length H (f σp M) Q E → t σ H Q
def SmO (t : TO) (f : FO) : Prop := ∀ ι M H σp σ Q, RM tb ι M H → Rs ι M.length H σp σ → Wp tb rO ι M.length H (f σp M) Q E → t σ H Q
def SmS (t : TS) (f : FS) : Prop := ∀ ι M H σp σ D, RM tb ι M H → Rs ι M.length H σp σ → WpS tb ι M.length H (f σp M) D E → t D σ H
/-- two values, a heap -/
def SmR (r : R2) (g : PV → PV → PM → Res PV) : Prop := ∀ ι M H p q x y Q, RM tb ι M H → Rv ι M.length H p x → Rv ι M.length H q y → Wp tb Rv ι M.length H (g p q M) Q E → r x y H Q
def SmU (r : V → Hp → VK → Prop) (g : PV → PM → Res PV) : Prop := ∀ ι M H p x Q, RM tb ι M H → Rv ι M.length H p x → Wp tb Rv ι M.length H (g p M) Q E → r x H Q
def SmL (r : List V → Hp → VK → Prop) (g : List PV → PM → Res PV) : Prop := ∀ ι M H ps xs Q, RM tb ι M H → Rvs ι M.length H ps xs → Wp tb Rv ι M.length H (g ps M) Q E → r xs H Q
end
section
variable {tb : List (Addr × Str)} {E : XK} {α β γ δ : Type} {rel : (Nat → Addr) → Nat → Hp → α → β → Prop} {rel2 : (Nat → Addr) → Nat → Hp → γ → δ → Prop} {ι ι' : Nat → Addr} {n n' : Nat} {H H' : Hp} {M : PM}
theorem Wp.back {r : Res α} {Q : β → Hp → Prop} (h : Wp tb rel ι n H r Q E) (e : Ex ι ι' n H H') (l : n ≤ n') : Wp tb rel ι' n' H' r Q E := by
  cases r with
  | ok p M => exact fun ι2 H2 v e2 l2 r2 v2 => h ι2 H2 v (e.trans e2 l) (Nat.le_trans l l2) r2 v2
  | exc x M => exact fun ι2 H2 d e2 l2 r2 d2 => h ι2 H2 d (e.trans e2 l) (Nat.le_trans l l2) r2 d2
  | bad => exact h
theorem WpS.back {r : SR} {D : Ends} (h : WpS tb ι n H r D E) (e : Ex ι ι' n H H') (l : n ≤ n') : WpS tb ι' n' H' r D E := by
  cases r with
  | nx p M => exact fun ι2 H2 v e2 l2 r2 v2 => h ι2 H2 v (e.trans e2 l) (Nat.le_trans l l2) r2 v2
  | rt p M => exact fun ι2 H2 v e2 l2 r2 v2 => h ι2 H2 v (e.trans e2 l) (Nat.le_trans l l2) r2 v2
  | bk p M => exact fun ι2 H2 v e2 l2 r2 v2 => h ι2 H2 v (e.trans e2 l) (Nat.le_trans l l2) r2 v2
  | ct p M => exact fun ι2 H2 v e2 l2 r2 v2 => h ι2 H2 v (e.trans e2 l) (Nat.le_trans l l2) r2 v2
  | exc x M => exact fun ι2 H2 d e2 l2 r2 d2 => h ι2 H2 d (e.trans e2 l) (Nat.le_trans l l2) r2 d2
  | bad => exact h
/-- a run goes on -/
structure On (tb : List (Addr × Str)) (ι : Nat → Addr) (n : Nat) (H : Hp) (ι' : Nat → Addr) (M' : PM) (H' : Hp) : Prop where
  e : Ex ι ι' n H H'
  l : n ≤ M'.length
  r : RM tb ι' M' H'
theorem Wp.bnd {r : Res α} {k : α → PM → Res γ} {Q : δ → Hp → Prop} (h : Wp tb rel2 ι n H (r.bnd k) Q E) : Wp tb rel ι n H r (fun v H' => ∃ ι' M' p, On tb ι n H ι' M' H' ∧ rel ι' M'.length H' p v ∧ Wp tb rel2 ι' M'.length H' (k p M') Q E) E := by
  cases r with
  | ok p M => exact fun ι' H' v e l r v' => ⟨ι', M, p, ⟨e, l, r⟩, v', Wp.back h e l⟩
  | exc x M => exact h
  | bad => exact h
/-- behind a result a statement -/
def Res.go (r : Res α) (k : α → PM → SR) : SR := match r with
  | .ok a M => k a M
  | .exc x M => .exc x M
  | .bad => .bad
@[simp] theorem go_ok (a : α) (M : PM) (k : α → PM → SR) : (Res.ok a M).go k = k a M := id rfl
@[simp] theorem go_exc (x : Xc) (M : PM) (k : α → PM → SR) : (Res.exc x M : Res α).go k = .exc x M := id rfl
@[simp] theorem go_bad (k : α → PM → SR) : (Res.bad : Res α).go k = .bad := id rfl
theorem Wp.go {r : Res α} {k : α → PM → SR} {D : Ends} (h : WpS tb ι n H (r.go k) D E) : Wp tb rel ι n H r (fun v H' => ∃ ι' M' p, On tb ι n H ι' M' H' ∧ rel ι' M'.length H' p v ∧ WpS tb ι' M'.length H' (k p M') D E) E := by
  cases r with
  | ok p M => exact fun ι' H' v e l r v' => ⟨ι', M, p, ⟨e, l, r⟩, v', WpS.back h e l⟩
  | exc x M => exact h
  | bad => exact h
theorem Wp.okNow {Q : β → Hp → Prop} {p : α} {v : β} (h : Wp tb rel ι M.length H (.ok p M) Q E) (r : RM tb ι M H) (q : rel ι M.length H p v) : Q v H := h ι H v .refl (Nat.le_refl _) r q
end
end Pu
namespace Pu
open PySem PySem.Spec PyProof.Rows L2 LB
open Classical
section
variable {tb : List (Addr × Str)} {E : XK} {α β γ δ : Type} {rel : (Nat → Addr) → Nat → Hp → α → β → Prop} {rel2 : (Nat → Addr) → Nat → Hp → γ → δ → Prop} {ι : Nat → Addr} {n : Nat} {H : Hp} {M : PM} {σp : PS} {σ : L2.St}
theorem Wp.mono {r : Res α} {Q Q' : β → Hp → Prop} (h : Wp tb rel ι n H r Q E) (f : ∀ v H', Q v H' → Q' v H') : Wp tb rel ι n H r Q' E := by
  cases r with
  | ok p M => exact fun ι' H' v e l r q => f _ _ (h ι' H' v e l r q)
  | exc x M => exact h
  | bad => exact h
theorem SmE.to {t : TE} {f : FE} (s : SmE tb E t f) (R : RM tb ι M H) (S : Rs ι M.length H σp σ) {k : PV → PM → Res γ} {Q : δ → Hp → Prop} {Q' : VK} (h : Wp tb rel2 ι M.length H ((f σp M).bnd k) Q E)
    (c : ∀ ι1 M1 H1 p v, On tb ι M.length H ι1 M1 H1 → Rs ι1 M1.length H1 σp σ → Rv ι1 M1.length H1 p v → Wp tb rel2 ι1 M1.length H1 (k p M1) Q E → Q' v H1) : t σ H Q' :=
  s ι M H σp σ Q' R S (Wp.mono (Wp.bnd h) fun v H1 ⟨ι1, M1, p, o, rv, w⟩ => c ι1 M1 H1 p v o (S.mono o.e o.l) rv w)
theorem SmE.go {t : TE} {f : FE} (s : SmE tb E t f) (R : RM tb ι M H) (S : Rs ι M.length H σp σ) {k : PV → PM → SR} {D : Ends} {Q' : VK} (h : WpS tb ι M.length H ((f σp M).go k) D E)
    (c : ∀ ι1 M1 H1 p v, On tb ι M.length H ι1 M1 H1 → Rs ι1 M1.length H1 σp σ → Rv ι1 M1.length H1 p v → WpS tb ι1 M1.length H1 (k p M1) D E → Q' v H1) : t σ H Q' :=
  s ι M H σp σ Q' R S (Wp.mono (Wp.go h) fun v H1 ⟨ι1, M1, p, o, rv, w⟩ => c ι1 M1 H1 p v o (S.mono o.e o.l) rv w)
theorem SmT.to {t : TT} {f : FT} (s : SmT tb E t f) (R : RM tb ι M H) (S : Rs ι M.length H σp σ) {k : Bool → PM → Res γ} {Q : δ → Hp → Prop} {Q' : Bool → Hp → Prop} (h : Wp tb rel2 ι M.length H ((f σp M).bnd k) Q E)
    (c : ∀ ι1 M1 H1 p, On tb ι M.length H ι1 M1 H1 → Rs ι1 M1.length H1 σp σ → Wp tb rel2 ι1 M1.length H1 (k p M1) Q E → Q' p H1) : t σ H Q' :=
  s ι M H σp σ Q' R S (Wp.mono (Wp.bnd h) fun v H1 ⟨ι1, M1, p, o, rv, w⟩ => by have e : p = v := rv; subst e; exact c ι1 M1 H1 p o (S.mono o.e o.l) w)
theorem SmT.go {t : TT} {f : FT} (s : SmT tb E t f) (R : RM tb ι M H) (S : Rs ι M.length H σp σ) {k : Bool → PM → SR} {D : Ends} {Q' : Bool → Hp → Prop} (h : WpS tb ι M.length H ((f σp M).go k) D E)
    (c : ∀ ι1 M1 H1 p, On tb ι M.length H ι1 M1 H1 → Rs ι1 M1.length H1 σp σ → WpS tb ι1 M1.length H1 (k p M1) D E → Q' p H1) : t σ H Q' :=
  s ι M H σp σ Q' R S (Wp.mono (Wp.go h) fun v H1 ⟨ι1, M1, p, o, rv, w⟩ => by have e : p = v := rv; subst e; exact c ι1 M1 H1 p o (S.mono o.e o.l) w)
theorem SmA.to {t : TA} {f : FA} (s : SmA tb E t f) (R : RM tb ι M H) (S : Rs ι M.length H σp σ) {k : List PV → PM → Res γ} {Q : δ → Hp → Prop} {Q' : List V → Hp → Prop} (h : Wp tb rel2 ι M.length H ((f σp M).bnd k) Q E)
    (c : ∀ ι1 M1 H1 p v, On tb ι M.length H ι1 M1 H1 → Rs ι1 M1.length H1 σp σ → Rvs ι1 M1.length H1 p v → Wp tb rel2 ι1 M1.length H1 (k p M1) Q E → Q' v H1) : t σ H Q' :=
  s ι M H σp σ Q' R S (Wp.mono (Wp.bnd h) fun v H1 ⟨ι1, M1, p, o, rv, w⟩ => c ι1 M1 H1 p v o (S.mono o.e o.l) rv w)
theorem SmO.to {t : TO} {f : FO} (s : SmO tb E t f) (R : RM tb ι M H) (S : Rs ι M.length H σp σ) {k : Option Int → PM → Res γ} {Q : δ → Hp → Prop} {Q' : Option Int → Hp → Prop} (h : Wp tb rel2 ι M.length H ((f σp M).bnd k) Q E)
    (c : ∀ ι1 M1 H1 p, On tb ι M.length H ι1 M1 H1 → Rs ι1 M1.length H1 σp σ → Wp tb rel2 ι1 M1.length H1 (k p M1) Q E → Q' p H1) : t σ H Q' :=
  s ι M H σp σ Q' R S (Wp.mono (Wp.bnd h) fun v H1 ⟨ι1, M1, p, o, rv, w⟩ => by have e : p = v := rv; subst e; exact c ι1 M1 H1 p o (S.mono o.e o.l) w)
end
/-! ### names, constants -/
def fVar (i : Nat) : FE := fun σ M => match σ[i]? with
  | some (some p) => .ok p M
  | _ => .bad
def fC (p : PV) : FE := fun _ M => .ok p M
def CV (p : PV) (v : V) : Prop := ∀ ι N H, Rv ι N H p v
theorem cv_int {i : Int} : CV (.int i) (.int i) := fun _ _ _ => .mk_int
theorem cv_bl {i : Bool} : CV (.bl i) (.bl i) := fun _ _ _ => .mk_bl
theorem cv_non : CV .non .non := fun _ _ _ => .mk_non
theorem cv_ty {n : String} : CV (.ty n) (.ty n) := fun _ _ _ => .mk_ty
theorem cv_str {x : Str} {s : List Nat} (h : x = tx s) : CV (.str s) (.str x) := fun _ _ _ => by rw [h]; exact .mk_str
/-! ### operators -/
def fOp (g : PV → PV → PM → Res PV) (fa fb : FE) : FE := fun σ M => (fa σ M).bnd fun p M1 => (fb σ M1).bnd fun q M2 => g p q M2
def fUn (g : PV → PM → Res PV) (fa : FE) : FE := fun σ M => (fa σ M).bnd g
noncomputable def pI (C : Int → Int → Prop) (g : Int → Int → PV) (p q : PV) (M : PM) : Res PV := match p, q with
  | .int i, .int j => if C i j then .ok (g i j) M else .bad
  | _, _ => .bad
def pI0 (g : Int → Int → PV) (p q : PV) (M : PM) : Res PV := match p, q with
  | .int i, .int j => .ok (g i j) M
  | _, _ => .bad
def pU (g : Int → PV) (p : PV) (M : PM) : Res PV := match p with
  | .int i => .ok (g i) M
  | _ => .bad
def eqS : PV → PV → Option Bool
  | .non, .non => some true
  | .non, .int _ => some false
  | .int _, .non => some false
  | .non, .bl _ => some false
  | .bl _, .non => some false
  | .non, .str _ => some false
  | .str _, .non => some false
  | .int i, .int j => some (decide (i = j))
  | .bl a, .bl b => some (decide (a = b))
  | .str x, .str y => some (decide (x = y))
  | .int _, .str _ => some false
  | .str _, .int _ => some false
  | .bl _, .str _ => some false
  | .str _, .bl _ => some false
  | _, _ => none
def pEq (p q : PV) (M : PM) : Res PV := match eqS p q with
  | some b => .ok (.bl b) M
  | none => .bad
def pNe (p q : PV) (M : PM) : Res PV := match eqS p q with
  | some b => .ok (.bl (!b)) M
  | none => .bad
def isNon : PV → Bool
  | .non => true
  | _ => false
def pIsN (p q : PV) (M : PM) : Res PV := match q with
  | .non => .ok (.bl (isNon p)) M
  | _ => .bad
def pNotN (p q : PV) (M : PM) : Res PV := match q with
  | .non => .ok (.bl (!isNon p)) M
  | _ => .bad
def lim : Nat := 1000000
theorem lim_le {n : Nat} (h : n ≤ lim) : n ≤ sizeLine := by rw [sizeLine_eq]; unfold lim at h; omega
theorem lim_lt {n : Nat} (h : n < lim) : n < sizeLine := by rw [sizeLine_eq]; unfold lim at h; omega
def pAddS (p q : PV) (M : PM) : Res PV := match p, q with
  | .str a, .str b => if a.length + b.length ≤ lim then .ok (.str (a ++ b)) M else .bad
  | _, _ => .bad
/-- a sign in a text -/
def pInS (p q : PV) (M : PM) : Res PV := match p, q with
  | .str [c], .str z => .ok (.bl (decide (c ∈ z))) M
  | _, _ => .bad
def lstAt (M : PM) (p : PV) : Option (List PV) := match p with
  | .ref k => match M[k]? with
    | some (.lst xs) => some xs
    | _ => none
  | _ => none
def pAddL (p q : PV) (M : PM) : Res PV := match lstAt M p, lstAt M q with
  | some a, some b => if a.length + b.length ≤ lim then .ok (.ref M.length) (M ++ [.lst (a ++ b)]) else .bad
  | _, _ => .bad
/-! ### items -/
def pIxL (p q : PV) (M : PM) : Res PV := match lstAt M p, q with
  | some xs, .int i => match atI xs i with
    | some x => .ok x M
    | none => .bad
  | _, _ => .bad
def pIxT (p q : PV) (M : PM) : Res PV := match p, q with
  | .tup xs, .int i => match atI xs i with
    | some x => .ok x M
    | none => .bad
  | _, _ => .bad
def pIxS (p q : PV) (M : PM) : Res PV := match p, q with
  | .str xs, .int i => if xs.length ≤ lim then match atI xs i with
    | some c => .ok (.str [c]) M
    | none => .bad else .bad
  | _, _ => .bad
/-! ### tests -/
def asB (p : PV) (M : PM) : Res Bool := match p with
  | .bl b => .ok b M
  | _ => .bad
def tru (M : PM) : PV → Option Bool
  | .non => some false
  | .bl b => some b
  | .int i => some (i != 0)
  | .str s => if s.length ≤ lim then some (!s.isEmpty) else none
  | .tup xs => some (!xs.isEmpty)
  | .ref k => match M[k]? with
    | some (.lst xs) => some (!xs.isEmpty)
    | some (.dct xs) => some (!xs.isEmpty)
    | _ => none
  | _ => none
def asT (p : PV) (M : PM) : Res Bool := match tru M p with
  | some b => .ok b M
  | none => .bad
def fTest (f : FE) : FT := fun σ M => (f σ M).bnd asB
def fTru (f : FE) : FT := fun σ M => (f σ M).bnd asT
def fNotT (f : FE) : FE := fun σ M => (f σ M).bnd fun p M1 => (asT p M1).bnd fun b M2 => .ok (.bl (!b)) M2
def fAnd (f g : FT) : FT := fun σ M => (f σ M).bnd fun b M1 => if b = true then g σ M1 else .ok false M1
def fOr (f g : FT) : FT := fun σ M => (f σ M).bnd fun b M1 => if b = true then .ok true M1 else g σ M1
def fNot (f : FT) : FT := fun σ M => (f σ M).bnd fun b M1 => .ok (!b) M1
def fYes : FT := fun _ M => .ok true M
def fAndV (f g : FE) : FE := fun σ M => (f σ M).bnd fun p M1 => (asB p M1).bnd fun b M2 => if b = true then g σ M2 else .ok (.bl false) M2
def fOrV (f g : FE) : FE := fun σ M => (f σ M).bnd fun p M1 => (asB p M1).bnd fun b M2 => if b = true then .ok (.bl true) M2 else g σ M2
def fNotV (f : FE) : FE := fun σ M => (f σ M).bnd fun p M1 => (asB p M1).bnd fun b M2 => .ok (.bl (!b)) M2
def fIf (c : FT) (f g : FE) : FE := fun σ M => (c σ M).bnd fun b M1 => if b = true then f σ M1 else g σ M1
def fChain (g g' : PV → PV → PM → Res PV) (fa fb fc : FE) : FE := fun σ M => (fa σ M).bnd fun x M1 => (fb σ M1).bnd fun y M2 => (g x y M2).bnd fun z M3 => (asB z M3).bnd fun k M4 => if k = true then (fc σ M4).bnd fun w M5 => g' y w M5 else .ok (.bl false) M4
/-! ### arguments, displays -/
def fNil : FA := fun _ M => .ok [] M
def fCons (f : FE) (g : FA) : FA := fun σ M => (f σ M).bnd fun p M1 => (g σ M1).bnd fun ps M2 => .ok (p :: ps) M2
def fTup (f : FA) : FE := fun σ M => (f σ M).bnd fun ps M1 => if ps.length ≤ lim then .ok (.tup ps) M1 else .bad
def fLst (f : FA) : FE := fun σ M => (f σ M).bnd fun ps M1 => if ps.length ≤ lim then .ok (.ref M1.length) (M1 ++ [.lst ps]) else .bad
/-! ### slices -/
def cut {α : Type} (xs : List α) (lo hi : Option Int) : List α := (xs.drop (HT.sIx xs.length 0 lo)).take (HT.sIx xs.length xs.length hi - HT.sIx xs.length 0 lo)
def fNoPart : FO := fun _ M => .ok none M
def fPart (f : FE) : FO := fun σ M => (f σ M).bnd fun p M1 => match p with
  | .int i => .ok (some i) M1
  | _ => .bad
def fSl (g : PV → Option Int → Option Int → PM → Res PV) (f : FE) (l h : FO) : FE := fun σ M => (f σ M).bnd fun p M1 => (l σ M1).bnd fun lo M2 => (h σ M2).bnd fun hi M3 => g p lo hi M3
def pSlS (p : PV) (lo hi : Option Int) (M : PM) : Res PV := match p with
  | .str xs => if xs.length ≤ lim then .ok (.str (cut xs lo hi)) M else .bad
  | _ => .bad
def pSlT (p : PV) (lo hi : Option Int) (M : PM) : Res PV := match p with
  | .tup xs => .ok (.tup (cut xs lo hi)) M
  | _ => .bad
section
variable {tb : List (Addr × Str)} {E : XK} {ta tb' tc : TE} {fa fb fc : FE} {r r' : R2} {g g' : PV → PV → PM → Res PV} {K : PySem.W.Frag} {ι : Nat → Addr} {N : Nat} {H : Hp} {M : PM}
theorem sm_var {i : Nat} : SmE tb E (tVar i) (fVar i) := by
  intro ι M H σp σ Q R S h
  unfold fVar at h
  split at h
  · rename_i p e
    obtain ⟨v, e1, r⟩ := S.2 i p e
    exact ⟨v, e1, h.okNow R r⟩
  · exact h.elim
theorem sm_c {p : PV} {v : V} (c : CV p v) : SmE tb E (tC v) (fC p) := fun ι M H σp σ Q R S h => Wp.okNow h R (c _ _ _)
theorem sm_op (hr : SmR tb E r g) (ha : SmE tb E ta fa) (hb : SmE tb E tb' fb) : SmE tb E (tOp r ta tb') (fOp g fa fb) := fun ι M H σp σ Q R S h =>
  ha.to R S h fun ι1 M1 H1 p v o1 S1 rv w1 => hb.to o1.r S1 w1 fun ι2 M2 H2 q u o2 S2 ru w2 => hr ι2 M2 H2 p q v u Q o2.r (rv.mono o2.e o2.l) ru w2
theorem sm_un {ru : V → Hp → VK → Prop} {gu : PV → PM → Res PV} (hr : SmU tb E ru gu) (ha : SmE tb E ta fa) : SmE tb E (tUn ru ta) (fUn gu fa) := fun ι M H σp σ Q R S h =>
  ha.to R S h fun ι1 M1 H1 p v o1 S1 rv w1 => hr ι1 M1 H1 p v Q o1.r rv w1
theorem smr_I0 {gi : Int → Int → PV} {gv : Int → Int → V} (c : ∀ i j, CV (gi i j) (gv i j)) : SmR tb E (rI0 gv) (pI0 gi) := by
  intro ι M H p q x y Q R rp rq h
  unfold pI0 at h
  split at h
  · exact ⟨_, _, rp.int, rq.int, h.okNow R (c _ _ _ _ _)⟩
  · exact h.elim
theorem smr_I {C : Int → Int → Prop} {gi : Int → Int → PV} {gv : Int → Int → V} (c : ∀ i j, CV (gi i j) (gv i j)) : SmR tb E (rI C gv) (pI C gi) := by
  intro ι M H p q x y Q R rp rq h
  unfold pI at h
  split at h
  · split at h
    · rename_i hc
      exact ⟨_, _, rp.int, rq.int, hc, h.okNow R (c _ _ _ _ _)⟩
    · exact h.elim
  · exact h.elim
theorem smu_U {gi : Int → PV} {gv : Int → V} (c : ∀ i, CV (gi i) (gv i)) : SmU tb E (rU gv) (pU gi) := by
  intro ι M H p x Q R rp h
  unfold pU at h
  split at h
  · exact ⟨_, rp.int, h.okNow R (c _ _ _ _)⟩
  · exact h.elim
theorem smr_ip {f : Int → Int → Int} : SmR tb E (ipI f) (pI0 fun i j => .int (f i j)) := by
  intro ι M H p q x y Q R rp rq h
  unfold pI0 at h
  split at h
  · exact ⟨_, _, rp.int, rq.int, h.okNow R .mk_int⟩
  · exact h.elim
theorem tx_inj {a b : List Nat} : tx a = tx b ↔ a = b := ⟨fun h => congrArg (fun s : Str => s.cps.toList) h, fun h => by rw [h]⟩
theorem eqS_of {p q : PV} {x y : V} {b : Bool} (rp : Rv ι N H p x) (rq : Rv ι N H q y) (e : eqS p q = some b) : scal x y = true ∧ decide (x = y) = b := by
  cases p <;> cases q <;> first | (cases e; done) | skip
  all_goals (unfold Rv at rp rq; subst rp rq; unfold eqS at e; cases e; refine ⟨rfl, ?_⟩)
  all_goals first | rfl | (simp; done) | skip
  all_goals
    simp only [V.str.injEq]
    exact decide_eq_decide.mpr tx_inj
theorem smr_eq : SmR tb E rEq pEq := by
  intro ι M H p q x y Q R rp rq h
  unfold pEq at h
  split at h
  · rename_i b e
    obtain ⟨s, d⟩ := eqS_of rp rq e
    refine ⟨s, ?_⟩
    rw [d]
    exact h.okNow R .mk_bl
  · exact h.elim
theorem smr_ne : SmR tb E rNe pNe := by
  intro ι M H p q x y Q R rp rq h
  unfold pNe at h
  split at h
  · rename_i b e
    obtain ⟨s, d⟩ := eqS_of rp rq e
    refine ⟨s, ?_⟩
    rw [d]
    exact h.okNow R .mk_bl
  · exact h.elim
theorem isNon_of {p : PV} {x : V} (rp : Rv ι N H p x) : decide (x = .non) = isNon p := by
  cases p with
  | tup ps => obtain ⟨a, vs, rfl, _⟩ := rp.tup_at; rfl
  | tpb ps => obtain ⟨a, vs, o, rfl, _⟩ := rp.tpb_at; rfl
  | ref k => obtain ⟨_, rfl⟩ := rp.ref_at; rfl
  | non => unfold Rv at rp; subst rp; rfl
  | bl b => unfold Rv at rp; subst rp; rfl
  | int b => unfold Rv at rp; subst rp; rfl
  | str b => unfold Rv at rp; subst rp; rfl
  | ty b => unfold Rv at rp; subst rp; rfl
  | adr b => unfold Rv at rp; subst rp; rfl
theorem smr_isN : SmR tb E (fun x y H Q => y = .non ∧ Q (.bl (decide (x = .non))) H) pIsN := by
  intro ι M H p q x y Q R rp rq h
  unfold pIsN at h
  split at h
  · refine ⟨rq.non, ?_⟩
    rw [isNon_of rp]
    exact h.okNow R .mk_bl
  · exact h.elim
theorem smr_addS : SmR tb E (fun x y H Q => ∃ i j, x = .str i ∧ y = .str j ∧ i.length + j.length ≤ sizeLine ∧ Q (.str (i ++ j)) H) pAddS := by
  intro ι M H p q x y Q R rp rq h
  unfold pAddS at h
  split at h
  · split at h
    · rename_i a b hl
      refine ⟨_, _, rp.str, rq.str, by rw [tx_len, tx_len]; exact lim_le hl, ?_⟩
      rw [tx_app]
      exact h.okNow R .mk_str
    · exact h.elim
  · exact h.elim
theorem smr_inS : SmR tb E (fun x y H Q => ∃ (c : Nat) (z : Str), x = .str ⟨#[c]⟩ ∧ y = .str z ∧ Q (.bl (decide (c ∈ z.cps.toList))) H) pInS := by
  intro ι M H p q x y Q R rp rq h
  unfold pInS at h
  split at h
  · exact ⟨_, _, rp.str, rq.str, h.okNow R .mk_bl⟩
  · exact h.elim
theorem lstAt_ref {p : PV} {xs : List PV} (h : lstAt M p = some xs) : ∃ k, p = .ref k ∧ M[k]? = some (.lst xs) := by
  cases p <;> first | (cases h; done) | skip
  rename_i k
  unfold lstAt at h
  simp only at h
  split at h
  · rename_i e
    cases h
    exact ⟨k, rfl, e⟩
  · cases h
theorem lst_at {p : PV} {xs : List PV} {v : V} (R : RM tb ι M H) (h : lstAt M p = some xs) (rp : Rv ι M.length H p v) : ∃ k vs, p = .ref k ∧ k < M.length ∧ v = .ref (ι k) ∧ H (ι k) = some (.lst vs) ∧ Rvs ι M.length H xs vs := by
  obtain ⟨k, rfl, e⟩ := lstAt_ref h
  obtain ⟨lk, rfl⟩ := rp.ref_at
  obtain ⟨vs, e1, e2⟩ := R.obj k _ e
  exact ⟨k, vs, rfl, lk, rfl, e1, e2⟩
/-- a new list -/
theorem RM.lst (R : RM tb ι M H) {xs : List PV} {vs : List V} (r : Rvs ι M.length H xs vs) {p : Addr} (n : H p = none) : RM tb (ext ι M.length p) (M ++ [.lst xs]) (upd H p (.lst vs)) ∧ Rv (ext ι M.length p) (M ++ [PO.lst xs]).length (upd H p (.lst vs)) (.ref M.length) (.ref p) := by
  refine ⟨R.push n ⟨vs, upd_same, r.mono (ex_ext n) (by omega)⟩, ?_⟩
  have := Rv.mk_ref (ι := ext ι M.length p) (N := (M ++ [PO.lst xs]).length) (H := upd H p (.lst vs)) (k := M.length) (by simp)
  rw [ext_same] at this
  exact this
theorem okLst {Q : VK} {xs : List PV} {vs : List V} (h : Wp tb Rv ι M.length H (.ok (.ref M.length) (M ++ [.lst xs])) Q E) (R : RM tb ι M H) (r : Rvs ι M.length H xs vs) {p : Addr} (n : H p = none) : Q (.ref p) (upd H p (.lst vs)) := by
  obtain ⟨a, b⟩ := R.lst r n
  exact h _ _ _ (ex_ext n) (by simp) a b
theorem smr_addL : SmR tb E rCat pAddL := by
  intro ι M H p q x y Q R rp rq h
  unfold pAddL at h
  split at h
  · rename_i as bs e1 e2
    split at h
    · rename_i hl
      obtain ⟨k, vs, rfl, lk, rfl, ha, ra⟩ := lst_at R e1 rp
      obtain ⟨j, ws, rfl, lj, rfl, hb, rb⟩ := lst_at R e2 rq
      refine ⟨_, _, vs, ws, rfl, rfl, ha, hb, by rw [← ra.len, ← rb.len]; exact lim_le hl, fun t nt => okLst h R (ra.app rb) nt⟩
    · exact h.elim
  · exact h.elim
theorem atI_rel {xs : List PV} {vs : List V} (r : Rvs ι N H xs vs) {i : Int} {x : PV} (e : atI xs i = some x) : ∃ v, atI vs i = some v ∧ Rv ι N H x v := by
  unfold atI at e ⊢
  rw [← r.len]
  cases q : ixN xs.length i with
  | none => rw [q] at e; cases e
  | some j =>
    rw [q] at e
    exact r.get e
theorem smr_ixL : SmR tb E (rIxL K) pIxL := by
  intro ι M H p q x y Q R rp rq h
  unfold pIxL at h
  split at h
  · rename_i xs i e1
    split at h
    · rename_i z e2
      obtain ⟨k, vs, rfl, lk, rfl, ha, ra⟩ := lst_at R e1 rp
      obtain ⟨v, e3, rv⟩ := atI_rel ra e2
      exact ⟨_, vs, i, v, rfl, rq.int, .of ha, e3, h.okNow R rv⟩
    · exact h.elim
  · exact h.elim
theorem smr_ixT : SmR tb E (rIxT K) pIxT := by
  intro ι M H p q x y Q R rp rq h
  unfold pIxT at h
  split at h
  · rename_i xs i
    split at h
    · rename_i z e2
      obtain ⟨a, vs, rfl, ha, ra⟩ := rp.tup_at
      obtain ⟨v, e3, rv⟩ := atI_rel ra e2
      exact ⟨_, vs, i, v, rfl, rq.int, .of ha, e3, h.okNow R rv⟩
    · exact h.elim
  · exact h.elim
theorem smr_ixS : SmR tb E rIxS pIxS := by
  intro ι M H p q x y Q R rp rq h
  unfold pIxS at h
  split at h
  · rename_i xs i
    split at h
    · rename_i hl
      split at h
      · rename_i c e2
        exact ⟨tx xs, i, c, rp.str, rq.int, by rw [tx_len]; exact lim_le hl, e2, h.okNow R .mk_str⟩
      · exact h.elim
    · exact h.elim
  · exact h.elim
/-! tests -/
variable {tA tB' : TT} {fA fB : FT}
theorem asB_w {p : PV} {v : V} {γ δ : Type} {rel : (Nat → Addr) → Nat → Hp → γ → δ → Prop} {k : Bool → PM → Res γ} {Q : δ → Hp → Prop} (rp : Rv ι N H p v) (h : Wp tb rel ι N H ((asB p M).bnd k) Q E) : ∃ b, v = .bl b ∧ Wp tb rel ι N H (k b M) Q E := by
  cases p <;> first | exact (h : False).elim | exact ⟨_, rp.bl, h⟩
theorem sm_test (h : SmE tb E ta fa) : SmT tb E (tTest ta) (fTest fa) := fun ι M H σp σ Q R S w =>
  h.to R S w fun ι1 M1 H1 p v o1 S1 rv w1 => by
    cases p <;> first | exact (w1 : False).elim | exact ⟨_, rv.bl, Wp.okNow w1 o1.r rfl⟩
theorem sm_tB (h : SmE tb E ta fa) : SmT tb E (tB ta) (fTest fa) := sm_test h
theorem sm_and (ha : SmT tb E tA fA) (hb : SmT tb E tB' fB) : SmT tb E (tAnd tA tB') (fAnd fA fB) := fun ι M H σp σ Q R S w =>
  ha.to R S w fun ι1 M1 H1 p o1 S1 w1 => by
    cases p with
    | true => exact hb ι1 M1 H1 σp σ Q o1.r S1 w1
    | false => exact Wp.okNow w1 o1.r rfl
theorem sm_or (ha : SmT tb E tA fA) (hb : SmT tb E tB' fB) : SmT tb E (tOr tA tB') (fOr fA fB) := fun ι M H σp σ Q R S w =>
  ha.to R S w fun ι1 M1 H1 p o1 S1 w1 => by
    cases p with
    | false => exact hb ι1 M1 H1 σp σ Q o1.r S1 w1
    | true => exact Wp.okNow w1 o1.r rfl
theorem sm_not (ha : SmT tb E tA fA) : SmT tb E (tNot tA) (fNot fA) := fun ι M H σp σ Q R S w =>
  ha.to R S w fun ι1 M1 H1 p o1 S1 w1 => Wp.okNow w1 o1.r rfl
theorem sm_yes : SmT tb E tYes fYes := fun ι M H σp σ Q R S w => Wp.okNow w R rfl
theorem sm_andV (ha : SmE tb E ta fa) (hb : SmE tb E tb' fb) : SmE tb E (tAndV ta tb') (fAndV fa fb) := fun ι M H σp σ Q R S w =>
  ha.to R S w fun ι1 M1 H1 p v o1 S1 rv w1 => by
    obtain ⟨b, rfl, w2⟩ := asB_w rv w1
    refine ⟨b, rfl, ?_⟩
    cases b with
    | true => exact hb ι1 M1 H1 σp σ Q o1.r S1 w2
    | false => exact Wp.okNow w2 o1.r .mk_bl
theorem sm_if (hc : SmT tb E tA fA) (ha : SmE tb E ta fa) (hb : SmE tb E tb' fb) : SmE tb E (tIf tA ta tb') (fIf fA fa fb) := fun ι M H σp σ Q R S w =>
  hc.to R S w fun ι1 M1 H1 p o1 S1 w1 => by
    cases p with
    | true => exact ha ι1 M1 H1 σp σ Q o1.r S1 w1
    | false => exact hb ι1 M1 H1 σp σ Q o1.r S1 w1
theorem SmR.to {ι : Nat → Addr} {M : PM} {H : Hp} {γ δ : Type} {rel : (Nat → Addr) → Nat → Hp → γ → δ → Prop} (s : SmR tb E r g) (R : RM tb ι M H) {p q : PV} {x y : V} (rp : Rv ι M.length H p x) (rq : Rv ι M.length H q y) {k : PV → PM → Res γ} {Q : δ → Hp → Prop} {Q' : VK} (h : Wp tb rel ι M.length H ((g p q M).bnd k) Q E)
    (c : ∀ ι1 M1 H1 p v, On tb ι M.length H ι1 M1 H1 → Rv ι1 M1.length H1 p v → Wp tb rel ι1 M1.length H1 (k p M1) Q E → Q' v H1) : r x y H Q' :=
  s ι M H p q x y Q' R rp rq (Wp.mono (Wp.bnd h) fun v H1 ⟨ι1, M1, p, o, rv, w⟩ => c ι1 M1 H1 p v o rv w)
theorem sm_chain (hr : SmR tb E r g) (hr' : SmR tb E r' g') (ha : SmE tb E ta fa) (hb : SmE tb E tb' fb) (hc : SmE tb E tc fc) : SmE tb E (tChain r r' ta tb' tc) (fChain g g' fa fb fc) := fun ι M H σp σ Q R S h =>
  ha.to R S h fun ι1 M1 H1 p v o1 S1 rv w1 => hb.to o1.r S1 w1 fun ι2 M2 H2 q u o2 S2 ru w2 => hr.to o2.r (rv.mono o2.e o2.l) ru w2 fun ι3 M3 H3 z zv o3 rz w3 => by
    obtain ⟨b, rfl, w4⟩ := asB_w rz w3
    refine ⟨b, rfl, ?_⟩
    cases b with
    | false => exact Wp.okNow w4 o3.r .mk_bl
    | true => exact hc.to o3.r (S2.mono o3.e o3.l) w4 fun ι4 M4 H4 y4 v4 o4 S4 r4 w5 => hr' ι4 M4 H4 q y4 u v4 Q o4.r ((ru.mono o3.e o3.l).mono o4.e o4.l) r4 w5
/-! arguments -/
variable {tr : TA} {fr : FA}
theorem sm_nil : SmA tb E tNil fNil := fun ι M H σp σ Q R S w => Wp.okNow w R Rvs.nil
theorem sm_cons (ha : SmE tb E ta fa) (hb : SmA tb E tr fr) : SmA tb E (tCons ta tr) (fCons fa fr) := fun ι M H σp σ Q R S w =>
  ha.to R S w fun ι1 M1 H1 p v o1 S1 rv w1 => hb.to o1.r S1 w1 fun ι2 M2 H2 ps vs o2 S2 rvs w2 => Wp.okNow w2 o2.r (Rvs.cons (rv.mono o2.e o2.l) rvs)
theorem sm_tup (hb : SmA tb E tr fr) : SmE tb E (tTup tr) (fTup fr) := fun ι M H σp σ Q R S w =>
  hb.to R S w fun ι1 M1 H1 ps vs o1 S1 rvs w1 => by
    split at w1
    · rename_i hl
      refine ⟨by rw [← rvs.len]; exact lim_le hl, fun p np => ?_⟩
      exact w1 ι1 _ _ (ex_new np) (Nat.le_refl _) (o1.r.new np) (.mk_tup upd_same (rvs.mono (ex_new np) (Nat.le_refl _)))
    · exact w1.elim
theorem sm_lst (hb : SmA tb E tr fr) : SmE tb E (tLst tr) (fLst fr) := fun ι M H σp σ Q R S w =>
  hb.to R S w fun ι1 M1 H1 ps vs o1 S1 rvs w1 => by
    split at w1
    · rename_i hl
      exact ⟨by rw [← rvs.len]; exact lim_le hl, fun p np => okLst w1 o1.r rvs np⟩
    · exact w1.elim
/-! slices -/
theorem cut_rel {xs : List PV} {vs : List V} {lo hi : Option Int} (r : Rvs ι N H xs vs) : Rvs ι N H (cut xs lo hi) (cutV vs lo hi) := by
  unfold cut cutV
  rw [← r.len]
  exact (r.drop _).take _
variable {tl th : TO} {fl fh : FO}
theorem sm_noPart : SmO tb E tNoPart fNoPart := fun ι M H σp σ Q R S w => Wp.okNow w R rfl
theorem sm_part (ha : SmE tb E ta fa) : SmO tb E (tPart ta) (fPart fa) := fun ι M H σp σ Q R S w =>
  ha.to R S w fun ι1 M1 H1 p v o1 S1 rv w1 => by
    cases p <;> first | exact (w1 : False).elim | exact ⟨_, rv.int, Wp.okNow w1 o1.r rfl⟩
def SmSl (tb : List (Addr × Str)) (E : XK) (r : V → Option Int → Option Int → Hp → VK → Prop) (g : PV → Option Int → Option Int → PM → Res PV) : Prop := ∀ ι M H p x lo hi Q, RM tb ι M H → Rv ι M.length H p x → Wp tb Rv ι M.length H (g p lo hi M) Q E → r x lo hi H Q
theorem sm_sl {rs : V → Option Int → Option Int → Hp → VK → Prop} {gs : PV → Option Int → Option Int → PM → Res PV} (hr : SmSl tb E rs gs) (ha : SmE tb E ta fa) (hl : SmO tb E tl fl) (hh : SmO tb E th fh) : SmE tb E (tSl rs ta tl th) (fSl gs fa fl fh) := fun ι M H σp σ Q R S w =>
  ha.to R S w fun ι1 M1 H1 p v o1 S1 rv w1 => hl.to o1.r S1 w1 fun ι2 M2 H2 lo o2 S2 w2 => hh.to o2.r S2 w2 fun ι3 M3 H3 hi o3 S3 w3 => hr ι3 M3 H3 p v lo hi Q o3.r ((rv.mono o2.e o2.l).mono o3.e o3.l) w3
theorem sms_S : SmSl tb E rSlS pSlS := by
  intro ι M H p x lo hi Q R rp h
  unfold pSlS at h
  split at h
  · split at h
    · rename_i s hl
      refine ⟨tx s, rp.str, by rw [tx_len]; exact lim_le hl, ?_⟩
      have e : cutS (tx s) lo hi = tx (cut s lo hi) := by
        unfold cutS cut
        rw [tx_len]
      rw [e]
      exact h.okNow R .mk_str
    · exact h.elim
  · exact h.elim
theorem sms_T : SmSl tb E (rSlA K) pSlT := by
  intro ι M H p x lo hi Q R rp h
  unfold pSlT at h
  split at h
  · rename_i xs
    obtain ⟨a, vs, rfl, ha, ra⟩ := rp.tup_at
    refine ⟨a, vs, rfl, .of ha, fun e => ?_, fun _ t nt => ?_⟩
    · have e1 : cut xs lo hi = xs := by
        unfold cut
        rw [ra.len, e.1, e.2, List.drop_zero, Nat.sub_zero, ← ra.len, List.take_length]
      rw [e1] at h
      exact h.okNow R rp
    · exact h ι _ _ (ex_new nt) (Nat.le_refl _) (R.new nt) (.mk_tup upd_same ((cut_rel ra).mono (ex_new nt) (Nat.le_refl _)))
  · exact h.elim
end
end Pu
namespace Pu
open PySem PySem.Spec PyProof.Rows L2 LB
open Classical
/-! ### garbage -/
def keepOk (M M2 : PM) : Prop := M.length ≤ M2.length ∧ ∀ i, i < M.length → M2[i]? = M[i]? ∨ ∃ o, M2[i]? = some o ∧ o.wf M.length
noncomputable def gc (M : PM) (r : Res PV) : Res PV := match r with
  | .ok p M2 => if keepOk M M2 ∧ p.wf M.length then .ok p (M2.take M.length) else match p with
    | .ref k => match M2[k]? with
      | some o => if keepOk M M2 ∧ o.wf M.length ∧ M.length ≤ k then .ok (.ref M.length) (M2.take M.length ++ [o]) else .ok p M2
      | none => .ok p M2
    | _ => .ok p M2
  | .exc x M2 => if keepOk M M2 then .exc x (M2.take M.length) else .exc x M2
  | .bad => .bad
noncomputable def fGc (f : FE) : FE := fun σ M => gc M (f σ M)
section
variable {tb : List (Addr × Str)} {E : XK} {ι ι2 : Nat → Addr} {H H2 : Hp} {M M2 : PM}
theorem RM.cutTo (R : RM tb ι M H) (R2 : RM tb ι2 M2 H2) (k : keepOk M M2) : RM tb ι2 (M2.take M.length) H2 := by
  have hl : (M2.take M.length).length = M.length := by rw [List.length_take]; have := k.1; omega
  refine ⟨fun i j hi hj e => R2.inj i j (by have := k.1; omega) (by have := k.1; omega) e, fun i o e => ?_, R2.tab⟩
  have li := (List.getElem?_eq_some_iff.mp e).1
  rw [hl] at li ⊢
  rw [List.getElem?_take_of_lt li] at e
  have w : o.wf M.length := by
    rcases k.2 i li with h | ⟨o', h, w⟩
    · exact R.wf (h.symm.trans e)
    · rw [h] at e
      cases e
      exact w
  exact (R2.obj i o e).cut w
theorem gc_ok {rel : (Nat → Addr) → Nat → Hp → PV → V → Prop} {Q : VK} (R : RM tb ι M H) {r : Res PV} (h : Wp tb Rv ι M.length H (gc M r) Q E) : Wp tb Rv ι M.length H r Q E := by
  cases r with
  | bad => exact h
  | exc x M2 =>
    unfold gc at h
    simp only at h
    split at h
    · rename_i k
      intro ι2 H2 d e l R2 hd
      have hl : (M2.take M.length).length = M.length := by rw [List.length_take]; have := k.1; omega
      exact h ι2 H2 d e (by rw [hl]; exact Nat.le_refl _) (R.cutTo R2 k) hd
    · exact h
  | ok p M2 =>
    unfold gc at h
    simp only at h
    split at h
    · rename_i k
      intro ι2 H2 v e l R2 rv
      have hl : (M2.take M.length).length = M.length := by rw [List.length_take]; have := k.1.1; omega
      refine h ι2 H2 v e (by rw [hl]; exact Nat.le_refl _) (R.cutTo R2 k.1) ?_
      rw [hl]
      exact rv.cut k.2
    · split at h
      · rename_i j _
        split at h
        · rename_i o eo
          split at h
          · rename_i k
            intro ι2 H2 v e l R2 rv
            obtain ⟨lj, rfl⟩ := rv.ref_at
            have hl : (M2.take M.length).length = M.length := by rw [List.length_take]; have := k.1.1; omega
            have R3 := R.cutTo R2 k.1
            have hl2 : (M2.take M.length ++ [o]).length = M.length + 1 := by rw [List.length_append, hl]; rfl
            have ne : ∀ i, i < M.length → ι2 i ≠ ι2 j := fun i hi z => by
              have := R2.inj i j (by omega) lj z
              omega
            refine h (ext ι2 M.length (ι2 j)) H2 _ ⟨fun i hi => by rw [ext_lt hi]; exact e.i i hi, e.t, e.z⟩ (by rw [hl2]; omega) ⟨fun a b ha hb z => ?_, fun i o' eo' => ?_, R2.tab⟩ ?_
            · rw [hl2] at ha hb
              rcases Nat.lt_or_ge a M.length with a1 | a1 <;> rcases Nat.lt_or_ge b M.length with b1 | b1
              · rw [ext_lt a1, ext_lt b1] at z
                exact R2.inj a b (by omega) (by omega) z
              · have : b = M.length := by omega
                subst this
                rw [ext_lt a1, ext_same] at z
                exact absurd z (ne a a1)
              · have : a = M.length := by omega
                subst this
                rw [ext_lt b1, ext_same] at z
                exact absurd z.symm (ne b b1)
              · omega
            · rw [hl2]
              have ex : Ex ι2 (ext ι2 M.length (ι2 j)) M.length H2 H2 := ⟨fun i hi => ext_lt hi, fun _ _ z => z, fun _ _ _ z => z⟩
              rcases Nat.lt_or_ge i M.length with a | a
              · rw [List.getElem?_append_left (by rw [hl]; exact a)] at eo'
                rw [ext_lt a]
                have := R3.obj i o' eo'
                rw [hl] at this
                exact this.mono ex (by omega) rfl
              · have li := (List.getElem?_eq_some_iff.mp eo').1
                rw [hl2] at li
                have : i = M.length := by omega
                subst this
                rw [List.getElem?_append_right (by rw [hl]; exact Nat.le_refl _), hl, Nat.sub_self] at eo'
                cases eo'
                rw [ext_same]
                exact ((R2.obj j o eo).cut k.2.1).mono ex (by omega) rfl
            · rw [hl2]
              have := Rv.mk_ref (ι := ext ι2 M.length (ι2 j)) (N := M.length + 1) (H := H2) (k := M.length) (by omega)
              rw [ext_same] at this
              exact this
          · exact h
        · exact h
      · exact h
theorem sm_gc {t : TE} {f : FE} (s : SmE tb E t f) : SmE tb E t (fGc f) := fun ι M H σp σ Q R S w => s ι M H σp σ Q R S (gc_ok (rel := Rv) R w)
end
/-! ### plain statements -/
def fNext : FS := fun σ M => .nx σ M
def fSeq (f g : FS) : FS := fun σ M => match f σ M with
  | .nx σ' M' => g σ' M'
  | r => r
def fBreak : FS := fun σ M => .bk σ M
def fCont : FS := fun σ M => .ct σ M
def fDrop (f : FE) : FS := fun σ M => (f σ M).go fun _ M1 => .nx σ M1
def fRet (f : FE) : FS := fun σ M => (f σ M).go fun p M1 => .rt p M1
def fRetN : FS := fun _ M => .rt .non M
def fIfS (c : FT) (f g : FS) : FS := fun σ M => (c σ M).go fun b M1 => if b = true then f σ M1 else g σ M1
def fNever : FS := fun _ _ => .bad
section
variable {tb : List (Addr × Str)} {E : XK} {t u : TS} {f g : FS} {te ta tv : TE} {fe fa fv : FE} {tc : TT} {fc : FT}
theorem sm_next : SmS tb E tNext fNext := fun ι M H σp σ D R S w => w ι H σ .refl (Nat.le_refl _) R S
theorem sm_seq (h1 : SmS tb E t f) (h2 : SmS tb E u g) : SmS tb E (tSeq t u) (fSeq f g) := fun ι M H σp σ D R S w => by
  refine h1 ι M H σp σ _ R S ?_
  unfold fSeq at w
  revert w
  cases f σp M with
  | nx s M1 => exact fun w ι1 H1 σ1 e l R1 S1 => h2 ι1 M1 H1 s σ1 D R1 S1 (w.back e l)
  | rt p M1 => exact fun w => w
  | bk s M1 => exact fun w => w
  | ct s M1 => exact fun w => w
  | exc x M1 => exact fun w => w
  | bad => exact fun w => w
theorem sm_drop (h : SmE tb E te fe) : SmS tb E (tDrop te) (fDrop fe) := fun ι M H σp σ D R S w =>
  h.go R S w fun ι1 M1 H1 p v o S1 rv w1 => w1 ι1 H1 σ .refl (Nat.le_refl _) o.r S1
theorem sm_ret (h : SmE tb E te fe) : SmS tb E (tRet te) (fRet fe) := fun ι M H σp σ D R S w =>
  h.go R S w fun ι1 M1 H1 p v o S1 rv w1 => w1 ι1 H1 v .refl (Nat.le_refl _) o.r rv
theorem sm_ifS (hc : SmT tb E tc fc) (h1 : SmS tb E t f) (h2 : SmS tb E u g) : SmS tb E (tIfS tc t u) (fIfS fc f g) := fun ι M H σp σ D R S w =>
  hc.go R S w fun ι1 M1 H1 p o S1 w1 => by
    cases p with
    | true => exact h1 ι1 M1 H1 σp σ D o.r S1 w1
    | false => exact h2 ι1 M1 H1 σp σ D o.r S1 w1
end
/-! ### targets -/
abbrev FG := PV → PS → Option PS
theorem wipe_get {σ : L2.St} {j : Nat} : ∀ vs : List Nat, (wipe σ vs)[j]? = if j ∈ vs then (if j < σ.length then some none else none) else σ[j]?
  | [] => by simp [wipe]
  | v :: vs => by
    unfold wipe
    rw [List.getElem?_set, wipe_length, wipe_get vs]
    by_cases h : v = j
    · subst h
      simp
    · simp [h, Ne.symm h]
theorem wipe_set {σ : L2.St} {i : Nat} {x : Option V} {vs : List Nat} (h : i ∈ vs) : wipe (σ.set i x) vs = wipe σ vs := by
  apply List.ext_getElem?
  intro j
  rw [wipe_get, wipe_get, List.length_set]
  by_cases hj : j ∈ vs
  · rw [if_pos hj, if_pos hj]
  · rw [if_neg hj, if_neg hj, List.getElem?_set_ne (fun z : i = j => hj (z ▸ h))]
theorem wipe_wipe {σ : L2.St} {vs : List Nat} : wipe (wipe σ vs) vs = wipe σ vs := by
  apply List.ext_getElem?
  intro j
  rw [wipe_get, wipe_get, wipe_length]
  by_cases hj : j ∈ vs
  · rw [if_pos hj, if_pos hj]
  · rw [if_neg hj, if_neg hj]
def SmG (tb : List (Addr × Str)) (g : TG) (fg : FG) (ws : List Nat) : Prop := ∀ ι M H p v σp σ σp' Q, RM tb ι M H → Rv ι M.length H p v → Rs ι M.length H σp σ → fg p σp = some σp' →
  (∀ σ', Rs ι M.length H σp' σ' → (∀ vs, (∀ i ∈ ws, i ∈ vs) → wipe σ' vs = wipe σ vs) → Q σ' H) → g v σ H Q
def SmGs (tb : List (Addr × Str)) (g : TGs) (fg : List PV → PS → Option PS) (ws : List Nat) : Prop := ∀ ι M H ps vs σp σ σp' Q, RM tb ι M H → Rvs ι M.length H ps vs → Rs ι M.length H σp σ → fg ps σp = some σp' →
  (∀ σ', Rs ι M.length H σp' σ' → (∀ vs, (∀ i ∈ ws, i ∈ vs) → wipe σ' vs = wipe σ vs) → Q σ' H) → g vs σ H Q
def gNm (i : Nat) : FG := fun p σ => some (σ.set i (some p))
def gsNil : List PV → PS → Option PS := fun ps σ => match ps with
  | [] => some σ
  | _ => none
def gsCons (g : FG) (gs : List PV → PS → Option PS) : List PV → PS → Option PS := fun ps σ => match ps with
  | p :: r => (g p σ).bind fun σ1 => gs r σ1
  | [] => none
def gTp (gs : List PV → PS → Option PS) : FG := fun p σ => match p with
  | .tup xs => gs xs σ
  | _ => none
section
variable {tb : List (Addr × Str)} {E : XK} {K : PySem.W.Frag} {g : TG} {gs : TGs} {fg : FG} {fgs : List PV → PS → Option PS} {ws ws' : List Nat} {n : Nat}
theorem sg_nm {i : Nat} : SmG tb (gName i) (gNm i) [i] := fun ι M H p v σp σ σp' Q R rp S e c => by
  cases e
  exact c _ (S.set rp i) fun vs hv => wipe_set (hv i (by simp))
theorem sg_nil : SmGs tb gNil gsNil [] := fun ι M H ps vs σp σ σp' Q R rp S e c => by
  cases ps with
  | nil =>
    unfold Rvs at rp
    cases e
    exact ⟨rp, c σ S fun _ _ => rfl⟩
  | cons p r => cases e
theorem sg_cons (h : SmG tb g fg ws) (hs : SmGs tb gs fgs ws') : SmGs tb (gCons g gs) (gsCons fg fgs) (ws ++ ws') := fun ι M H ps vs σp σ σp' Q R rp S e c => by
  cases ps with
  | nil => cases e
  | cons p r =>
    unfold Rvs at rp
    obtain ⟨v, w, rfl, q1, q2⟩ := rp
    unfold gsCons at e
    simp only at e
    cases e1 : fg p σp with
    | none => rw [e1] at e; cases e
    | some σ1 =>
      rw [e1] at e
      refine ⟨v, w, rfl, h ι M H p v σp σ σ1 _ R q1 S e1 fun σ' S' w' => hs ι M H r w σ1 σ' σp' Q R q2 S' e fun σ2 S2 w2 => c σ2 S2 fun vs hv => ?_⟩
      rw [w2 vs fun i hi => hv i (List.mem_append_right _ hi), w' vs fun i hi => hv i (List.mem_append_left _ hi)]
/-- how many -/
theorem gs_len : ∀ {ps : List PV} {σ σ' : PS}, gsNil ps σ = some σ' → ps.length = 0 := fun {ps σ σ'} h => by
  cases ps with
  | nil => rfl
  | cons p r => cases h
def Cnt (fgs : List PV → PS → Option PS) (n : Nat) : Prop := ∀ ps σ σ', fgs ps σ = some σ' → ps.length = n
theorem cnt_nil : Cnt gsNil 0 := fun _ _ _ h => gs_len h
theorem cnt_cons (h : Cnt fgs n) : Cnt (gsCons fg fgs) (n + 1) := fun ps σ σ' e => by
  cases ps with
  | nil => cases e
  | cons p r =>
    unfold gsCons at e
    simp only at e
    cases e1 : fg p σ with
    | none => rw [e1] at e; cases e
    | some σ1 =>
      rw [e1] at e
      rw [List.length_cons, h r σ1 σ' e]
theorem sg_tup (h : SmGs tb gs fgs ws) (c : Cnt fgs n) : SmG tb (gTup K n gs) (gTp fgs) ws := fun ι M H p v σp σ σp' Q R rp S e k => by
  cases p <;> first | (cases e; done) | skip
  rename_i xs
  obtain ⟨a, vs, rfl, ha, ra⟩ := rp.tup_at
  exact ⟨a, vs, rfl, .of ha, by rw [← ra.len]; exact c _ _ _ e, h ι M H xs vs σp σ σp' Q R ra S e k⟩
end
def fAsg (f : FE) (g : FG) : FS := fun σ M => (f σ M).go fun p M1 => match g p σ with
  | some σ' => .nx σ' M1
  | none => .bad
/-- xs[i] = v -/
def setL (o i v : PV) (M : PM) : Option PM := match o, i with
  | .ref k, .int j => match M[k]? with
    | some (.lst xs) => match ixN xs.length j with
      | some n => some (M.set k (.lst (xs.set n v)))
      | none => none
    | _ => none
  | _, _ => none
def fAsgL (f fo fi : FE) : FS := fun σ M => (f σ M).go fun v M1 => (fo σ M1).go fun o M2 => (fi σ M2).go fun i M3 => match setL o i v M3 with
  | some M4 => .nx σ M4
  | none => .bad
def fAugL (fo fi f : FE) (g : PV → PV → PM → Res PV) : FS := fun σ M => (fo σ M).go fun o M1 => (fi σ M1).go fun i M2 => (pIxL o i M2).go fun x M3 => (f σ M3).go fun y M4 => (g x y M4).go fun z M5 => match setL o i z M5 with
  | some M6 => .nx σ M6
  | none => .bad
section
variable {tb : List (Addr × Str)} {E : XK} {K : PySem.W.Frag} {te to ti : TE} {fe fo fi : FE} {g : TG} {fg : FG} {ws : List Nat} {ip : TIp} {pi : PV → PV → PM → Res PV} {ι : Nat → Addr} {M : PM} {H : Hp}
theorem sm_asg (h : SmE tb E te fe) (hg : SmG tb g fg ws) : SmS tb E (tAsg te g) (fAsg fe fg) := fun ι M H σp σ D R S w =>
  h.go R S w fun ι1 M1 H1 p v o S1 rv w1 => by
    split at w1
    · rename_i σ' e
      exact hg ι1 M1 H1 p v σp σ σ' D.nx o.r rv S1 e fun σ2 S2 _ => w1 ι1 H1 σ2 .refl (Nat.le_refl _) o.r S2
    · exact w1.elim
theorem SmR.go {r : R2} {gg : PV → PV → PM → Res PV} (s : SmR tb E r gg) (R : RM tb ι M H) {p q : PV} {x y : V} (rp : Rv ι M.length H p x) (rq : Rv ι M.length H q y) {k : PV → PM → SR} {D : Ends} {Q' : VK} (h : WpS tb ι M.length H ((gg p q M).go k) D E)
    (c : ∀ ι1 M1 H1 p v, On tb ι M.length H ι1 M1 H1 → Rv ι1 M1.length H1 p v → WpS tb ι1 M1.length H1 (k p M1) D E → Q' v H1) : r x y H Q' :=
  s ι M H p q x y Q' R rp rq (Wp.mono (Wp.go h) fun v H1 ⟨ι1, M1, p, o, rv, w⟩ => c ι1 M1 H1 p v o rv w)
theorem setL_ok {o i v : PV} {M' : PM} {xo xi xv : V} (R : RM tb ι M H) (ro : Rv ι M.length H o xo) (ri : Rv ι M.length H i xi) (rv : Rv ι M.length H v xv) (e : setL o i v M = some M') {Q : Hp → Prop} (h : ∀ H', Ex ι ι M.length H H' → M'.length = M.length → RM tb ι M' H' → Q H') : rSetL xo xi xv H Q := by
  unfold setL at e
  split at e
  · rename_i k j
    split at e
    · rename_i xs ek
      split at e
      · rename_i n en
        cases e
        obtain ⟨lk, rfl⟩ := ro.ref_at
        obtain ⟨vs, e1, ra⟩ := R.obj k _ ek
        have ra2 := ra.set rv n
        have hz : ∀ o u, H (ι k) ≠ some (.frz o u) := fun o u z => by rw [e1] at z; cases z
        have ex : Ex ι ι M.length H (upd H (ι k) (.lst (vs.set n xv))) := ex_chg R lk hz
        refine ⟨ι k, vs, j, n, rfl, ri.int, e1, by rw [← ra.len]; exact en, h _ ex (by simp) ?_⟩
        exact R.chg (o := .lst (xs.set n v)) (x := .lst (vs.set n xv)) lk hz ⟨_, upd_same, ra2.mono ex (Nat.le_refl _)⟩
      · cases e
    · cases e
  · cases e
theorem sm_asgL (h : SmE tb E te fe) (ho : SmE tb E to fo) (hi : SmE tb E ti fi) : SmS tb E (tAsg te (gSub to ti rSetL)) (fAsgL fe fo fi) := fun ι M H σp σ D R S w =>
  h.go R S w fun ι1 M1 H1 p v o1 S1 rv w1 => ho.go o1.r S1 w1 fun ι2 M2 H2 q xo o2 S2 ro w2 => hi.go o2.r S2 w2 fun ι3 M3 H3 i xi o3 S3 ri w3 => by
    split at w3
    · rename_i M4 e
      refine setL_ok o3.r (ro.mono o3.e o3.l) ri ((rv.mono o2.e o2.l).mono o3.e o3.l) e fun H4 ex l R4 => ?_
      exact w3 ι3 H4 σ ex (by omega) R4 (by rw [l]; exact S3.mono ex (Nat.le_refl _))
    · exact w3.elim
theorem sm_augL (ho : SmE tb E to fo) (hi : SmE tb E ti fi) (h : SmE tb E te fe) (hr : SmR tb E ip pi) : SmS tb E (tAugS to ti te (rIxL K) ip rSetL) (fAugL fo fi fe pi) := fun ι M H σp σ D R S w =>
  ho.go R S w fun ι1 M1 H1 q xo o1 S1 ro w1 => hi.go o1.r S1 w1 fun ι2 M2 H2 i xi o2 S2 ri w2 => smr_ixL.go o2.r (ro.mono o2.e o2.l) ri w2 fun ι3 M3 H3 x xx o3 rx w3 => h.go o3.r (S2.mono o3.e o3.l) w3 fun ι4 M4 H4 y yv o4 S4 ry w4 =>
    hr.go o4.r (rx.mono o4.e o4.l) ry w4 fun ι5 M5 H5 z zv o5 rz w5 => by
      split at w5
      · rename_i M6 e
        refine setL_ok o5.r ((((ro.mono o2.e o2.l).mono o3.e o3.l).mono o4.e o4.l).mono o5.e o5.l) (((ri.mono o3.e o3.l).mono o4.e o4.l).mono o5.e o5.l) rz e fun H6 ex l R6 => ?_
        exact w5 ι5 H6 σ ex (by omega) R6 (by rw [l]; exact (S4.mono o5.e o5.l).mono ex (Nat.le_refl _))
      · exact w5.elim
end
/-! ### walks -/
structure PIt where
  xs : List PV
  ok : PM → Prop
abbrev FI := PS → PM → Res PIt
def rIt (tb : List (Addr × Str)) : (Nat → Addr) → Nat → Hp → PIt → It → Prop := fun ι N H it J => ∀ (i : Nat) (ι' : Nat → Addr) (M' : PM) (H' : Hp), Ex ι ι' N H H' → N ≤ M'.length → RM tb ι' M' H' → it.ok M' →
  (∀ p, it.xs[i]? = some p → J.go i H' ∧ ∀ x H'', J.yld i H' x H'' → Ex ι' ι' M'.length H' H'' ∧ RM tb ι' M' H'' ∧ Rv ι' M'.length H'' p x) ∧ (it.xs[i]? = none → i = it.xs.length → J.stop i H')
def SmI (tb : List (Addr × Str)) (E : XK) (t : TI) (f : FI) : Prop := ∀ ι M H σp σ Q, RM tb ι M H → Rs ι M.length H σp σ → Wp tb (rIt tb) ι M.length H (f σp M) Q E → t σ H Q
noncomputable def forP (ok : PM → Prop) (g : FG) (b : FS) : List PV → PS → PM → SR
  | [], σ, M => if ok M then .nx σ M else .bad
  | x :: xs, σ, M => if ok M then match g x σ with
    | none => .bad
    | some σ1 => match b σ1 M with
      | .nx σ2 M2 => forP ok g b xs σ2 M2
      | .ct σ2 M2 => forP ok g b xs σ2 M2
      | .bk σ2 M2 => .nx σ2 M2
      | .rt p M2 => .rt p M2
      | .exc e M2 => .exc e M2
      | .bad => .bad
    else .bad
noncomputable def fFor (i : FI) (g : FG) (b : FS) : FS := fun σ M => (i σ M).go fun it M1 => forP it.ok g b it.xs σ M1
section
variable {tb : List (Addr × Str)} {E : XK} {K : PySem.W.Frag} {ti : TI} {fi : FI} {g : TG} {fg : FG} {ws : List Nat} {t : TS} {f : FS} {tc : TT} {fc : FT}
theorem SmI.go {ι : Nat → Addr} {M : PM} {H : Hp} {σp : PS} {σ : L2.St} (s : SmI tb E ti fi) (R : RM tb ι M H) (S : Rs ι M.length H σp σ) {k : PIt → PM → SR} {D : Ends} {Q' : It → Hp → Prop} (h : WpS tb ι M.length H ((fi σp M).go k) D E)
    (c : ∀ ι1 M1 H1 p v, On tb ι M.length H ι1 M1 H1 → Rs ι1 M1.length H1 σp σ → rIt tb ι1 M1.length H1 p v → WpS tb ι1 M1.length H1 (k p M1) D E → Q' v H1) : ti σ H Q' :=
  s ι M H σp σ Q' R S (Wp.mono (Wp.go h) fun v H1 ⟨ι1, M1, p, o, rv, w⟩ => c ι1 M1 H1 p v o (S.mono o.e o.l) rv w)
theorem SmI.to {ι : Nat → Addr} {M : PM} {H : Hp} {σp : PS} {σ : L2.St} {γ δ : Type} {rel2 : (Nat → Addr) → Nat → Hp → γ → δ → Prop} (s : SmI tb E ti fi) (R : RM tb ι M H) (S : Rs ι M.length H σp σ) {k : PIt → PM → Res γ} {Q : δ → Hp → Prop} {Q' : It → Hp → Prop} (h : Wp tb rel2 ι M.length H ((fi σp M).bnd k) Q E)
    (c : ∀ ι1 M1 H1 p v, On tb ι M.length H ι1 M1 H1 → Rs ι1 M1.length H1 σp σ → rIt tb ι1 M1.length H1 p v → Wp tb rel2 ι1 M1.length H1 (k p M1) Q E → Q' v H1) : ti σ H Q' :=
  s ι M H σp σ Q' R S (Wp.mono (Wp.bnd h) fun v H1 ⟨ι1, M1, p, o, rv, w⟩ => c ι1 M1 H1 p v o (S.mono o.e o.l) rv w)
theorem sm_for (hi : SmI tb E ti fi) (hg : SmG tb g fg ws) (hb : SmS tb E t f) : SmS tb E (tFor ti g t) (fFor fi fg f) := fun ι M H σp σ D R S w =>
  hi.go R S w fun ι1 M1 H1 it J o1 S1 rj w1 => by
    refine ⟨fun i m σ' H' => ∃ ι' M' σp', On tb ι1 M1.length H1 ι' M' H' ∧ Rs ι' M'.length H' σp' σ' ∧ m = it.xs.length - i ∧ i ≤ it.xs.length ∧ WpS tb ι' M'.length H' (forP it.ok fg f (it.xs.drop i) σp' M') D E, ⟨_, ι1, M1, σp, ⟨.refl, Nat.le_refl _, o1.r⟩, S1, rfl, Nat.zero_le _, w1⟩, ?_⟩
    rintro i m σ' H' ⟨ι', M', σp', o, S', rfl, li, w'⟩
    rcases Nat.lt_or_ge i it.xs.length with h | h
    · have e : it.xs[i]? = some it.xs[i] := List.getElem?_eq_getElem h
      rw [List.drop_eq_getElem_cons h] at w'
      unfold forP at w'
      split at w'
      · rename_i hok
        split at w'
        · exact w'.elim
        · rename_i σ1 e1
          have q := rj i ι' M' H' o.e o.l o.r hok
          obtain ⟨go, y⟩ := q.1 _ e
          refine .inr ⟨go, fun σ2 H2 => ∃ ι2 M2 σp2, On tb ι1 M1.length H1 ι2 M2 H2 ∧ Rs ι2 M2.length H2 σp2 σ2 ∧ WpS tb ι2 M2.length H2 (forP it.ok fg f (it.xs.drop (i + 1)) σp2 M2) D E, fun σ2 H2 ⟨ι2, M2, σp2, a, b, c⟩ => ⟨it.xs.length - (i + 1), by omega, ι2, M2, σp2, a, b, rfl, h, c⟩, fun x H2 yx => ?_⟩
          obtain ⟨ex, R2, rx⟩ := y x H2 yx
          refine hg ι' M' H2 _ x σp' σ' σ1 _ R2 rx (S'.mono ex (Nat.le_refl _)) e1 fun σ2 S2 _ => ?_
          refine hb ι' M' H2 σ1 σ2 _ R2 S2 ?_
          have on : On tb ι1 M1.length H1 ι' M' H2 := ⟨o.e.trans ex o.l, o.l, R2⟩
          have w2 := WpS.back (n' := M'.length) w' ex (Nat.le_refl _)
          revert w2
          cases f σ1 M' with
          | nx s M3 => exact fun w2 ι3 H3 σ3 e3 l3 R3 S3 => ⟨ι3, M3, s, ⟨on.e.trans e3 on.l, Nat.le_trans on.l l3, R3⟩, S3, WpS.back w2 e3 l3⟩
          | ct s M3 => exact fun w2 ι3 H3 σ3 e3 l3 R3 S3 => ⟨ι3, M3, s, ⟨on.e.trans e3 on.l, Nat.le_trans on.l l3, R3⟩, S3, WpS.back w2 e3 l3⟩
          | bk s M3 => exact fun w2 => w2
          | rt p M3 => exact fun w2 => w2
          | exc x M3 => exact fun w2 => w2
          | bad => exact fun w2 => w2
      · exact w'.elim
    · rw [List.drop_of_length_le h] at w'
      unfold forP at w'
      split at w'
      · rename_i hok
        have q := rj i ι' M' H' o.e o.l o.r hok
        exact .inl ⟨q.2 (List.getElem?_eq_none h) (by omega), w' ι' H' σ' .refl (Nat.le_refl _) o.r S'⟩
      · exact w'.elim
end
end Pu
namespace Pu
open PySem PySem.Spec PyProof.Rows L2 LB
open Classical
abbrev E0 : XK := fun _ _ _ => False
/-! ### list comprehensions -/
noncomputable def lcP (ok : PM → Prop) (g : FG) (ft : FT) (fe : FE) (d : Nat) (σ : PS) : List PV → PM → Res Unit
  | [], M => if ok M then .ok () M else .bad
  | x :: xs, M => if ok M then match g x σ with
    | none => .bad
    | some σ1 => (ft σ1 M).nox.bnd fun b M1 => if b = true then (fe σ1 M1).nox.bnd fun y M2 => match M2[d]? with
        | some (.lst acc) => if acc.length < lim then lcP ok g ft fe d σ xs (M2.set d (.lst (acc ++ [y]))) else .bad
        | _ => .bad
      else lcP ok g ft fe d σ xs M1
    else .bad
noncomputable def fLc (i : FI) (g : FG) (ft : FT) (fe : FE) (vs : List Nat) : FE := fun σ M => (i σ M).bnd fun it M1 => (lcP it.ok g ft fe M1.length (wipeP σ vs) it.xs (M1 ++ [.lst []])).bnd fun _ M2 => .ok (.ref M1.length) M2
/-- a key put, in its place or at the end -/
noncomputable def putP (kvs : List (PV × PV)) (k v : PV) : List (PV × PV) := if ∃ p ∈ kvs, p.1 = k then kvs.map (fun kv => if kv.1 = k then (kv.1, v) else kv) else kvs ++ [(k, v)]
noncomputable def dcP (ok : PM → Prop) (g : FG) (ft : FT) (fk fv : FE) (d : Nat) (σ : PS) : List PV → PM → Res Unit
  | [], M => if ok M then .ok () M else .bad
  | x :: xs, M => if ok M then match g x σ with
    | none => .bad
    | some σ1 => (ft σ1 M).nox.bnd fun b M1 => if b = true then (fk σ1 M1).nox.bnd fun k M2 => (fv σ1 M2).nox.bnd fun y M3 => match M3[d]? with
        | some (.dct kvs) => if kvs.length < lim ∧ (keyOf k).isSome then dcP ok g ft fk fv d σ xs (M3.set d (.dct (putP kvs k y))) else .bad
        | _ => .bad
      else dcP ok g ft fk fv d σ xs M1
    else .bad
noncomputable def fDc (i : FI) (g : FG) (ft : FT) (fk fv : FE) (vs : List Nat) : FE := fun σ M => (i σ M).bnd fun it M1 => (dcP it.ok g ft fk fv M1.length (wipeP σ vs) it.xs (M1 ++ [.dct []])).bnd fun _ M2 => .ok (.ref M1.length) M2
section
variable {tb : List (Addr × Str)} {E : XK} {K : PySem.W.Frag} {ti : TI} {fi : FI} {g : TG} {fg : FG} {ws : List Nat} {tt : TT} {ft : FT} {te tk tv : TE} {fe fk' fv : FE} {ι : Nat → Addr} {n : Nat} {H : Hp} {M : PM} {σp : PS} {σ : L2.St}
theorem Wp.nox {α β : Type} {rel : (Nat → Addr) → Nat → Hp → α → β → Prop} {γ δ : Type} {rel2 : (Nat → Addr) → Nat → Hp → γ → δ → Prop} {r : Res α} {k : α → PM → Res γ} {Q : δ → Hp → Prop} (h : Wp tb rel2 ι n H (r.nox.bnd k) Q E) : Wp tb rel ι n H r (fun v H' => ∃ ι' M' p, On tb ι n H ι' M' H' ∧ rel ι' M'.length H' p v ∧ Wp tb rel2 ι' M'.length H' (k p M') Q E) E0 := by
  cases r with
  | ok p M => exact fun ι' H' v e l r v' => ⟨ι', M, p, ⟨e, l, r⟩, v', Wp.back h e l⟩
  | exc x M => exact (h : False).elim
  | bad => exact h
theorem SmE.nox {γ δ : Type} {rel2 : (Nat → Addr) → Nat → Hp → γ → δ → Prop} {t : TE} {f : FE} (s : SmE tb E0 t f) (R : RM tb ι M H) (S : Rs ι M.length H σp σ) {k : PV → PM → Res γ} {Q : δ → Hp → Prop} {Q' : VK} (h : Wp tb rel2 ι M.length H ((f σp M).nox.bnd k) Q E)
    (c : ∀ ι1 M1 H1 p v, On tb ι M.length H ι1 M1 H1 → Rs ι1 M1.length H1 σp σ → Rv ι1 M1.length H1 p v → Wp tb rel2 ι1 M1.length H1 (k p M1) Q E → Q' v H1) : t σ H Q' :=
  s ι M H σp σ Q' R S (Wp.mono (Wp.nox h) fun v H1 ⟨ι1, M1, p, o, rv, w⟩ => c ι1 M1 H1 p v o (S.mono o.e o.l) rv w)
theorem SmT.nox {γ δ : Type} {rel2 : (Nat → Addr) → Nat → Hp → γ → δ → Prop} {t : TT} {f : FT} (s : SmT tb E0 t f) (R : RM tb ι M H) (S : Rs ι M.length H σp σ) {k : Bool → PM → Res γ} {Q : δ → Hp → Prop} {Q' : Bool → Hp → Prop} (h : Wp tb rel2 ι M.length H ((f σp M).nox.bnd k) Q E)
    (c : ∀ ι1 M1 H1 p, On tb ι M.length H ι1 M1 H1 → Rs ι1 M1.length H1 σp σ → Wp tb rel2 ι1 M1.length H1 (k p M1) Q E → Q' p H1) : t σ H Q' :=
  s ι M H σp σ Q' R S (Wp.mono (Wp.nox h) fun v H1 ⟨ι1, M1, p, o, rv, w⟩ => by have e : p = v := rv; subst e; exact c ι1 M1 H1 p o (S.mono o.e o.l) w)
theorem On.trans {ι1 ι2 : Nat → Addr} {M1 M2 : PM} {H1 H2 : Hp} (a : On tb ι n H ι1 M1 H1) (b : On tb ι1 M1.length H1 ι2 M2 H2) : On tb ι n H ι2 M2 H2 := ⟨a.e.trans b.e a.l, Nat.le_trans a.l b.l, b.r⟩
theorem On.refl (R : RM tb ι M H) : On tb ι M.length H ι M H := ⟨.refl, Nat.le_refl _, R⟩
theorem sm_lc {vs : List Nat} (hi : SmI tb E ti fi) (hg : SmG tb g fg ws) (ht : SmT tb E0 tt ft) (he : SmE tb E0 te fe) (hw : ∀ i ∈ ws, i ∈ vs) : SmE tb E (tLc ti g tt te vs) (fLc fi fg ft fe vs) := fun ι M H σp σ Q R S w =>
  hi.to R S w fun ι1 M1 H1 it J o1 S1 rj w1 => by
    intro D nD
    have Rn := o1.r.lst (xs := []) (vs := []) Rvs.nil nD
    have ex1 : Ex ι1 (ext ι1 M1.length D) M1.length H1 (upd H1 D (.lst [])) := ex_ext nD
    have l0 : (M1 ++ [PO.lst []]).length = M1.length + 1 := by simp
    refine ⟨fun i m H' => ∃ ι' M', On tb (ext ι1 M1.length D) (M1.length + 1) (upd H1 D (.lst [])) ι' M' H' ∧ m = it.xs.length - i ∧ i ≤ it.xs.length ∧ Wp tb Rv ι' M'.length H' ((lcP it.ok fg ft fe M1.length (wipeP σp vs) (it.xs.drop i) M').bnd fun _ M2 => .ok (.ref M1.length) M2) Q E,
      ⟨_, _, _, ⟨.refl, Nat.le_of_eq l0.symm, Rn.1⟩, rfl, Nat.zero_le _, by rw [l0]; exact w1.back ex1 (Nat.le_succ _)⟩, ?_⟩
    rintro i m H' ⟨ι', M', o, rfl, li, w'⟩
    have atD : ι' M1.length = D := (o.e.i _ (Nat.lt_succ_self _)).trans ext_same
    have oE : On tb ι1 M1.length H1 ι' M' H' := ⟨ex1.trans o.e (Nat.le_succ _), Nat.le_trans (Nat.le_succ _) o.l, o.r⟩
    rcases Nat.lt_or_ge i it.xs.length with h | h
    · have e : it.xs[i]? = some it.xs[i] := List.getElem?_eq_getElem h
      rw [List.drop_eq_getElem_cons h] at w'
      unfold lcP at w'
      split at w'
      · rename_i hok
        split at w'
        · exact (w' : False).elim
        · rename_i σ1 e1
          obtain ⟨go, y⟩ := (rj i ι' M' H' oE.e oE.l oE.r hok).1 _ e
          refine .inr ⟨go, fun H2 => ∃ ι2 M2, On tb (ext ι1 M1.length D) (M1.length + 1) (upd H1 D (.lst [])) ι2 M2 H2 ∧ Wp tb Rv ι2 M2.length H2 ((lcP it.ok fg ft fe M1.length (wipeP σp vs) (it.xs.drop (i + 1)) M2).bnd fun _ M2 => .ok (.ref M1.length) M2) Q E,
            fun H2 ⟨ι2, M2, a, b⟩ => ⟨it.xs.length - (i + 1), by omega, ι2, M2, a, rfl, h, b⟩, fun x H2 yx => ?_⟩
          obtain ⟨ex, R2, rx⟩ := y x H2 yx
          have S2 : Rs ι' M'.length H2 (wipeP σp vs) (wipe σ vs) := ((S1.mono oE.e oE.l).mono ex (Nat.le_refl _)).wipe vs
          refine hg ι' M' H2 _ x _ _ σ1 _ R2 rx S2 e1 fun σ2 S3 wp => ⟨(wp vs hw).trans wipe_wipe, ?_⟩
          have o2 : On tb (ext ι1 M1.length D) (M1.length + 1) (upd H1 D (.lst [])) ι' M' H2 := ⟨o.e.trans ex o.l, o.l, R2⟩
          have w2 := Wp.back (n' := M'.length) w' ex (Nat.le_refl _)
          have asc : ∀ (r : Res Bool) (k : Bool → PM → Res Unit), ((r.nox.bnd k).bnd fun _ M2 => Res.ok (PV.ref M1.length) M2) = r.nox.bnd fun b M => (k b M).bnd fun _ M2 => Res.ok (PV.ref M1.length) M2 := fun r k => by cases r <;> rfl
          have asc2 : ∀ (r : Res PV) (k : PV → PM → Res Unit), ((r.nox.bnd k).bnd fun _ M2 => Res.ok (PV.ref M1.length) M2) = r.nox.bnd fun b M => (k b M).bnd fun _ M2 => Res.ok (PV.ref M1.length) M2 := fun r k => by cases r <;> rfl
          rw [asc] at w2
          refine ht.nox R2 S3 w2 fun ι3 M3 H3 b o3 S4 w3 => ?_
          cases b with
          | false => exact ⟨ι3, M3, o2.trans o3, w3⟩
          | true =>
            simp only [if_true] at w3 ⊢
            rw [asc2] at w3
            refine he.nox o3.r S4 w3 fun ι4 M4 H4 y v o4 S5 ry w4 => ?_
            have oo := (o2.trans o3).trans o4
            have d4 : ι4 M1.length = D := (oo.e.i _ (Nat.lt_succ_self _)).trans ext_same
            split at w4
            · rename_i acc ea
              split at w4
              · rename_i hl
                have ld : M1.length < M4.length := oo.l
                obtain ⟨vacc, e5, racc⟩ := o4.r.obj M1.length _ ea
                rw [d4] at e5
                have hz : ∀ o u, H4 (ι4 M1.length) ≠ some (.frz o u) := fun o u z => by rw [d4, e5] at z; cases z
                have ex5 : Ex ι4 ι4 M4.length H4 (upd H4 (ι4 M1.length) (.lst (vacc ++ [v]))) := ex_chg o4.r ld hz
                have R5 := o4.r.chg (o := .lst (acc ++ [y])) (x := .lst (vacc ++ [v])) ld hz ⟨_, upd_same, (racc.app (.cons ry .nil)).mono ex5 (Nat.le_refl _)⟩
                rw [d4] at R5 ex5
                refine ⟨vacc, e5, by rw [← racc.len]; exact lim_lt hl, ι4, _, ⟨oo.e.trans ex5 oo.l, by rw [List.length_set]; exact oo.l, R5⟩, ?_⟩
                rw [List.length_set]
                exact w4.back ex5 (Nat.le_refl _)
              · exact (w4 : False).elim
            · exact (w4 : False).elim
      · exact (w' : False).elim
    · rw [List.drop_of_length_le h] at w'
      unfold lcP at w'
      split at w'
      · rename_i hok
        refine .inl ⟨(rj i ι' M' H' oE.e oE.l oE.r hok).2 (List.getElem?_eq_none h) (by omega), ?_⟩
        refine w' ι' H' _ .refl (Nat.le_refl _) o.r ?_
        have := Rv.mk_ref (ι := ι') (N := M'.length) (H := H') (k := M1.length) o.l
        rw [atD] at this
        exact this
      · exact (w' : False).elim
/-! dict comprehensions -/
theorem keyOf_kV {p : PV} {k : Key} {v : V} (e : keyOf p = some k) (r : Rv ι n H p v) : v = kV k := by
  cases p <;> first | (cases e; done) | skip
  all_goals (unfold Rv at r; subst r; cases e; rfl)
theorem keyOf_inj {p q : PV} {k : Key} (e : keyOf p = some k) (e2 : keyOf q = some k) : p = q := by
  cases p <;> first | (cases e; done) | skip
  all_goals (cases q <;> first | (cases e2; done) | skip)
  all_goals (cases e; cases e2)
  all_goals rfl
theorem keyOf_eq {p q : PV} {k j : Key} (e : keyOf p = some k) (e2 : keyOf q = some j) : p = q ↔ k = j := ⟨fun z => by subst z; exact Option.some.inj (e.symm.trans e2), fun z => by subst z; exact keyOf_inj e e2⟩
theorem mapK_inj : ∀ {xs ys : List PV} {k : List Key}, xs.mapM keyOf = some k → ys.mapM keyOf = some k → xs = ys
  | [], [], _, _, _ => rfl
  | [], y :: ys, _, e, e2 => by
    cases e
    rw [List.mapM_cons] at e2
    cases h : keyOf y with
    | none => rw [h] at e2; cases e2
    | some a =>
      rw [h] at e2
      cases h2 : ys.mapM keyOf with
      | none => rw [h2] at e2; cases e2
      | some b => rw [h2] at e2; cases e2
  | x :: xs, ys, _, e, e2 => by
    rw [List.mapM_cons] at e
    cases h : keyOf x with
    | none => rw [h] at e; cases e
    | some a =>
      rw [h] at e
      cases h1 : xs.mapM keyOf with
      | none => rw [h1] at e; cases e
      | some b =>
        rw [h1] at e
        cases e
        cases ys with
        | nil => cases e2
        | cons y ys =>
          rw [List.mapM_cons] at e2
          cases h2 : keyOf y with
          | none => rw [h2] at e2; cases e2
          | some c =>
            rw [h2] at e2
            cases h3 : ys.mapM keyOf with
            | none => rw [h3] at e2; cases e2
            | some d =>
              rw [h3] at e2
              cases e2
              rw [keyOf_inj h h2, mapK_inj h1 h3]
theorem keysOf_inj {p q : PV} {k : List Key} (e : keysOf p = some k) (e2 : keysOf q = some k) : p = q := by
  cases p <;> first | (cases e; done) | skip
  cases q <;> first | (cases e2; done) | skip
  exact congrArg PV.tup (mapK_inj e e2)
theorem keysOf_eq {p q : PV} {k j : List Key} (e : keysOf p = some k) (e2 : keysOf q = some j) : p = q ↔ k = j := ⟨fun z => by subst z; exact Option.some.inj (e.symm.trans e2), fun z => by subst z; exact keysOf_inj e e2⟩
section
variable {κ : Type} [DecidableEq κ] {F : PV → κ → Prop} (FE' : ∀ p q k j, F p k → F q j → (p = q ↔ k = j))
include FE'
theorem put_rel {kvs : List (PV × PV)} {kws : List (κ × V)} (r : Paired (Rk F ι n H) kvs kws) {k v : PV} {kk : κ} {vv : V} (e : F k kk) (rv : Rv ι n H v vv) : Paired (Rk F ι n H) (putP kvs k v) (putK kws kk vv) := by
  have ha : (∃ p ∈ kvs, p.1 = k) ↔ (kws.any fun kv => decide (kv.1 = kk)) = true := by
    rw [List.any_eq_true]
    constructor
    · rintro ⟨p, hp, rfl⟩
      obtain ⟨i, li, ei⟩ := List.getElem_of_mem hp
      have l := Paired.length r
      have e1 : kvs[i]? = some p := by rw [List.getElem?_eq_getElem li, ei]
      have e2 : kws[i]? = some kws[i] := List.getElem?_eq_getElem (by omega)
      have q := paired_get r e1 e2
      exact ⟨kws[i], List.getElem_mem _, decide_eq_true ((FE' _ _ _ _ q.1 e).mp rfl)⟩
    · rintro ⟨w, hw, ew⟩
      obtain ⟨i, li, ei⟩ := List.getElem_of_mem hw
      have l := Paired.length r
      have e1 : kws[i]? = some w := by rw [List.getElem?_eq_getElem li, ei]
      have e2 : kvs[i]? = some kvs[i] := List.getElem?_eq_getElem (by omega)
      have q := paired_get r e2 e1
      exact ⟨kvs[i], List.getElem_mem _, (FE' _ _ _ _ q.1 e).mpr (of_decide_eq_true ew)⟩
  unfold putP putK
  by_cases h : ∃ p ∈ kvs, p.1 = k
  · rw [if_pos h, if_pos (ha.mp h)]
    clear ha h
    induction r with
    | nil => exact .nil
    | @cons p w ps qs a b ih =>
      refine .cons ?_ ih
      show Rk F ι n H (if p.1 = k then (p.1, v) else p) (if w.1 = kk then (w.1, vv) else w)
      by_cases hk : p.1 = k
      · rw [if_pos hk, if_pos ((FE' _ _ _ _ a.1 e).mp hk)]
        exact ⟨a.1, rv⟩
      · rw [if_neg hk, if_neg fun z => hk ((FE' _ _ _ _ a.1 e).mpr z)]
        exact a
  · rw [if_neg h, if_neg fun z => h (ha.mpr z)]
    clear ha h
    induction r with
    | nil => exact .cons ⟨e, rv⟩ .nil
    | cons a b ih => exact .cons a ih
end
end
end Pu
namespace Pu
open PySem PySem.Spec PyProof.Rows L2 LB
open Classical
def itL (p : PV) (M : PM) : Res PIt := match p with
  | .ref k => match M[k]? with
    | some (.lst xs) => .ok ⟨xs, fun M' => M'[k]? = some (.lst xs)⟩ M
    | _ => .bad
  | _ => .bad
def itT (p : PV) (M : PM) : Res PIt := match p with
  | .tup xs => .ok ⟨xs, fun _ => True⟩ M
  | .tpb xs => .ok ⟨xs, fun _ => True⟩ M
  | _ => .bad
def itS (p : PV) (M : PM) : Res PIt := match p with
  | .str s => .ok ⟨s.map fun c => .str [c], fun _ => True⟩ M
  | _ => .bad
def upTo (lo : Int) (n : Nat) : List PV := (List.range n).map fun i => .int (lo + (i : Nat))
def itR1 (ps : List PV) (M : PM) : Res PIt := match ps with
  | [.int j] => if -(2 ^ 62) ≤ j ∧ j < 2 ^ 62 then .ok ⟨upTo 0 j.toNat, fun _ => True⟩ M else .bad
  | _ => .bad
def enumP (xs : List PV) : List PV := xs.zipIdx.map fun x => .tup [.int (x.2 : Nat), x.1]
def zipP (xs ys : List PV) : List PV := (xs.zip ys).map fun x => .tup [x.1, x.2]
def itET (ps : List PV) (M : PM) : Res PIt := match ps with
  | [.tup xs] => .ok ⟨enumP xs, fun _ => True⟩ M
  | _ => .bad
def itES (ps : List PV) (M : PM) : Res PIt := match ps with
  | [.str s] => .ok ⟨enumP (s.map fun c => .str [c]), fun _ => True⟩ M
  | _ => .bad
def itZ (ps : List PV) (M : PM) : Res PIt := match ps with
  | [.tup xs, .tup ys] => .ok ⟨zipP xs ys, fun _ => True⟩ M
  | [.ref k, .ref j] => match M[k]?, M[j]? with
    | some (.lst xs), some (.lst ys) => .ok ⟨zipP xs ys, fun M' => M'[k]? = some (.lst xs) ∧ M'[j]? = some (.lst ys)⟩ M
    | _, _ => .bad
  | _ => .bad
def fI (i : PV → PM → Res PIt) (f : FE) : FI := fun σ M => (f σ M).bnd i
def fIA (i : List PV → PM → Res PIt) (f : FA) : FI := fun σ M => (f σ M).bnd i
section
variable {tb : List (Addr × Str)} {E : XK} {K : PySem.W.Frag} {te : TE} {fe : FE} {ta : TA} {fa : FA} {ι ι' : Nat → Addr} {N : Nat} {H H' : Hp} {M M' : PM}
theorem lst_later {k : Nat} {xs : List PV} (R : RM tb ι' M' H') (e : Ex ι ι' N H H') (hk : k < N) (h : M'[k]? = some (.lst xs)) : ∃ vs, H' (ι k) = some (.lst vs) ∧ Rvs ι' M'.length H' xs vs := by
  obtain ⟨vs, e1, r⟩ := R.obj k _ h
  rw [e.i k hk] at e1
  exact ⟨vs, e1, r⟩
theorem sm_iL (h : SmE tb E te fe) : SmI tb E (iList K te) (fI itL fe) := fun ι M H σp σ Q R S w =>
  h.to R S w fun ι1 M1 H1 p v o S1 rv w1 => by
    unfold itL at w1
    split at w1
    · rename_i k
      split at w1
      · rename_i xs e
        obtain ⟨lk, rfl⟩ := rv.ref_at
        obtain ⟨vs, e1, r1⟩ := o.r.obj k _ e
        refine ⟨ι1 k, rfl, ⟨vs, .of e1⟩, Wp.okNow w1 o.r fun i ι' M' H' ex l R' hok => ?_⟩
        obtain ⟨vs', e2, r2⟩ := lst_later R' ex lk hok
        refine ⟨fun p hp => ?_, fun hn hl => ⟨vs', .of e2, by rw [← r2.len]; exact Nat.le_of_eq hl.symm⟩⟩
        obtain ⟨x, hx, rx⟩ := r2.get hp
        refine ⟨⟨vs', x, .of e2, hx⟩, fun y H'' ⟨e3, e4⟩ => ?_⟩
        subst e3
        have := e4 vs' (.of e2)
        rw [hx] at this
        cases this
        exact ⟨.refl, R', rx⟩
      · exact w1.elim
    · exact w1.elim
theorem sm_iT (h : SmE tb E te fe) : SmI tb E (iTup K te) (fI itT fe) := fun ι M H σp σ Q R S w =>
  h.to R S w fun ι1 M1 H1 p v o S1 rv w1 => by
    unfold itT at w1
    split at w1
    · rename_i xs
      obtain ⟨a, vs, rfl, ha, ra⟩ := rv.tup_at
      refine ⟨a, rfl, ⟨vs, .of ha⟩, Wp.okNow w1 o.r fun i ι' M' H' ex l R' hok => ?_⟩
      have e2 := ex.t _ _ ha
      have r2 := ra.mono ex l
      refine ⟨fun p hp => ?_, fun hn hl => ⟨vs, .of e2, by rw [← r2.len]; exact Nat.le_of_eq hl.symm⟩⟩
      obtain ⟨x, hx, rx⟩ := r2.get hp
      refine ⟨⟨vs, x, .of e2, hx⟩, fun y H'' ⟨e3, e4⟩ => ?_⟩
      subst e3
      have := e4 vs (.of e2)
      rw [hx] at this
      cases this
      exact ⟨.refl, R', rx⟩
    · rename_i xs
      obtain ⟨a, vs, ob, rfl, ha, hd, ra⟩ := rv.tpb_at
      refine ⟨a, rfl, ⟨vs, .inl (.inr ⟨ob, ha⟩)⟩, Wp.okNow w1 o.r fun i ι' M' H' ex l R' hok => ?_⟩
      have e2 := ex.z _ _ _ ha
      have r2 := ra.mono ex l
      refine ⟨fun p hp => ?_, fun hn hl => ⟨vs, .inl (.inr ⟨ob, e2⟩), by rw [← r2.len]; exact Nat.le_of_eq hl.symm⟩⟩
      obtain ⟨x, hx, rx⟩ := r2.get hp
      refine ⟨⟨vs, x, .inl (.inr ⟨ob, e2⟩), hx⟩, fun y H'' ⟨e3, e4⟩ => ?_⟩
      subst e3
      have := e4 vs (.inl (.inr ⟨ob, e2⟩))
      rw [hx] at this
      cases this
      exact ⟨.refl, R', rx⟩
    · exact w1.elim
theorem sm_iS (h : SmE tb E te fe) : SmI tb E (iStr te) (fI itS fe) := fun ι M H σp σ Q R S w =>
  h.to R S w fun ι1 M1 H1 p v o S1 rv w1 => by
    unfold itS at w1
    split at w1
    · rename_i s
      refine ⟨tx s, rv.str, Wp.okNow w1 o.r fun i ι' M' H' ex l R' hok => ?_⟩
      have hsz : (tx s).cps.size = s.length := by show s.toArray.size = _; simp
      refine ⟨fun p hp => ?_, fun hn hl => ?_⟩
      · have li := (List.getElem?_eq_some_iff.mp hp).1
        simp only [List.length_map] at li
        refine ⟨by show i < (tx s).cps.size; omega, fun y H'' ⟨e3, c, hc, ey⟩ => ?_⟩
        subst e3 ey
        have hc : s[i]? = some c := by simpa using hc
        simp only [List.getElem?_map, hc, Option.map_some, Option.some.injEq] at hp
        subst hp
        exact ⟨.refl, R', .mk_str⟩
      · show (tx s).cps.size ≤ i
        rw [hsz]
        simp only [List.length_map] at hl
        omega
    · exact w1.elim
theorem upTo_get {lo : Int} {n i : Nat} {p : PV} (h : (upTo lo n)[i]? = some p) : i < n ∧ p = .int (lo + (i : Nat)) := by
  unfold upTo at h
  have li := (List.getElem?_eq_some_iff.mp h).1
  simp only [List.length_map, List.length_range] at li
  rw [List.getElem?_map, List.getElem?_range li] at h
  cases h
  exact ⟨li, rfl⟩
theorem upTo_len {lo : Int} {n : Nat} : (upTo lo n).length = n := by unfold upTo; simp
theorem rIt_rng {lo : Int} {n : Nat} : rIt tb ι N H ⟨upTo lo n, fun _ => True⟩ (Itr lo n) := fun i ι' M' H' ex l R' hok =>
  ⟨fun p hp => by
    obtain ⟨li, rfl⟩ := upTo_get hp
    refine ⟨li, fun y H'' ⟨e3, e4⟩ => ?_⟩
    subst e3 e4
    exact ⟨.refl, R', .mk_int⟩, fun hn hl => by
    show n ≤ i
    have : i = (upTo lo n).length := hl
    rw [upTo_len] at this
    omega⟩
theorem sm_iR1 (h : SmA tb E ta fa) : SmI tb E (iRng1 ta) (fIA itR1 fa) := fun ι M H σp σ Q R S w =>
  h.to R S w fun ι1 M1 H1 p v o S1 rv w1 => by
    unfold itR1 at w1
    split at w1
    · rename_i j
      split at w1
      · rename_i hj
        unfold Rvs at rv
        obtain ⟨x, r, rfl, rx, rr⟩ := rv
        unfold Rvs at rr
        subst rr
        exact ⟨j, by rw [rx.int], hj.1, hj.2, Wp.okNow w1 o.r rIt_rng⟩
      · exact w1.elim
    · exact w1.elim
theorem zip_get {xs ys : List PV} {i : Nat} {p : PV} (h : (zipP xs ys)[i]? = some p) : ∃ x y, xs[i]? = some x ∧ ys[i]? = some y ∧ p = .tup [x, y] := by
  unfold zipP at h
  rw [List.getElem?_map] at h
  cases e : (xs.zip ys)[i]? with
  | none => rw [e] at h; cases h
  | some x =>
    rw [e] at h
    simp only [Option.map_some, Option.some.injEq] at h
    have := List.getElem?_zip_eq_some.mp e
    exact ⟨x.1, x.2, this.1, this.2, h.symm⟩
theorem zip_len {xs ys : List PV} : (zipP xs ys).length = min xs.length ys.length := by unfold zipP; simp
theorem newPair {R' : RM tb ι' M' H'} {T : Addr} {p q : PV} {x y : V} (n : H' T = none) (rp : Rv ι' M'.length H' p x) (rq : Rv ι' M'.length H' q y) : Ex ι' ι' M'.length H' (upd H' T (.tup [x, y])) ∧ RM tb ι' M' (upd H' T (.tup [x, y])) ∧ Rv ι' M'.length (upd H' T (.tup [x, y])) (.tup [p, q]) (.ref T) :=
  ⟨ex_new n, R'.new n, .mk_tup upd_same (.cons (rp.mono (ex_new n) (Nat.le_refl _)) (.cons (rq.mono (ex_new n) (Nat.le_refl _)) .nil))⟩
end
/-! ### a dict locked while it is walked -/
end Pu
namespace Pu
open PySem PySem.Spec PyProof.Rows L2 LB
open Classical
/-! ### a def as a function -/
def fnRes : SR → Res PV
  | .nx _ M => .ok .non M
  | .rt p M => .ok p M
  | .exc x M => .exc x M
  | _ => .bad
abbrev FF := List PV → PM → Res PV
def startP (n : Nat) (as : List PV) : PS := as.map some ++ List.replicate (n - as.length) none
noncomputable def fnOf (k n : Nat) (B : FS) : FF := fun as M => if as.length = k then gc M (fnRes (B (startP n as) M)) else .bad
def spF (tb : List (Addr × Str)) (F : FF) : Sp := fun vs H Q E => ∃ ι M as, RM tb ι M H ∧ Rvs ι M.length H as vs ∧ Wp tb Rv ι M.length H (F as M) Q E
section
variable {tb : List (Addr × Str)} {E : XK} {B : FS} {k n : Nat}
theorem spF_len {vs : List V} {H : Hp} {Q : VK} (h : spF tb (fnOf k n B) vs H Q E) : vs.length = k := by
  obtain ⟨ι, M, as, R, r, w⟩ := h
  unfold fnOf at w
  split at w
  · rename_i e
    rw [← r.len]
    exact e
  · exact w.elim
theorem fn_sim {N : List Str} {vs : List V} {H : Hp} {Q : VK} {t : TS} (h : spF tb (fnOf k N.length B) vs H Q E) (s : SmS tb E t B) : t { nx := fun _ H' => Q .non H', rt := Q } (L2.start N vs) H := by
  obtain ⟨ι, M, as, R, r, w⟩ := h
  unfold fnOf at w
  split at w
  · have w := gc_ok (rel := Rv) R w
    refine s ι M H (startP N.length as) _ _ R ⟨?_, fun i p e => ?_⟩ ?_
    · unfold startP L2.start
      simp [r.len]
    · unfold startP at e
      unfold L2.start
      rcases Nat.lt_or_ge i as.length with h | h
      · rw [List.getElem?_append_left (by simpa using h), List.getElem?_map, List.getElem?_eq_getElem h] at e
        simp only [Option.map_some, Option.some.injEq] at e
        obtain ⟨v, hv, rv⟩ := r.get (by rw [List.getElem?_eq_getElem h, e] : as[i]? = some p)
        have h2 : i < vs.length := by rw [← r.len]; exact h
        refine ⟨v, ?_, rv⟩
        rw [List.getElem?_append_left (by simpa using h2), List.getElem?_map, hv]
        rfl
      · rw [List.getElem?_append_right (by simpa using h), List.getElem?_replicate] at e
        split at e <;> cases e
    · revert w
      cases B (startP N.length as) M with
      | nx s M1 => exact fun w ι1 H1 σ e l R1 S1 => w ι1 H1 .non e l R1 .mk_non
      | rt p M1 => exact fun w => w
      | bk s M1 => exact fun w => (w : False).elim
      | ct s M1 => exact fun w => (w : False).elim
      | exc x M1 => exact fun w => w
      | bad => exact fun w => (w : False).elim
  · exact w.elim
end
/-- a def that does what F says -/
abbrev FnP (P : Program) (w : World) (K : PySem.W.Frag) (mg : Str → Option Value) (base : Heap) (tb : List (Addr × Str)) (k : Nat) (f : Addr) (fd : FuncData) (ps : List Str) (F : FF) : Prop := FnOk P w K mg base (L2.CX P w) k f fd ps (spF tb F)
theorem FnP.of {P : Program} {w : World} {K : PySem.W.Frag} {mg : Str → Option Value} {base : Heap} {tb : List (Addr × Str)} {x qual : Str} {st : Stmt} {f : Addr} {fd : FuncData} {N ps : List Str} {k : Nat} {B : FS} (F : Fun K x qual st f fd) (S : FnScope N ps (defScope st))
    (hbody : ∀ (cdv : Value) (A : Around) (outer : List Env) (s : Shared) (H : Hp) (E : XK), Room k (A.deeper (envOfC qual (defScope st) s.heap.objs.size f cdv)) →
      ∃ t, PSs (cxOf (L2.CX P w) P w K mg base N qual (defScope st) f cdv A outer s H E) (defBody st) t ∧ SmS tb E t B) : FnP P w K mg base tb (k + 1) f fd ps (fnOf ps.length N.length B) :=
  F.okX S (fun vs H Q E h => spF_len h) fun cdv A outer s H vs Q E hr h => by
    obtain ⟨t, h1, h2⟩ := hbody cdv A outer s H E hr
    exact ⟨t, h1, fn_sim h h2⟩
theorem FnP.ofD {P : Program} {w : World} {K : PySem.W.Frag} {mg : Str → Option Value} {base : Heap} {tb : List (Addr × Str)} {x qual : Str} {params : Arguments} {body : List Stmt} {scope : Scope} {dvs : List V} {kws : List (Str × V)} {f : Addr} {fd : FuncData} {N ps : List Str} {k : Nat} {B : FS} (F : FunD K x qual params body scope dvs kws f fd) (S : FnScope N ps scope)
    (hbody : ∀ (cdv : Value) (A : Around) (outer : List Env) (s : Shared) (H : Hp) (E : XK), Room k (A.deeper (envOfC qual scope s.heap.objs.size f cdv)) →
      ∃ t, PSs (cxOf (L2.CX P w) P w K mg base N qual scope f cdv A outer s H E) body t ∧ SmS tb E t B) : FnP P w K mg base tb (k + 1) f fd ps (fnOf ps.length N.length B) :=
  F.ok S (fun vs H Q E h => spF_len h) fun cdv A outer s H vs Q E hr h => by
    obtain ⟨t, h1, h2⟩ := hbody cdv A outer s H E hr
    exact ⟨t, h1, fn_sim h h2⟩
/-! ### calls -/
def CVs (ps : List PV) (vs : List V) : Prop := ∀ ι N H, Rvs ι N H ps vs
theorem cvs_nil : CVs [] [] := fun _ _ _ => .nil
theorem cvs_cons {p : PV} {v : V} {ps : List PV} {vs : List V} (a : CV p v) (b : CVs ps vs) : CVs (p :: ps) (v :: vs) := fun ι N H => .cons (a ι N H) (b ι N H)
def fCall (F : FF) (das : List PV) (fr : FA) : FE := fun σ M => (fr σ M).bnd fun as M1 => F (as ++ das) M1
def fCallN (F : FF) (das : List PV) (fr : FA) : FE := fun σ M => (fr σ M).bnd fun as M1 => (F (as ++ das) M1).nox
def fCallK (F : FF) (g : List PV → List PV → List PV) (fr fk : FA) : FE := fun σ M => (fr σ M).bnd fun as M1 => (fk σ M1).bnd fun zs M2 => F (g as zs) M2
def fCallKN (F : FF) (g : List PV → List PV → List PV) (fr fk : FA) : FE := fun σ M => (fr σ M).bnd fun as M1 => (fk σ M1).bnd fun zs M2 => (F (g as zs) M2).nox
theorem wp_nox {tb : List (Addr × Str)} {E : XK} {ι : Nat → Addr} {n : Nat} {H : Hp} {r : Res PV} {Q : VK} (h : Wp tb Rv ι n H r.nox Q E) : Wp tb Rv ι n H r Q E0 := by
  cases r with
  | ok p M => exact h
  | exc x M => exact (h : False).elim
  | bad => exact h
/-! ### instances -/
theorem ofStr_inj {a b : String} (h : Str.ofString a = Str.ofString b) : a = b := by
  rw [Str.ofString_eq_toList, Str.ofString_eq_toList] at h
  have h2 : a.toList.map Char.toNat = b.toList.map Char.toNat := by simpa using congrArg (fun s : Str => s.cps.toList) h
  have : ∀ {x y : List Char}, x.map Char.toNat = y.map Char.toNat → x = y := by
    intro x
    induction x with
    | nil => intro y h; cases y with
      | nil => rfl
      | cons c r => cases h
    | cons c r ih =>
      intro y h
      cases y with
      | nil => cases h
      | cons d t =>
        rw [List.map_cons, List.map_cons] at h
        have := List.cons.inj h
        rw [Char.toNat_inj.mp this.1, ih this.2]
  exact String.toList_inj.mp (this h2)
def fldP (M : PM) (C : Addr) (f : String) (p : PV) : Option PV := match p with
  | .ref k => match M[k]? with
    | some (.ins C' fs) => if C' = C then fs.lookup f else none
    | _ => none
  | _ => none
def fFld (C : Addr) (f : String) (fa : FE) : FE := fun σ M => (fa σ M).bnd fun p M1 => match fldP M1 C f p with
  | some x => .ok x M1
  | none => .bad
def putS (f : String) (v : PV) : List (String × PV) → List (String × PV)
  | [] => [(f, v)]
  | (g, x) :: r => if g = f then (g, v) :: r else (g, x) :: putS f v r
def setF (M : PM) (C : Addr) (f : String) (p v : PV) : Option PM := match p with
  | .ref k => match M[k]? with
    | some (.ins C' fs) => if C' = C ∧ fs.length < 1000 then some (M.set k (.ins C (putS f v fs))) else none
    | _ => none
  | _ => none
def fSetF (C : Addr) (f : String) (fo fv : FE) : FS := fun σ M => (fv σ M).go fun y M1 => (fo σ M1).go fun o M2 => match setF M2 C f o y with
  | some M3 => .nx σ M3
  | none => .bad
/-- the receiver is an instance of C without an attribute m -/
def hasM (M : PM) (C : Addr) (m : String) (p : PV) : Bool := match p with
  | .ref k => match M[k]? with
    | some (.ins C' fs) => decide (C' = C) && (fs.lookup m).isNone
    | _ => false
  | _ => false
def fMeth (C : Addr) (m : String) (F : FF) (das : List PV) (fo : FE) (fr : FA) : FE := fun σ M => (fo σ M).bnd fun p M1 => if hasM M1 C m p = true then (fr σ M1).bnd fun as M2 => F (p :: (as ++ das)) M2 else .bad
def asN (n : Nat) (v : PV) (M2 : PM) : Res PV := match v with
  | .non => .ok (.ref n) M2
  | _ => .bad
def fMake (C : Addr) (F : FF) (das : List PV) (fr : FA) : FE := fun σ M => (fr σ M).bnd fun as M1 => (F (.ref M1.length :: (as ++ das)) (M1 ++ [.ins C []])).bnd (asN M1.length)
def fMakeN (C : Addr) (F : FF) (das : List PV) (fr : FA) : FE := fun σ M => (fr σ M).bnd fun as M1 => (F (.ref M1.length :: (as ++ das)) (M1 ++ [.ins C []])).nox.bnd (asN M1.length)
section
variable {tb : List (Addr × Str)} {E : XK} {K : PySem.W.Frag} {F : FF} {das : List PV} {dvs : List V} {t tk : TA} {fr fk' : FA} {ta tv : TE} {fa fv : FE} {ι : Nat → Addr} {N : Nat} {M : PM} {H : Hp} {C : Addr}
theorem sm_call (d : CVs das dvs) (h : SmA tb E t fr) : SmE tb E (tCall (spF tb F) dvs E t) (fCall F das fr) := fun ι M H σp σ Q R S w =>
  h.to R S w fun ι1 M1 H1 as vs o S1 rv w1 => ⟨ι1, M1, as ++ das, o.r, rv.app (d _ _ _), w1⟩
theorem sm_callN (d : CVs das dvs) (h : SmA tb E t fr) : SmE tb E (tCall (spF tb F) dvs E0 t) (fCallN F das fr) := fun ι M H σp σ Q R S w =>
  h.to R S w fun ι1 M1 H1 as vs o S1 rv w1 => ⟨ι1, M1, as ++ das, o.r, rv.app (d _ _ _), wp_nox w1⟩
theorem sm_callK {g : List PV → List PV → List PV} {gV : List V → List V → List V} (hg : ∀ ι N H a b va vb, Rvs ι N H a va → Rvs ι N H b vb → Rvs ι N H (g a b) (gV va vb)) (h : SmA tb E t fr) (hk : SmA tb E tk fk') : SmE tb E (tCallK (spF tb F) gV E t tk) (fCallK F g fr fk') := fun ι M H σp σ Q R S w =>
  h.to R S w fun ι1 M1 H1 as vs o S1 rv w1 => hk.to o.r S1 w1 fun ι2 M2 H2 zs us o2 S2 ru w2 => ⟨ι2, M2, g as zs, o2.r, hg _ _ _ _ _ _ _ (rv.mono o2.e o2.l) ru, w2⟩
theorem sm_callKN {g : List PV → List PV → List PV} {gV : List V → List V → List V} (hg : ∀ ι N H a b va vb, Rvs ι N H a va → Rvs ι N H b vb → Rvs ι N H (g a b) (gV va vb)) (h : SmA tb E t fr) (hk : SmA tb E tk fk') : SmE tb E (tCallK (spF tb F) gV E0 t tk) (fCallKN F g fr fk') := fun ι M H σp σ Q R S w =>
  h.to R S w fun ι1 M1 H1 as vs o S1 rv w1 => hk.to o.r S1 w1 fun ι2 M2 H2 zs us o2 S2 ru w2 => ⟨ι2, M2, g as zs, o2.r, hg _ _ _ _ _ _ _ (rv.mono o2.e o2.l) ru, wp_nox w2⟩
theorem look_rel {fs : List (String × PV)} {fw : List (Str × V)} (r : Paired (Rk fF ι N H) fs fw) (f : String) : (∀ x, fs.lookup f = some x → ∃ v, fw.lookup (Str.ofString f) = some v ∧ Rv ι N H x v) ∧ (fs.lookup f = none → fw.lookup (Str.ofString f) = none) := by
  induction r with
  | nil => exact ⟨fun x h => (by cases h), fun _ => rfl⟩
  | @cons p q ps qs a b ih =>
    obtain ⟨g, y⟩ := p
    obtain ⟨gs, yv⟩ := q
    obtain ⟨e, ry⟩ := a
    have e : Str.ofString g = gs := e
    subst e
    rw [List.lookup_cons, List.lookup_cons]
    by_cases hf : f = g
    · subst hf
      simp only [beq_self_eq_true]
      exact ⟨fun x h => (by cases h; exact ⟨yv, rfl, ry⟩), fun h => (by cases h)⟩
    · have h1 : (f == g) = false := by simpa using hf
      have h2 : (Str.ofString f == Str.ofString g) = false := by
        rw [beq_eq_false_iff_ne]
        exact fun z => hf (ofStr_inj z)
      rw [h1, h2]
      exact ih
theorem put_F {fs : List (String × PV)} {fw : List (Str × V)} (r : Paired (Rk fF ι N H) fs fw) (f : String) {x : PV} {v : V} (rx : Rv ι N H x v) : Paired (Rk fF ι N H) (putS f x fs) (putF (Str.ofString f) v fw) := by
  induction r with
  | nil => exact .cons ⟨rfl, rx⟩ .nil
  | @cons p q ps qs a b ih =>
    obtain ⟨g, y⟩ := p
    obtain ⟨gs, yv⟩ := q
    obtain ⟨e, ry⟩ := a
    have e : Str.ofString g = gs := e
    subst e
    unfold putS putF
    by_cases hf : g = f
    · subst hf
      rw [if_pos rfl, if_pos rfl]
      exact .cons ⟨rfl, rx⟩ b
    · rw [if_neg hf, if_neg fun z => hf (ofStr_inj z)]
      exact .cons ⟨rfl, ry⟩ ih
theorem sm_fld {f : String} (cl : Cls K C) (no : NoAttr K C (Str.ofString f)) (h : SmE tb E ta fa) : SmE tb E (tFld K ta (Str.ofString f)) (fFld C f fa) := fun ι M H σp σ Q R S w =>
  h.to R S w fun ι1 M1 H1 p v o S1 rv w1 => by
    split at w1
    · rename_i x e
      unfold fldP at e
      split at e
      · rename_i k
        split at e
        · rename_i C' fs ek
          split at e
          · rename_i ec
            subst ec
            obtain ⟨lk, rfl⟩ := rv.ref_at
            obtain ⟨dx, fw, e1, rf⟩ := o.r.obj k _ ek
            obtain ⟨y, ey, ry⟩ := (look_rel rf f).1 x e
            exact ⟨ι1 k, C', dx, fw, y, rfl, e1, cl, no, ey, Wp.okNow w1 o.r ry⟩
          · cases e
        · cases e
      · cases e
    · exact w1.elim
theorem sm_setF {f : String} (cl : Cls K C) (no : NoAttr K C (Str.ofString f)) (ho : SmE tb E ta fa) (hv : SmE tb E tv fv) : SmS tb E (sFld K ta tv (Str.ofString f)) (fSetF C f fa fv) := fun ι M H σp σ D R S w =>
  hv.go R S w fun ι1 M1 H1 y yv o S1 ry w1 => ho.go o.r S1 w1 fun ι2 M2 H2 p v o2 S2 rp w2 => by
    split at w2
    · rename_i M3 e
      unfold setF at e
      split at e
      · rename_i k
        split at e
        · rename_i C' fs ek
          split at e
          · rename_i ec
            obtain ⟨ec, hl⟩ := ec
            subst ec
            cases e
            obtain ⟨lk, rfl⟩ := rp.ref_at
            obtain ⟨dx, fw, e1, rf⟩ := o2.r.obj k _ ek
            have hz : ∀ o u, H2 (ι2 k) ≠ some (.frz o u) := fun o u z => by rw [e1] at z; cases z
            have ex : Ex ι2 ι2 M2.length H2 (upd H2 (ι2 k) (.ins C' dx (putF (Str.ofString f) yv fw))) := ex_chg o2.r lk hz
            have R3 := o2.r.chg (o := .ins C' (putS f y fs)) (x := .ins C' dx (putF (Str.ofString f) yv fw)) lk hz ⟨dx, _, upd_same, Paired.mapP (put_F rf f (ry.mono o2.e o2.l)) fun _ _ q => ⟨q.1, q.2.mono ex (Nat.le_refl _)⟩⟩
            refine ⟨ι2 k, C', dx, fw, rfl, e1, cl, no, by rw [← Paired.length rf]; exact hl, w2 ι2 _ σ ex (by rw [List.length_set]; exact Nat.le_refl _) R3 ?_⟩
            rw [List.length_set]
            exact S2.mono ex (Nat.le_refl _)
          · cases e
        · cases e
      · cases e
    · exact w2.elim
theorem hasM_at {m : String} {p : PV} {v : V} (R : RM tb ι M H) (rv : Rv ι M.length H p v) (h : hasM M C m p = true) : ∃ a dx fs, v = .ref a ∧ H a = some (.ins C dx fs) ∧ fs.lookup (Str.ofString m) = none := by
  unfold hasM at h
  split at h
  · rename_i k
    split at h
    · rename_i C' fs ek
      rw [Bool.and_eq_true] at h
      obtain ⟨h1, h2⟩ := h
      have h1 := of_decide_eq_true h1
      subst h1
      obtain ⟨lk, rfl⟩ := rv.ref_at
      obtain ⟨dx, fw, e1, rf⟩ := R.obj k _ ek
      exact ⟨ι k, dx, fw, rfl, e1, (look_rel rf m).2 (by simpa using h2)⟩
    · cases h
  · cases h
theorem sm_meth {m : String} (d : CVs das dvs) (ho : SmE tb E ta fa) (h : SmA tb E t fr) : SmE tb E (tMeth C (Str.ofString m) (spF tb F) dvs E ta t) (fMeth C m F das fa fr) := fun ι M H σp σ Q R S w =>
  ho.to R S w fun ι1 M1 H1 p v o S1 rv w1 => by
    split at w1
    · rename_i hm
      obtain ⟨a, dx, fs, e1, e2, e3⟩ := hasM_at o.r rv hm
      exact ⟨a, dx, fs, e1, e2, e3, h.to o.r S1 w1 fun ι2 M2 H2 as vs o2 S2 ra w2 => ⟨ι2, M2, p :: (as ++ das), o2.r, .cons (rv.mono o2.e o2.l) (ra.app (d _ _ _)), w2⟩⟩
    · exact w1.elim
theorem make_ok {as : List PV} {vs : List V} {Q : VK} {r : FF} (R : RM tb ι M H) (ra : Rvs ι M.length H as vs) (d : CVs das dvs) (E' : XK)
    (w : ∀ ι1 x dx, Ex ι ι1 M.length H (upd (upd H dx (.own x)) x (.ins C dx [])) → Wp tb Rv ι1 (M.length + 1) (upd (upd H dx (.own x)) x (.ins C dx [])) (r (.ref M.length :: (as ++ das)) (M ++ [.ins C []])) (fun v H2 => v = .non ∧ Q (.ref (ι1 M.length)) H2) E') :
    ∀ x dx, H x = none → H dx = none → dx ≠ x → spF tb r (.ref x :: (vs ++ dvs)) (upd (upd H dx (.own x)) x (.ins C dx [])) (fun v H2 => v = .non ∧ Q (.ref x) H2) E' := fun x dx nx nd ne => by
  have nx2 : upd H dx (.own x) x = none := (upd_ne (Ne.symm ne)).trans nx
  have e1 : Ex ι ι M.length H (upd H dx (.own x)) := ex_new nd
  have R1 : RM tb ι M (upd H dx (.own x)) := R.new nd
  have e2 : Ex ι (ext ι M.length x) M.length (upd H dx (.own x)) (upd (upd H dx (.own x)) x (.ins C dx [])) := ex_ext nx2
  have R2 : RM tb (ext ι M.length x) (M ++ [.ins C []]) (upd (upd H dx (.own x)) x (.ins C dx [])) := R1.push (o := .ins C []) nx2 ⟨dx, [], upd_same, .nil⟩
  have ex := e1.trans e2 (Nat.le_refl _)
  have l0 : (M ++ [PO.ins C []]).length = M.length + 1 := by simp
  refine ⟨ext ι M.length x, _, .ref M.length :: (as ++ das), R2, .cons ?_ ((ra.mono ex (by omega)).app (d _ _ _)), ?_⟩
  · have := Rv.mk_ref (ι := ext ι M.length x) (N := (M ++ [PO.ins C []]).length) (H := upd (upd H dx (.own x)) x (.ins C dx [])) (k := M.length) (by omega)
    rw [ext_same] at this
    exact this
  · have := w (ext ι M.length x) x dx ex
    rw [ext_same] at this
    rw [l0]
    exact this
theorem make_end {ι1 : Nat → Addr} {Q : VK} {r : Res PV} {E' : XK} {H1 : Hp} (ex : Ex ι ι1 M.length H H1) (w : Wp tb Rv ι M.length H (r.bnd (asN M.length)) Q E') : Wp tb Rv ι1 (M.length + 1) H1 r (fun v H2 => v = .non ∧ Q (.ref (ι1 M.length)) H2) E' := by
  cases r with
  | bad => exact w
  | exc x M2 => exact fun ι2 H2 d e l R2 hd => w ι2 H2 d (ex.trans e (by omega)) (by omega) R2 hd
  | ok p M2 =>
    intro ι2 H2 v e l R2 rv
    have w : Wp tb Rv ι M.length H (asN M.length p M2) Q E' := w
    unfold asN at w
    split at w
    · refine ⟨rv.non, w ι2 H2 _ (ex.trans e (by omega)) (by omega) R2 ?_⟩
      have := Rv.mk_ref (ι := ι2) (N := M2.length) (H := H2) (k := M.length) (by omega)
      rw [e.i _ (Nat.lt_succ_self _)] at this
      exact this
    · exact w.elim
theorem sm_make (d : CVs das dvs) (h : SmA tb E t fr) : SmE tb E (tMake C (spF tb F) dvs E t) (fMake C F das fr) := fun ι M H σp σ Q R S w =>
  h.to R S w fun ι1 M1 H1 as vs o S1 ra w1 => make_ok o.r ra d E fun ι2 x dx ex => make_end ex w1
end
/-! ### refusals -/
abbrev xdOf' (n : Int) (w : Str) : List (Str × V) := [(Str.ofString "at", .int n), (Str.ofString "word", .str w)]
def spErr (K : PySem.W.Frag) (w : Str) : Sp := fun vs H Q _ => ∃ (a C : Addr) (n : Int), vs = [.ref a, .int n] ∧ OexC K C ∧ PySem.W.findIn K (.ref C) "word" = some none ∧ PySem.W.findIn K (.ref C) "at" = some none ∧ H a = some (exo a C none) ∧ (n < 0 ∨ (0 ≤ n ∧ n < 512)) ∧ n.natAbs.log2 < 1920 ∧
  ∀ d, H d = none → d ≠ a → Q .non (upd (upd (upd H d (exd d [(Str.ofString "word", .str w)])) a (exo a C (some d))) d (exd d (xdOf' n w)))
theorem exc_heap' {H : Hp} {a d : Addr} {x0 x1 x2 x3 o : HO} (ha : H a = none) (da : d ≠ a) : upd (del (upd (upd (upd (upd H a x0) d x1) a x2) d x3) a) d o = upd H d o := by
  funext b
  by_cases hd : b = d
  · subst hd
    rw [upd_same, upd_same]
  · rw [upd_ne hd, upd_ne hd]
    by_cases hb : b = a
    · subst hb
      rw [del_same, ha]
    · rw [del_ne hb, upd_ne hd, upd_ne hb, upd_ne hd, upd_ne hb]
def fRaise (C : Addr) (w : Str) (das : List PV) (fr : FA) : FS := fun σ M => (fr σ M).go fun as M1 => match as ++ das with
  | [.int n] => if -1000 ≤ n ∧ n < 512 then .exc ⟨C, w, n⟩ M1 else .bad
  | _ => .bad
theorem sm_raise {tb : List (Addr × Str)} {E : XK} {K : PySem.W.Frag} {C : Addr} {w : Str} {das : List PV} {dvs : List V} {t : TA} {fr : FA} (oc : OexC K C) (nw : PySem.W.findIn K (.ref C) "word" = some none) (na : PySem.W.findIn K (.ref C) "at" = some none) (d : CVs das dvs) (h : SmA tb E t fr) :
    SmS tb E (fun _ σ H => tMkO C (spErr K w) dvs t σ H fun cls d H' => E cls d H') (fRaise C w das fr) := fun ι M H σp σ D R S w0 => by
  refine h ι M H σp σ _ R S (Wp.mono (Wp.go w0) fun vs H1 ⟨ι1, M1, as, o, ra, w1⟩ => ?_)
  have rr := ra.app (d ι1 M1.length H1)
  split at w1
  · rename_i n e
    split at w1
    · rename_i hn
      rw [e] at rr
      unfold Rvs at rr
      obtain ⟨x, r, ev, rx, rr⟩ := rr
      unfold Rvs at rr
      subst rr
      have ex := rx.int
      subst ex
      refine ⟨by
        have := congrArg List.length ev
        rw [List.length_append] at this
        simp only [List.length_cons, List.length_nil] at this
        omega, fun a ha => ?_⟩
      rw [ev]
      have ln : n.natAbs.log2 < 1920 := by
        rcases Nat.eq_zero_or_pos n.natAbs with z | z
        · rw [z]
          decide
        · rw [Nat.log2_lt (by omega)]
          exact Nat.lt_of_lt_of_le (show n.natAbs < 2 ^ 10 by omega) (Nat.pow_le_pow_right (by decide) (by decide))
      refine ⟨a, C, n, rfl, oc, nw, na, upd_same, by omega, ln, fun dd nd nda => ⟨rfl, dd, _, (upd_ne nda.symm).trans upd_same, upd_same, ?_, ?_⟩⟩
      · rw [upd_ne nda] at nd
        exact nd
      · rw [exc_heap' ha nda]
        rw [upd_ne nda] at nd
        exact w1 ι1 _ dd (ex_new nd) (Nat.le_refl _) (o.r.new nd) upd_same
    · exact w1.elim
  · exact w1.elim
end Pu
namespace Pu
open PySem PySem.Spec PyProof.Rows L2 LB
open Classical
def asStrs : List PV → Option (List (List Nat))
  | [] => some []
  | .str s :: r => (asStrs r).map (s :: ·)
  | _ :: _ => none
def asInts : List PV → Option (List Int)
  | [] => some []
  | .int s :: r => (asInts r).map (s :: ·)
  | _ :: _ => none
def asBls : List PV → Option (List Bool)
  | [] => some []
  | .bl s :: r => (asBls r).map (s :: ·)
  | _ :: _ => none
theorem asStrs_map (ys : List (List Nat)) : asStrs (ys.map PV.str) = some ys := by
  induction ys with
  | nil => rfl
  | cons y r ih => simp [asStrs, ih]
theorem asInts_map (ys : List Int) : asInts (ys.map PV.int) = some ys := by
  induction ys with
  | nil => rfl
  | cons y r ih => simp [asInts, ih]
theorem asBls_map (ys : List Bool) : asBls (ys.map PV.bl) = some ys := by
  induction ys with
  | nil => rfl
  | cons y r ih => simp [asBls, ih]
section
variable {ι : Nat → Addr} {N : Nat} {H : Hp}
theorem asStrs_rel : ∀ {ps : List PV} {ys : List (List Nat)} {vs : List V}, asStrs ps = some ys → Rvs ι N H ps vs → vs = (ys.map tx).map V.str
  | [], _, _, e, r => by cases e; unfold Rvs at r; exact r
  | p :: ps, ys, _, e, r => by
    cases p <;> first | (cases e; done) | skip
    unfold asStrs at e
    cases e2 : asStrs ps with
    | none => rw [e2] at e; cases e
    | some zs =>
      rw [e2] at e
      cases e
      unfold Rvs at r
      obtain ⟨v, w, rfl, r1, r2⟩ := r
      rw [r1.str, asStrs_rel e2 r2]
      rfl
theorem asInts_rel : ∀ {ps : List PV} {ys : List Int} {vs : List V}, asInts ps = some ys → Rvs ι N H ps vs → vs = ys.map V.int
  | [], _, _, e, r => by cases e; unfold Rvs at r; exact r
  | p :: ps, ys, _, e, r => by
    cases p <;> first | (cases e; done) | skip
    unfold asInts at e
    cases e2 : asInts ps with
    | none => rw [e2] at e; cases e
    | some zs =>
      rw [e2] at e
      cases e
      unfold Rvs at r
      obtain ⟨v, w, rfl, r1, r2⟩ := r
      rw [r1.int, asInts_rel e2 r2]
      rfl
theorem asBls_rel : ∀ {ps : List PV} {ys : List Bool} {vs : List V}, asBls ps = some ys → Rvs ι N H ps vs → vs = ys.map V.bl
  | [], _, _, e, r => by cases e; unfold Rvs at r; exact r
  | p :: ps, ys, _, e, r => by
    cases p <;> first | (cases e; done) | skip
    unfold asBls at e
    cases e2 : asBls ps with
    | none => rw [e2] at e; cases e
    | some zs =>
      rw [e2] at e
      cases e
      unfold Rvs at r
      obtain ⟨v, w, rfl, r1, r2⟩ := r
      rw [r1.bl, asBls_rel e2 r2]
      rfl
theorem strs_rvs : ∀ {ys : List (List Nat)}, Rvs ι N H (ys.map PV.str) ((ys.map tx).map V.str)
  | [] => .nil
  | y :: r => .cons .mk_str strs_rvs
end
/-! ### built-ins -/
def fB (g : List PV → PM → Res PV) (fr : FA) : FE := fun σ M => (fr σ M).bnd g
/-- a list's or a tuple's items -/
def seqAt (M : PM) (p : PV) : Option (List PV) := match p with
  | .tup xs => some xs
  | _ => lstAt M p
def bLen (as : List PV) (M : PM) : Res PV := match as with
  | [p] => match seqAt M p with
    | some xs => .ok (.int (xs.length : Nat)) M
    | none => .bad
  | _ => .bad
def bLenS (as : List PV) (M : PM) : Res PV := match as with
  | [.str s] => if s.length ≤ lim then .ok (.int (s.length : Nat)) M else .bad
  | _ => .bad
def bAll (as : List PV) (M : PM) : Res PV := match as with
  | [p] => match (lstAt M p).bind asBls with
    | some bs => .ok (.bl (bs.all id)) M
    | none => .bad
  | _ => .bad
def bAny (as : List PV) (M : PM) : Res PV := match as with
  | [p] => match (lstAt M p).bind asBls with
    | some bs => .ok (.bl (bs.any id)) M
    | none => .bad
  | _ => .bad
def bSum (as : List PV) (M : PM) : Res PV := match as with
  | [p] => match (lstAt M p).bind asInts with
    | some ns => .ok (.int ns.sum) M
    | none => .bad
  | _ => .bad
def bTup (as : List PV) (M : PM) : Res PV := match as with
  | [p] => match seqAt M p with
    | some xs => .ok (.tup xs) M
    | none => .bad
  | _ => .bad
def bLst (as : List PV) (M : PM) : Res PV := match as with
  | [p] => match seqAt M p with
    | some xs => .ok (.ref M.length) (M ++ [.lst xs])
    | none => .bad
  | _ => .bad
def bInt (as : List PV) (M : PM) : Res PV := match as with
  | [.int i] => .ok (.int i) M
  | [.bl b] => .ok (.int (if b then 1 else 0)) M
  | _ => .bad
section
variable {tb : List (Addr × Str)} {E : XK} {K : PySem.W.Frag} {r : List V → Hp → VK → Prop} {g : List PV → PM → Res PV} {t : TA} {fr : FA} {ι : Nat → Addr} {M : PM} {H : Hp}
theorem sm_B (hr : SmL tb E r g) (h : SmA tb E t fr) : SmE tb E (tCB r t) (fB g fr) := fun ι M H σp σ Q R S w =>
  h.to R S w fun ι1 M1 H1 as vs o S1 ra w1 => hr ι1 M1 H1 as vs Q o.r ra w1
theorem rvs1 {p : PV} {vs : List V} {n : Nat} (r : Rvs ι n H [p] vs) : ∃ v, vs = [v] ∧ Rv ι n H p v := by
  unfold Rvs at r
  obtain ⟨v, w, rfl, r1, r2⟩ := r
  unfold Rvs at r2
  subst r2
  exact ⟨v, rfl, r1⟩
theorem rvs2 {p q : PV} {vs : List V} {n : Nat} (r : Rvs ι n H [p, q] vs) : ∃ v u, vs = [v, u] ∧ Rv ι n H p v ∧ Rv ι n H q u := by
  unfold Rvs at r
  obtain ⟨v, w, rfl, r1, r2⟩ := r
  obtain ⟨u, rfl, r3⟩ := rvs1 r2
  exact ⟨v, u, rfl, r1, r3⟩
theorem seq_at {p : PV} {xs : List PV} {v : V} (R : RM tb ι M H) (rp : Rv ι M.length H p v) (e : seqAt M p = some xs) : ∃ a vs, v = .ref a ∧ Rvs ι M.length H xs vs ∧ ((H a = some (.lst vs) ∧ lstAt M p = some xs) ∨ (H a = some (.tup vs) ∧ p = .tup xs)) := by
  cases p with
  | tup ys =>
    cases e
    obtain ⟨a, vs, rfl, ha, ra⟩ := rp.tup_at
    exact ⟨a, vs, rfl, ra, .inr ⟨ha, rfl⟩⟩
  | ref k =>
    have e : lstAt M (.ref k) = some xs := e
    obtain ⟨k', vs, h1, lk, rfl, ha, ra⟩ := lst_at R e rp
    exact ⟨_, vs, rfl, ra, .inl ⟨ha, e⟩⟩
  | non => cases e
  | bl _ => cases e
  | int _ => cases e
  | str _ => cases e
  | ty _ => cases e
  | adr _ => cases e
  | tpb _ => cases e
theorem sb_len : SmL tb E (fun xs H Q => ∃ p ys, xs = [.ref p] ∧ (SqL K H p ys ∨ SqT K H p ys) ∧ Q (.int (ys.length : Nat)) H) bLen := by
  intro ι M H ps xs Q R rs h
  unfold bLen at h
  split at h
  · split at h
    · rename_i p ys e
      obtain ⟨v, rfl, rv⟩ := rvs1 rs
      obtain ⟨a, vs, rfl, ra, hh⟩ := seq_at R rv e
      refine ⟨a, vs, rfl, hh.imp (fun z => .of z.1) (fun z => .of z.1), ?_⟩
      rw [← ra.len]
      exact h.okNow R .mk_int
    · exact h.elim
  · exact h.elim
theorem sb_lenS : SmL tb E (fun xs H Q => ∃ z, xs = [.str z] ∧ z.length ≤ sizeLine ∧ Q (.int (z.length : Nat)) H) bLenS := by
  intro ι M H ps xs Q R rs h
  unfold bLenS at h
  split at h
  · split at h
    · rename_i s hl
      obtain ⟨v, rfl, rv⟩ := rvs1 rs
      refine ⟨tx s, by rw [rv.str], by rw [tx_len]; exact lim_le hl, ?_⟩
      rw [tx_len]
      exact h.okNow R .mk_int
    · exact h.elim
  · exact h.elim
theorem bind_at {p : PV} {α : Type} {f : List PV → Option α} {b : α} (e : (lstAt M p).bind f = some b) : ∃ xs, lstAt M p = some xs ∧ f xs = some b := by
  cases h : lstAt M p with
  | none => rw [h] at e; cases e
  | some xs => rw [h] at e; exact ⟨xs, rfl, e⟩
theorem sb_all : SmL tb E (rAll K) bAll := by
  intro ι M H ps xs Q R rs h
  unfold bAll at h
  split at h
  · split at h
    · rename_i p bs e
      obtain ⟨v, rfl, rv⟩ := rvs1 rs
      obtain ⟨ys, e1, e2⟩ := bind_at e
      obtain ⟨k, vs, rfl, lk, rfl, ha, ra⟩ := lst_at R e1 rv
      refine ⟨_, bs, rfl, ?_, h.okNow R .mk_bl⟩
      rw [← asBls_rel e2 ra]
      exact .of ha
    · exact h.elim
  · exact h.elim
theorem sb_lst : SmL tb E (fun xs H Q => ∃ p ys, xs = [.ref p] ∧ (SqL K H p ys ∨ SqT K H p ys) ∧ ∀ l, H l = none → Q (.ref l) (upd H l (.lst ys))) bLst := by
  intro ι M H ps xs Q R rs h
  unfold bLst at h
  split at h
  · split at h
    · rename_i p ys e
      obtain ⟨v, rfl, rv⟩ := rvs1 rs
      obtain ⟨a, vs, rfl, ra, hh⟩ := seq_at R rv e
      exact ⟨a, vs, rfl, hh.imp (fun z => .of z.1) (fun z => .of z.1), fun l nl => okLst h R ra nl⟩
    · exact h.elim
  · exact h.elim
theorem sb_int : SmL tb E (fun xs H Q => (∃ i, xs = [.int i] ∧ Q (.int i) H) ∨ ∃ k, xs = [.bl k] ∧ Q (.int (if k then 1 else 0)) H) bInt := by
  intro ι M H ps xs Q R rs h
  unfold bInt at h
  split at h
  · obtain ⟨v, rfl, rv⟩ := rvs1 rs
    exact .inl ⟨_, by rw [rv.int], h.okNow R .mk_int⟩
  · obtain ⟨v, rfl, rv⟩ := rvs1 rs
    exact .inr ⟨_, by rw [rv.bl], h.okNow R .mk_int⟩
  · exact h.elim
end
/-! ### methods -/
def SmM (tb : List (Addr × Str)) (E : XK) (r : V → List V → Hp → VK → Prop) (g : PV → List PV → PM → Res PV) : Prop := ∀ ι M H p as x vs Q, RM tb ι M H → Rv ι M.length H p x → Rvs ι M.length H as vs → Wp tb Rv ι M.length H (g p as M) Q E → r x vs H Q
def isTyP (M : PM) (T : String) (p : PV) : Bool := match p with
  | .str _ => T == "str"
  | .ref k => match M[k]? with
    | some (.lst _) => T == "list"
    | some (.dct _) => T == "dict"
    | some (.dtt _) => T == "dict"
    | _ => false
  | _ => false
def fBM (T : String) (g : PV → List PV → PM → Res PV) (fo : FE) (fr : FA) : FE := fun σ M => (fo σ M).bnd fun p M1 => if isTyP M1 T p = true then (fr σ M1).bnd fun as M2 => g p as M2 else .bad
def fBM0 (T : String) (g : PV → List PV → PM → Res PV) (fo : FE) : FE := fun σ M => (fo σ M).bnd fun p M1 => if isTyP M1 T p = true then g p [] M1 else .bad
def isS : PV → Bool
  | .str _ => true
  | _ => false
def fM1 (g : PV → List PV → PM → Res PV) (fo fe : FE) : FE := fun σ M => (fo σ M).bnd fun p M1 => if isS p = true then (fe σ M1).bnd fun y M2 => g p [y] M2 else .bad
/-- a list changed -/
def chL (p : PV) (M : PM) (f : List PV → Option (PV × List PV)) : Res PV := match p with
  | .ref k => match M[k]? with
    | some (.lst xs) => match f xs with
      | some (v, ys) => .ok v (M.set k (.lst ys))
      | none => .bad
    | _ => .bad
  | _ => .bad
def mAppend (p : PV) (as : List PV) (M : PM) : Res PV := match as with
  | [y] => chL p M fun xs => if xs.length < lim then some (.non, xs ++ [y]) else none
  | _ => .bad
def mExtend (p : PV) (as : List PV) (M : PM) : Res PV := match as with
  | [q] => match lstAt M q with
    | some zs => chL p M fun xs => if xs.length + zs.length ≤ lim then some (.non, xs ++ zs) else none
    | none => .bad
  | _ => .bad
def mFind3 (p : PV) (as : List PV) (M : PM) : Res PV := match p, as with
  | .str a, [.str b, .int i] => .ok (.int (Txt.find3 (tx a) (tx b) i)) M
  | _, _ => .bad
def joinT (a : List Nat) (ys : List (List Nat)) : List Nat := (Txt.join (tx a) (ys.map tx)).cps.toList
def mJoin (p : PV) (as : List PV) (M : PM) : Res PV := match p, as with
  | .str a, [q] => match (seqAt M q).bind asStrs with
    | some ys => if (ys.map List.length).sum + ys.length * a.length ≤ lim then .ok (.str (joinT a ys)) M else .bad
    | none => .bad
  | _, _ => .bad
section
variable {tb : List (Addr × Str)} {E : XK} {K : PySem.W.Frag} {r : V → List V → Hp → VK → Prop} {g : PV → List PV → PM → Res PV} {t : TA} {fr : FA} {to te : TE} {fo fe : FE} {ι : Nat → Addr} {M : PM} {H : Hp}
theorem ty_at {T : String} {p : PV} {v : V} (R : RM tb ι M H) (rp : Rv ι M.length H p v) (h : isTyP M T p = true) : tyV K T v H := by
  unfold isTyP at h
  split at h
  · have e : v = V.str _ := rp.str
    subst e
    exact eq_of_beq h
  · rename_i k
    obtain ⟨lk, rfl⟩ := rp.ref_at
    split at h
    · rename_i xs e
      obtain ⟨vs, e1, _⟩ := R.obj k _ e
      exact .inl ⟨eq_of_beq h, vs, .of e1⟩
    · rename_i xs e
      obtain ⟨vs, e1, _⟩ := R.obj k _ e
      exact .inr (.inr (.inl ⟨eq_of_beq h, .inl ⟨vs, e1⟩⟩))
    · rename_i xs e
      obtain ⟨vs, e1, _⟩ := R.obj k _ e
      exact .inr (.inr (.inl ⟨eq_of_beq h, .inr ⟨vs, e1⟩⟩))
    · cases h
  · cases h
theorem sm_BM {T : String} (hr : SmM tb E r g) (ho : SmE tb E to fo) (h : SmA tb E t fr) : SmE tb E (tBM K T r to t) (fBM T g fo fr) := fun ι M H σp σ Q R S w =>
  ho.to R S w fun ι1 M1 H1 p v o S1 rv w1 => by
    split at w1
    · rename_i hp
      exact ⟨ty_at o.r rv hp, h.to o.r S1 w1 fun ι2 M2 H2 as vs o2 S2 ra w2 => hr ι2 M2 H2 p as v vs Q o2.r (rv.mono o2.e o2.l) ra w2⟩
    · exact w1.elim
theorem sm_M1 (hr : SmM tb E r g) (ho : SmE tb E to fo) (h : SmE tb E te fe) : SmE tb E (tM1 r to te) (fM1 g fo fe) := fun ι M H σp σ Q R S w =>
  ho.to R S w fun ι1 M1 H1 p v o S1 rv w1 => by
    split at w1
    · rename_i hp
      cases p <;> first | (cases hp; done) | skip
      rename_i s
      exact ⟨⟨_, rv.str⟩, h.to o.r S1 w1 fun ι2 M2 H2 y yv o2 S2 ry w2 => hr ι2 M2 H2 _ [y] v [yv] Q o2.r (rv.mono o2.e o2.l) (.cons ry .nil) w2⟩
    · exact w1.elim
theorem chL_ok {p : PV} {v : V} {f : List PV → Option (PV × List PV)} {Q : VK} (R : RM tb ι M H) (rp : Rv ι M.length H p v) (w : Wp tb Rv ι M.length H (chL p M f) Q E) :
    ∃ k xs vs q ys, p = .ref k ∧ v = .ref (ι k) ∧ M[k]? = some (.lst xs) ∧ H (ι k) = some (.lst vs) ∧ Rvs ι M.length H xs vs ∧ f xs = some (q, ys) ∧ ∀ qv ws, Rv ι M.length H q qv → Rvs ι M.length H ys ws → Q qv (upd H (ι k) (.lst ws)) := by
  unfold chL at w
  split at w
  · rename_i k
    split at w
    · rename_i xs e
      split at w
      · rename_i q ys ef
        obtain ⟨lk, rfl⟩ := rp.ref_at
        obtain ⟨vs, e1, r1⟩ := R.obj k _ e
        refine ⟨k, xs, vs, q, ys, rfl, rfl, e, e1, r1, ef, fun qv ws rq rw' => ?_⟩
        have hz : ∀ o u, H (ι k) ≠ some (.frz o u) := fun o u z => by rw [e1] at z; cases z
        have ex : Ex ι ι M.length H (upd H (ι k) (.lst ws)) := ex_chg R lk hz
        have R3 := R.chg (o := .lst ys) (x := .lst ws) lk hz ⟨ws, upd_same, rw'.mono ex (Nat.le_refl _)⟩
        refine w ι _ qv ex (by rw [List.length_set]; exact Nat.le_refl _) R3 ?_
        rw [List.length_set]
        exact rq.mono ex (Nat.le_refl _)
      · exact w.elim
    · exact w.elim
  · exact w.elim
theorem mm_append : SmM tb E rAppend mAppend := by
  intro ι M H p as x vs Q R rp ra w
  unfold mAppend at w
  split at w
  · rename_i y
    obtain ⟨yv, rfl, ry⟩ := rvs1 ra
    obtain ⟨k, xs, us, q, ys, rfl, rfl, e, e1, r1, ef, c⟩ := chL_ok R rp w
    split at ef
    · rename_i hl
      cases ef
      exact ⟨_, us, yv, rfl, rfl, e1, by rw [← r1.len]; exact lim_lt hl, c _ _ .mk_non (r1.app (.cons ry .nil))⟩
    · cases ef
  · exact w.elim
theorem Rvs.dropLast {n : Nat} {xs : List PV} {vs : List V} (r : Rvs ι n H xs vs) : Rvs ι n H xs.dropLast vs.dropLast := by
  rw [List.dropLast_eq_take, List.dropLast_eq_take, ← r.len]
  exact r.take _
theorem mm_extend : SmM tb E rExtend mExtend := by
  intro ι M H p as x vs Q R rp ra w
  unfold mExtend at w
  split at w
  · rename_i q
    split at w
    · rename_i zs ez
      obtain ⟨qv, rfl, rq⟩ := rvs1 ra
      obtain ⟨j, ws, rfl, lj, rfl, hb, rb⟩ := lst_at R ez rq
      obtain ⟨k, xs, us, q, ys, rfl, rfl, e, e1, r1, ef, c⟩ := chL_ok R rp w
      split at ef
      · rename_i hl
        cases ef
        exact ⟨_, _, us, ws, rfl, rfl, e1, hb, by rw [← r1.len, ← rb.len]; exact lim_le hl, c _ _ .mk_non (r1.app rb)⟩
      · cases ef
    · exact w.elim
  · exact w.elim
theorem mm_join : SmM tb E (rJoin K) mJoin := by
  intro ι M H p as x vs Q R rp ra w
  unfold mJoin at w
  split at w
  · rename_i a q
    split at w
    · rename_i ys e
      split at w
      · rename_i hl
        obtain ⟨v, rfl, rv⟩ := rvs1 ra
        obtain ⟨xs, e1, e2⟩ : ∃ xs, seqAt M q = some xs ∧ asStrs xs = some ys := by
          cases h : seqAt M q with
          | none => rw [h] at e; cases e
          | some xs => rw [h] at e; exact ⟨xs, rfl, e⟩
        obtain ⟨b, us, rfl, rb, hh⟩ := seq_at R rv e1
        have eu := asStrs_rel e2 rb
        subst eu
        refine ⟨_, b, ys.map tx, rp.str, rfl, hh.imp (fun z => .of z.1) (fun z => .of z.1), ?_, ?_⟩
        · rw [List.map_map, List.length_map, tx_len]
          have : (ys.map ((fun x : Str => x.length) ∘ tx)) = ys.map List.length := List.map_congr_left fun y _ => tx_len y
          rw [this]
          unfold lim at hl
          omega
        · have := Wp.okNow (v := V.str (tx (joinT a ys))) w R .mk_str
          rw [show tx (joinT a ys) = Txt.join (tx a) (ys.map tx) from (tx_of _).symm] at this
          exact this
      · exact w.elim
    · exact w.elim
  · exact w.elim
end
end Pu
namespace Pu
open PySem PySem.Spec PyProof.Rows L2 LB
open Classical
/-! ### dicts -/
noncomputable def kfind (kvs : List (PV × PV)) (k : PV) : Option PV := (kvs.find? fun kv => decide (kv.1 = k)).map (·.2)
/-- what a dict has at a key: none where it is no dict or no key -/
noncomputable def dgetP (M : PM) (p k : PV) : Option (Option PV) := match p with
  | .ref j => match M[j]? with
    | some (.dct kvs) => if (keyOf k).isSome then some (kfind kvs k) else none
    | some (.lck kvs) => if (keyOf k).isSome then some (kfind kvs k) else none
    | some (.dtt kvs) => if (keysOf k).isSome then some (kfind kvs k) else none
    | some (.lct kvs) => if (keysOf k).isSome then some (kfind kvs k) else none
    | _ => none
  | _ => none
noncomputable def fDGet (fd fk : FE) : FE := fun σ M => (fd σ M).bnd fun d M1 => (fk σ M1).bnd fun k M2 => match dgetP M2 d k with
  | some (some v) => .ok v M2
  | _ => .bad
noncomputable def fDIn (fk fd : FE) : FE := fun σ M => (fk σ M).bnd fun k M1 => (fd σ M1).bnd fun d M2 => match dgetP M2 d k with
  | some o => .ok (.bl o.isSome) M2
  | none => .bad
noncomputable def fDNotIn (fk fd : FE) : FE := fun σ M => (fk σ M).bnd fun k M1 => (fd σ M1).bnd fun d M2 => match dgetP M2 d k with
  | some o => .ok (.bl (!o.isSome)) M2
  | none => .bad
def isDP (M : PM) (p : PV) : Bool := match p with
  | .ref j => match M[j]? with
    | some (.dct _) => true
    | some (.lck _) => true
    | some (.dtt _) => true
    | some (.lct _) => true
    | _ => false
  | _ => false
noncomputable def fDGet1 (fd fk : FE) : FE := fun σ M => (fd σ M).bnd fun d M1 => if isDP M1 d = true then (fk σ M1).bnd fun k M2 => match dgetP M2 d k with
  | some o => .ok (o.getD .non) M2
  | none => .bad else .bad
noncomputable def dputP (M : PM) (p k v : PV) : Option PM := match p with
  | .ref j => match M[j]? with
    | some (.dct kvs) => if (keyOf k).isSome ∧ kvs.length < lim then some (M.set j (.dct (putP kvs k v))) else none
    | some (.dtt kvs) => if (keysOf k).isSome ∧ kvs.length < lim then some (M.set j (.dtt (putP kvs k v))) else none
    | _ => none
  | _ => none
noncomputable def fDPut (fd fk fv : FE) : FS := fun σ M => (fv σ M).go fun v M1 => (fd σ M1).go fun d M2 => (fk σ M2).go fun k M3 => match dputP M3 d k v with
  | some M4 => .nx σ M4
  | none => .bad
def fDNewK : FE := fun _ M => .ok (.ref M.length) (M ++ [.dct []])
def fDNewT : FE := fun _ M => .ok (.ref M.length) (M ++ [.dtt []])
def fPairs : List (FE × FE) → PS → PM → Res (List (PV × PV))
  | [], _, M => .ok [] M
  | (a, b) :: r, σ, M => (a σ M).bnd fun k M1 => (b σ M1).bnd fun v M2 => (fPairs r σ M2).bnd fun kvs M3 => .ok ((k, v) :: kvs) M3
noncomputable def mergeP (kvs more : List (PV × PV)) : List (PV × PV) := more.foldl (fun acc kv => putP acc kv.1 kv.2) kvs
noncomputable def fDisp (fs : List (FE × FE)) : FE := fun σ M => (fPairs fs σ (M ++ [.dct []])).bnd fun kvs M2 => match M2[M.length]? with
  | some (.dct []) => if kvs.length ≤ 15 ∧ ∀ p ∈ kvs, (keyOf p.1).isSome then .ok (.ref M.length) (M2.set M.length (.dct (mergeP [] kvs))) else .bad
  | _ => .bad
section
variable {tb : List (Addr × Str)} {E : XK} {K : PySem.W.Frag} {ι : Nat → Addr} {N : Nat} {M : PM} {H : Hp} {td tk tv tx' : TE} {fd fk' fv fx : FE}
theorem val_rel {κ : Type} [DecidableEq κ] {F : PV → κ → Prop} (FE' : ∀ p q k j, F p k → F q j → (p = q ↔ k = j)) {kvs : List (PV × PV)} {kws : List (κ × V)} (r : Paired (Rk F ι N H) kvs kws) {k : PV} {kk : κ} (e : F k kk) :
    (∀ x, kfind kvs k = some x → ∃ v, valV kws kk = some v ∧ Rv ι N H x v) ∧ (kfind kvs k = none → valV kws kk = none) := by
  unfold kfind valV
  induction r with
  | nil => exact ⟨fun x h => (by cases h), fun _ => rfl⟩
  | @cons p q ps qs a b ih =>
    rw [List.find?_cons, List.find?_cons]
    by_cases h : p.1 = k
    · have h2 : q.1 = kk := (FE' _ _ _ _ a.1 e).mp h
      rw [decide_eq_true h, decide_eq_true h2]
      exact ⟨fun x hx => (by cases hx; exact ⟨q.2, rfl, a.2⟩), fun hx => (by cases hx)⟩
    · have h2 : ¬ q.1 = kk := fun z => h ((FE' _ _ _ _ a.1 e).mpr z)
      rw [decide_eq_false h, decide_eq_false h2]
      exact ih
theorem keys_rel : ∀ {xs : List PV} {k : List Key} {vs : List V}, xs.mapM keyOf = some k → Rvs ι N H xs vs → vs = k.map kV
  | [], _, _, e, r => by cases e; unfold Rvs at r; exact r
  | x :: xs, k, _, e, r => by
    rw [List.mapM_cons] at e
    cases h : keyOf x with
    | none => rw [h] at e; cases e
    | some a =>
      rw [h] at e
      cases h1 : xs.mapM keyOf with
      | none => rw [h1] at e; cases e
      | some b =>
        rw [h1] at e
        cases e
        unfold Rvs at r
        obtain ⟨v, w, rfl, r1, r2⟩ := r
        rw [keyOf_kV h r1, keys_rel h1 r2]
        rfl
theorem keysOf_at {k : PV} {kk : List Key} {v : V} (e : keysOf k = some kk) (r : Rv ι N H k v) : ∃ b, v = .ref b ∧ H b = some (.tup (kk.map kV)) := by
  cases k <;> first | (cases e; done) | skip
  obtain ⟨a, vs, rfl, ha, ra⟩ := r.tup_at
  exact ⟨a, rfl, by rw [ha, keys_rel e ra]⟩
def relO (ι : Nat → Addr) (N : Nat) (H : Hp) : Option PV → Option V → Prop
  | some p, some v => Rv ι N H p v
  | none, none => True
  | _, _ => False
theorem relO_of {o : Option PV} {f : Option V} (h : (∀ x, o = some x → ∃ v, f = some v ∧ Rv ι N H x v) ∧ (o = none → f = none)) : relO ι N H o f := by
  cases o with
  | none => rw [h.2 rfl]; trivial
  | some x =>
    obtain ⟨v, e, r⟩ := h.1 x rfl
    rw [e]
    exact r
theorem dget_ok {p k : PV} {v y : V} {o : Option PV} (R : RM tb ι M H) (rp : Rv ι M.length H p v) (rk : Rv ι M.length H k y) (e : dgetP M p k = some o) : ∃ a ov, v = .ref a ∧ DGet H a y ov ∧ relO ι M.length H o ov := by
  unfold dgetP at e
  split at e
  · rename_i j
    obtain ⟨lj, rfl⟩ := rp.ref_at
    split at e
    · rename_i kvs ek
      split at e
      · rename_i hk
        cases e
        obtain ⟨kk, hk⟩ := Option.isSome_iff_exists.mp hk
        obtain ⟨kws, e1, r1⟩ := R.obj j _ ek
        exact ⟨_, _, rfl, .inl ⟨kws, kk, .inl e1, keyOf_kV hk rk, rfl⟩, relO_of (val_rel (F := fK) (fun _ _ _ _ a b => keyOf_eq a b) r1 hk)⟩
      · cases e
    · rename_i kvs ek
      split at e
      · rename_i hk
        cases e
        obtain ⟨kk, hk⟩ := Option.isSome_iff_exists.mp hk
        obtain ⟨oo, kws, e1, r1⟩ := R.obj j _ ek
        exact ⟨_, _, rfl, .inl ⟨kws, kk, .inr ⟨oo, e1⟩, keyOf_kV hk rk, rfl⟩, relO_of (val_rel (F := fK) (fun _ _ _ _ a b => keyOf_eq a b) r1 hk)⟩
      · cases e
    · rename_i kvs ek
      split at e
      · rename_i hk
        cases e
        obtain ⟨kk, hk⟩ := Option.isSome_iff_exists.mp hk
        obtain ⟨kws, e1, r1⟩ := R.obj j _ ek
        obtain ⟨b, rfl, hb⟩ := keysOf_at hk rk
        exact ⟨_, _, rfl, .inr ⟨kws, kk, b, .inl e1, rfl, hb, rfl⟩, relO_of (val_rel (F := fT) (fun _ _ _ _ a b => keysOf_eq a b) r1 hk)⟩
      · cases e
    · rename_i kvs ek
      split at e
      · rename_i hk
        cases e
        obtain ⟨kk, hk⟩ := Option.isSome_iff_exists.mp hk
        obtain ⟨oo, kws, e1, r1⟩ := R.obj j _ ek
        obtain ⟨b, rfl, hb⟩ := keysOf_at hk rk
        exact ⟨_, _, rfl, .inr ⟨kws, kk, b, .inr ⟨oo, e1⟩, rfl, hb, rfl⟩, relO_of (val_rel (F := fT) (fun _ _ _ _ a b => keysOf_eq a b) r1 hk)⟩
      · cases e
    · cases e
  · cases e
theorem isD_of {p : PV} {v : V} (R : RM tb ι M H) (rp : Rv ι M.length H p v) (e : isDP M p = true) : ∃ a, v = .ref a ∧ IsD H a := by
  unfold isDP at e
  split at e
  · rename_i j
    obtain ⟨lj, rfl⟩ := rp.ref_at
    split at e
    · rename_i kvs ek
      obtain ⟨kws, e1, r1⟩ := R.obj j _ ek
      exact ⟨_, rfl, .inl ⟨kws, .inl e1⟩⟩
    · rename_i kvs ek
      obtain ⟨oo, kws, e1, r1⟩ := R.obj j _ ek
      exact ⟨_, rfl, .inl ⟨kws, .inr ⟨oo, e1⟩⟩⟩
    · rename_i kvs ek
      obtain ⟨kws, e1, r1⟩ := R.obj j _ ek
      exact ⟨_, rfl, .inr ⟨kws, .inl e1⟩⟩
    · rename_i kvs ek
      obtain ⟨oo, kws, e1, r1⟩ := R.obj j _ ek
      exact ⟨_, rfl, .inr ⟨kws, .inr ⟨oo, e1⟩⟩⟩
    · cases e
  · cases e
theorem sm_dget1 (hd : SmE tb E td fd) (hk : SmE tb E tk fk') : SmE tb E (tDGet1 td tk) (fDGet1 fd fk') := fun ι M H σp σ Q R S w =>
  hd.to R S w fun ι1 M1 H1 d dv o1 S1 rd w1 => by
    split at w1
    · rename_i hd
      obtain ⟨a, rfl, ia⟩ := isD_of o1.r rd hd
      refine ⟨a, rfl, ia, hk.to o1.r S1 w1 fun ι2 M2 H2 k kv o2 S2 rk w2 => ?_⟩
      split at w2
      · rename_i o e
        obtain ⟨a', ov, e1, g, ro⟩ := dget_ok o2.r (rd.mono o2.e o2.l) rk e
        cases e1
        refine ⟨ov, g, ?_⟩
        cases o with
        | none =>
          cases ov with
          | none => exact Wp.okNow w2 o2.r .mk_non
          | some _ => exact ro.elim
        | some x =>
          cases ov with
          | none => exact ro.elim
          | some _ => exact Wp.okNow w2 o2.r ro
      · exact w2.elim
    · exact w1.elim
/-! displays -/
inductive SmPs (tb : List (Addr × Str)) (E : XK) : List (TE × TE) → List (FE × FE) → Prop
  | nil : SmPs tb E [] []
  | cons {ta tb' : TE} {fa fb : FE} {ts : List (TE × TE)} {fs : List (FE × FE)} : SmE tb E ta fa → SmE tb E tb' fb → SmPs tb E ts fs → SmPs tb E ((ta, tb') :: ts) ((fa, fb) :: fs)
abbrev rKV : (Nat → Addr) → Nat → Hp → List (PV × PV) → List (V × V) → Prop := fun ι N H ps vs => Paired (fun (p : PV × PV) (v : V × V) => Rv ι N H p.1 v.1 ∧ Rv ι N H p.2 v.2) ps vs
theorem sm_pairs : ∀ {ts : List (TE × TE)} {fs : List (FE × FE)}, SmPs tb E ts fs → ∀ ι M H σp σ Q, RM tb ι M H → Rs ι M.length H σp σ → Wp tb rKV ι M.length H (fPairs fs σp M) Q E → tPairs ts σ H Q
  | _, _, .nil, ι, M, H, σp, σ, Q, R, S, w => Wp.okNow w R .nil
  | _, _, .cons ha hb hr, ι, M, H, σp, σ, Q, R, S, w =>
    ha.to R S w fun ι1 M1 H1 k kv o1 S1 rk w1 => hb.to o1.r S1 w1 fun ι2 M2 H2 v vv o2 S2 rv w2 =>
      sm_pairs hr ι2 M2 H2 σp σ _ o2.r S2 (Wp.mono (Wp.bnd w2) fun ps H3 ⟨ι3, M3, kvs, o3, rr, w3⟩ => Wp.okNow w3 o3.r (.cons ⟨(rk.mono o2.e o2.l).mono o3.e o3.l, rv.mono o3.e o3.l⟩ rr))
theorem pairs_keys : ∀ {kvs : List (PV × PV)} {ps : List (V × V)}, rKV ι N H kvs ps → (∀ p ∈ kvs, (keyOf p.1).isSome) → ∃ kws : List (Key × V), ps = kws.map (fun kv => (kV kv.1, kv.2)) ∧ Paired (Rk fK ι N H) kvs kws
  | _, _, .nil, _ => ⟨[], rfl, .nil⟩
  | _, _, @Paired.cons _ _ _ p v ps vs a b, h => by
    obtain ⟨k, hk⟩ := Option.isSome_iff_exists.mp (h p List.mem_cons_self)
    obtain ⟨kws, e, r⟩ := pairs_keys b fun q hq => h q (List.mem_cons_of_mem _ hq)
    refine ⟨(k, v.2) :: kws, ?_, .cons ⟨hk, a.2⟩ r⟩
    rw [e, List.map_cons, ← keyOf_kV hk a.1]
theorem merge_rel : ∀ {more : List (PV × PV)} {rs : List (Key × V)} {kvs : List (PV × PV)} {kws : List (Key × V)}, Paired (Rk fK ι N H) more rs → Paired (Rk fK ι N H) kvs kws → Paired (Rk fK ι N H) (mergeP kvs more) (mergeK kws rs) := by
  intro more rs kvs kws r
  induction r generalizing kvs kws with
  | nil => exact fun q => q
  | @cons p q ps qs a b ih => exact fun z => ih (put_rel (F := fK) (fun _ _ _ _ a b => keyOf_eq a b) z a.1 a.2)
theorem sm_disp {ts : List (TE × TE)} {fs : List (FE × FE)} (h : SmPs tb E ts fs) : SmE tb E (tDisp ts) (fDisp fs) := fun ι M H σp σ Q R S w p np => by
  have ex : Ex ι (ext ι M.length p) M.length H (upd H p (.dK [])) := ex_ext np
  have R1 : RM tb (ext ι M.length p) (M ++ [.dct []]) (upd H p (.dK [])) := R.push (o := .dct []) np ⟨[], upd_same, .nil⟩
  have l0 : (M ++ [PO.dct []]).length = M.length + 1 := by simp
  refine sm_pairs h _ _ _ σp σ _ R1 (by rw [l0]; exact S.mono ex (Nat.le_succ _)) ?_
  rw [l0]
  refine Wp.mono (Wp.bnd (w.back ex (Nat.le_succ _))) fun ps H2 ⟨ι2, M2, kvs, o2, rr, w2⟩ => ?_
  have e2 : ι2 M.length = p := (o2.e.i _ (Nat.lt_succ_self _)).trans ext_same
  split at w2
  · rename_i eo
    split at w2
    · rename_i hk
      obtain ⟨kws0, h0, z0⟩ := o2.r.obj _ _ eo
      rw [e2] at h0
      have : kws0 = [] := by cases z0; rfl
      subst this
      refine ⟨h0, ?_⟩
      obtain ⟨kws, ep, rk⟩ := pairs_keys rr hk.2
      have lp : M.length < M2.length := o2.l
      have hz : ∀ o u, H2 (ι2 M.length) ≠ some (.frz o u) := fun o u z => by rw [e2, h0] at z; cases z
      have ex2 : Ex ι2 ι2 M2.length H2 (upd H2 (ι2 M.length) (.dK (mergeK [] kws))) := ex_chg o2.r lp hz
      have R3 := o2.r.chg (o := .dct (mergeP [] kvs)) (x := .dK (mergeK [] kws)) lp hz ⟨_, upd_same, Paired.mapP (merge_rel rk .nil) fun _ _ q => ⟨q.1, q.2.mono ex2 (Nat.le_refl _)⟩⟩
      rw [e2] at ex2 R3
      refine ⟨kws, ep, by rw [← Paired.length rk]; exact hk.1, w2 ι2 _ _ ex2 (by rw [List.length_set]; exact Nat.le_refl _) R3 ?_⟩
      rw [List.length_set]
      have := Rv.mk_ref (ι := ι2) (N := M2.length) (H := upd H2 p (.dK (mergeK [] kws))) (k := M.length) lp
      rw [e2] at this
      exact this
    · exact w2.elim
  · exact w2.elim
end
/-! ### equality of data -/
def datF (M : PM) : Nat → PV → Option PyData
  | _, .non => some .none
  | _, .bl b => some (.bool b)
  | _, .int i => some (.int i)
  | _, .str s => if ∀ c ∈ s, c < 128 then some (.str (tx s)) else none
  | n + 1, .tup xs => (xs.mapM (datF M n)).map .tuple
  | n + 1, .tpb xs => (xs.mapM (datF M n)).map .tuple
  | n + 1, .ref k => match M[k]? with
    | some (.lst xs) => (xs.mapM (datF M n)).map .list
    | _ => none
  | _, _ => none
def pEqD (p q : PV) (M : PM) : Res PV := match datF M 60 p, datF M 60 q with
  | some d, some e => .ok (.bl (PyData.eqv d e)) M
  | _, _ => .bad
def pNeD (p q : PV) (M : PM) : Res PV := match datF M 60 p, datF M 60 q with
  | some d, some e => .ok (.bl (!PyData.eqv d e)) M
  | _, _ => .bad
section
variable {tb : List (Addr × Str)} {E : XK} {K : PySem.W.Frag} {ι : Nat → Addr} {M : PM} {H : Hp}
theorem dat_ok (R : RM tb ι M H) : ∀ (n : Nat) (p : PV) (v : V) (d : PyData), datF M n p = some d → Rv ι M.length H p v → Dp K H v d ∧ PyData.canLay0 d = true ∧ d.depth ≤ n := by
  intro n
  induction n with
  | zero =>
    intro p v d e r
    cases p with
    | non => cases e; rw [r.non]; exact ⟨.non, rfl, Nat.le_refl _⟩
    | bl b => cases e; rw [r.bl]; exact ⟨.bl _, rfl, Nat.le_refl _⟩
    | int i => cases e; rw [r.int]; exact ⟨.int _, rfl, Nat.le_refl _⟩
    | str s =>
      unfold datF at e
      split at e
      · rename_i h
        cases e
        rw [r.str]
        exact ⟨.str _, strOk_tx h, Nat.le_refl _⟩
      · cases e
    | ty _ => cases e
    | adr _ => cases e
    | ref _ => cases e
    | tup _ => cases e
    | tpb _ => cases e
  | succ n ih =>
    have all : ∀ (xs : List PV) (vs : List V) (ds : List PyData), xs.mapM (datF M n) = some ds → Rvs ι M.length H xs vs → DpAll K H vs ds ∧ PyData.canLayAll0 ds = true ∧ PyData.depthAll ds ≤ n := by
      intro xs
      induction xs with
      | nil =>
        intro vs ds e r
        cases e
        unfold Rvs at r
        subst r
        exact ⟨.nil, rfl, Nat.zero_le _⟩
      | cons x xs ihx =>
        intro vs ds e r
        unfold Rvs at r
        obtain ⟨v, w, rfl, r1, r2⟩ := r
        rw [List.mapM_cons] at e
        cases h : datF M n x with
        | none => rw [h] at e; cases e
        | some a =>
          rw [h] at e
          cases h2 : xs.mapM (datF M n) with
          | none => rw [h2] at e; cases e
          | some b =>
            rw [h2] at e
            cases e
            obtain ⟨p1, p2, p3⟩ := ih x v a h r1
            obtain ⟨q1, q2, q3⟩ := ihx w b h2 r2
            refine ⟨.cons p1 q1, ?_, ?_⟩
            · show (PyData.canLay0 a && PyData.canLayAll0 b) = true
              rw [p2, q2]
              rfl
            · show max (PyData.depth a) (PyData.depthAll b) ≤ n
              omega
    intro p v d e r
    cases p with
    | non => cases e; rw [r.non]; exact ⟨.non, rfl, Nat.zero_le _⟩
    | bl b => cases e; rw [r.bl]; exact ⟨.bl _, rfl, Nat.zero_le _⟩
    | int i => cases e; rw [r.int]; exact ⟨.int _, rfl, Nat.zero_le _⟩
    | str s =>
      unfold datF at e
      split at e
      · rename_i h
        cases e
        rw [r.str]
        exact ⟨.str _, strOk_tx h, Nat.zero_le _⟩
      · cases e
    | ty _ => cases e
    | adr _ => cases e
    | tup xs =>
      unfold datF at e
      cases h : xs.mapM (datF M n) with
      | none => rw [h] at e; cases e
      | some ds =>
        rw [h] at e
        cases e
        obtain ⟨a, vs, rfl, ha, ra⟩ := r.tup_at
        obtain ⟨p1, p2, p3⟩ := all xs vs ds h ra
        exact ⟨.tup (.of ha) p1, p2, Nat.succ_le_succ p3⟩
    | tpb xs =>
      unfold datF at e
      cases h : xs.mapM (datF M n) with
      | none => rw [h] at e; cases e
      | some ds =>
        rw [h] at e
        cases e
        obtain ⟨a, vs, ob, rfl, ha, hd, ra⟩ := r.tpb_at
        obtain ⟨p1, p2, p3⟩ := all xs vs ds h ra
        exact ⟨.tup (.inl (.inr ⟨ob, ha⟩)) p1, p2, Nat.succ_le_succ p3⟩
    | ref k =>
      unfold datF at e
      split at e
      · rename_i xs ek
        cases h : xs.mapM (datF M n) with
        | none => rw [h] at e; cases e
        | some ds =>
          rw [h] at e
          cases e
          obtain ⟨lk, rfl⟩ := r.ref_at
          obtain ⟨vs, e1, ra⟩ := R.obj k _ ek
          obtain ⟨p1, p2, p3⟩ := all xs vs ds h ra
          exact ⟨.lst (.of e1) p1, p2, Nat.succ_le_succ p3⟩
      · cases e
theorem dat_shaped {d : PyData} (h : PyData.canLay0 d = true) (hd : d.depth ≤ 60) : SeqAt.shaped d = true := by
  unfold SeqAt.shaped
  rw [h, decide_eq_true (show d.depth ≤ 64 by omega)]
  rfl
theorem smr_eqD : SmR tb E (rEqD K) pEqD := by
  intro ι M H p q x y Q R rp rq h
  unfold pEqD at h
  split at h
  · rename_i d e h1 h2
    obtain ⟨a1, a2, a3⟩ := dat_ok (K := K) R _ _ _ _ h1 rp
    obtain ⟨b1, b2, b3⟩ := dat_ok (K := K) R _ _ _ _ h2 rq
    exact ⟨d, e, a1, b1, dat_shaped a2 a3, dat_shaped b2 b3, h.okNow R .mk_bl⟩
  · exact h.elim
theorem smr_neD : SmR tb E (rNeD K) pNeD := by
  intro ι M H p q x y Q R rp rq h
  unfold pNeD at h
  split at h
  · rename_i d e h1 h2
    obtain ⟨a1, a2, a3⟩ := dat_ok (K := K) R _ _ _ _ h1 rp
    obtain ⟨b1, b2, b3⟩ := dat_ok (K := K) R _ _ _ _ h2 rq
    exact ⟨d, e, a1, b1, dat_shaped a2 a3, dat_shaped b2 b3, h.okNow R .mk_bl⟩
  · exact h.elim
end
/-! ### x in a list or a tuple -/
def flatP : PV → Bool
  | .non => true
  | .bl _ => true
  | .int _ => true
  | .str _ => true
  | _ => false
def eqF : PV → PV → Bool
  | .non, .non => true
  | .bl a, .bl b => a == b
  | .bl a, .int b => (if a then 1 else 0) == b
  | .int a, .bl b => a == (if b then 1 else 0)
  | .int a, .int b => a == b
  | .str a, .str b => decide (a = b)
  | _, _ => false
def inP (x : PV) (xs : List PV) : Bool := xs.any fun y => eqF y x
def pIn (neg : Bool) (p q : PV) (M : PM) : Res PV := match seqAt M q with
  | some xs => if flatP p = true ∧ xs.all flatP = true then .ok (.bl (if neg then !inP p xs else inP p xs)) M else .bad
  | none => .bad
section
variable {tb : List (Addr × Str)} {E : XK} {K : PySem.W.Frag} {ι : Nat → Addr} {N : Nat} {M : PM} {H : Hp}
theorem flat_of {p : PV} {v : V} (h : flatP p = true) (r : Rv ι N H p v) : flatV v = true := by
  cases p <;> first | (cases h; done) | skip
  all_goals (unfold Rv at r; subst r; rfl)
theorem eqF_of {p q : PV} {v u : V} (hp : flatP p = true) (hq : flatP q = true) (r : Rv ι N H p v) (s : Rv ι N H q u) : eqV v u = eqF p q := by
  cases p <;> first | (cases hp; done) | skip
  all_goals (cases q <;> first | (cases hq; done) | skip)
  all_goals (unfold Rv at r s; subst r s)
  all_goals first | rfl | skip
  rename_i a b
  show (tx a == tx b) = decide (a = b)
  by_cases h : a = b
  · subst h; simp
  · rw [decide_eq_false h, beq_eq_false_iff_ne]
    exact fun z => h (tx_inj.mp z)
theorem in_of {p : PV} {v : V} (hp : flatP p = true) (r : Rv ι N H p v) : ∀ {xs : List PV} {vs : List V}, xs.all flatP = true → Rvs ι N H xs vs → vs.all flatV = true ∧ inV v vs = inP p xs
  | [], _, _, a => by unfold Rvs at a; subst a; exact ⟨rfl, rfl⟩
  | x :: xs, _, h, a => by
    unfold Rvs at a
    obtain ⟨y, w, rfl, a1, a2⟩ := a
    rw [List.all_cons, Bool.and_eq_true] at h
    obtain ⟨q1, q2⟩ := in_of hp r h.2 a2
    refine ⟨?_, ?_⟩
    · rw [List.all_cons, flat_of h.1 a1, q1]
      rfl
    · unfold inV inP at q2 ⊢
      rw [List.any_cons, List.any_cons, q2, eqF_of h.1 hp a1 r]
theorem smr_in {neg : Bool} : SmR tb E (rIn K neg) (pIn neg) := by
  intro ι M H p q x y Q R rp rq h
  unfold pIn at h
  split at h
  · rename_i xs e
    split at h
    · rename_i hf
      obtain ⟨a, vs, rfl, ra, hh⟩ := seq_at R rq e
      obtain ⟨q1, q2⟩ := in_of hf.1 rp hf.2 ra
      refine ⟨a, vs, rfl, hh.imp (fun z => .of z.1) (fun z => .of z.1), flat_of hf.1 rp, q1, ?_⟩
      rw [q2]
      exact h.okNow R .mk_bl
    · exact h.elim
  · exact h.elim
end
end Pu
namespace Pu
open PySem PySem.Spec PyProof.Rows L2 LB
open Classical
/-! ### a list, a tuple or a text -/
def pIxQ (p q : PV) (M : PM) : Res PV := match p with
  | .tup _ => pIxT p q M
  | .str _ => pIxS p q M
  | _ => pIxL p q M
def bLenQ (as : List PV) (M : PM) : Res PV := match as with
  | [.str _] => bLenS as M
  | _ => bLen as M
theorem smr_ixQ {tb : List (Addr × Str)} {E : XK} {K : PySem.W.Frag} : SmR tb E (rIx K) pIxQ := by
  intro ι M H p q x y Q R rp rq h
  unfold pIxQ at h
  split at h
  · exact .inr (.inl (smr_ixT ι M H _ q x y Q R rp rq h))
  · exact .inr (.inr (smr_ixS ι M H _ q x y Q R rp rq h))
  · exact .inl (smr_ixL ι M H _ q x y Q R rp rq h)
theorem sb_lenQ {tb : List (Addr × Str)} {E : XK} {K : PySem.W.Frag} : SmL tb E (fun xs H Q => (∃ p ys, xs = [.ref p] ∧ (SqL K H p ys ∨ SqT K H p ys) ∧ Q (.int (ys.length : Nat)) H) ∨ ∃ z, xs = [.str z] ∧ z.length ≤ sizeLine ∧ Q (.int (z.length : Nat)) H) bLenQ := by
  intro ι M H ps xs Q R rs h
  unfold bLenQ at h
  split at h
  · exact .inr (sb_lenS ι M H _ xs Q R rs h)
  · exact .inl (sb_len ι M H _ xs Q R rs h)
/-! ### d.get(text), d a dict of the module -/
def LkV (K : PySem.W.Frag) (d : Addr) (kvs : List (List Nat × Int)) : Prop := ∀ s n, kvs.lookup s = some n → ∃ t, PySem.W.nsIn K d (tx s) = some (some (.int n t))
def LkN (ks : List Str) (kvs : List (List Nat × Int)) : Prop := ∀ s, kvs.lookup s = none → tx s ∉ ks
theorem lkv_nil {K : PySem.W.Frag} {d : Addr} : LkV K d [] := fun s n h => by cases h
theorem lkn_nil : LkN [] [] := fun s _ h => by cases h
theorem lkv_cons {K : PySem.W.Frag} {d : Addr} {k : List Nat} {n : Int} {z : Str} {kvs : List (List Nat × Int)} (h : ∃ t, PySem.W.nsIn K d z = some (some (.int n t))) (e : tx k = z) (r : LkV K d kvs) : LkV K d ((k, n) :: kvs) := fun s m hs => by
  rw [List.lookup_cons] at hs
  by_cases h1 : s = k
  · subst h1
    rw [beq_self_eq_true] at hs
    cases hs
    rw [e]
    exact h
  · rw [show (s == k) = false by simpa using h1] at hs
    exact r s m hs
theorem lkn_cons {ks : List Str} {k : List Nat} {n : Int} {z : Str} {kvs : List (List Nat × Int)} (e : tx k = z) (r : LkN ks kvs) : LkN (z :: ks) ((k, n) :: kvs) := fun s hs hm => by
  rw [List.lookup_cons] at hs
  by_cases h1 : s = k
  · subst h1
    rw [beq_self_eq_true] at hs
    cases hs
  · rw [show (s == k) = false by simpa using h1] at hs
    rcases List.mem_cons.mp hm with h2 | h2
    · rw [← e] at h2
      exact h1 (tx_inj.mp h2)
    · exact r s hs h2
theorem dic_other {K : PySem.W.Frag} {w : World} {a : Addr} {ks : List Str} (h : He.dicW K a = some (He.keysIn w.params ks)) {z : Str} (hz : z ∉ ks) : PySem.W.nsIn K a z = some none := by
  unfold He.dicW at h
  cases q : K.lookup a with
  | none => rw [q] at h; cases h
  | some o =>
    obtain ⟨oc, od, dt, osl⟩ := o
    rw [q] at h
    cases oc with
    | type c =>
      cases od with
      | none =>
        cases dt with
        | dict es n =>
          have h1 : (match decide (c = "dict") && (osl.isEmpty && !(a == sysModules)) with
            | true => some (es.toList.map He.keyOf)
            | false => none) = some (He.keysIn w.params ks) := h
          split at h1
          · have h2 := Option.some.inj h1
            unfold PySem.W.nsIn
            rw [q]
            have all : ∀ e ∈ es.toList, ∃ x t, e.key = .str x t ∧ x ∈ ks := by
              intro e he
              have : He.keyOf e ∈ He.keysIn w.params ks := by rw [← h2]; exact List.mem_map_of_mem he
              unfold He.keysIn at this
              obtain ⟨k, hk, e2⟩ := List.mem_map.mp this
              unfold He.keyOf at e2
              split at e2
              · rename_i x t ek
                have := (Prod.mk.inj (Option.some.inj e2)).1
                exact ⟨x, t, ek, by rw [← this]; exact hk⟩
              · cases e2
            have nf : es.toList.find? (·.key.isStr z) = none := by
              rw [List.find?_eq_none]
              intro e he
              obtain ⟨x, t, ek, hx⟩ := all e he
              rw [ek, PySem.W.isStr_of]
              intro hh
              obtain ⟨t', e'⟩ := Value.isStrOf_shape (x := z) hh
              injection e' with e1 e2
              exact hz (by rw [← e1]; exact hx)
            have nr : es.toList.any (·.refKey) = false := by
              rw [List.any_eq_false]
              intro e he
              obtain ⟨x, t, ek, hx⟩ := all e he
              unfold DictEntry.refKey
              rw [ek]
              exact fun z => Bool.noConfusion z
            simp only [nf, nr]
            rfl
          · cases h1
        | _ => cases h
      | some _ => cases h
    | _ => cases h
/-! ### sorted(set(a list of texts)) -/
def dedup : List (List Nat) → List (List Nat)
  | [] => []
  | x :: r => if x ∈ r then dedup r else x :: dedup r
theorem mem_dedup {x : List Nat} : ∀ {l : List (List Nat)}, x ∈ dedup l ↔ x ∈ l
  | [] => Iff.rfl
  | y :: r => by
    unfold dedup
    split
    · rename_i h
      rw [mem_dedup, List.mem_cons]
      exact ⟨.inr, fun z => z.elim (fun e => by rw [e]; exact h) id⟩
    · rw [List.mem_cons, List.mem_cons, mem_dedup]
theorem nodup_dedup : ∀ {l : List (List Nat)}, (dedup l).Nodup
  | [] => List.nodup_nil
  | y :: r => by
    unfold dedup
    split
    · exact nodup_dedup
    · rename_i h
      exact List.nodup_cons.mpr ⟨fun z => h (mem_dedup.mp z), nodup_dedup⟩
def leT (a b : List Nat) : Bool := decide (a ≤ b)
def sortU (l : List (List Nat)) : List (List Nat) := (dedup l).mergeSort leT
theorem mem_sortU {x : List Nat} {l : List (List Nat)} : x ∈ sortU l ↔ x ∈ l := by
  unfold sortU
  rw [(List.mergeSort_perm _ _).mem_iff, mem_dedup]
theorem nodup_sortU {l : List (List Nat)} : (sortU l).Nodup := (List.mergeSort_perm _ _).nodup_iff.mpr nodup_dedup
theorem sorted_sortU {l : List (List Nat)} : (sortU l).Pairwise (· ≤ ·) := by
  have := List.pairwise_mergeSort (le := leT) (fun a b c h1 h2 => decide_eq_true (List.le_trans (of_decide_eq_true h1) (of_decide_eq_true h2))) (fun a b => by
    rcases List.le_total a b with h | h
    · unfold leT; rw [decide_eq_true h]; rfl
    · unfold leT; rw [decide_eq_true h, Bool.or_true]) (dedup l)
  exact this.imp fun h => of_decide_eq_true h
theorem perm_nodup {α : Type} : ∀ {l m : List α}, l.Nodup → m.Nodup → (∀ x, x ∈ l ↔ x ∈ m) → l.Perm m := by
  intro l m h1 h2 h
  exact (List.perm_ext_iff_of_nodup h1 h2).mpr h
theorem sortU_of {l ys : List (List Nat)} (nd : ys.Nodup) (m : ∀ x, x ∈ ys ↔ x ∈ l) (s : ys.Pairwise (· ≤ ·)) : ys = sortU l :=
  List.Perm.eq_of_pairwise (fun a b _ _ h1 h2 => List.le_antisymm h1 h2) s sorted_sortU (perm_nodup nd nodup_sortU fun x => (m x).trans mem_sortU.symm)
theorem ltCps_lt {a b : List Nat} : ltCps a b = true ↔ a < b := by rw [ltCps_eq, decide_eq_true_iff]
theorem rising_pw : ∀ {r : List Str} {p : Str}, risingS p r = true → ((p :: r).map (·.cps.toList)).Pairwise (· ≤ ·)
  | [], p, _ => by simp
  | x :: r, p, h => by
    have h' : (!ltCps x.cps.toList p.cps.toList && risingS x r) = true := h
    rw [Bool.and_eq_true] at h'
    have ih := rising_pw h'.2
    have hx : p.cps.toList ≤ x.cps.toList := by
      have h1 := h'.1
      rw [Bool.not_eq_true'] at h1
      intro z
      rw [ltCps_lt.mpr z] at h1
      cases h1
    rw [List.map_cons] at ih ⊢
    rw [List.map_cons]
    refine List.pairwise_cons.mpr ⟨fun y hy => ?_, ih⟩
    rcases List.mem_cons.mp hy with e | e
    · rw [e]; exact hx
    · exact List.le_trans hx ((List.pairwise_cons.mp ih).1 y e)
theorem sortedS_pw {ys : List Str} (h : sortedS ys = true) : (ys.map (·.cps.toList)).Pairwise (· ≤ ·) := by
  cases ys with
  | nil => exact .nil
  | cons x r => exact rising_pw h
def bSortSet (p : PV) (M : PM) : Res PV := match (lstAt M p).bind asStrs with
  | some ys => if ys.length < 2000 then .ok (.ref M.length) (M ++ [.lst ((sortU ys).map .str)]) else .bad
  | none => .bad
def fSortSet (f : FE) : FE := fun σ M => (f σ M).bnd bSortSet
theorem sm_sortset {tb : List (Addr × Str)} {E : XK} {K : PySem.W.Frag} {P : Program} {w : World} {te : TE} {fe : FE} (h : SmE tb E te fe) : SmE tb E (tCB (rSortX P w) (tCons (tCB (rSetX K P w) (tCons te tNil)) tNil)) (fSortSet fe) := fun ι M H σp σ Q R S w' =>
  h.to R S w' fun ι1 M1 H1 p v o S1 rv w1 => by
    unfold bSortSet at w1
    split at w1
    · rename_i ys e
      split at w1
      · rename_i hl
        obtain ⟨xs, e1, e2⟩ := bind_at e
        obtain ⟨k, vs, rfl, lk, rfl, ha, ra⟩ := lst_at o.r e1 rv
        have ev := asStrs_rel e2 ra
        subst ev
        refine ⟨_, ys.map tx, rfl, .of ha, by rw [List.length_map]; exact hl, fun a ks na nd mem lk' => ?_⟩
        refine ⟨a, ks, rfl, upd_same, by rw [List.length_map] at lk'; omega, fun zs q pm srt nq => ?_⟩
        have ez : zs.map (·.cps.toList) = sortU ys := by
          refine sortU_of ?_ (fun x => ?_) (sortedS_pw srt)
          · refine List.pairwise_map.mpr ((pm.nodup_iff.mpr nd).imp fun ne e => ne ?_)
            rename_i y1 y2
            rw [tx_of y1, tx_of y2, e]
          · rw [List.mem_map]
            constructor
            · rintro ⟨z, hz, rfl⟩
              obtain ⟨y, hy, e⟩ := List.mem_map.mp ((mem z).mp (pm.mem_iff.mp hz))
              rw [← e]
              exact hy
            · intro hx
              exact ⟨tx x, pm.mem_iff.mpr ((mem (tx x)).mpr (List.mem_map.mpr ⟨x, hx, rfl⟩)), rfl⟩
        have R2 := o.r.new (x := SetXO P w a ks) na
        have ee : zs.map V.str = ((sortU ys).map tx).map V.str := by
          rw [← ez, List.map_map, List.map_map]
          exact List.map_congr_left fun z _ => congrArg V.str (tx_of z)
        rw [ee]
        exact okLst (w1.back (ex_new na) (Nat.le_refl _)) R2 strs_rvs nq
      · exact w1.elim
    · exact w1.elim
end Pu
namespace Pu
open PySem PySem.Spec PyProof.Rows L2 LB
open Classical
/-! ### reckoning with runs -/
@[simp] theorem wf_non (n : Nat) : PV.wf n .non = True := by unfold PV.wf; rfl
@[simp] theorem wf_bl (n : Nat) (b : Bool) : PV.wf n (.bl b) = True := by unfold PV.wf; rfl
@[simp] theorem wf_int (n : Nat) (b : Int) : PV.wf n (.int b) = True := by unfold PV.wf; rfl
@[simp] theorem wf_str (n : Nat) (b : List Nat) : PV.wf n (.str b) = True := by unfold PV.wf; rfl
@[simp] theorem wf_ref (n k : Nat) : PV.wf n (.ref k) = (k < n) := by unfold PV.wf; rfl
@[simp] theorem wf_tup (n : Nat) (xs : List PV) : PV.wf n (.tup xs) = PV.wfs n xs := by rw [PV.wf]
@[simp] theorem wfs_nil (n : Nat) : PV.wfs n [] = True := by unfold PV.wfs; rfl
@[simp] theorem wfs_cons (n : Nat) (x : PV) (xs : List PV) : PV.wfs n (x :: xs) = (x.wf n ∧ PV.wfs n xs) := by rw [PV.wfs]
theorem wfs_iff {n : Nat} : ∀ {xs : List PV}, PV.wfs n xs ↔ ∀ x ∈ xs, x.wf n
  | [] => by simp
  | x :: xs => by rw [wfs_cons, wfs_iff]; simp
@[simp] theorem wf_lst (n : Nat) (xs : List PV) : PO.wf n (.lst xs) = PV.wfs n xs := id rfl
@[simp] theorem ev_fC (p : PV) (σ : PS) (M : PM) : fC p σ M = .ok p M := id rfl
@[simp] theorem ev_fOp (g : PV → PV → PM → Res PV) (fa fb : FE) (σ : PS) (M : PM) : fOp g fa fb σ M = (fa σ M).bnd fun p M1 => (fb σ M1).bnd fun q M2 => g p q M2 := id rfl
@[simp] theorem ev_fUn (g : PV → PM → Res PV) (fa : FE) (σ : PS) (M : PM) : fUn g fa σ M = (fa σ M).bnd g := id rfl
@[simp] theorem ev_fTest (f : FE) (σ : PS) (M : PM) : fTest f σ M = (f σ M).bnd asB := id rfl
@[simp] theorem ev_fTru (f : FE) (σ : PS) (M : PM) : fTru f σ M = (f σ M).bnd asT := id rfl
@[simp] theorem ev_fNotT (f : FE) (σ : PS) (M : PM) : fNotT f σ M = (f σ M).bnd fun p M1 => (asT p M1).bnd fun b M2 => .ok (.bl (!b)) M2 := id rfl
@[simp] theorem ev_fAnd (f g : FT) (σ : PS) (M : PM) : fAnd f g σ M = (f σ M).bnd fun b M1 => if b = true then g σ M1 else .ok false M1 := id rfl
@[simp] theorem ev_fOr (f g : FT) (σ : PS) (M : PM) : fOr f g σ M = (f σ M).bnd fun b M1 => if b = true then .ok true M1 else g σ M1 := id rfl
@[simp] theorem ev_fNot (f : FT) (σ : PS) (M : PM) : fNot f σ M = (f σ M).bnd fun b M1 => .ok (!b) M1 := id rfl
@[simp] theorem ev_fYes (σ : PS) (M : PM) : fYes σ M = .ok true M := id rfl
@[simp] theorem ev_fAndV (f g : FE) (σ : PS) (M : PM) : fAndV f g σ M = (f σ M).bnd fun p M1 => (asB p M1).bnd fun b M2 => if b = true then g σ M2 else .ok (.bl false) M2 := id rfl
@[simp] theorem ev_fOrV (f g : FE) (σ : PS) (M : PM) : fOrV f g σ M = (f σ M).bnd fun p M1 => (asB p M1).bnd fun b M2 => if b = true then .ok (.bl true) M2 else g σ M2 := id rfl
@[simp] theorem ev_fNotV (f : FE) (σ : PS) (M : PM) : fNotV f σ M = (f σ M).bnd fun p M1 => (asB p M1).bnd fun b M2 => .ok (.bl (!b)) M2 := id rfl
@[simp] theorem ev_fIf (c : FT) (f g : FE) (σ : PS) (M : PM) : fIf c f g σ M = (c σ M).bnd fun b M1 => if b = true then f σ M1 else g σ M1 := id rfl
@[simp] theorem ev_fChain (g g' : PV → PV → PM → Res PV) (fa fb fc : FE) (σ : PS) (M : PM) : fChain g g' fa fb fc σ M = (fa σ M).bnd fun x M1 => (fb σ M1).bnd fun y M2 => (g x y M2).bnd fun z M3 => (asB z M3).bnd fun k M4 => if k = true then (fc σ M4).bnd fun w M5 => g' y w M5 else .ok (.bl false) M4 := id rfl
@[simp] theorem ev_fNil (σ : PS) (M : PM) : fNil σ M = .ok [] M := id rfl
@[simp] theorem ev_fCons (f : FE) (g : FA) (σ : PS) (M : PM) : fCons f g σ M = (f σ M).bnd fun p M1 => (g σ M1).bnd fun ps M2 => .ok (p :: ps) M2 := id rfl
@[simp] theorem ev_fTup (f : FA) (σ : PS) (M : PM) : fTup f σ M = (f σ M).bnd fun ps M1 => if ps.length ≤ lim then .ok (.tup ps) M1 else .bad := id rfl
@[simp] theorem ev_fLst (f : FA) (σ : PS) (M : PM) : fLst f σ M = (f σ M).bnd fun ps M1 => if ps.length ≤ lim then .ok (.ref M1.length) (M1 ++ [.lst ps]) else .bad := id rfl
@[simp] theorem ev_fNoPart (σ : PS) (M : PM) : fNoPart σ M = .ok none M := id rfl
@[simp] theorem ev_fSl (g : PV → Option Int → Option Int → PM → Res PV) (f : FE) (l h : FO) (σ : PS) (M : PM) : fSl g f l h σ M = (f σ M).bnd fun p M1 => (l σ M1).bnd fun lo M2 => (h σ M2).bnd fun hi M3 => g p lo hi M3 := id rfl
@[simp] theorem ev_fNext (σ : PS) (M : PM) : fNext σ M = .nx σ M := id rfl
@[simp] theorem ev_fBreak (σ : PS) (M : PM) : fBreak σ M = .bk σ M := id rfl
@[simp] theorem ev_fCont (σ : PS) (M : PM) : fCont σ M = .ct σ M := id rfl
@[simp] theorem ev_fDrop (f : FE) (σ : PS) (M : PM) : fDrop f σ M = (f σ M).go fun _ M1 => .nx σ M1 := id rfl
@[simp] theorem ev_fRet (f : FE) (σ : PS) (M : PM) : fRet f σ M = (f σ M).go fun p M1 => .rt p M1 := id rfl
@[simp] theorem ev_fRetN (σ : PS) (M : PM) : fRetN σ M = .rt .non M := id rfl
@[simp] theorem ev_fIfS (c : FT) (f g : FS) (σ : PS) (M : PM) : fIfS c f g σ M = (c σ M).go fun b M1 => if b = true then f σ M1 else g σ M1 := id rfl
@[simp] theorem ev_fNever (σ : PS) (M : PM) : fNever σ M = .bad := id rfl
@[simp] theorem ev_fFor (i : FI) (g : FG) (b : FS) (σ : PS) (M : PM) : fFor i g b σ M = (i σ M).go fun it M1 => forP it.ok g b it.xs σ M1 := id rfl
@[simp] theorem ev_fI (i : PV → PM → Res PIt) (f : FE) (σ : PS) (M : PM) : fI i f σ M = (f σ M).bnd i := id rfl
@[simp] theorem ev_fIA (i : List PV → PM → Res PIt) (f : FA) (σ : PS) (M : PM) : fIA i f σ M = (f σ M).bnd i := id rfl
@[simp] theorem ev_fB (g : List PV → PM → Res PV) (f : FA) (σ : PS) (M : PM) : fB g f σ M = (f σ M).bnd g := id rfl
@[simp] theorem ev_fBM (T : String) (g : PV → List PV → PM → Res PV) (fo : FE) (fr : FA) (σ : PS) (M : PM) : fBM T g fo fr σ M = (fo σ M).bnd fun p M1 => if isTyP M1 T p = true then (fr σ M1).bnd fun as M2 => g p as M2 else .bad := id rfl
@[simp] theorem ev_fBM0 (T : String) (g : PV → List PV → PM → Res PV) (fo : FE) (σ : PS) (M : PM) : fBM0 T g fo σ M = (fo σ M).bnd fun p M1 => if isTyP M1 T p = true then g p [] M1 else .bad := id rfl
@[simp] theorem ev_fM1 (g : PV → List PV → PM → Res PV) (fo fe : FE) (σ : PS) (M : PM) : fM1 g fo fe σ M = (fo σ M).bnd fun p M1 => if isS p = true then (fe σ M1).bnd fun y M2 => g p [y] M2 else .bad := id rfl
@[simp] theorem ev_fCall (F : FF) (das : List PV) (fr : FA) (σ : PS) (M : PM) : fCall F das fr σ M = (fr σ M).bnd fun as M1 => F (as ++ das) M1 := id rfl
@[simp] theorem ev_fCallN (F : FF) (das : List PV) (fr : FA) (σ : PS) (M : PM) : fCallN F das fr σ M = (fr σ M).bnd fun as M1 => (F (as ++ das) M1).nox := id rfl
@[simp] theorem ev_fLc (i : FI) (g : FG) (ft : FT) (fe : FE) (vs : List Nat) (σ : PS) (M : PM) : fLc i g ft fe vs σ M = (i σ M).bnd fun it M1 => (lcP it.ok g ft fe M1.length (wipeP σ vs) it.xs (M1 ++ [.lst []])).bnd fun _ M2 => .ok (.ref M1.length) M2 := id rfl
@[simp] theorem ev_fDc (i : FI) (g : FG) (ft : FT) (fk fv : FE) (vs : List Nat) (σ : PS) (M : PM) : fDc i g ft fk fv vs σ M = (i σ M).bnd fun it M1 => (dcP it.ok g ft fk fv M1.length (wipeP σ vs) it.xs (M1 ++ [.dct []])).bnd fun _ M2 => .ok (.ref M1.length) M2 := id rfl
@[simp] theorem ev_fGc (f : FE) (σ : PS) (M : PM) : fGc f σ M = gc M (f σ M) := id rfl
@[simp] theorem ev_fMake (C : Addr) (F : FF) (das : List PV) (fr : FA) (σ : PS) (M : PM) : fMake C F das fr σ M = (fr σ M).bnd fun as M1 => (F (.ref M1.length :: (as ++ das)) (M1 ++ [.ins C []])).bnd (asN M1.length) := id rfl
@[simp] theorem ev_fMakeN (C : Addr) (F : FF) (das : List PV) (fr : FA) (σ : PS) (M : PM) : fMakeN C F das fr σ M = (fr σ M).bnd fun as M1 => (F (.ref M1.length :: (as ++ das)) (M1 ++ [.ins C []])).nox.bnd (asN M1.length) := id rfl
@[simp] theorem ev_fMeth (C : Addr) (m : String) (F : FF) (das : List PV) (fo : FE) (fr : FA) (σ : PS) (M : PM) : fMeth C m F das fo fr σ M = (fo σ M).bnd fun p M1 => if hasM M1 C m p = true then (fr σ M1).bnd fun as M2 => F (p :: (as ++ das)) M2 else .bad := id rfl
@[simp] theorem ev_fDNewK (σ : PS) (M : PM) : fDNewK σ M = .ok (.ref M.length) (M ++ [.dct []]) := id rfl
@[simp] theorem ev_fDNewT (σ : PS) (M : PM) : fDNewT σ M = .ok (.ref M.length) (M ++ [.dtt []]) := id rfl
@[simp] theorem ev_fSortSet (f : FE) (σ : PS) (M : PM) : fSortSet f σ M = (f σ M).bnd bSortSet := id rfl
/-! garbage -/
theorem keep_app {M ex : PM} : keepOk M (M ++ ex) := ⟨by simp, fun i hi => .inl (List.getElem?_append_left hi)⟩
theorem keep_self {M : PM} : keepOk M M := ⟨Nat.le_refl _, fun i hi => .inl rfl⟩
theorem gc_flat {M ex : PM} {p : PV} (h : p.wf M.length) : gc M (.ok p (M ++ ex)) = .ok p M := by
  unfold gc
  simp only
  rw [if_pos ⟨keep_app, h⟩, List.take_left]
theorem gc_self {M M2 : PM} {p : PV} (h : M2.length = M.length) : gc M (.ok p M2) = .ok p M2 := by
  unfold gc
  simp only
  split
  · rw [← h, List.take_length]
  · split
    · split
      · split
        · rename_i o e k
          have := (List.getElem?_eq_some_iff.mp e).1
          omega
        · rfl
      · rfl
    · rfl
/-- a new list alone is left -/
theorem gc_new {M M2 : PM} {k : Nat} {o : PO} (hk : keepOk M M2) (lk : M.length ≤ k) (e : M2[k]? = some o) (w : o.wf M.length) : gc M (.ok (.ref k) M2) = .ok (.ref M.length) (M2.take M.length ++ [o]) := by
  unfold gc
  simp only
  rw [if_neg fun z => by have := z.2; simp at this; omega, e]
  simp only
  rw [if_pos ⟨hk, w, lk⟩]
theorem gc_keep {M M2 : PM} {p : PV} (hk : keepOk M M2) (w : p.wf M.length) : gc M (.ok p M2) = .ok p (M2.take M.length) := by
  unfold gc
  simp only
  rw [if_pos ⟨hk, w⟩]
theorem gc_exc {M M2 : PM} {x : Xc} (hk : keepOk M M2) : gc M (.exc x M2) = .exc x (M2.take M.length) := by
  unfold gc
  simp only
  rw [if_pos hk]
theorem keep_set {M ex : PM} {b : Nat} {o : PO} (w : o.wf M.length) : keepOk M (M.set b o ++ ex) := by
  refine ⟨by simp, fun i hi => ?_⟩
  rw [List.getElem?_append_left (by simpa using hi)]
  by_cases h : i = b
  · subst h
    exact .inr ⟨o, List.getElem?_set_self hi, w⟩
  · exact .inl (List.getElem?_set_ne (Ne.symm h))
theorem take_set {M ex : PM} {b : Nat} {o : PO} : (M.set b o ++ ex).take M.length = M.set b o := by
  rw [List.take_append_of_le_length (by simp), List.take_of_length_le (by simp)]
/-! loops -/
/-- a for whose body always goes on -/
theorem for_inv {ok : PM → Prop} {g : FG} {b : FS} {xs : List PV} {σ : PS} {M : PM} (I : Nat → PS → PM → Prop) (h0 : I 0 σ M) (hok : ∀ i σ M, i ≤ xs.length → I i σ M → ok M)
    (hs : ∀ i x σ M, xs[i]? = some x → I i σ M → ∃ σ1, g x σ = some σ1 ∧ ∃ σ2 M2, (b σ1 M = .nx σ2 M2 ∨ b σ1 M = .ct σ2 M2) ∧ I (i + 1) σ2 M2) : ∃ σ' M', forP ok g b xs σ M = .nx σ' M' ∧ I xs.length σ' M' := by
  induction xs generalizing σ M I with
  | nil =>
    refine ⟨σ, M, ?_, h0⟩
    unfold forP
    rw [if_pos (hok 0 σ M (Nat.le_refl _) h0)]
  | cons x xs ih =>
    unfold forP
    rw [if_pos (hok 0 σ M (Nat.zero_le _) h0)]
    obtain ⟨σ1, e1, σ2, M2, e2, i2⟩ := hs 0 x σ M rfl h0
    rw [e1]
    have go := ih (σ := σ2) (M := M2) (fun i => I (i + 1)) i2 (fun i σ M hi h => hok (i + 1) σ M (by simpa using hi) h) (fun i y σ M hy h => hs (i + 1) y σ M (by simpa using hy) h)
    simp only
    rcases e2 with e2 | e2 <;> (rw [e2]; exact go)
/-- what a part of a slice must be -/
def asI (p : PV) (M : PM) : Res (Option Int) := match p with
  | .int i => .ok (some i) M
  | _ => .bad
@[simp] theorem asI_int (i : Int) (M : PM) : asI (.int i) M = .ok (some i) M := id rfl
@[simp] theorem ev_fPart (f : FE) (σ : PS) (M : PM) : fPart f σ M = (f σ M).bnd asI := id rfl
def then2 (g : FS) (r : SR) : SR := match r with
  | .nx σ M => g σ M
  | r => r
@[simp] theorem then2_nx (g : FS) (σ : PS) (M : PM) : then2 g (.nx σ M) = g σ M := id rfl
@[simp] theorem then2_rt (g : FS) (p : PV) (M : PM) : then2 g (.rt p M) = .rt p M := id rfl
@[simp] theorem then2_exc (g : FS) (x : Xc) (M : PM) : then2 g (.exc x M) = .exc x M := id rfl
@[simp] theorem then2_bad (g : FS) : then2 g .bad = .bad := id rfl
@[simp] theorem then2_ite (g : FS) (p : Prop) [Decidable p] (a b : SR) : then2 g (if p then a else b) = if p then then2 g a else then2 g b := by split <;> rfl
@[simp] theorem ev_fSeq (f g : FS) (σ : PS) (M : PM) : fSeq f g σ M = then2 g (f σ M) := id rfl
def toSt (M : PM) (o : Option PS) : SR := match o with
  | some σ => .nx σ M
  | none => .bad
@[simp] theorem toSt_some (M : PM) (σ : PS) : toSt M (some σ) = .nx σ M := id rfl
@[simp] theorem ev_fAsg (f : FE) (g : FG) (σ : PS) (M : PM) : fAsg f g σ M = (f σ M).go fun p M1 => toSt M1 (g p σ) := id rfl
@[simp] theorem ev_gNm (i : Nat) (p : PV) (σ : PS) : gNm i p σ = some (σ.set i (some p)) := id rfl
@[simp] theorem ev_gTp (gs : List PV → PS → Option PS) (xs : List PV) (σ : PS) : gTp gs (.tup xs) σ = gs xs σ := id rfl
@[simp] theorem ev_gsNil (σ : PS) : gsNil [] σ = some σ := id rfl
@[simp] theorem ev_gsCons (g : FG) (gs : List PV → PS → Option PS) (p : PV) (r : List PV) (σ : PS) : gsCons g gs (p :: r) σ = (g p σ).bind fun σ1 => gs r σ1 := id rfl
@[simp] theorem bnd_ite {α β : Type} (p : Prop) [Decidable p] (a b : Res α) (k : α → PM → Res β) : (if p then a else b).bnd k = if p then a.bnd k else b.bnd k := by split <;> rfl
@[simp] theorem go_ite {α : Type} (p : Prop) [Decidable p] (a b : Res α) (k : α → PM → SR) : (if p then a else b).go k = if p then a.go k else b.go k := by split <;> rfl
@[simp] theorem asB_bl (b : Bool) (M : PM) : asB (.bl b) M = .ok b M := id rfl
@[simp] theorem pI0_int (g : Int → Int → PV) (i j : Int) (M : PM) : pI0 g (.int i) (.int j) M = .ok (g i j) M := id rfl
theorem pI_int {C : Int → Int → Prop} {g : Int → Int → PV} {i j : Int} {M : PM} (h : C i j) : pI C g (.int i) (.int j) M = .ok (g i j) M := if_pos h
@[simp] theorem pU_int (g : Int → PV) (i : Int) (M : PM) : pU g (.int i) M = .ok (g i) M := id rfl
@[simp] theorem pEq_int (i j : Int) (M : PM) : pEq (.int i) (.int j) M = .ok (.bl (decide (i = j))) M := id rfl
@[simp] theorem pEq_str (i j : List Nat) (M : PM) : pEq (.str i) (.str j) M = .ok (.bl (decide (i = j))) M := id rfl
@[simp] theorem pEq_bl (i j : Bool) (M : PM) : pEq (.bl i) (.bl j) M = .ok (.bl (decide (i = j))) M := id rfl
@[simp] theorem pNe_int (i j : Int) (M : PM) : pNe (.int i) (.int j) M = .ok (.bl (!decide (i = j))) M := id rfl
@[simp] theorem pNe_str (i j : List Nat) (M : PM) : pNe (.str i) (.str j) M = .ok (.bl (!decide (i = j))) M := id rfl
@[simp] theorem pNe_nonint (j : Int) (M : PM) : pNe .non (.int j) M = .ok (.bl true) M := id rfl
@[simp] theorem pIsN_non (p : PV) (M : PM) : pIsN p .non M = .ok (.bl (isNon p)) M := id rfl
@[simp] theorem pNotN_non (p : PV) (M : PM) : pNotN p .non M = .ok (.bl (!isNon p)) M := id rfl
@[simp] theorem isNon_non : isNon .non = true := id rfl
@[simp] theorem isNon_str (s : List Nat) : isNon (.str s) = false := id rfl
@[simp] theorem isNon_tup (s : List PV) : isNon (.tup s) = false := id rfl
@[simp] theorem isNon_int (s : Int) : isNon (.int s) = false := id rfl
theorem pAddS_str {a b : List Nat} {M : PM} (h : a.length + b.length ≤ lim) : pAddS (.str a) (.str b) M = .ok (.str (a ++ b)) M := if_pos h
@[simp] theorem pInS_one (c : Nat) (z : List Nat) (M : PM) : pInS (.str [c]) (.str z) M = .ok (.bl (decide (c ∈ z))) M := id rfl
@[simp] theorem lstAt_ref' (M : PM) (k : Nat) (xs : List PV) (h : M[k]? = some (.lst xs)) : lstAt M (.ref k) = some xs := by unfold lstAt; simp only [h]
theorem pIxT_at {xs : List PV} {i : Int} {x : PV} {M : PM} (h : atI xs i = some x) : pIxT (.tup xs) (.int i) M = .ok x M := by unfold pIxT; simp only [h]
theorem pIxL_at {k : Nat} {xs : List PV} {i : Int} {x : PV} {M : PM} (e : M[k]? = some (.lst xs)) (h : atI xs i = some x) : pIxL (.ref k) (.int i) M = .ok x M := by unfold pIxL; simp only [lstAt_ref' M k xs e, h]
theorem pIxS_at {xs : List Nat} {i : Int} {x : Nat} {M : PM} (hl : xs.length ≤ lim) (h : atI xs i = some x) : pIxS (.str xs) (.int i) M = .ok (.str [x]) M := by unfold pIxS; simp only [if_pos hl, h]
@[simp] theorem bLen_tup (xs : List PV) (M : PM) : bLen [.tup xs] M = .ok (.int (xs.length : Nat)) M := id rfl
theorem bLen_lst {k : Nat} {xs : List PV} {M : PM} (e : M[k]? = some (.lst xs)) : bLen [.ref k] M = .ok (.int (xs.length : Nat)) M := by unfold bLen seqAt; simp only [lstAt_ref' M k xs e]
theorem bLenS_str {s : List Nat} {M : PM} (h : s.length ≤ lim) : bLenS [.str s] M = .ok (.int (s.length : Nat)) M := if_pos h
@[simp] theorem pSlT_tup (xs : List PV) (lo hi : Option Int) (M : PM) : pSlT (.tup xs) lo hi M = .ok (.tup (cut xs lo hi)) M := id rfl
theorem pSlS_str {xs : List Nat} {lo hi : Option Int} {M : PM} (h : xs.length ≤ lim) : pSlS (.str xs) lo hi M = .ok (.str (cut xs lo hi)) M := if_pos h
@[simp] theorem bTup_tup (xs : List PV) (M : PM) : bTup [.tup xs] M = .ok (.tup xs) M := id rfl
theorem bTup_lst {k : Nat} {xs : List PV} {M : PM} (e : M[k]? = some (.lst xs)) : bTup [.ref k] M = .ok (.tup xs) M := by unfold bTup seqAt; simp only [lstAt_ref' M k xs e]
@[simp] theorem itT_tup (xs : List PV) (M : PM) : itT (.tup xs) M = .ok ⟨xs, fun _ => True⟩ M := id rfl
@[simp] theorem itS_str (s : List Nat) (M : PM) : itS (.str s) M = .ok ⟨s.map fun c => .str [c], fun _ => True⟩ M := id rfl
theorem itR1_int {j : Int} {M : PM} (h : -(2 ^ 62) ≤ j ∧ j < 2 ^ 62) : itR1 [.int j] M = .ok ⟨upTo 0 j.toNat, fun _ => True⟩ M := if_pos h
@[simp] theorem itZ_tup (xs ys : List PV) (M : PM) : itZ [.tup xs, .tup ys] M = .ok ⟨zipP xs ys, fun _ => True⟩ M := id rfl
@[simp] theorem itET_tup (xs : List PV) (M : PM) : itET [.tup xs] M = .ok ⟨enumP xs, fun _ => True⟩ M := id rfl
@[simp] theorem itES_str (s : List Nat) (M : PM) : itES [.str s] M = .ok ⟨enumP (s.map fun c => .str [c]), fun _ => True⟩ M := id rfl
@[simp] theorem isTy_str (M : PM) (s : List Nat) : isTyP M "str" (.str s) = true := id rfl
theorem isTy_lst {M : PM} {k : Nat} {xs : List PV} (e : M[k]? = some (.lst xs)) : isTyP M "list" (.ref k) = true := by unfold isTyP; simp only [e]; rfl
@[simp] theorem isS_str (s : List Nat) : isS (.str s) = true := id rfl
@[simp] theorem mFind3_at (a b : List Nat) (i : Int) (M : PM) : mFind3 (.str a) [.str b, .int i] M = .ok (.int (Txt.find3 (tx a) (tx b) i)) M := id rfl
@[simp] theorem fnRes_nx (σ : PS) (M : PM) : fnRes (.nx σ M) = .ok .non M := id rfl
@[simp] theorem fnRes_rt (p : PV) (M : PM) : fnRes (.rt p M) = .ok p M := id rfl
@[simp] theorem fnRes_exc (x : Xc) (M : PM) : fnRes (.exc x M) = .exc x M := id rfl
@[simp] theorem fnRes_ite (p : Prop) [Decidable p] (a b : SR) : fnRes (if p then a else b) = if p then fnRes a else fnRes b := by split <;> rfl
theorem fn_at {k n : Nat} {B : FS} {as : List PV} {M : PM} (h : as.length = k) : fnOf k n B as M = gc M (fnRes (B (startP n as) M)) := if_pos h
@[simp] theorem forP_nil (ok : PM → Prop) (g : FG) (b : FS) (σ : PS) (M : PM) (h : ok M) : forP ok g b [] σ M = .nx σ M := if_pos h
@[simp] theorem gc_id (M : PM) (p : PV) : gc M (.ok p M) = .ok p M := gc_self rfl
@[simp] theorem gc_excId (M : PM) (x : Xc) : gc M (.exc x M) = .exc x M := by rw [gc_exc keep_self, List.take_length]
@[simp] theorem gc_ite (M : PM) (p : Prop) [Decidable p] (a b : Res PV) : gc M (if p then a else b) = if p then gc M a else gc M b := by split <;> rfl
@[simp] theorem ev_fVar0 (p : PV) (r : PS) (M : PM) : fVar 0 (some p :: r) M = .ok p M := id rfl
@[simp] theorem ev_fVarS (i : Nat) (x : Option PV) (r : PS) (M : PM) : fVar (i + 1) (x :: r) M = fVar i r M := id rfl
/-- .. the items as images -/
theorem lc_mapF {α : Type} {ok : PM → Prop} {g : FG} {ft : FT} {fe : FE} {σ : PS} {e h : α → PV} {M : PM} : ∀ {zs : List α} {acc : List PV}, (∀ acc, ok (M ++ [.lst acc])) → acc.length + zs.length ≤ lim →
    (∀ z ∈ zs, ∃ σ1, g (e z) σ = some σ1 ∧ ∀ acc, ft σ1 (M ++ [.lst acc]) = .ok true (M ++ [.lst acc]) ∧ fe σ1 (M ++ [.lst acc]) = .ok (h z) (M ++ [.lst acc])) →
    lcP ok g ft fe M.length σ (zs.map e) (M ++ [.lst acc]) = .ok () (M ++ [.lst (acc ++ zs.map h)])
  | [], acc, hok, _, _ => by
    rw [List.map_nil, List.map_nil, List.append_nil]
    unfold lcP
    rw [if_pos (hok acc)]
  | x :: xs, acc, hok, hl, hs => by
    rw [List.map_cons]
    unfold lcP
    rw [if_pos (hok acc)]
    obtain ⟨σ1, e1, h1⟩ := hs x List.mem_cons_self
    obtain ⟨e2, e3⟩ := h1 acc
    rw [e1]
    simp only
    rw [e2, nox_ok, bnd_ok, if_pos rfl, e3, nox_ok, bnd_ok]
    have e4 : (M ++ [PO.lst acc])[M.length]? = some (.lst acc) := by simp
    rw [e4]
    simp only
    rw [List.length_cons] at hl
    rw [if_pos (by omega : acc.length < lim)]
    have e5 : (M ++ [PO.lst acc]).set M.length (.lst (acc ++ [h x])) = M ++ [.lst (acc ++ [h x])] := by simp
    rw [e5, lc_mapF hok (by simp; omega) (fun y hy => hs y (List.mem_cons_of_mem _ hy))]
    simp
@[simp] theorem bAll_at (M ex : PM) (bs : List Bool) : bAll [.ref M.length] (M ++ .lst (bs.map PV.bl) :: ex) = .ok (.bl (bs.all id)) (M ++ .lst (bs.map PV.bl) :: ex) := by
  have h : lstAt (M ++ .lst (bs.map PV.bl) :: ex) (.ref M.length) = some (bs.map PV.bl) := lstAt_ref' _ _ _ (by simp)
  unfold bAll
  simp only [h, Option.bind_some, asBls_map]
@[simp] theorem bAny_at (M ex : PM) (bs : List Bool) : bAny [.ref M.length] (M ++ .lst (bs.map PV.bl) :: ex) = .ok (.bl (bs.any id)) (M ++ .lst (bs.map PV.bl) :: ex) := by
  have h : lstAt (M ++ .lst (bs.map PV.bl) :: ex) (.ref M.length) = some (bs.map PV.bl) := lstAt_ref' _ _ _ (by simp)
  unfold bAny
  simp only [h, Option.bind_some, asBls_map]
@[simp] theorem bSum_at (M ex : PM) (bs : List Int) : bSum [.ref M.length] (M ++ .lst (bs.map PV.int) :: ex) = .ok (.int bs.sum) (M ++ .lst (bs.map PV.int) :: ex) := by
  have h : lstAt (M ++ .lst (bs.map PV.int) :: ex) (.ref M.length) = some (bs.map PV.int) := lstAt_ref' _ _ _ (by simp)
  unfold bSum
  simp only [h, Option.bind_some, asInts_map]
@[simp] theorem bTup_at (M ex : PM) (xs : List PV) : bTup [.ref M.length] (M ++ .lst xs :: ex) = .ok (.tup xs) (M ++ .lst xs :: ex) := bTup_lst (by simp)
@[simp] theorem bAll_atF {α : Type} (M ex : PM) (f : α → Bool) (zs : List α) : bAll [.ref M.length] (M ++ .lst (zs.map fun z => PV.bl (f z)) :: ex) = .ok (.bl (zs.all f)) (M ++ .lst (zs.map fun z => PV.bl (f z)) :: ex) := by
  have h : zs.map (fun z => PV.bl (f z)) = (zs.map f).map PV.bl := by rw [List.map_map]; rfl
  rw [h, bAll_at, List.all_map]
  rfl
@[simp] theorem bAny_atF {α : Type} (M ex : PM) (f : α → Bool) (zs : List α) : bAny [.ref M.length] (M ++ .lst (zs.map fun z => PV.bl (f z)) :: ex) = .ok (.bl (zs.any f)) (M ++ .lst (zs.map fun z => PV.bl (f z)) :: ex) := by
  have h : zs.map (fun z => PV.bl (f z)) = (zs.map f).map PV.bl := by rw [List.map_map]; rfl
  rw [h, bAny_at, List.any_map]
  rfl
@[simp] theorem bSum_atF {α : Type} (M ex : PM) (f : α → Int) (zs : List α) : bSum [.ref M.length] (M ++ .lst (zs.map fun z => PV.int (f z)) :: ex) = .ok (.int (zs.map f).sum) (M ++ .lst (zs.map fun z => PV.int (f z)) :: ex) := by
  have h : zs.map (fun z => PV.int (f z)) = (zs.map f).map PV.int := by rw [List.map_map]; rfl
  rw [h, bSum_at]
/-- a loop by its word -/
theorem for_word {α : Type} (P : SR → Prop) {ok : PM → Prop} {g : FG} {b : FS} {e : α → PV} {M : PM} {zs : List α} {σ : PS} (I : Nat → PS → PM → Prop) (h0 : I 0 σ M) (hok : ∀ i σ M, i ≤ zs.length → I i σ M → ok M)
    (hs : ∀ i z σ M, zs[i]? = some z → I i σ M → ∃ σ1, g (e z) σ = some σ1 ∧ ∃ σ2 M2, (b σ1 M = .nx σ2 M2 ∨ b σ1 M = .ct σ2 M2) ∧ I (i + 1) σ2 M2) (h1 : ∀ σ' M', I zs.length σ' M' → P (.nx σ' M')) : P (forP ok g b (zs.map e) σ M) := by
  obtain ⟨σ', M', e1, i1⟩ := for_inv (xs := zs.map e) (ok := ok) (g := g) (b := b) I h0 (fun i σ M hi h => hok i σ M (by simpa using hi) h) (fun i x σ M hx h => by
    rw [List.getElem?_map] at hx
    cases hz : zs[i]? with
    | none => rw [hz] at hx; cases hx
    | some z =>
      rw [hz] at hx
      cases hx
      exact hs i z σ M hz h)
  rw [e1]
  rw [List.length_map] at i1
  exact h1 σ' M' i1
def toM (σ : PS) (o : Option PM) : SR := match o with
  | some M => .nx σ M
  | none => .bad
@[simp] theorem toM_some (σ : PS) (M : PM) : toM σ (some M) = .nx σ M := id rfl
/-- .. at any place and store -/
theorem lc_mapE {α : Type} {ok : PM → Prop} {g : FG} {ft : FT} {fe : FE} {σ : PS} {e : α → PV} {d : Nat} {N : PM} {zs : List α} (M : PM) (h : α → PV) (hd : d = M.length) (hN : N = M ++ [.lst []]) (hok : ∀ acc, ok (M ++ [.lst acc])) (hl : zs.length ≤ lim)
    (hs : ∀ z ∈ zs, ∃ σ1, g (e z) σ = some σ1 ∧ ∀ acc, ft σ1 (M ++ [.lst acc]) = .ok true (M ++ [.lst acc]) ∧ fe σ1 (M ++ [.lst acc]) = .ok (h z) (M ++ [.lst acc])) :
    lcP ok g ft fe d σ (zs.map e) N = .ok () (M ++ [.lst (zs.map h)]) := by
  subst hd hN
  rw [lc_mapF (h := h) hok (by simpa using hl) hs, List.nil_append]
theorem lc_filterE {α : Type} {ok : PM → Prop} {g : FG} {ft : FT} {fe : FE} {σ : PS} {e : α → PV} {d : Nat} {N : PM} {zs : List α} (M : PM) (h : α → PV) (t : α → Bool) (hd : d = M.length) (hN : N = M ++ [.lst []]) (hok : ∀ acc, ok (M ++ [.lst acc])) (hl : zs.length ≤ lim)
    (hs : ∀ z ∈ zs, ∃ σ1, g (e z) σ = some σ1 ∧ ∀ acc, ft σ1 (M ++ [.lst acc]) = .ok (t z) (M ++ [.lst acc]) ∧ (t z = true → fe σ1 (M ++ [.lst acc]) = .ok (h z) (M ++ [.lst acc]))) :
    lcP ok g ft fe d σ (zs.map e) N = .ok () (M ++ [.lst ((zs.filter t).map h)]) := by
  subst hd hN
  have go : ∀ (zs : List α) (acc : List PV), acc.length + zs.length ≤ lim → (∀ z ∈ zs, ∃ σ1, g (e z) σ = some σ1 ∧ ∀ acc, ft σ1 (M ++ [.lst acc]) = .ok (t z) (M ++ [.lst acc]) ∧ (t z = true → fe σ1 (M ++ [.lst acc]) = .ok (h z) (M ++ [.lst acc]))) →
      lcP ok g ft fe M.length σ (zs.map e) (M ++ [.lst acc]) = .ok () (M ++ [.lst (acc ++ (zs.filter t).map h)]) := by
    intro zs
    induction zs with
    | nil =>
      intro acc _ _
      rw [List.map_nil, List.filter_nil, List.map_nil, List.append_nil]
      unfold lcP
      rw [if_pos (hok acc)]
    | cons x xs ih =>
      intro acc hl hs
      obtain ⟨σ1, e1, h1⟩ := hs x List.mem_cons_self
      obtain ⟨e2, e3⟩ := h1 acc
      rw [List.length_cons] at hl
      rw [List.map_cons]
      unfold lcP
      rw [if_pos (hok acc), e1]
      simp only
      rw [e2, nox_ok, bnd_ok]
      cases ht : t x with
      | false => rw [if_neg (by simp), ih acc (by omega) (fun y hy => hs y (List.mem_cons_of_mem _ hy)), List.filter_cons_of_neg (by simp [ht])]
      | true =>
        rw [if_pos rfl, e3 ht, nox_ok, bnd_ok]
        have e4 : (M ++ [PO.lst acc])[M.length]? = some (.lst acc) := by simp
        rw [e4]
        simp only
        rw [if_pos (by omega : acc.length < lim)]
        have e5 : (M ++ [PO.lst acc]).set M.length (.lst (acc ++ [h x])) = M ++ [.lst (acc ++ [h x])] := by simp
        rw [e5, ih (acc ++ [h x]) (by simp; omega) (fun y hy => hs y (List.mem_cons_of_mem _ hy)), List.filter_cons_of_pos ht]
        simp
  exact go zs [] (by simpa using hl) hs
end Pu
namespace Pu
open PySem
/-- where the program's classes stand -/
structure CA where
  LeakError : Addr := 0
  BadName : Addr := 0
  BadWord : Addr := 0
  BadAct : Addr := 0
  BadScene : Addr := 0
  BadWish : Addr := 0
  BadBody : Addr := 0
  BadAtom : Addr := 0
  BadDeed : Addr := 0
  BadText : Addr := 0
  Taken : Addr := 0
  Full : Addr := 0
  Heavy : Addr := 0
  NoMachine : Addr := 0
  NoRow : Addr := 0
  NoMove : Addr := 0
  NoLetter : Addr := 0
  NoLab : Addr := 0
  NoWish : Addr := 0
  NoDeed : Addr := 0
  Lab : Addr := 0
  Search : Addr := 0
  Shelf : Addr := 0
  Trail : Addr := 0
  Plan : Addr := 0
  Bench : Addr := 0
  Desk : Addr := 0
  nd : List (Addr × NestedKey) → Addr → L2.HO := fun _ _ => .lst []
end Pu
namespace Pu
open PySem PySem.Spec PyProof.Rows L2 LB
/-! ### the end of a law: behind its bag it is a pure run -/
theorem rvs_ints {ι : Nat → Addr} {N : Nat} {H : Hp} : ∀ ns : List Int, Rvs ι N H (ns.map PV.int) (ns.map V.int)
  | [] => .nil
  | n :: ns => .cons .mk_int (rvs_ints ns)
theorem law_cut {X : Cx} {st : Stmt} {rest : List Stmt} {t1 : TS} {tb : List (Addr × Str)} {E : XK} {B : FS} (h1 : L2.PS X st t1) (h2 : ∃ tr, PSs X rest tr ∧ SmS tb E tr B) {D : Ends} {σ : L2.St} {H : Hp} (h3 : ∀ tr, SmS tb E tr B → (tSeq t1 tr) D σ H) : ∃ t, PSs X (st :: rest) t ∧ t D σ H := by
  obtain ⟨tr, h2, h4⟩ := h2
  exact ⟨_, pss_cons h1 h2, h3 tr h4⟩
theorem law_end {tb : List (Addr × Str)} {E : XK} {t : TS} {B : FS} {n : Nat} {a b cl : Addr} {H1 : Hp} {D : Ends} (sm : SmS tb E t B) (hB : Bag b cl H1) (ht : LamX.Tabs tb H1)
    (h : ∀ (ns : List Int) (i r sd ct : Int), 0 ≤ i → ∃ M', B (none :: some (.ref 1) :: List.replicate n none) [.lst (ns.map PV.int), .lst [.ref 0, .int i, .int r, .int sd, .int ct]] = .rt (.bl true) M')
    (q : ∀ H', D.rt (.bl true) H') : t D (some (.ref a) :: some (.ref b) :: List.replicate n none) H1 := by
  obtain ⟨nb, ns, i, r, sd, ct, e1, e2, hl, i0⟩ := hB
  obtain ⟨M', e⟩ := h ns i r sd ct i0
  have R : RM tb (fun k => if k = 0 then cl else b) [.lst (ns.map PV.int), .lst [.ref 0, .int i, .int r, .int sd, .int ct]] H1 := by
    refine ⟨fun j k hj hk e => ?_, fun j o ho => ?_, ht⟩
    · have hj : j < 2 := hj
      have hk : k < 2 := hk
      rcases (show j = 0 ∨ j = 1 by omega) with rfl | rfl <;> rcases (show k = 0 ∨ k = 1 by omega) with rfl | rfl
      · rfl
      · exact absurd e nb
      · exact absurd e.symm nb
      · rfl
    · match j, ho with
      | 0, ho =>
        cases ho
        exact ⟨_, e2, rvs_ints ns⟩
      | 1, ho =>
        cases ho
        exact ⟨_, e1, .cons (.mk_ref (ι := fun k => if k = 0 then cl else b) (k := 0) (by show 0 < 2; decide)) (.cons .mk_int (.cons .mk_int (.cons .mk_int (.cons .mk_int .nil))))⟩
  refine sm _ _ H1 (none :: some (.ref 1) :: List.replicate n none) _ D R ⟨by simp, fun j p hp => ?_⟩ ?_
  · match j, hp with
    | 0, hp => cases hp
    | 1, hp =>
      cases hp
      exact ⟨_, rfl, .mk_ref (ι := fun k => if k = 0 then cl else b) (k := 1) (by show 1 < 2; decide)⟩
    | j + 2, hp =>
      have hp : (List.replicate n (none : Option PV))[j]? = some (some p) := hp
      rw [List.getElem?_replicate] at hp
      split at hp <;> cases hp
  · rw [e]
    exact fun ι' H' v _ _ _ hv => by rw [hv.bl]; exact q H'
end Pu
namespace Pu
open PySem PySem.Spec PyProof.Rows L2 LB
open Classical
/-! ### a def that never raises, where one that raises is asked for -/
theorem fn_any {P : Program} {w : World} {K : PySem.W.Frag} {mg : Str → Option Value} {base : Heap} {CX : CXT} {k : Nat} {f : Addr} {fd : FuncData} {ps : List Str} {sp : Sp} (F : FnOk P w K mg base CX0 k f fd ps sp) : FnOk P w K mg base CX k f fd ps sp :=
  ⟨F.len, fun A outer s H args us vs Q E hr he hb hv hs => codeAny_mono (F.run A outer s H args us vs Q E hr he hb hv hs) fun r s2 h => by
    cases r with
    | ok r => cases r <;> exact h
    | error e => exact (h : False).elim⟩
/-! ### the same data -/
def SamP (M : PM) : Nat → PV → PV → Prop
  | 0, p, q => flatP p = true ∧ p = q
  | n + 1, p, q => (flatP p = true ∧ p = q) ∨ ∃ xs ys, ((p = .tup xs ∧ q = .tup ys) ∨ ∃ i j, p = .ref i ∧ q = .ref j ∧ M[i]? = some (.lst xs) ∧ M[j]? = some (.lst ys)) ∧ xs.length < 100000 ∧ Paired (SamP M n) xs ys
noncomputable def F_same (n : Nat) : FF := fun as M => match as with
  | [p, q] => if SamP M n p q then .ok (.bl true) M else .bad
  | _ => .bad
section
variable {tb : List (Addr × Str)} {ι : Nat → Addr} {M : PM} {H H' : Hp} {K : PySem.W.Frag}
theorem flat_rv {N : Nat} {p : PV} {v w : V} (h : flatP p = true) (a : Rv ι N H p v) (b : Rv ι N H p w) : flat1 v = true ∧ v = w := by
  cases p with
  | non => rw [a.non, b.non]; exact ⟨rfl, rfl⟩
  | bl x => rw [a.bl, b.bl]; exact ⟨rfl, rfl⟩
  | int x => rw [a.int, b.int]; exact ⟨rfl, rfl⟩
  | str x => rw [a.str, b.str]; exact ⟨rfl, rfl⟩
  | ty _ => cases h
  | adr _ => cases h
  | ref _ => cases h
  | tup _ => cases h
  | tpb _ => cases h
theorem paired_two {α β γ δ : Type} {F : α → β → Prop} {G : α → γ → Prop} {I : β → δ → Prop} {J : γ → δ → Prop} (f : ∀ p q v w, F p q → G p v → I q w → J v w) : ∀ {ps : List α} {qs : List β} {vs : List γ} {ws : List δ}, Paired F ps qs → Paired G ps vs → Paired I qs ws → Paired J vs ws
  | _, _, _, _, .nil, .nil, .nil => .nil
  | _, _, _, _, .cons a b, .cons c d, .cons e g => .cons (f _ _ _ _ a c e) (paired_two f b d g)
theorem samP_sam (R : RM tb ι M H) : ∀ {n : Nat} {p q : PV} {v w : V}, SamP M n p q → Rv ι M.length H p v → Rv ι M.length H q w → Sam K H n v w
  | 0, p, q, v, w, h, a, b => by
    obtain ⟨h1, rfl⟩ := h
    exact flat_rv h1 a b
  | n + 1, p, q, v, w, h, a, b => by
    rcases h with ⟨h1, rfl⟩ | ⟨xs, ys, h1, hl, pp⟩
    · exact .inl (flat_rv h1 a b)
    · rcases h1 with ⟨rfl, rfl⟩ | ⟨i, j, rfl, rfl, e1, e2⟩
      · obtain ⟨c, vs, rfl, e1, r1⟩ := a.tup_at
        obtain ⟨d, ws, rfl, e2, r2⟩ := b.tup_at
        exact .inr ⟨c, d, vs, ws, rfl, rfl, .inr ⟨e1, e2⟩, by rw [← r1.len]; exact hl, paired_two (F := SamP M n) (G := Rv ι M.length H) (I := Rv ι M.length H) (J := Sam K H n) (fun _ _ _ _ h a b => samP_sam (n := n) R h a b) pp r1.pr r2.pr⟩
      · obtain ⟨vs, g1, r1⟩ := R.obj i _ e1
        obtain ⟨ws, g2, r2⟩ := R.obj j _ e2
        exact .inr ⟨ι i, ι j, vs, ws, a.ref_at.2, b.ref_at.2, .inl ⟨g1, g2⟩, by rw [← r1.len]; exact hl, paired_two (F := SamP M n) (G := Rv ι M.length H) (I := Rv ι M.length H) (J := Sam K H n) (fun _ _ _ _ h a b => samP_sam (n := n) R h a b) pp r1.pr r2.pr⟩
theorem ex_same {n : Nat} (s : Same H H') : Ex ι ι n H H' := ⟨fun _ _ => rfl, fun a vs e => s _ _ e, fun a o u e => s _ _ e⟩
theorem RM.same (r : RM tb ι M H) (s : Same H H') : RM tb ι M H' :=
  ⟨r.inj, fun i o h => by
    obtain ⟨x, e, _⟩ := (r.obj i o h).some
    exact (r.obj i o h).mono (ex_same s) (Nat.le_refl _) ((s _ _ e).trans e.symm), r.tab.ext s⟩
theorem same_imp {n : Nat} {vs : List V} {Q : VK} {E : XK} (h : spF tb (F_same n) vs H Q E) : ∃ v w, vs = [v, w] ∧ Sam K H n v w ∧ ∀ H', Same H H' → Q (.bl true) H' := by
  obtain ⟨ι, M, as, R, r, w⟩ := h
  unfold F_same at w
  split at w
  · rename_i p q
    split at w
    · rename_i sp
      unfold Rvs at r
      obtain ⟨v, r', rfl, q1, r⟩ := r
      unfold Rvs at r
      obtain ⟨u, r'', rfl, q2, r⟩ := r
      unfold Rvs at r
      subst r
      exact ⟨v, u, rfl, samP_sam R sp q1 q2, fun H' s => w ι H' _ (ex_same s) (Nat.le_refl _) (R.same s) .mk_bl⟩
    · exact w.elim
  · exact w.elim
/-- data of tuples alone -/
def Flt : Nat → PV → Prop
  | _, .non => True
  | _, .bl _ => True
  | _, .int _ => True
  | _, .str _ => True
  | n + 1, .tup xs => xs.length < 100000 ∧ ∀ x ∈ xs, Flt n x
  | _, _ => False
theorem paired_refl {α : Type} {F : α → α → Prop} : ∀ {xs : List α}, (∀ x ∈ xs, F x x) → Paired F xs xs
  | [], _ => .nil
  | x :: xs, h => .cons (h x List.mem_cons_self) (paired_refl fun y hy => h y (List.mem_cons_of_mem _ hy))
theorem samP_refl : ∀ {n : Nat} {p : PV}, Flt n p → SamP M n p p
  | 0, p, h => by cases p <;> first | exact ⟨rfl, rfl⟩ | exact (h : False).elim
  | n + 1, p, h => by
    cases p with
    | tup xs =>
      unfold Flt at h
      exact .inr ⟨xs, xs, .inl ⟨rfl, rfl⟩, h.1, paired_refl fun x hx => samP_refl (h.2 x hx)⟩
    | non => exact .inl ⟨rfl, rfl⟩
    | bl _ => exact .inl ⟨rfl, rfl⟩
    | int _ => exact .inl ⟨rfl, rfl⟩
    | str _ => exact .inl ⟨rfl, rfl⟩
    | ty _ => exact (h : False).elim
    | adr _ => exact (h : False).elim
    | ref _ => exact (h : False).elim
    | tpb _ => exact (h : False).elim
end
/-! ### a refusal, told -/
open LamX in
def TRef (K : PySem.W.Frag) (CS : Addr) : (XK → Hp → VK → Prop) → Hp → VK → Prop := fun tl H Q => ∀ p0, H p0 = none →
  tl (fun cls d H' => ∃ (D dd : Addr) (fs : List (Str × V)) (w n : V), cls = .ref D ∧ d = some dd ∧ XC K D ∧ PySem.W.exmOne K cls (.ref CS) = some true ∧ PySem.W.kitOne K (.ref D) (.type "ValueError") = some true ∧ PySem.W.kitOne K (.ref D) (.type "LookupError") = some false ∧
      PySem.W.findIn K (.ref D) "word" = some none ∧ PySem.W.findIn K (.ref D) "at" = some none ∧ H' dd = some (.xd fs) ∧ fs.lookup (Str.ofString "word") = some w ∧ fs.lookup (Str.ofString "at") = some n ∧
      ∀ p1, H' p1 = none → ∀ p2, upd H' p1 (.tup [.str "odd", .int (-1)]) p2 = none → Q (.ref p2) (upd (upd H' p1 (.tup [.str "odd", .int (-1)])) p2 (.tup [w, n])))
    (upd H p0 (.tup [.str "let", .int (-1)])) (fun _ H' => ∃ v, some (some (V.ref p0)) = some (some v) ∧ Q v H')
/-- what is known of the class of a refusal -/
structure XF (K : PySem.W.Frag) (CS C : Addr) : Prop where
  xc : XC K C
  em : PySem.W.exmOne K (.ref C) (.ref CS) = some true
  kv : PySem.W.kitOne K (.ref C) (.type "ValueError") = some true
  kl : PySem.W.kitOne K (.ref C) (.type "LookupError") = some false
  fw : PySem.W.findIn K (.ref C) "word" = some none
  fa : PySem.W.findIn K (.ref C) "at" = some none
noncomputable def toldP (cs : List Addr) (r : Res PV) : Res PV := match r with
  | .ok _ M' => .ok (.tup [.str [108, 101, 116], .int (-1)]) M'
  | .exc x M' => if x.C ∈ cs then .ok (.tup [.str x.w.cps.toList, .int x.n]) M' else .bad
  | .bad => .bad
noncomputable def fRef (cs : List Addr) (fe : FE) : FE := fun σ M => toldP cs (fe σ M)
@[simp] theorem ev_fRef (cs : List Addr) (fe : FE) (σ : PS) (M : PM) : fRef cs fe σ M = toldP cs (fe σ M) := id rfl
theorem tx_back (s : Str) : tx s.cps.toList = s := by
  cases s with
  | mk a => rfl
theorem sm_ref {tb : List (Addr × Str)} {E : XK} {K : PySem.W.Frag} {CS : Addr} {cs : List Addr} {t : XK → TE} {fe : FE} (hx : ∀ C ∈ cs, XF K CS C) (h : ∀ E', SmE tb E' (t E') fe) : SmE tb E (LamX.tLam tb (TRef K CS) t) (fRef cs fe) := by
  intro ι M H σp σ Q R S w
  refine ⟨R.tab, fun H1 ex T1 p0 np0 => ?_⟩
  have e1 : Ex ι ι M.length H H1 := ⟨fun _ _ => rfl, fun a vs e => ex _ _ e (fun ps z => nomatch z), fun a o u e => ex _ _ e (fun ps z => nomatch z)⟩
  have R1 : RM tb ι M H1 := ⟨R.inj, fun i o h => by
    obtain ⟨x, e, _, nt⟩ := (R.obj i o h).some
    exact (R.obj i o h).mono e1 (Nat.le_refl _) ((ex _ _ e nt).trans e.symm), T1⟩
  have R2 : RM tb ι M (upd H1 p0 (.tup [.str "let", .int (-1)])) := R1.new np0
  have e12 : Ex ι ι M.length H (upd H1 p0 (.tup [.str "let", .int (-1)])) := e1.trans (ex_new np0) (Nat.le_refl _)
  refine h _ ι M _ σp σ _ R2 (S.mono e12 (Nat.le_refl _)) ?_
  unfold fRef at w
  cases hfe : fe σp M with
  | bad => rw [hfe] at w; exact w.elim
  | ok p M' =>
    rw [hfe] at w
    intro ι' H' v e l r rv
    exact ⟨_, rfl, w ι' H' (.ref p0) (e12.trans e (Nat.le_refl _)) l r (Rv.mk_tup (e.t _ _ upd_same) (.cons .mk_str (.cons .mk_int .nil)))⟩
  | exc x M' =>
    rw [hfe] at w
    unfold toldP at w
    simp only at w
    split at w
    · rename_i hc
      intro ι' H' d e l r hd
      have F := hx _ hc
      refine ⟨x.C, d, xdF x, .str x.w, .int x.n, rfl, rfl, F.xc, F.em, F.kv, F.kl, F.fw, F.fa, hd, rfl, rfl, fun p1 np1 p2 np2 => ?_⟩
      have w1 := w ι' (upd (upd H' p1 (.tup [.str "odd", .int (-1)])) p2 (.tup [.str x.w, .int x.n])) (.ref p2) ((e12.trans e (Nat.le_refl _)).trans ((ex_new (N := M'.length) np1).trans (ex_new np2) (Nat.le_refl _)) l) l ((r.new np1).new np2) (Rv.mk_tup upd_same (.cons (by have := Rv.mk_str (ι := ι') (N := M'.length) (H := upd (upd H' p1 (.tup [.str "odd", .int (-1)])) p2 (.tup [.str x.w, .int x.n])) (i := x.w.cps.toList); rwa [tx_back] at this) (.cons .mk_int .nil)))
      exact w1
    · exact w.elim
end Pu
namespace Pu
open PySem PySem.Spec PyProof.Rows L2 LB
open Classical
/-! ### statements that go on -/
def Goes (b : FS) (σ : PS) (M : PM) (Q : PS → PM → Prop) : Prop := ∃ σ' M', b σ M = .nx σ' M' ∧ Q σ' M'
section
variable {f g b : FS} {σ σ1 : PS} {M M1 : PM} {Q Q' : PS → PM → Prop} {p : PV} {fe : FE} {fg : FG} {c : FT}
theorem goes_seq (h : Goes f σ M fun σ' M' => Goes g σ' M' Q) : Goes (fSeq f g) σ M Q := by
  obtain ⟨σ', M', e, σ2, M2, e2, q⟩ := h
  exact ⟨σ2, M2, by rw [ev_fSeq, e, then2_nx, e2], q⟩
theorem goes_asg (h : fe σ M = .ok p M1) (hg : fg p σ = some σ1) (q : Q σ1 M1) : Goes (fAsg fe fg) σ M Q := ⟨σ1, M1, by rw [ev_fAsg, h, go_ok, hg, toSt_some], q⟩
theorem goes_drop (h : fe σ M = .ok p M1) (q : Q σ M1) : Goes (fDrop fe) σ M Q := ⟨σ, M1, by rw [ev_fDrop, h, go_ok], q⟩
theorem goes_next (q : Q σ M) : Goes fNext σ M Q := ⟨σ, M, rfl, q⟩
theorem goes_F (h : c σ M = .ok false M1) (q : Goes g σ M1 Q) : Goes (fIfS c f g) σ M Q := by
  obtain ⟨σ', M', e, q⟩ := q
  exact ⟨σ', M', by rw [ev_fIfS, h, go_ok, if_neg (by decide), e], q⟩
theorem goes_T (h : c σ M = .ok true M1) (q : Goes f σ M1 Q) : Goes (fIfS c f g) σ M Q := by
  obtain ⟨σ', M', e, q⟩ := q
  exact ⟨σ', M', by rw [ev_fIfS, h, go_ok, if_pos rfl, e], q⟩
/-- a test whose end counts for nothing: only the way on -/
theorem goes_no (h : c σ M = .ok false M1) (q : Q σ M1) : Goes (fIfS c f fNext) σ M Q := goes_F h (goes_next q)
theorem goes_for {α : Type} {i : FI} {zs : List α} {e : α → PV} {ok : PM → Prop} (I : Nat → PS → PM → Prop) (hi : i σ M = .ok ⟨zs.map e, ok⟩ M1) (h0 : I 0 σ M1) (hok : ∀ i σ M, I i σ M → ok M)
    (hs : ∀ i z σ N, zs[i]? = some z → I i σ N → ∃ σ1, fg (e z) σ = some σ1 ∧ Goes b σ1 N (I (i + 1))) (h1 : ∀ σ N, I zs.length σ N → Q σ N) : Goes (fFor i fg b) σ M Q := by
  unfold Goes
  rw [ev_fFor, hi, go_ok]
  refine for_word (fun r => ∃ σ' M', r = .nx σ' M' ∧ Q σ' M') I h0 (fun i σ M _ h => hok i σ M h) (fun i z σ N hz h => ?_) (fun σ N h => ⟨σ, N, rfl, h1 σ N h⟩)
  obtain ⟨σ1, e1, σ2, M2, e2, q⟩ := hs i z σ N hz h
  exact ⟨σ1, e1, σ2, M2, .inl e2, q⟩
/-- the same word all along -/
theorem goes_each {α : Type} {i : FI} {zs : List α} {e : α → PV} {ok : PM → Prop} (I : PS → PM → Prop) (hi : i σ M = .ok ⟨zs.map e, ok⟩ M1) (h0 : I σ M1) (hok : ∀ σ M, I σ M → ok M)
    (hs : ∀ z ∈ zs, ∀ σ N, I σ N → ∃ σ1, fg (e z) σ = some σ1 ∧ Goes b σ1 N I) (h1 : ∀ σ N, I σ N → Q σ N) : Goes (fFor i fg b) σ M Q :=
  goes_for (fun _ => I) hi h0 (fun _ => hok) (fun i z σ N hz h => hs z (List.mem_of_getElem? hz) σ N h) h1
end
end Pu
namespace Pu
open PySem PySem.Spec PyProof.Rows L2 LB
open Classical
/-! ### list.index over flat things -/
end Pu
namespace Pu
open PySem PySem.Spec PyProof.Rows L2 LB
/-! ### a, b = x, y -/
theorem sm_par {tb : List (Addr × Str)} {E : XK} {ta : TA} {fa : FA} {i j : Nat} (h : SmA tb E ta fa) : SmS tb E (tPar i j ta) (fAsg (fTup fa) (gTp (gsCons (gNm i) (gsCons (gNm j) gsNil)))) := fun ι M H σp σ D R S w => by
  have e : (fAsg (fTup fa) (gTp (gsCons (gNm i) (gsCons (gNm j) gsNil)))) σp M = (fa σp M).go fun ps M1 => match ps with
      | [p, q] => .nx ((σp.set i (some p)).set j (some q)) M1
      | _ => .bad := by
    unfold fAsg fTup
    cases fa σp M with
    | bad => rfl
    | exc x M1 => rfl
    | ok ps M1 =>
      rcases ps with _ | ⟨p, _ | ⟨q, _ | ⟨r, l⟩⟩⟩
      · rfl
      · rfl
      · rfl
      · show Res.go (if _ then _ else _) _ = _
        split <;> rfl
  rw [e] at w
  refine h ι M H σp σ _ R S (Wp.mono (Wp.go w) fun vs H1 ⟨ι1, M1, ps, o, rv, w1⟩ => ?_)
  split at w1
  · rename_i p q
    unfold Rvs at rv
    obtain ⟨v, r, rfl, q1, rv⟩ := rv
    unfold Rvs at rv
    obtain ⟨u, r, rfl, q2, rv⟩ := rv
    unfold Rvs at rv
    subst rv
    exact ⟨v, u, rfl, w1 ι1 H1 _ .refl (Nat.le_refl _) o.r (((S.mono o.e o.l).set q1 i).set q2 j)⟩
  · exact w1.elim
end Pu
/-! len(set(a list of texts)) -/
namespace LB
open PySem PySem.Spec PyProof.Rows L2
end LB
namespace Pu
open PySem PySem.Spec PyProof.Rows L2 LB
open Classical
def bLenSet (p : PV) (M : PM) : Res PV := match (lstAt M p).bind asStrs with
  | some xs => if xs.length < 2000 then .ok (.int ((dedup xs).length : Nat)) M else .bad
  | none => .bad
def fLenSet (f : FE) : FE := fun σ M => (f σ M).bnd bLenSet
@[simp] theorem ev_fLenSet (f : FE) (σ : PS) (M : PM) : fLenSet f σ M = (f σ M).bnd bLenSet := id rfl
end Pu
namespace LB
open PySem PySem.Spec PyProof.Rows L2
/-! ### zip(text, text): a new pair of signs at each turn -/
section
variable {prog : Program} {w : World} {A : Around} {E : Value → Shared → Prop} {s : Shared}
variable {q ti to p1 p2 : Addr} {n1 n2 k : Nat} {P1 P2 : Nat → Value → Prop} {S1 S2 : Nat → Heap → Prop} {a b : Value}
abbrev DrA (prog : Program) (w : World) (p : Addr) (n : Nat) (P : Nat → Value → Prop) (S : Nat → Heap → Prop) : Prop := ∀ B : Around, B.handled = none → Draws prog w B p [p] n P S
theorem DrA.kp {p : Addr} {n i : Nat} {P : Nat → Value → Prop} {S : Nat → Heap → Prop} {h h' : Heap} (W : DrA prog w p n P S) (hh : A.handled = none) (st : S i h) (e : ∀ o, h.get? p = some o → h'.get? p = some o) : S i h' :=
  (W A hh).frame i h h' st fun c hc o ho => by
    have ec : c = p := by simpa using hc
    subst ec
    exact e o ho
end
/-! the making of it -/
/-! the rule -/
end LB
namespace Pu
open PySem PySem.Spec PyProof.Rows L2 LB
open Classical
end Pu
/-! zip of a text and a tuple -/
namespace LB
open PySem PySem.Spec PyProof.Rows L2
def Itzx (K : PySem.W.Frag) (x : Str) (m : Addr) : It :=
  ⟨fun i H => ∃ (ws : List V) (w : V), SqT K H m ws ∧ i < x.cps.size ∧ ws[i]? = some w,
   fun i H v H' => ∃ U c w, v = .ref U ∧ H U = none ∧ H' = upd H U (.tup [.str (sg c), w]) ∧ x.cps[i]? = some c ∧ ∀ ws, SqT K H m ws → ws[i]? = some w,
   fun i H => ∃ ws : List V, SqT K H m ws ∧ i ≤ x.cps.size ∧ i ≤ ws.length ∧ (i = x.cps.size ∨ i = ws.length)⟩
theorem sepX {q ti to p1 p2 m : Addr} (Z : ZipApart q ti to p1 p2 m m) : ZipSep2 q ti to p1 p2 [p1] [p2, m] :=
  ⟨Z.TIz, Z.TOz, Z.TITO, Z.TIi1, by simp, by simpa using Z.i1z.symm, by simpa using Z.TOi1, Z.TIi2, by simp, by simpa using ⟨Z.i2z.symm, Z.l2z.symm⟩, by simpa using ⟨Z.TOi2, Z.l2TO.symm⟩, by simpa using ⟨Z.i12, Z.l1i1.symm⟩, by simpa using Z.i12.symm⟩
theorem turn_zipX {P : Program} {w : World} {K : PySem.W.Frag} {elts : List Expr} {kk : Nat} {tpos : Pos} {q ti to p1 p2 m : Addr} (x : Str) (t : Tok) (Z : ZipApart q ti to p1 p2 m m) :
    Turn P w K (.Tuple elts kk tpos) (Itzx K x m) [q, ti, to, p1, p2] q (fun i h => IsZip h q ti to .none ∧ IsPair h ti (.ref p1) (.ref p2) ∧ (∃ a b, IsPair h to a b) ∧ h.IsStrIter p1 (strIterType x) x t i ∧ h.IsTupleIter p2 m i) where
  mem := by simp
  obj := fun i h st c hc => by
    obtain ⟨hq, hi, ⟨a, b, ho⟩, ⟨o1, e1, _, d1⟩, ⟨o2, e2, _, d2⟩⟩ := st
    have ec : c = q ∨ c = ti ∨ c = to ∨ c = p1 ∨ c = p2 := by simpa using hc
    rcases ec with z | z | z | z | z <;> rw [z]
    · exact ⟨_, hq, fun v y => nomatch y⟩
    · exact ⟨_, hi, fun v y => nomatch y⟩
    · exact ⟨_, ho, fun v y => nomatch y⟩
    · exact ⟨o1, e1, fun v y => by rw [d1] at y; cases y⟩
    · exact ⟨o2, e2, fun v y => by rw [d2] at y; cases y⟩
  keep := fun i h h' st kp => by
    obtain ⟨hq, hi, ⟨a, b, ho⟩, ⟨o1, e1, r1⟩, h2⟩ := st
    exact ⟨kp q (by simp) _ hq, kp ti (by simp) _ hi, ⟨a, b, kp to (by simp) _ ho⟩, ⟨o1, kp p1 (by simp) _ e1, r1⟩, h2.at fun o y => kp p2 (by simp) o y⟩
  item := by
    intro X eP eW eK hc i pins s σ H E I hf st hg
    subst eP eW eK
    obtain ⟨hq, hi, ⟨a, b, ho⟩, h1, h2⟩ := st
    obtain ⟨ws, w, qw, hx, hw⟩ := hg
    obtain ⟨ns, rn, pn, _⟩ := I.tuple qw
    obtain ⟨n1, en, rn1⟩ := rn.get hw
    have ln1 := (List.getElem?_eq_some_iff.mp en).1
    have ql : q < s.heap.objs.size := Heap.lt_size hq
    have hh : X.A.in1.handled = none := I.ok.hd hc
    refine wpAny_pyNext_zipD2_item (sepX Z) (drawsS hh p1 x t) (Draws.tuple hh p2 m Z.l2i2 ns.toArray) hq hi ho h1 ⟨h2, pn⟩ hx (by simpa using ln1) fun v1 v2 g tk e1 e2 hq' ho' h1' h2' hT hsz hk => ?_
    obtain ⟨c1, u1, ec, rfl⟩ := e1
    have e2 : v2 = n1 := by
      have : ns[i]? = some v2 := by simpa using e2
      rw [en] at this
      cases this
      rfl
    subst e2
    refine ⟨_, rfl, wpAny_letOwnedTupleGo_zip (s := { s with heap := g, toks := tk }) hq' fun g2 hq2 sb => ?_⟩
    have hT2 : g2.get? s.heap.objs.size = some { cls := .type "tuple", data := .seq #[.str ⟨#[c1]⟩ u1, v2] } := (sb.2 _ (Nat.ne_of_gt ql)).trans hT
    have okT : ObjOk X.prog X.w (upd H s.heap.objs.size (.tup [.str (sg c1), w])) g2 s.heap.objs.size (.tup [.str (sg c1), w]) :=
      ⟨(by show 2 ≤ sizeLine; decide), [.str ⟨#[c1]⟩ u1, v2], .cons ⟨_, rfl⟩ (.cons rn1 .nil), ⟨_, hT2, rfl, _, rfl⟩⟩
    have I1 : Inv X pins σ (upd H s.heap.objs.size (.tup [.str (sg c1), w])) { s with heap := g2, toks := tk } :=
      I.turnedNew (ch := [q, ti, to, p1, p2]) (fun e ob hb z => (sb.2 e (fun z' => hb (by rw [z']; simp))).trans (hk e ob (fun z' => hb (by rw [z']; simp)) (fun z' => hb (by rw [z']; simp)) (fun z' => hb (by rw [z']; simp)) (fun z' => hb (by rw [z']; simp)) z)) hf (Nat.le_refl _) okT
    refine ⟨.ref s.heap.objs.size, _, I1, rfl, ⟨_, c1, w, rfl, I.hok.fresh (Nat.le_refl _), rfl, ec, fun z hz => by rw [I.tuple_inj hz qw]; exact hw⟩, ⟨hq2, ?_, ⟨_, _, (sb.2 _ Z.TOz).trans ho'⟩, ?_, ?_⟩, fun e he => ?_⟩
    · exact (sb.2 _ Z.TIz).trans (hk _ _ Z.TIz Z.TITO Z.TIi1 Z.TIi2 hi)
    · exact (let ⟨ob, hob, r⟩ := h1'; ⟨ob, (sb.2 p1 Z.i1z).trans hob, r⟩)
    · exact h2'.1.at fun o y => (sb.2 p2 Z.i2z).trans y
    · have hlt : e < s.heap.objs.size := by
        have ec : e = q ∨ e = ti ∨ e = to ∨ e = p1 ∨ e = p2 := by simpa using he
        rcases ec with z | z | z | z | z <;> rw [z]
        · exact ql
        · exact Heap.lt_size hi
        · exact Heap.lt_size ho
        · obtain ⟨_, z1, _⟩ := h1; exact Heap.lt_size z1
        · obtain ⟨_, z1, _⟩ := h2; exact Heap.lt_size z1
      rw [upd_ne (Nat.ne_of_lt hlt)]
      exact (hf e he).1
  done := by
    intro X eP eW eK hc i pins s σ H E I hf st hg
    subst eP eW eK
    obtain ⟨hq, hi, ⟨a, b, ho⟩, h1, h2⟩ := st
    obtain ⟨ws, qw, l1, l2, hend⟩ := hg
    obtain ⟨ns, rn, pn, _⟩ := I.tuple qw
    have z2 := rn.length
    have hh : X.A.in1.handled = none := I.ok.hd hc
    exact wpAny_pyNext_zipD2_end (sepX Z) (drawsS hh p1 x t) (Draws.tuple hh p2 m Z.l2i2 ns.toArray) hq hi ho h1 ⟨h2, pn⟩ (by omega) (by simp; omega) (by simp; omega) fun g tk hk => ⟨rfl, I.turnedL (t' := tk) (ch := [q, ti, to, p1, p2]) (fun c o hb z =>
      hk c o (fun z' => hb (by simp [z'])) (fun z' => hb (by simp [z'])) (fun z' => hb (by simp [z'])) (fun z' => hb (by simp [z'])) z) hf⟩
  self := fun A i s Q E st h => wpAny_pyIter_zip st.1 h
def iZipX (K : PySem.W.Frag) (ta : TA) : TI := fun σ H R => ta σ H fun vs H1 => ∃ (x : Str) (m : Addr) (ws : List V), vs = [.str x, .ref m] ∧ SqT K H1 m ws ∧ R (Itzx K x m) H1
theorem pi_zipX {X : Cx} {e e2 : Expr} {ta : TA} {p pos tpos : Pos} {elts : List Expr} {kk : Nat} (hg : Gl X "zip") (hm : X.mg "zip" = none) (ha : PA X [e, e2] ta)
    (one : starEach [e, e2] X.env = (false, eval e X.env) :: starEach [e2] X.env := by rfl) (two : (backTo pos (starEach [e2] X.env)).any (·.1) = false := by rfl) :
    PI X (.Tuple elts kk tpos) (.Call (.Name "zip" p) [e, e2] [] pos) (iZipX X.K ta) := by
  refine ⟨fun pins s σ H R I h => ?_⟩
  refine Call_ (ld_blt I hg hm boot_zip (PyProof.Rows.callWith_type1 (thn (ha.run pos pins s σ H _ I h) fun us s1 ⟨vs, H1, I1, rr, qq⟩ => ?_) one two))
  obtain ⟨x, m, ws, rfl, qw, r⟩ := qq
  rcases rr with _ | ⟨r1, rr⟩
  rcases rr with _ | ⟨r2, rr⟩
  cases rr
  obtain ⟨t, rfl⟩ := r1
  cases r2
  obtain ⟨ns, rn, pn, _⟩ := I1.tuple qw
  obtain ⟨o2, eo2, _⟩ := id pn
  refine zip_begins2 (begins_text x t) (begins_tuple m ns.toArray) trivial pn fun g hq hi ho h1 h2 hsz hk => wpAny_pyIter_zip hq ?_
  have I2 : Inv X pins σ H1 { s1 with heap := g } := I1.kept (t' := s1.toks) hk
  refine ⟨s1.heap.objs.size + 4, [s1.heap.objs.size + 4, s1.heap.objs.size + 2, s1.heap.objs.size + 3, s1.heap.objs.size, s1.heap.objs.size + 1], _, _, H1, rfl, I2, turn_zipX x t (PySem.W.ktu_apart s1.heap.objs.size m m (Heap.lt_size eo2) (Heap.lt_size eo2)), ⟨hq, hi, ⟨_, _, ho⟩, ⟨_, h1, rfl, rfl⟩, ⟨_, h2, rfl, rfl⟩⟩, fun c hc => ?_, r⟩
  have ec : c = s1.heap.objs.size + 4 ∨ c = s1.heap.objs.size + 2 ∨ c = s1.heap.objs.size + 3 ∨ c = s1.heap.objs.size ∨ c = s1.heap.objs.size + 1 := by simpa using hc
  have hle : s1.heap.objs.size ≤ c := by
    rcases ec with z | z | z | z | z <;> rw [z]
    · exact Nat.le_add_right _ _
    · exact Nat.le_add_right _ _
    · exact Nat.le_add_right _ _
    · exact Nat.le_refl _
    · exact Nat.le_add_right _ _
  exact I1.fpOk hle (I1.hok.fresh hle)
end LB
namespace Pu
open PySem PySem.Spec PyProof.Rows L2 LB
open Classical
def itZX (ps : List PV) (M : PM) : Res PIt := match ps with
  | [.str a, .tup ys] => .ok ⟨zipP (a.map fun c => .str [c]) ys, fun _ => True⟩ M
  | _ => .bad
section
variable {tb : List (Addr × Str)} {E : XK} {K : PySem.W.Frag} {te : TE} {fe : FE} {ta : TA} {fa : FA} {ι ι' : Nat → Addr} {N : Nat} {H H' : Hp} {M M' : PM}
theorem sm_iZX (h : SmA tb E ta fa) : SmI tb E (iZipX K ta) (fIA itZX fa) := fun ι M H σp σ Q R S w =>
  h.to R S w fun ι1 M1 H1 p v o S1 rv w1 => by
    unfold itZX at w1
    split at w1
    · rename_i a ys
      unfold Rvs at rv
      obtain ⟨x, r, rfl, rx, rr⟩ := rv
      unfold Rvs at rr
      obtain ⟨y, r, rfl, ry, rr⟩ := rr
      unfold Rvs at rr
      subst rr
      obtain ⟨b, us, rfl, hb, rb⟩ := ry.tup_at
      refine ⟨tx a, b, us, by rw [rx.str], .of hb, Wp.okNow w1 o.r fun i ι' M' H' ex l R' hok => ?_⟩
      have e3 := ex.t _ _ hb
      have r3 := rb.mono ex l
      have sz : (tx a).cps.size = a.length := by simp [tx]
      refine ⟨fun p hp => ?_, fun hn hl => ⟨us, .of e3, ?_⟩⟩
      · obtain ⟨x, y, hx, hy, rfl⟩ := zip_get hp
        have li := (List.getElem?_eq_some_iff.mp hx).1
        rw [List.length_map] at li
        obtain ⟨y', hy', ry⟩ := r3.get hy
        refine ⟨⟨us, y', .of e3, by rw [sz]; exact li, hy'⟩, fun y H'' ⟨T, c1, z', ey, nT, eH, hc, hz'⟩ => ?_⟩
        subst ey eH
        have := hz' us (.of e3)
        rw [hy'] at this
        cases this
        have hc : a[i]? = some c1 := by simpa [tx] using hc
        rw [List.getElem?_map, hc] at hx
        cases hx
        exact newPair (R' := R') nT .mk_str ry
      · have hl : i = (zipP _ ys).length := hl
        rw [zip_len, List.length_map, r3.len] at hl
        rw [sz]
        omega
    · exact w1.elim
end
end Pu
/-! o.f += e, o.f -= e of whole numbers. -/
namespace Pu
open PySem PySem.Spec PyProof.Rows L2 LB
open Classical
noncomputable def fAugF (C : Addr) (f : String) (fo fv : FE) (g : Int → Int → Int) : FS := fun σ M => (fo σ M).go fun o M1 => match fldP M1 C f o with
  | some x => (fv σ M1).go fun y M2 => match x, y with
    | .int i, .int j => match setF M2 C f o (.int (g i j)) with
      | some M3 => .nx σ M3
      | none => .bad
    | _, _ => .bad
  | none => .bad
section
variable {tb : List (Addr × Str)} {E : XK} {K : PySem.W.Frag} {ta tv : TE} {fa fv : FE} {C : Addr}
theorem rAdd_of : ∀ (i j : Int) (H : Hp) (Q : VK), Q (.int (i + j)) H → rAdd (.int i) (.int j) H Q := fun i j H Q h => ⟨i, j, rfl, rfl, h⟩
theorem sm_augF {f : String} {rd : V → V → Hp → VK → Prop} {g : Int → Int → Int} (hr : ∀ (i j : Int) (H : Hp) (Q : VK), Q (.int (g i j)) H → rd (.int i) (.int j) H Q) (cl : Cls K C) (no : NoAttr K C (Str.ofString f)) (ho : SmE tb E ta fa) (hv : SmE tb E tv fv) :
    SmS tb E (sFldAug K ta tv rd (Str.ofString f)) (fAugF C f fa fv g) := fun ι M H σp σ D R S w =>
  ho.go R S w fun ι1 M1 H1 p v o S1 rp w1 => by
    split at w1
    · rename_i x e
      unfold fldP at e
      split at e
      · rename_i k
        split at e
        · rename_i C' fs ek
          split at e
          · rename_i ec
            subst ec
            obtain ⟨lk, rfl⟩ := rp.ref_at
            obtain ⟨dx, fw, e1, rf⟩ := o.r.obj k _ ek
            obtain ⟨y, ey, ry⟩ := (look_rel rf f).1 x e
            refine ⟨ι1 k, C', dx, fw, y, rfl, e1, cl, no, ey, ?_⟩
            refine hv.go o.r S1 w1 fun ι2 M2 H2 q u o2 S2 rq w2 => ?_
            split at w2
            · rename_i i j
              have ey2 : y = .int i := ry.int
              subst ey2
              have eu : u = .int j := rq.int
              subst eu
              refine hr i j _ _ ?_
              split at w2
              · rename_i M3 e3
                unfold setF at e3
                simp only at e3
                split at e3
                · rename_i C2 fs2 ek2
                  split at e3
                  · rename_i ec2
                    obtain ⟨ec2, hl⟩ := ec2
                    subst ec2
                    cases e3
                    have e4 : ι2 k = ι1 k := o2.e.i k lk
                    have lk2 : k < M2.length := (List.getElem?_eq_some_iff.mp ek2).1
                    obtain ⟨dx2, fw2, e12, rf2⟩ := o2.r.obj k _ ek2
                    have hz : ∀ o u, H2 (ι2 k) ≠ some (.frz o u) := fun o u z => by rw [e12] at z; cases z
                    have ex : Ex ι2 ι2 M2.length H2 (upd H2 (ι2 k) (.ins C2 dx2 (putF (Str.ofString f) (.int (g i j)) fw2))) := ex_chg o2.r lk2 hz
                    have R3 := o2.r.chg (o := .ins C2 (putS f (.int (g i j)) fs2)) (x := .ins C2 dx2 (putF (Str.ofString f) (.int (g i j)) fw2)) lk2 hz ⟨dx2, _, upd_same, Paired.mapP (put_F rf2 f .mk_int) fun _ _ q => ⟨q.1, q.2.mono ex (Nat.le_refl _)⟩⟩
                    refine ⟨dx2, fw2, by rw [← e4]; exact e12, by rw [← Paired.length rf2]; exact hl, ?_⟩
                    rw [← e4]
                    refine w2 ι2 _ σ ex (by rw [List.length_set]; exact Nat.le_refl _) R3 ?_
                    rw [List.length_set]
                    exact S2.mono ex (Nat.le_refl _)
                  · cases e3
                · cases e3
              · exact w2.elim
            · exact w2.elim
          · cases e
        · cases e
      · cases e
    · exact w1.elim
end
end Pu
namespace Pu
open PySem PySem.Spec PyProof.Rows L2 LB
/-! #### is_word -/
noncomputable def B_p_is_word (c : CA) : FS :=
  (fRet (fGc (fB bAll (fCons (fLc (fI itS (fVar 0)) (gNm 1) fYes (fOp pInS (fVar 1) (fC (.str [97, 98, 99, 100, 101, 102, 103, 104, 105, 106, 107, 108, 109, 110, 111, 112, 113, 114, 115, 116, 117, 118, 119, 120, 121, 122]))) [1]) fNil))))
noncomputable def F_p_is_word (c : CA) : FF := fnOf 1 2 (B_p_is_word c)
theorem R_p_is_word (c : CA) (a0 : PV) (M : PM) : F_p_is_word c [a0] M = gc M (fnRes (B_p_is_word c [some a0, none] M)) := fn_at rfl
/-! #### is_name -/
noncomputable def B_p_is_name (c : CA) : FS :=
  (fRet (fAndV (fChain (pI0 fun i j => .bl (decide (i ≤ j))) (pI0 fun i j => .bl (decide (i ≤ j))) (fC (.int 1)) (fB bLenS (fCons (fVar 0) fNil)) (fC (.int 8))) (fCall (F_p_is_word c) [] (fCons (fVar 0) fNil))))
noncomputable def F_p_is_name (c : CA) : FF := fnOf 1 1 (B_p_is_name c)
theorem R_p_is_name (c : CA) (a0 : PV) (M : PM) : F_p_is_name c [a0] M = gc M (fnRes (B_p_is_name c [some a0] M)) := fn_at rfl
/-! #### is_letter -/
noncomputable def B_p_is_letter (c : CA) : FS :=
  (fRet (fAndV (fOp pEq (fB bLenS (fCons (fVar 0) fNil)) (fC (.int 1))) (fCall (F_p_is_word c) [] (fCons (fVar 0) fNil))))
noncomputable def F_p_is_letter (c : CA) : FF := fnOf 1 1 (B_p_is_letter c)
theorem R_p_is_letter (c : CA) (a0 : PV) (M : PM) : F_p_is_letter c [a0] M = gc M (fnRes (B_p_is_letter c [some a0] M)) := fn_at rfl
/-! #### within -/
/-! #### behind -/
/-! #### Lab.has -/
/-! #### check_scene -/
/-! #### step_at -/
/-! #### with_word -/
/-! #### with_stand -/
/-! #### word_after -/
/-! #### best_after -/
/-! #### best -/
/-! #### ways -/
/-! #### is_short_word -/
/-! #### check_machines -/
/-! #### check_rows -/
/-! #### check_act -/
/-! #### check_moves -/
/-! #### places_of -/
/-! #### stands_of -/
/-! #### step_of -/
/-! #### Lab.is_over -/
/-! #### Lab.__init__ -/
/-! #### above -/
/-! #### law: pull -/
noncomputable def B_pull (c : CA) : FS :=
  (fSeq (fAugL (fVar 0) (fC (.int 4)) (fC (.int 1)) (pI0 fun i j => .int (i + j)))
  (fSeq (fIfS (fTest (fOp (pI0 fun i j => .bl (decide (j < i))) (fOp pIxL (fVar 0) (fC (.int 2))) (fC (.int 0)))) (fSeq (fAsg (fOp pIxL (fVar 0) (fC (.int 2))) (gNm 2))
  (fSeq (fAsgL (fOp (pI CDiv fun i j => .int (i / j)) (fVar 2) (fVar 1)) (fVar 0) (fC (.int 2)))
  (fRet (fOp (pI (fun _ j => 0 < j) fun i j => .int (i % j)) (fVar 2) (fVar 1))))) fNext)
  (fSeq (fAsg (fOp pIxL (fVar 0) (fC (.int 3))) (gNm 3))
  (fSeq (fIfS (fTest (fOp (pI0 fun i j => .bl (decide (i < j))) (fOp pIxL (fVar 0) (fC (.int 1))) (fB bLen (fCons (fOp pIxL (fVar 0) (fC (.int 0))) fNil)))) (fSeq (fAsg (fOp pIxL (fOp pIxL (fVar 0) (fC (.int 0))) (fOp pIxL (fVar 0) (fC (.int 1)))) (gNm 3))
  (fAugL (fVar 0) (fC (.int 1)) (fC (.int 1)) (pI0 fun i j => .int (i + j)))) fNext)
  (fSeq (fIfS (fTest (fOp (pI0 fun i j => .bl (decide (j ≤ i))) (fVar 3) (fOp (pI CPow fun i j => .int (i ^ j.toNat)) (fC (.int 10)) (fC (.int 18))))) (fSeq (fAsgL (fOp (pI CDiv fun i j => .int (i / j)) (fVar 3) (fVar 1)) (fVar 0) (fC (.int 2)))
  (fRet (fOp (pI (fun _ j => 0 < j) fun i j => .int (i % j)) (fVar 3) (fVar 1)))) fNext)
  (fSeq (fAsg (fOp (pI (fun _ j => 0 < j) fun i j => .int (i % j)) (fOp (pI0 fun i j => .int (i + j)) (fOp (pI0 fun i j => .int (i + j)) (fOp (pI0 fun i j => .int (i + j)) (fOp (pI CMul fun i j => .int (i * j)) (fVar 3) (fC (.int 48271))) (fOp (pI CMul fun i j => .int (i * j)) (fOp pIxL (fVar 0) (fC (.int 3))) (fC (.int 40503)))) (fOp (pI CMul fun i j => .int (i * j)) (fOp pIxL (fVar 0) (fC (.int 4))) (fC (.int 69621)))) (fC (.int 12345))) (fC (.int 2147483629))) (gNm 4))
  (fSeq (fAsg (fOp (pI (fun _ j => 0 < j) fun i j => .int (i % j)) (fOp (pI0 fun i j => .int (i + j)) (fOp (pI0 fun i j => .int (i + j)) (fOp (pI CMul fun i j => .int (i * j)) (fVar 4) (fOp (pI0 fun i j => .int (i + j)) (fOp (pI (fun _ j => 0 < j) fun i j => .int (i % j)) (fVar 4) (fC (.int 65521))) (fC (.int 11)))) (fOp (pI CMul fun i j => .int (i * j)) (fOp pIxL (fVar 0) (fC (.int 4))) (fC (.int 40692)))) (fOp (pI (fun _ j => 0 < j) fun i j => .int (i % j)) (fOp pIxL (fVar 0) (fC (.int 3))) (fC (.int 104729)))) (fC (.int 998244353))) (gNm 5))
  (fSeq (fAsgL (fOp (pI (fun _ j => 0 < j) fun i j => .int (i % j)) (fOp (pI0 fun i j => .int (i + j)) (fOp (pI CMul fun i j => .int (i * j)) (fOp pIxL (fVar 0) (fC (.int 3))) (fC (.int 16807))) (fVar 5)) (fC (.int 2147483563))) (fVar 0) (fC (.int 3)))
  (fRet (fOp (pI (fun _ j => 0 < j) fun i j => .int (i % j)) (fOp (pI CDiv fun i j => .int (i / j)) (fVar 5) (fC (.int 7))) (fVar 1)))))))))))
noncomputable def F_pull (c : CA) : FF := fnOf 2 6 (B_pull c)
theorem R_pull (c : CA) (a0 a1 : PV) (M : PM) : F_pull c [a0, a1] M = gc M (fnRes (B_pull c [some a0, some a1, none, none, none, none] M)) := fn_at rfl
/-! #### law: of -/
noncomputable def B_of (c : CA) : FS :=
  (fRet (fOp pIxQ (fVar 1) (fCall (F_pull c) [] (fCons (fVar 0) (fCons (fB bLenQ (fCons (fVar 1) fNil)) fNil)))))
noncomputable def F_of (c : CA) : FF := fnOf 2 2 (B_of c)
theorem R_of (c : CA) (a0 a1 : PV) (M : PM) : F_of c [a0, a1] M = gc M (fnRes (B_of c [some a0, some a1] M)) := fn_at rfl
/-! #### law: letters -/
noncomputable def B_letters (c : CA) : FS :=
  (fSeq (fAsg (fC (.str [97, 98, 99, 100, 101, 102, 103, 104, 105, 106, 107, 108, 109, 110, 111, 112, 113, 114, 115, 116, 117, 118, 119, 120, 121, 122])) (gNm 1))
  (fSeq (fAsg (fCall (F_pull c) [] (fCons (fVar 0) (fCons (fC (.int 26)) fNil))) (gNm 2))
  (fSeq (fAsg (fCall (F_of c) [] (fCons (fVar 0) (fCons (fLst (fCons (fC (.int 1)) (fCons (fC (.int 3)) (fCons (fC (.int 5)) (fCons (fC (.int 7)) (fCons (fC (.int 9)) (fCons (fC (.int 11)) fNil))))))) fNil))) (gNm 3))
  (fRet (fLc (fIA itR1 (fCons (fC (.int 3)) fNil)) (gNm 4) fYes (fOp pIxS (fVar 1) (fOp (pI (fun _ j => 0 < j) fun i j => .int (i % j)) (fOp (pI0 fun i j => .int (i + j)) (fVar 2) (fOp (pI CMul fun i j => .int (i * j)) (fVar 3) (fVar 4))) (fC (.int 26)))) [4])))))
noncomputable def F_letters (c : CA) : FF := fnOf 1 5 (B_letters c)
theorem R_letters (c : CA) (a0 : PV) (M : PM) : F_letters c [a0] M = gc M (fnRes (B_letters c [some a0, none, none, none, none] M)) := fn_at rfl
/-! #### law: names -/
noncomputable def B_names (c : CA) : FS :=
  (fSeq (fAsg (fC (.str [97, 98, 99, 100, 101, 102, 103, 104, 105, 106, 107, 108, 109, 110, 111, 112, 113, 114, 115, 116, 117, 118, 119, 120, 121, 122])) (gNm 2))
  (fSeq (fAsg (fGc (fM1 mJoin (fC (.str [])) (fLc (fIA itR1 (fCons (fCall (F_pull c) [] (fCons (fVar 0) (fCons (fC (.int 8)) fNil))) fNil)) (gNm 7) fYes (fCallN (F_of c) [] (fCons (fVar 0) (fCons (fVar 2) fNil))) [7]))) (gNm 3))
  (fSeq (fAsg (fCall (F_pull c) [] (fCons (fVar 0) (fCons (fOp (pI0 fun i j => .int (i + j)) (fB bLenS (fCons (fVar 3) fNil)) (fC (.int 1))) fNil))) (gNm 4))
  (fSeq (fAsg (fCall (F_pull c) [] (fCons (fVar 0) (fCons (fC (.int 26)) fNil))) (gNm 5))
  (fSeq (fAsg (fCall (F_of c) [] (fCons (fVar 0) (fCons (fLst (fCons (fC (.int 1)) (fCons (fC (.int 3)) (fCons (fC (.int 5)) (fCons (fC (.int 7)) (fCons (fC (.int 9)) (fCons (fC (.int 11)) fNil))))))) fNil))) (gNm 6))
  (fRet (fLc (fIA itR1 (fCons (fVar 1) fNil)) (gNm 7) fYes (fOp pAddS (fOp pAddS (fSl pSlS (fVar 3) fNoPart (fPart (fVar 4))) (fOp pIxS (fVar 2) (fOp (pI (fun _ j => 0 < j) fun i j => .int (i % j)) (fOp (pI0 fun i j => .int (i + j)) (fVar 5) (fOp (pI CMul fun i j => .int (i * j)) (fVar 6) (fVar 7))) (fC (.int 26))))) (fSl pSlS (fVar 3) (fPart (fVar 4)) fNoPart)) [7])))))))
noncomputable def F_names (c : CA) : FF := fnOf 2 8 (B_names c)
theorem R_names (c : CA) (a0 a1 : PV) (M : PM) : F_names c [a0, a1] M = gc M (fnRes (B_names c [some a0, some a1, none, none, none, none, none, none] M)) := fn_at rfl
/-! #### law: word -/
/-! #### law: act -/
/-! #### law: move -/
/-! #### law: plan -/
/-! #### law: lab -/
/-! #### law: held -/
/-! #### law: scene -/
/-! #### law: within -/
/-! #### law: above -/
/-! #### law: many_lab -/
/-! #### law: grown -/
end Pu
namespace Pu
open PySem PySem.Spec PyProof.Rows L2 LB
open Classical
/-! ### words -/
def low (c : Nat) : Bool := decide (97 ≤ c ∧ c < 123)
theorem low_in (c : Nat) : decide (c ∈ [97, 98, 99, 100, 101, 102, 103, 104, 105, 106, 107, 108, 109, 110, 111, 112, 113, 114, 115, 116, 117, 118, 119, 120, 121, 122]) = low c := by
  unfold low
  apply decide_eq_decide.mpr
  simp only [List.mem_cons, List.not_mem_nil, or_false]
  omega
variable {c : CA} {M : PM}
theorem F_is_word_eq {s : List Nat} (h : s.length < lim) : F_p_is_word c [.str s] M = .ok (.bl (s.all low)) M := by
  rw [R_p_is_word]
  unfold B_p_is_word
  simp
  rw [lc_mapF (h := fun d => .bl (low d)) (fun _ => trivial) (by simp; omega) (fun d _ => ⟨_, rfl, fun acc => ⟨rfl, by rw [← low_in]; rfl⟩⟩)]
  simp [gc_flat]
def isNam (s : List Nat) : Bool := decide (1 ≤ s.length ∧ s.length ≤ 8) && s.all low
theorem F_is_name_eq {s : List Nat} (h : s.length < lim) : F_p_is_name c [.str s] M = .ok (.bl (isNam s)) M := by
  rw [R_p_is_name]
  unfold B_p_is_name isNam
  simp [bLenS_str (show s.length ≤ lim by omega), F_is_word_eq h]
  by_cases h1 : (1 : Int) ≤ s.length
  · by_cases h2 : (s.length : Int) ≤ 8
    · have : 1 ≤ s.length ∧ s.length ≤ 8 := by omega
      simp [h1, h2, this]
    · have : ¬ (1 ≤ s.length ∧ s.length ≤ 8) := by omega
      simp [h1, h2, this]
  · have : ¬ (1 ≤ s.length ∧ s.length ≤ 8) := by omega
    simp [h1, this]
theorem F_is_letter_eq {s : List Nat} (h : s.length < lim) : F_p_is_letter c [.str s] M = .ok (.bl (decide (s.length = 1) && s.all low)) M := by
  rw [R_p_is_letter]
  unfold B_p_is_letter
  simp [bLenS_str (show s.length ≤ lim by omega), F_is_word_eq h]
  by_cases h1 : s.length = 1
  · simp [h1]
  · have : ¬ (s.length : Int) = 1 := by omega
    simp [h1, this]
/-! ### what stands behind a letter; scenes -/
theorem cut_drop {α : Type} (xs : List α) (k : Nat) : cut xs (some (k : Int)) none = xs.drop k := by
  unfold cut
  rw [HT.sIx_none, HT.sIx_nat]
  by_cases h : k ≤ xs.length
  · rw [Nat.min_eq_left h, List.take_of_length_le (by rw [List.length_drop]; exact Nat.le_refl _)]
  · rw [Nat.min_eq_right (by omega), List.drop_of_length_le (Nat.le_refl _), List.drop_of_length_le (by omega), List.take_nil]
theorem cut_take' {α : Type} (xs : List α) (k : Nat) : cut xs none (some (k : Int)) = xs.take k := by
  unfold cut
  rw [HT.sIx_none, HT.sIx_nat, List.drop_zero, Nat.sub_zero]
  by_cases h : k ≤ xs.length
  · rw [Nat.min_eq_left h]
  · rw [Nat.min_eq_right (by omega), List.take_length, List.take_of_length_le (by omega)]
/-! ### scenes -/
abbrev tS (l : List (List Nat)) : PV := .tup (l.map PV.str)
abbrev scP (ss ws : List (List Nat)) : PV := .tup [tS ss, tS ws]
/-- texts of small signs -/
def asc (s : List Nat) : Prop := ∀ x ∈ s, x < 128
/-- no refs, no bools: == is equality -/
def Dat : Nat → PV → Prop
  | _, .non => True
  | _, .int _ => True
  | _, .str s => asc s
  | n + 1, .tup xs => ∀ x ∈ xs, Dat n x
  | _, _ => False
theorem dat_tup {n : Nat} {xs : List PV} : Dat (n + 1) (.tup xs) = ∀ x ∈ xs, Dat n x := by rw [Dat]
theorem dat_str {n : Nat} {s : List Nat} : Dat n (.str s) = asc s := by rw [Dat]
mutual
def dv : PV → PyData
  | .non => .none
  | .bl b => .bool b
  | .int i => .int i
  | .str s => .str (tx s)
  | .ty _ => .none
  | .adr _ => .none
  | .tpb _ => .none
  | .ref _ => .none
  | .tup xs => .tuple (dvs xs)
def dvs : List PV → List PyData
  | [] => []
  | x :: xs => dv x :: dvs xs
end
theorem mapM_dv {f : PV → Option PyData} : ∀ {xs : List PV}, (∀ x ∈ xs, f x = some (dv x)) → xs.mapM f = some (dvs xs)
  | [], _ => by rw [List.mapM_nil]; unfold dvs; rfl
  | x :: xs, h => by
    rw [List.mapM_cons, h x List.mem_cons_self, mapM_dv fun y hy => h y (List.mem_cons_of_mem _ hy)]
    conv => rhs; unfold dvs
    rfl
theorem datF_dv {M : PM} : ∀ {n : Nat} {p : PV}, Dat n p → datF M n p = some (dv p) := by
  intro n
  induction n with
  | zero =>
    intro p hp
    cases p <;> first | exact (hp : False).elim | (unfold datF dv; rfl) | skip
    rename_i s
    have hp : asc s := hp
    unfold datF dv
    rw [if_pos (show ∀ c, c ∈ s → c < 128 from hp)]
  | succ n ih =>
    intro p hp
    cases p <;> first | exact (hp : False).elim | (unfold datF dv; rfl) | skip
    · rename_i s
      have hp : asc s := hp
      unfold datF dv
      rw [if_pos (show ∀ c, c ∈ s → c < 128 from hp)]
    · rename_i xs
      rw [dat_tup] at hp
      unfold datF dv
      rw [mapM_dv fun x hx => ih (hp x hx)]
      rfl
mutual
theorem eqv_dv : ∀ (p q : PV) (n m : Nat), Dat n p → Dat m q → PyData.eqv (dv p) (dv q) = decide (p = q)
  | .tup xs, q, n, m, hp, hq => by
    cases n with
    | zero => exact (hp : False).elim
    | succ n =>
      cases q with
      | tup ys =>
        cases m with
        | zero => exact (hq : False).elim
        | succ m =>
          rw [dat_tup] at hp hq
          have := eqvs_dv xs ys n m hp hq
          unfold dv
          unfold PyData.eqv
          rw [this]
          exact decide_eq_decide.mpr ⟨fun z => by rw [z], fun z => by injection z⟩
      | non => unfold dv; unfold PyData.eqv; exact (decide_eq_false (fun z => by cases z)).symm
      | int i => unfold dv; unfold PyData.eqv; exact (decide_eq_false (fun z => by cases z)).symm
      | str i => unfold dv; unfold PyData.eqv; exact (decide_eq_false (fun z => by cases z)).symm
      | bl i => cases m <;> exact (hq : False).elim
      | ty i => cases m <;> exact (hq : False).elim
      | adr i => cases m <;> exact (hq : False).elim
      | tpb i => cases m <;> exact (hq : False).elim
      | ref i => cases m <;> exact (hq : False).elim
  | .non, q, n, m, hp, hq => by
    cases q <;> first | (cases m <;> exact (hq : False).elim) | skip
    · unfold dv; unfold PyData.eqv; simp
    all_goals (unfold dv; unfold PyData.eqv; exact (decide_eq_false (fun z => by cases z)).symm)
  | .int i, q, n, m, hp, hq => by
    cases q <;> first | (cases m <;> exact (hq : False).elim) | skip
    · unfold dv; unfold PyData.eqv; exact (decide_eq_false (fun z => by cases z)).symm
    · rename_i j
      unfold dv; unfold PyData.eqv
      rw [Bool.beq_eq_decide_eq]
      exact decide_eq_decide.mpr ⟨fun z => by rw [z], fun z => by injection z⟩
    all_goals (unfold dv; unfold PyData.eqv; exact (decide_eq_false (fun z => by cases z)).symm)
  | .str i, q, n, m, hp, hq => by
    cases q <;> first | (cases m <;> exact (hq : False).elim) | skip
    · unfold dv; unfold PyData.eqv; exact (decide_eq_false (fun z => by cases z)).symm
    · unfold dv; unfold PyData.eqv; exact (decide_eq_false (fun z => by cases z)).symm
    · rename_i j
      unfold dv; unfold PyData.eqv
      rw [Bool.beq_eq_decide_eq]
      exact decide_eq_decide.mpr ⟨fun z => by rw [tx_inj.mp z], fun z => by injection z with z; rw [z]⟩
    all_goals (unfold dv; unfold PyData.eqv; exact (decide_eq_false (fun z => by cases z)).symm)
  | .bl i, q, n, m, hp, hq => by cases n <;> exact (hp : False).elim
  | .ty i, q, n, m, hp, hq => by cases n <;> exact (hp : False).elim
  | .adr i, q, n, m, hp, hq => by cases n <;> exact (hp : False).elim
  | .tpb i, q, n, m, hp, hq => by cases n <;> exact (hp : False).elim
  | .ref i, q, n, m, hp, hq => by cases n <;> exact (hp : False).elim
theorem eqvs_dv : ∀ (ps qs : List PV) (n m : Nat), (∀ x ∈ ps, Dat n x) → (∀ x ∈ qs, Dat m x) → PyData.eqvAll (dvs ps) (dvs qs) = decide (ps = qs)
  | [], [], _, _, _, _ => by unfold dvs; unfold PyData.eqvAll; simp
  | [], _ :: _, _, _, _, _ => by unfold dvs; unfold PyData.eqvAll; simp
  | _ :: _, [], _, _, _, _ => by unfold dvs; unfold PyData.eqvAll; simp
  | x :: xs, y :: ys, n, m, hp, hq => by
    unfold dvs
    unfold PyData.eqvAll
    rw [eqv_dv x y n m (hp x List.mem_cons_self) (hq y List.mem_cons_self), eqvs_dv xs ys n m (fun z hz => hp z (List.mem_cons_of_mem _ hz)) (fun z hz => hq z (List.mem_cons_of_mem _ hz))]
    rw [← Bool.decide_and]
    exact decide_eq_decide.mpr (by simp)
end
theorem pEqD_dat {p q : PV} (hp : Dat 60 p) (hq : Dat 60 q) : pEqD p q M = .ok (.bl (decide (p = q))) M := by
  unfold pEqD
  rw [datF_dv hp, datF_dv hq]
  simp only
  rw [eqv_dv p q _ _ hp hq]
theorem pNeD_dat {p q : PV} (hp : Dat 60 p) (hq : Dat 60 q) : pNeD p q M = .ok (.bl (!decide (p = q))) M := by
  unfold pNeD
  rw [datF_dv hp, datF_dv hq]
  simp only
  rw [eqv_dv p q _ _ hp hq]
@[simp] theorem mapS_inj {a b : List (List Nat)} : a.map PV.str = b.map PV.str ↔ a = b := List.map_inj_right (fun x y z => by injection z)
/-- small texts, none too long -/
def Wds (l : List (List Nat)) : Prop := ∀ s ∈ l, asc s ∧ s.length < 1000
/-! ### a word or a stand put in a scene -/
/-! ### what a step does -/
/-- a step: machine, start, act, row, letter, end -/
structure Stp where
  mi : Nat
  st : List Nat
  k : List Nat
  ri : Int
  l : List Nat
  en : List Nat
abbrev Stp.pv (x : Stp) : PV := .tup [.int (x.mi : Nat), .str x.st, .str x.k, .int x.ri, .str x.l, .str x.en]
end Pu
namespace Pu
open PySem PySem.Spec PyProof.Rows L2 LB
open Classical
/-! ### in, over a list of data -/
/-! ### reckoning -/
end Pu
/-! isinstance(x, T) of texts, whole numbers, tuples and lists. -/
namespace Pu
open PySem PySem.Spec PyProof.Rows L2 LB
open Classical
def isiNm (M : PM) : PV → Option String
  | .str _ => some "str"
  | .int _ => some "int"
  | .tup _ => some "tuple"
  | .tpb _ => some "tuple"
  | .ref k => match M[k]? with
    | some (.lst _) => some "list"
    | _ => none
  | _ => none
def isiTys : List String := ["str", "int", "tuple", "list"]
def bIsi (as : List PV) (M : PM) : Res PV := match as with
  | [x, .ty n] => match isiNm M x with
    | some m => if n ∈ isiTys then .ok (.bl (decide (m = n))) M else .bad
    | none => .bad
  | _ => .bad
theorem kit_isi {K : PySem.W.Frag} : ∀ m ∈ isiTys, ∀ n ∈ isiTys, PySem.W.kitOne K (.type m) (.type n) = some (decide (m = n)) := by
  intro m hm n hn
  simp only [isiTys, List.mem_cons, List.not_mem_nil, or_false] at hm hn
  rcases hm with rfl | rfl | rfl | rfl <;> rcases hn with rfl | rfl | rfl | rfl <;> rfl
section
variable {tb : List (Addr × Str)} {E : XK} {K : PySem.W.Frag} {ι : Nat → Addr} {M : PM} {H : Hp}
theorem isi_ty {p : PV} {v : V} {m : String} (R : RM tb ι M H) (rv : Rv ι M.length H p v) (h : isiNm M p = some m) : m ∈ isiTys ∧ TyX K H v (.type m) := by
  unfold isiNm at h
  split at h
  · cases h
    rw [rv.str]
    exact ⟨by simp [isiTys], .base (.str _)⟩
  · cases h
    rw [rv.int]
    exact ⟨by simp [isiTys], .base (.int _)⟩
  · cases h
    obtain ⟨a, us, rfl, ha, _⟩ := rv.tup_at
    exact ⟨by simp [isiTys], .base (.tup ha)⟩
  · cases h
    obtain ⟨a, us, o, rfl, ha, _⟩ := rv.tpb_at
    exact ⟨by simp [isiTys], .fTuple ha⟩
  · rename_i k
    split at h
    · rename_i xs e
      cases h
      obtain ⟨_, rfl⟩ := rv.ref_at
      obtain ⟨vs, e1, _⟩ := R.obj k _ e
      exact ⟨by simp [isiTys], .base (.lst e1)⟩
    · cases h
  · cases h
theorem sb_isi : SmL tb E (rIsi K) bIsi := by
  intro ι M H ps xs Q R rs h
  unfold bIsi at h
  split at h
  · rename_i x n
    obtain ⟨v, u, rfl, r1, r2⟩ := rvs2 rs
    split at h
    · rename_i m e
      split at h
      · rename_i hn
        obtain ⟨hm, ty⟩ := isi_ty (K := K) R r1 e
        have e2 : u = .ty n := by unfold Rv at r2; exact r2
        subst e2
        exact ⟨v, .ty n, .type m, .type n, decide (m = n), rfl, .ty n, ty, kit_isi m hm n hn, h ι H _ .refl (Nat.le_refl _) R (by unfold Rv; rfl)⟩
      · exact h.elim
    · exact h.elim
  · exact h.elim
end
end Pu
/-! x in d, d[x]: d a dict of the module with text keys and whole numbers. -/
namespace L2
open PySem PySem.Spec PyProof.Rows
section
variable {X : Cx}
def rKIn (K : PySem.W.Frag) (w : World) (neg : Bool) : R2 := fun x y H Q => ∃ d es n z r, KDict K w d es n ∧ x = .str z ∧ y = .ref d ∧ PySem.W.nsIn K d z = some r ∧ Q (.bl (neg ^^ r.isSome)) H
theorem op_inKD : OpR X (compareOp .In) (rKIn X.K X.w false) := by
  intro pins s σ H x y v u Q I rx ry hq
  obtain ⟨d, es, n, z, r, D, rfl, rfl, hn, q⟩ := hq
  exact op_in_kd D pins s σ H _ _ v u Q I rx ry ⟨z, r, rfl, rfl, hn, by simpa using q⟩
theorem op_notInKD : OpR X (compareOp .NotIn) (rKIn X.K X.w true) := by
  intro pins s σ H x y v u Q I rx ry hq
  obtain ⟨d, es, n, z, r, D, rfl, rfl, hn, q⟩ := hq
  exact op_notIn_kd D pins s σ H _ _ v u Q I rx ry ⟨z, r, rfl, rfl, hn, by simpa using q⟩
def rKItem (K : PySem.W.Frag) (w : World) : R2 := fun x y H Q => ∃ d es n z u0 v0, KDict K w d es n ∧ x = .ref d ∧ y = .str z ∧ PySem.W.nsIn K d z = some (some u0) ∧ RelV v0 u0 ∧ Q v0 H
theorem ix_itemKD : IxR X (rKItem X.K X.w) := by
  intro value slice pins s σ H x y v u Q I rx ry h hs
  obtain ⟨d, es, n, z, u0, v0, D, rfl, rfl, e, r, q⟩ := h
  cases rx
  obtain ⟨t, rfl⟩ := ry
  refine tail_any (kd_type D I) PySem.slot_dict_getitem.lookup ?_ hs
  exact wpAny_getItem_of (PySem.strKind_is X.prog X.w z t) (PySem.W.mapOf_K (prog := X.prog) I.kIn D.at_ D.lit) (PySem.W.find_K D.at_ e) ⟨v0, H, I.tok _, r, q⟩
end
end L2
namespace Pu
open PySem PySem.Spec PyProof.Rows L2 LB
open Classical
def fKIn (neg : Bool) (kvs : List (List Nat × Int)) (f : FE) : FE := fun σ M => (f σ M).bnd fun p M1 => match p with
  | .str s => .ok (.bl (neg ^^ (kvs.lookup s).isSome)) M1
  | _ => .bad
def fKItem (kvs : List (List Nat × Int)) (f : FE) : FE := fun σ M => (f σ M).bnd fun p M1 => match p with
  | .str s => match kvs.lookup s with
    | some n => .ok (.int n) M1
    | none => .bad
  | _ => .bad
@[simp] theorem ev_fKIn (neg : Bool) (kvs : List (List Nat × Int)) (f : FE) (σ : PS) (M : PM) : fKIn neg kvs f σ M = (f σ M).bnd fun p M1 => match p with
  | .str s => .ok (.bl (neg ^^ (kvs.lookup s).isSome)) M1
  | _ => .bad := id rfl
@[simp] theorem ev_fKItem (kvs : List (List Nat × Int)) (f : FE) (σ : PS) (M : PM) : fKItem kvs f σ M = (f σ M).bnd fun p M1 => match p with
  | .str s => match kvs.lookup s with
    | some n => .ok (.int n) M1
    | none => .bad
  | _ => .bad := id rfl
section
variable {tb : List (Addr × Str)} {E : XK} {K : PySem.W.Frag} {w : World} {d : Addr} {ks : List Str} {kvs : List (List Nat × Int)} {ty : TE} {fy : FE}
theorem sm_kin {neg : Bool} (h : He.dicW K d = some (He.keysIn w.params ks)) (hv : LkV K d kvs) (hn : LkN ks kvs) (hy : SmE tb E ty fy) : SmE tb E (tOp (rKIn K w neg) ty (tC (.ref d))) (fKIn neg kvs fy) := fun ι M H σp σ Q R S w' => by
  obtain ⟨es, n, D⟩ := He.dicW_ok h
  refine hy.to R S w' fun ι1 M1 H1 p v o S1 rv w1 => ?_
  split at w1
  · rename_i s
    cases e : kvs.lookup s with
    | none =>
      rw [e] at w1
      exact ⟨d, es, n, tx s, none, D, rv.str, rfl, dic_other h (hn s e), Wp.okNow w1 o.r .mk_bl⟩
    | some m =>
      rw [e] at w1
      obtain ⟨t, ht⟩ := hv s m e
      exact ⟨d, es, n, tx s, _, D, rv.str, rfl, ht, Wp.okNow w1 o.r .mk_bl⟩
  · exact w1.elim
theorem sm_kitem (h : He.dicW K d = some (He.keysIn w.params ks)) (hv : LkV K d kvs) (hy : SmE tb E ty fy) : SmE tb E (tOp (rKItem K w) (tC (.ref d)) ty) (fKItem kvs fy) := fun ι M H σp σ Q R S w' => by
  obtain ⟨es, n, D⟩ := He.dicW_ok h
  refine hy.to R S w' fun ι1 M1 H1 p v o S1 rv w1 => ?_
  split at w1
  · rename_i s
    split at w1
    · rename_i m e
      obtain ⟨t, ht⟩ := hv s m e
      exact ⟨d, es, n, tx s, _, .int m, D, rfl, rv.str, ht, ⟨t, rfl⟩, Wp.okNow w1 o.r .mk_int⟩
    · exact w1.elim
  · exact w1.elim
end
end Pu
/-! max of a list, text.partition, f-texts. -/
namespace Pu
open PySem PySem.Spec PyProof.Rows L2 LB
open Classical
def maxI : List Int → Int
  | [] => 0
  | [x] => x
  | x :: xs => max x (maxI xs)
theorem maxI_spec : ∀ {ns : List Int}, 0 < ns.length → maxI ns ∈ ns ∧ ∀ a ∈ ns, a ≤ maxI ns
  | [], h => by cases h
  | [x], _ => ⟨by simp [maxI], fun a ha => by rw [List.mem_singleton.mp ha]; exact Int.le_refl _⟩
  | x :: y :: r, _ => by
    obtain ⟨h1, h2⟩ := maxI_spec (ns := y :: r) (by simp)
    have e : maxI (x :: y :: r) = max x (maxI (y :: r)) := rfl
    rw [e]
    rcases Int.le_total x (maxI (y :: r)) with q | q
    · rw [Int.max_eq_right q]
      refine ⟨List.mem_cons_of_mem _ h1, fun a ha => ?_⟩
      rcases List.mem_cons.mp ha with rfl | ha
      · exact q
      · exact h2 a ha
    · rw [Int.max_eq_left q]
      refine ⟨List.mem_cons_self, fun a ha => ?_⟩
      rcases List.mem_cons.mp ha with rfl | ha
      · exact Int.le_refl _
      · exact Int.le_trans (h2 a ha) q
def bMaxL (as : List PV) (M : PM) : Res PV := match as with
  | [p] => match (lstAt M p).bind asInts with
    | some ns => if 0 < ns.length then .ok (.int (maxI ns)) M else .bad
    | none => .bad
  | _ => .bad
/-- {x} in an f-text: a text, or a whole number -/
def fFmt (f : FE) : FE := fun σ M => (f σ M).bnd fun p M1 => match p with
  | .str s => if s.length ≤ lim then .ok (.str s) M1 else .bad
  | .int i => if i.natAbs < 2 ^ 63 then .ok (.str (toString i : Str).cps.toList) M1 else .bad
  | _ => .bad
def fJs : List FE → List Nat → FE
  | [], acc => fun _ M => .ok (.str acc) M
  | f :: fs, acc => fun σ M => (f σ M).bnd fun p M1 => match p with
    | .str s => if acc.length + s.length ≤ lim then fJs fs (acc ++ s) σ M1 else .bad
    | _ => .bad
@[simp] theorem ev_fFmt (f : FE) (σ : PS) (M : PM) : fFmt f σ M = (f σ M).bnd fun p M1 => match p with
  | .str s => if s.length ≤ lim then .ok (.str s) M1 else .bad
  | .int i => if i.natAbs < 2 ^ 63 then .ok (.str (toString i : Str).cps.toList) M1 else .bad
  | _ => .bad := id rfl
@[simp] theorem ev_fJs0 (acc : List Nat) (σ : PS) (M : PM) : fJs [] acc σ M = .ok (.str acc) M := id rfl
@[simp] theorem ev_fJs (f : FE) (fs : List FE) (acc : List Nat) (σ : PS) (M : PM) : fJs (f :: fs) acc σ M = (f σ M).bnd fun p M1 => match p with
    | .str s => if acc.length + s.length ≤ lim then fJs fs (acc ++ s) σ M1 else .bad
    | _ => .bad := id rfl
section
variable {tb : List (Addr × Str)} {E : XK} {K : PySem.W.Frag} {ι : Nat → Addr} {M : PM} {H : Hp}
theorem sb_maxL : SmL tb E (rMax K) bMaxL := by
  intro ι M H ps xs Q R rs h
  unfold bMaxL at h
  split at h
  · split at h
    · rename_i p bs e
      split at h
      · rename_i hne
        obtain ⟨v, rfl, rv⟩ := rvs1 rs
        obtain ⟨ys, e1, e2⟩ := bind_at e
        obtain ⟨k, vs, rfl, lk, rfl, ha, ra⟩ := lst_at R e1 rv
        obtain ⟨m1, m2⟩ := maxI_spec hne
        refine ⟨_, bs, rfl, ?_, hne, fun m hm hle => ?_⟩
        · rw [← asInts_rel e2 ra]
          exact .of ha
        · have : m = maxI bs := Int.le_antisymm (m2 m hm) (hle _ m1)
          rw [this]
          exact h.okNow R .mk_int
      · exact h.elim
    · exact h.elim
  · exact h.elim
end
end Pu
/-! Defs that call themselves: by fuel. -/
namespace Pu
open PySem PySem.Spec PyProof.Rows L2 LB
def fBad : FF := fun _ _ => .bad
theorem FnP.bad {P : Program} {w : World} {K : PySem.W.Frag} {mg : Str → Option Value} {base : Heap} {tb : List (Addr × Str)} {k : Nat} {f : Addr} {fd : FuncData} {ps : List Str} : FnP P w K mg base tb k f fd ps fBad :=
  ⟨fun vs H Q E h => by
    obtain ⟨ι, M, as, R, r, w⟩ := h
    exact (w : False).elim, fun A outer s H args us vs Q E hr he hb hv h => by
    obtain ⟨ι, M, as, R, r, w⟩ := h
    exact (w : False).elim⟩
end Pu
namespace Pu
open PySem PySem.Spec PyProof.Rows L2 LB
/-! #### inner -/
noncomputable def B_p_inner (c : CA) : FS :=
  (fRet (fIf (fTest (fKIn false [([116, 104, 101, 110], 2), ([111, 114], 2), ([97, 103, 97, 105, 110], 1)] (fOp pIxT (fVar 0) (fC (.int 0))))) (fSl pSlT (fVar 0) (fPart (fC (.int 1))) fNoPart) (fTup fNil)))
noncomputable def F_p_inner (c : CA) : FF := fnOf 1 1 (B_p_inner c)
theorem R_p_inner (c : CA) (a0 : PV) (M : PM) : F_p_inner c [a0] M = gc M (fnRes (B_p_inner c [some a0] M)) := fn_at rfl
/-! #### is_single -/
noncomputable def B_p_is_single (c : CA) : FS :=
  (fSeq (fIfS (fNot (fTest (fGc (fB bAll (fCons (fLc (fI itT (fVar 0)) (gNm 1) fYes (fB bIsi (fCons (fVar 1) (fCons (fC (.ty "str")) fNil))) [1]) fNil))))) (fRet (fC (.bl false))) fNext)
  (fSeq (fIfS (fTest (fOp pEqD (fVar 0) (fTup (fCons (fC (.str [115, 107, 105, 112])) fNil)))) (fRet (fC (.bl true))) fNext)
  (fSeq (fIfS (fTest (fOp pEq (fOp pIxT (fVar 0) (fC (.int 0))) (fC (.str [98, 97, 114, 101])))) (fRet (fAndV (fOp pEq (fB bLen (fCons (fVar 0) fNil)) (fC (.int 2))) (fCall (F_p_is_name c) [] (fCons (fOp pIxT (fVar 0) (fC (.int 1))) fNil)))) fNext)
  (fSeq (fIfS (fOr (fTest (fOp pEq (fOp pIxT (fVar 0) (fC (.int 0))) (fC (.str [115, 101, 110, 100])))) (fTest (fOp pEq (fOp pIxT (fVar 0) (fC (.int 0))) (fC (.str [116, 97, 107, 101]))))) (fRet (fAndV (fOp pEq (fB bLen (fCons (fVar 0) fNil)) (fC (.int 3))) (fAndV (fCall (F_p_is_name c) [] (fCons (fOp pIxT (fVar 0) (fC (.int 1))) fNil)) (fCall (F_p_is_letter c) [] (fCons (fOp pIxT (fVar 0) (fC (.int 2))) fNil))))) fNext)
  (fRet (fC (.bl false)))))))
noncomputable def F_p_is_single (c : CA) : FF := fnOf 1 2 (B_p_is_single c)
theorem R_p_is_single (c : CA) (a0 : PV) (M : PM) : F_p_is_single c [a0] M = gc M (fnRes (B_p_is_single c [some a0, none] M)) := fn_at rfl
/-! #### is_built -/
noncomputable def B_p_is_built (self : FF) (c : CA) : FS :=
  (fSeq (fIfS (fOr (fNot (fTest (fB bIsi (fCons (fVar 0) (fCons (fC (.ty "tuple")) fNil))))) (fOr (fTest (fOp pEq (fB bLen (fCons (fVar 0) fNil)) (fC (.int 0)))) (fTest (fOp pEq (fVar 1) (fC (.int 0)))))) (fRet (fC (.bl false))) fNext)
  (fSeq (fIfS (fTest (fKIn true [([116, 104, 101, 110], 2), ([111, 114], 2), ([97, 103, 97, 105, 110], 1)] (fOp pIxT (fVar 0) (fC (.int 0))))) (fRet (fCall (F_p_is_single c) [] (fCons (fVar 0) fNil))) fNext)
  (fSeq (fIfS (fTest (fOp pNe (fB bLen (fCons (fVar 0) fNil)) (fOp (pI0 fun i j => .int (i + j)) (fKItem [([116, 104, 101, 110], 2), ([111, 114], 2), ([97, 103, 97, 105, 110], 1)] (fOp pIxT (fVar 0) (fC (.int 0)))) (fC (.int 1))))) (fRet (fC (.bl false))) fNext)
  (fRet (fGc (fB bAll (fCons (fLc (fI itT (fCall (F_p_inner c) [] (fCons (fVar 0) fNil))) (gNm 2) fYes (fCallN self [] (fCons (fVar 2) (fCons (fOp (pI0 fun i j => .int (i - j)) (fVar 1) (fC (.int 1))) fNil))) [2]) fNil)))))))
noncomputable def F_p_is_built (c : CA) : Nat → FF
  | 0 => fBad
  | n + 1 => fnOf 2 3 (B_p_is_built (F_p_is_built c n) c)
theorem R_p_is_built (c : CA) (n : Nat) (a0 a1 : PV) (M : PM) : F_p_is_built c (n + 1) [a0, a1] M = gc M (fnRes (B_p_is_built (F_p_is_built c n) c [some a0, some a1, none] M)) := fn_at rfl
/-! #### all_parts -/
noncomputable def B_p_all_parts (self : FF) (c : CA) : FS :=
  (fSeq (fAsg (fLst (fCons (fVar 0) fNil)) (gNm 1))
  (fSeq (fFor (fI itT (fCall (F_p_inner c) [] (fCons (fVar 0) fNil))) (gNm 2) (fDrop (fBM "list" mExtend (fVar 1) (fCons (fCall self [] (fCons (fVar 2) fNil)) fNil))))
  (fRet (fVar 1))))
noncomputable def F_p_all_parts (c : CA) : Nat → FF
  | 0 => fBad
  | n + 1 => fnOf 1 3 (B_p_all_parts (F_p_all_parts c n) c)
theorem R_p_all_parts (c : CA) (n : Nat) (a0 : PV) (M : PM) : F_p_all_parts c (n + 1) [a0] M = gc M (fnRes (B_p_all_parts (F_p_all_parts c n) c [some a0, none, none] M)) := fn_at rfl
/-! #### is_body -/
noncomputable def B_p_is_body (c : CA) : FS :=
  (fRet (fAndV (fCall (F_p_is_built c 9) [] (fCons (fVar 0) (fCons (fC (.int 6)) fNil))) (fOp (pI0 fun i j => .bl (decide (i ≤ j))) (fB bLen (fCons (fCall (F_p_all_parts c 9) [] (fCons (fVar 0) fNil)) fNil)) (fC (.int 24)))))
noncomputable def F_p_is_body (c : CA) : FF := fnOf 1 1 (B_p_is_body c)
theorem R_p_is_body (c : CA) (a0 : PV) (M : PM) : F_p_is_body c [a0] M = gc M (fnRes (B_p_is_body c [some a0] M)) := fn_at rfl
/-! #### check_body -/
noncomputable def B_p_check_body (c : CA) : FS :=
  (fIfS (fNot (fTest (fCall (F_p_is_body c) [] (fCons (fVar 0) fNil)))) (fRaise c.BadBody (Str.ofString "badbody") [(.int (-1))] fNil) fNext)
noncomputable def F_p_check_body (c : CA) : FF := fnOf 1 1 (B_p_check_body c)
theorem R_p_check_body (c : CA) (a0 : PV) (M : PM) : F_p_check_body c [a0] M = gc M (fnRes (B_p_check_body c [some a0] M)) := fn_at rfl
/-! #### text_of -/
/-! #### body_text -/
/-! #### cut -/
/-! #### read_built -/
/-! #### read_body -/
/-! #### law: leaf -/
noncomputable def B_leaf (c : CA) : FS :=
  (fSeq (fAsg (fCall (F_of c) [] (fCons (fVar 0) (fCons (fLst (fCons (fC (.str [115, 101, 110, 100])) (fCons (fC (.str [115, 101, 110, 100])) (fCons (fC (.str [116, 97, 107, 101])) (fCons (fC (.str [116, 97, 107, 101])) (fCons (fC (.str [98, 97, 114, 101])) (fCons (fC (.str [115, 107, 105, 112])) fNil))))))) fNil))) (gNm 3))
  (fSeq (fIfS (fTest (fOp pEq (fVar 3) (fC (.str [115, 107, 105, 112])))) (fRet (fTup (fCons (fC (.str [115, 107, 105, 112])) fNil))) fNext)
  (fSeq (fAsg (fCall (F_of c) [] (fCons (fVar 0) (fCons (fVar 1) fNil))) (gNm 4))
  (fRet (fIf (fTest (fOp pEq (fVar 3) (fC (.str [98, 97, 114, 101])))) (fTup (fCons (fC (.str [98, 97, 114, 101])) (fCons (fVar 4) fNil))) (fTup (fCons (fVar 3) (fCons (fVar 4) (fCons (fCall (F_of c) [] (fCons (fVar 0) (fCons (fVar 2) fNil))) fNil)))))))))
noncomputable def F_leaf (c : CA) : FF := fnOf 3 5 (B_leaf c)
theorem R_leaf (c : CA) (a0 a1 a2 : PV) (M : PM) : F_leaf c [a0, a1, a2] M = gc M (fnRes (B_leaf c [some a0, some a1, some a2, none, none] M)) := fn_at rfl
/-! #### law: body -/
noncomputable def B_body (self : FF) (c : CA) : FS :=
  (fSeq (fAsg (fCall (F_pull c) [] (fCons (fVar 0) (fCons (fC (.int 6)) fNil))) (gNm 4))
  (fSeq (fIfS (fOr (fTest (fOp (pI0 fun i j => .bl (decide (i < j))) (fVar 3) (fC (.int 2)))) (fTest (fOp pEq (fVar 4) (fC (.int 0))))) (fRet (fCall (F_leaf c) [] (fCons (fVar 0) (fCons (fVar 1) (fCons (fVar 2) fNil))))) fNext)
  (fSeq (fIfS (fTest (fOp pEq (fVar 4) (fC (.int 1)))) (fRet (fTup (fCons (fC (.str [97, 103, 97, 105, 110])) (fCons (fCall self [] (fCons (fVar 0) (fCons (fVar 1) (fCons (fVar 2) (fCons (fOp (pI0 fun i j => .int (i - j)) (fVar 3) (fC (.int 1))) fNil))))) fNil)))) fNext)
  (fSeq (fAsg (fOp pIxL (fLst (fCons (fC (.str [116, 104, 101, 110])) (fCons (fC (.str [111, 114])) fNil))) (fOp (pI (fun _ j => 0 < j) fun i j => .int (i % j)) (fVar 4) (fC (.int 2)))) (gNm 5))
  (fSeq (fAsg (fCall self [] (fCons (fVar 0) (fCons (fVar 1) (fCons (fVar 2) (fCons (fOp (pI0 fun i j => .int (i - j)) (fVar 3) (fC (.int 1))) fNil))))) (gNm 6))
  (fRet (fTup (fCons (fVar 5) (fCons (fVar 6) (fCons (fCall self [] (fCons (fVar 0) (fCons (fVar 1) (fCons (fVar 2) (fCons (fOp (pI0 fun i j => .int (i - j)) (fOp (pI0 fun i j => .int (i - j)) (fVar 3) (fC (.int 1))) (fCall (F_pull c) [] (fCons (fVar 0) (fCons (fC (.int 2)) fNil)))) fNil))))) fNil))))))))))
noncomputable def F_body (c : CA) : Nat → FF
  | 0 => fBad
  | n + 1 => fnOf 4 7 (B_body (F_body c n) c)
theorem R_body (c : CA) (n : Nat) (a0 a1 a2 a3 : PV) (M : PM) : F_body c (n + 1) [a0, a1, a2, a3] M = gc M (fnRes (B_body (F_body c n) c [some a0, some a1, some a2, some a3, none, none, none] M)) := fn_at rfl
/-! #### law: forms -/
noncomputable def B_forms (c : CA) : FS :=
  (fRet (fDisp [((fC (.str [115, 101, 110, 100])), (fC (.str [114, 108]))), ((fC (.str [116, 97, 107, 101])), (fC (.str [114, 108]))), ((fC (.str [98, 97, 114, 101])), (fC (.str [114]))), ((fC (.str [115, 107, 105, 112])), (fC (.str []))), ((fC (.str [116, 104, 101, 110])), (fC (.str [101, 101]))), ((fC (.str [111, 114])), (fC (.str [101, 101]))), ((fC (.str [97, 103, 97, 105, 110])), (fC (.str [101])))]))
noncomputable def F_forms (c : CA) : FF := fnOf 0 0 (B_forms c)
theorem R_forms (c : CA) (M : PM) : F_forms c [] M = gc M (fnRes (B_forms c [] M)) := fn_at rfl
/-! #### law: plain_text -/
noncomputable def B_plain_text (c : CA) : FS :=
  (fSeq (fAsg (fC (.str [97, 98, 99, 100, 101, 102, 103, 104, 105, 106, 107, 108, 109, 110, 111, 112, 113, 114, 115, 116, 117, 118, 119, 120, 121, 122])) (gNm 3))
  (fSeq (fAsg (fAndV (fB bIsi (fCons (fVar 0) (fCons (fC (.ty "str")) fNil))) (fChain (pI0 fun i j => .bl (decide (i ≤ j))) (pI0 fun i j => .bl (decide (i ≤ j))) (fVar 1) (fB bLenS (fCons (fVar 0) fNil)) (fVar 2))) (gNm 4))
  (fRet (fAndV (fVar 4) (fGc (fB bAll (fCons (fLc (fI itS (fVar 0)) (gNm 5) fYes (fOp pInS (fVar 5) (fVar 3)) [5]) fNil)))))))
noncomputable def F_plain_text (c : CA) : FF := fnOf 3 6 (B_plain_text c)
theorem R_plain_text (c : CA) (a0 a1 a2 : PV) (M : PM) : F_plain_text c [a0, a1, a2] M = gc M (fnRes (B_plain_text c [some a0, some a1, some a2, none, none, none] M)) := fn_at rfl
/-! #### law: inner -/
noncomputable def B_inner (c : CA) : FS :=
  (fRet (fIf (fTest (fOp (pIn false) (fOp pIxT (fVar 0) (fC (.int 0))) (fTup (fCons (fC (.str [116, 104, 101, 110])) (fCons (fC (.str [111, 114])) (fCons (fC (.str [97, 103, 97, 105, 110])) fNil)))))) (fB bLst (fCons (fSl pSlT (fVar 0) (fPart (fC (.int 1))) fNoPart) fNil)) (fLst fNil)))
noncomputable def F_inner (c : CA) : FF := fnOf 1 1 (B_inner c)
theorem R_inner (c : CA) (a0 : PV) (M : PM) : F_inner c [a0] M = gc M (fnRes (B_inner c [some a0] M)) := fn_at rfl
/-! #### law: all_in -/
noncomputable def B_all_in (self : FF) (c : CA) : FS :=
  (fSeq (fAsg (fLst (fCons (fVar 0) fNil)) (gNm 1))
  (fSeq (fFor (fI itL (fCall (F_inner c) [] (fCons (fVar 0) fNil))) (gNm 2) (fAsg (fOp pAddL (fVar 1) (fCall self [] (fCons (fVar 2) fNil))) (gNm 1)))
  (fRet (fVar 1))))
noncomputable def F_all_in (c : CA) : Nat → FF
  | 0 => fBad
  | n + 1 => fnOf 1 3 (B_all_in (F_all_in c n) c)
theorem R_all_in (c : CA) (n : Nat) (a0 : PV) (M : PM) : F_all_in c (n + 1) [a0] M = gc M (fnRes (B_all_in (F_all_in c n) c [some a0, none, none] M)) := fn_at rfl
/-! #### law: form_ok -/
noncomputable def B_form_ok (self : FF) (c : CA) : FS :=
  (fSeq (fIfS (fOr (fNot (fTest (fB bIsi (fCons (fVar 0) (fCons (fC (.ty "tuple")) fNil))))) (fOr (fTest (fOp pEqD (fVar 0) (fTup fNil))) (fNot (fTest (fB bIsi (fCons (fOp pIxT (fVar 0) (fC (.int 0))) (fCons (fC (.ty "str")) fNil))))))) (fRet (fC (.bl false))) fNext)
  (fSeq (fAsg (fDGet1 (fCall (F_forms c) [] fNil) (fOp pIxT (fVar 0) (fC (.int 0)))) (gNm 1))
  (fSeq (fIfS (fOr (fTest (fOp pIsN (fVar 1) (fC .non))) (fTest (fOp pNe (fB bLen (fCons (fVar 0) fNil)) (fOp (pI0 fun i j => .int (i + j)) (fC (.int 1)) (fB bLenS (fCons (fVar 1) fNil)))))) (fRet (fC (.bl false))) fNext)
  (fSeq (fFor (fIA itZX (fCons (fVar 1) (fCons (fSl pSlT (fVar 0) (fPart (fC (.int 1))) fNoPart) fNil))) (gTp (gsCons (gNm 2) (gsCons (gNm 3) gsNil))) (fSeq (fIfS (fAnd (fTest (fOp pEq (fVar 2) (fC (.str [101])))) (fNot (fTest (fCall self [] (fCons (fVar 3) fNil))))) (fRet (fC (.bl false))) fNext)
  (fIfS (fAnd (fTest (fOp pNe (fVar 2) (fC (.str [101])))) (fNot (fTest (fCall (F_plain_text c) [] (fCons (fVar 3) (fCons (fC (.int 1)) (fCons (fOp pIxL (fLst (fCons (fC (.int 8)) (fCons (fC (.int 1)) fNil))) (fB bInt (fCons (fOp pEq (fVar 2) (fC (.str [108]))) fNil))) fNil))))))) (fRet (fC (.bl false))) fNext)))
  (fRet (fC (.bl true)))))))
noncomputable def F_form_ok (c : CA) : Nat → FF
  | 0 => fBad
  | n + 1 => fnOf 1 4 (B_form_ok (F_form_ok c n) c)
theorem R_form_ok (c : CA) (n : Nat) (a0 : PV) (M : PM) : F_form_ok c (n + 1) [a0] M = gc M (fnRes (B_form_ok (F_form_ok c n) c [some a0, none, none, none] M)) := fn_at rfl
/-! #### law: far_in -/
noncomputable def B_far_in (self : FF) (c : CA) : FS :=
  (fRet (fOp (pI0 fun i j => .int (i + j)) (fC (.int 1)) (fB bMaxL (fCons (fOp pAddL (fLc (fI itL (fCall (F_inner c) [] (fCons (fVar 0) fNil))) (gNm 1) fYes (fCallN self [] (fCons (fVar 1) fNil)) [1]) (fLst (fCons (fC (.int 0)) fNil))) fNil))))
noncomputable def F_far_in (c : CA) : Nat → FF
  | 0 => fBad
  | n + 1 => fnOf 1 2 (B_far_in (F_far_in c n) c)
theorem R_far_in (c : CA) (n : Nat) (a0 : PV) (M : PM) : F_far_in c (n + 1) [a0] M = gc M (fnRes (B_far_in (F_far_in c n) c [some a0, none] M)) := fn_at rfl
/-! #### law: body_ok -/
noncomputable def B_body_ok (c : CA) : FS :=
  (fRet (fAndV (fCall (F_form_ok c 9) [] (fCons (fVar 0) fNil)) (fAndV (fOp (pI0 fun i j => .bl (decide (i ≤ j))) (fB bLen (fCons (fCall (F_all_in c 9) [] (fCons (fVar 0) fNil)) fNil)) (fC (.int 24))) (fOp (pI0 fun i j => .bl (decide (i ≤ j))) (fCall (F_far_in c 9) [] (fCons (fVar 0) fNil)) (fC (.int 6))))))
noncomputable def F_body_ok (c : CA) : FF := fnOf 1 1 (B_body_ok c)
theorem R_body_ok (c : CA) (a0 : PV) (M : PM) : F_body_ok c [a0] M = gc M (fnRes (B_body_ok c [some a0] M)) := fn_at rfl
/-! #### law: body_text -/
end Pu
namespace Pu
open PySem PySem.Spec PyProof.Rows L2 LB
/-! #### Plan.__init__ -/
noncomputable def B_Plan_init (c : CA) : FS :=
  (fSeq (fSetF c.Plan "owner" (fVar 0) (fVar 1))
  (fSeq (fSetF c.Plan "stem" (fVar 0) (fVar 2))
  (fSeq (fSetF c.Plan "stand_count" (fVar 0) (fC (.int 0)))
  (fSetF c.Plan "made" (fVar 0) (fLst fNil)))))
noncomputable def F_Plan_init (c : CA) : FF := fnOf 3 3 (B_Plan_init c)
theorem R_Plan_init (c : CA) (a0 a1 a2 : PV) (M : PM) : F_Plan_init c [a0, a1, a2] M = gc M (fnRes (B_Plan_init c [some a0, some a1, some a2] M)) := fn_at rfl
/-! #### Plan.new_stand -/
noncomputable def B_Plan_new_stand (c : CA) : FS :=
  (fSeq (fAugF c.Plan "stand_count" (fVar 0) (fC (.int 1)) (fun i j => i + j))
  (fRet (fOp pAddS (fFld c.Plan "stem" (fVar 0)) (fOp pIxS (fC (.str [97, 98, 99, 100, 101, 102, 103, 104, 105, 106, 107, 108, 109, 110, 111, 112, 113, 114, 115, 116, 117, 118, 119, 120, 121, 122])) (fOp (pI0 fun i j => .int (i - j)) (fFld c.Plan "stand_count" (fVar 0)) (fC (.int 1)))))))
noncomputable def F_Plan_new_stand (c : CA) : FF := fnOf 1 1 (B_Plan_new_stand c)
theorem R_Plan_new_stand (c : CA) (a0 : PV) (M : PM) : F_Plan_new_stand c [a0] M = gc M (fnRes (B_Plan_new_stand c [some a0] M)) := fn_at rfl
/-! #### Plan.put -/
noncomputable def B_Plan_put (c : CA) : FS :=
  (fDrop (fBM "list" mAppend (fFld c.Plan "made" (fVar 0)) (fCons (fTup (fCons (fFld c.Plan "owner" (fVar 0)) (fCons (fVar 1) (fCons (fVar 2) (fCons (fVar 3) fNil))))) fNil)))
noncomputable def F_Plan_put (c : CA) : FF := fnOf 4 4 (B_Plan_put c)
theorem R_Plan_put (c : CA) (a0 a1 a2 a3 : PV) (M : PM) : F_Plan_put c [a0, a1, a2, a3] M = gc M (fnRes (B_Plan_put c [some a0, some a1, some a2, some a3] M)) := fn_at rfl
/-! #### Plan.fill -/
noncomputable def B_Plan_fill (self : FF) (c : CA) : FS :=
  (fSeq (fAsg (fOp pIxT (fVar 1) (fC (.int 0))) (gNm 4))
  (fIfS (fTest (fOp pEq (fVar 4) (fC (.str [116, 104, 101, 110])))) (fSeq (fAsg (fMeth c.Plan "new_stand" (F_Plan_new_stand c) [] (fVar 0) fNil) (gNm 5))
  (fSeq (fDrop (fMeth c.Plan "fill" self [] (fVar 0) (fCons (fOp pIxT (fVar 1) (fC (.int 1))) (fCons (fVar 2) (fCons (fVar 5) fNil)))))
  (fDrop (fMeth c.Plan "fill" self [] (fVar 0) (fCons (fOp pIxT (fVar 1) (fC (.int 2))) (fCons (fVar 5) (fCons (fVar 3) fNil))))))) (fIfS (fTest (fOp pEq (fVar 4) (fC (.str [111, 114])))) (fSeq (fDrop (fMeth c.Plan "fill" self [] (fVar 0) (fCons (fOp pIxT (fVar 1) (fC (.int 1))) (fCons (fVar 2) (fCons (fVar 3) fNil)))))
  (fDrop (fMeth c.Plan "fill" self [] (fVar 0) (fCons (fOp pIxT (fVar 1) (fC (.int 2))) (fCons (fVar 2) (fCons (fVar 3) fNil)))))) (fIfS (fTest (fOp pEq (fVar 4) (fC (.str [97, 103, 97, 105, 110])))) (fSeq (fAsg (fMeth c.Plan "new_stand" (F_Plan_new_stand c) [] (fVar 0) fNil) (gNm 5))
  (fSeq (fDrop (fMeth c.Plan "put" (F_Plan_put c) [] (fVar 0) (fCons (fVar 2) (fCons (fTup (fCons (fC (.str [105, 100, 108, 101])) fNil)) (fCons (fVar 5) fNil)))))
  (fSeq (fDrop (fMeth c.Plan "fill" self [] (fVar 0) (fCons (fOp pIxT (fVar 1) (fC (.int 1))) (fCons (fVar 5) (fCons (fVar 5) fNil)))))
  (fDrop (fMeth c.Plan "put" (F_Plan_put c) [] (fVar 0) (fCons (fVar 5) (fCons (fTup (fCons (fC (.str [105, 100, 108, 101])) fNil)) (fCons (fVar 3) fNil)))))))) (fDrop (fMeth c.Plan "put" (F_Plan_put c) [] (fVar 0) (fCons (fVar 2) (fCons (fIf (fTest (fOp pEq (fVar 4) (fC (.str [115, 107, 105, 112])))) (fTup (fCons (fC (.str [105, 100, 108, 101])) fNil)) (fVar 1)) (fCons (fVar 3) fNil)))))))))
noncomputable def F_Plan_fill (c : CA) : Nat → FF
  | 0 => fBad
  | n + 1 => fnOf 4 6 (B_Plan_fill (F_Plan_fill c n) c)
theorem R_Plan_fill (c : CA) (n : Nat) (a0 a1 a2 a3 : PV) (M : PM) : F_Plan_fill c (n + 1) [a0, a1, a2, a3] M = gc M (fnRes (B_Plan_fill (F_Plan_fill c n) c [some a0, some a1, some a2, some a3, none, none] M)) := fn_at rfl
/-! #### compiled -/
noncomputable def B_p_compiled (c : CA) : FS :=
  (fSeq (fIfS (fOr (fNot (fTest (fCall (F_p_is_name c) [] (fCons (fVar 0) fNil)))) (fOr (fNot (fTest (fCall (F_p_is_name c) [] (fCons (fVar 2) fNil)))) (fTest (fOp (pI0 fun i j => .bl (decide (j < i))) (fB bLenS (fCons (fVar 2) fNil)) (fC (.int 7)))))) (fRaise c.BadName (Str.ofString "badname") [(.int (-1))] fNil) fNext)
  (fSeq (fDrop (fCall (F_p_check_body c) [] (fCons (fVar 1) fNil)))
  (fSeq (fAsg (fMake c.Plan (F_Plan_init c) [] (fCons (fVar 0) (fCons (fVar 2) fNil))) (gNm 3))
  (fSeq (fAsg (fMeth c.Plan "new_stand" (F_Plan_new_stand c) [] (fVar 3) fNil) (gNm 4))
  (fSeq (fAsg (fMeth c.Plan "new_stand" (F_Plan_new_stand c) [] (fVar 3) fNil) (gNm 5))
  (fSeq (fDrop (fMeth c.Plan "fill" (F_Plan_fill c 9) [] (fVar 3) (fCons (fVar 1) (fCons (fVar 4) (fCons (fVar 5) fNil)))))
  (fRet (fTup (fCons (fVar 4) (fCons (fFld c.Plan "made" (fVar 3)) (fCons (fVar 5) fNil)))))))))))
noncomputable def F_p_compiled (c : CA) : FF := fnOf 3 6 (B_p_compiled c)
theorem R_p_compiled (c : CA) (a0 a1 a2 : PV) (M : PM) : F_p_compiled c [a0, a1, a2] M = gc M (fnRes (B_p_compiled c [some a0, some a1, some a2, none, none, none] M)) := fn_at rfl
end Pu
namespace Pu
open PySem PySem.Spec PyProof.Rows L2 LB
open Classical
variable {c : CA} {M M' M'' : PM} {b : Nat}
/-! ### the bag -/
def bagO (s : Nat) (i r sd ct : Int) : PO := .lst [.ref s, .int i, .int r, .int sd, .int ct]
def BagAt (M : PM) (b s : Nat) : Prop := s ≠ b ∧ ∃ (ns : List Int) (i r sd ct : Int), M[b]? = some (bagO s i r sd ct) ∧ M[s]? = some (.lst (ns.map PV.int)) ∧ 0 ≤ i
/-- all but the bag is as it was -/
structure Dr (b s : Nat) (M M' : PM) : Prop where
  bag : BagAt M' b s
  e : ∃ i r sd ct, M' = M.set b (bagO s i r sd ct)
theorem BagAt.ltb {s : Nat} (h : BagAt M b s) : b < M.length := by
  obtain ⟨_, ns, i, r, sd, ct, e, _⟩ := h
  exact (List.getElem?_eq_some_iff.mp e).1
theorem BagAt.lts {s : Nat} (h : BagAt M b s) : s < M.length := by
  obtain ⟨_, ns, i, r, sd, ct, _, e, _⟩ := h
  exact (List.getElem?_eq_some_iff.mp e).1
theorem Dr.len {s : Nat} (h : Dr b s M M') : M'.length = M.length := by
  obtain ⟨i, r, sd, ct, e⟩ := h.e
  rw [e, List.length_set]
theorem Dr.get {s k : Nat} (h : Dr b s M M') (hk : k ≠ b) : M'[k]? = M[k]? := by
  obtain ⟨i, r, sd, ct, e⟩ := h.e
  rw [e, List.getElem?_set_ne (Ne.symm hk)]
theorem Dr.trans {s : Nat} (x : Dr b s M M') (y : Dr b s M' M'') : Dr b s M M'' := by
  obtain ⟨i, r, sd, ct, e⟩ := x.e
  obtain ⟨i', r', sd', ct', e'⟩ := y.e
  exact ⟨y.bag, i', r', sd', ct', by rw [e', e, List.set_set]⟩
theorem Dr.refl {s : Nat} (h : BagAt M b s) : Dr b s M M := by
  obtain ⟨n, ns, i, r, sd, ct, e, e2, h0⟩ := id h
  refine ⟨h, i, r, sd, ct, ?_⟩
  have := (List.getElem?_eq_some_iff.mp e)
  rw [← this.2, List.set_getElem_self]
theorem Dr.of {s : Nat} (h : BagAt M b s) {i r sd ct : Int} (h0 : 0 ≤ i) : Dr b s M (M.set b (bagO s i r sd ct)) := by
  obtain ⟨n, ns, i', r', sd', ct', e, e2, _⟩ := id h
  have lb := h.ltb
  exact ⟨⟨n, ns, i, r, sd, ct, List.getElem?_set_self lb, (List.getElem?_set_ne (Ne.symm n)).trans e2, h0⟩, i, r, sd, ct, rfl⟩
theorem BagAt.app {s : Nat} {ex : PM} (h : BagAt M b s) : BagAt (M ++ ex) b s := by
  obtain ⟨n, ns, i, r, sd, ct, e, e2, h0⟩ := id h
  exact ⟨n, ns, i, r, sd, ct, (List.getElem?_append_left h.ltb).trans e, (List.getElem?_append_left h.lts).trans e2, h0⟩
theorem bag_wf {s : Nat} {i r sd ct : Int} {n : Nat} (h : s < n) : (bagO s i r sd ct).wf n := by
  unfold bagO
  simp [h]
/-- drawn beside things that were made -/
theorem Dr.app {s : Nat} {ex N : PM} (hb : b < M.length) (hs : s < M.length) (x : Dr b s (M ++ ex) N) : ∃ M', N = M' ++ ex ∧ Dr b s M M' := by
  obtain ⟨i, r, sd, ct, e⟩ := x.e
  rw [List.set_append_left _ _ hb] at e
  refine ⟨_, e, ?_, i, r, sd, ct, rfl⟩
  obtain ⟨n, ns, i', r', sd', ct', e1, e2, h0⟩ := x.bag
  rw [e] at e1 e2
  rw [List.getElem?_append_left (by simpa using hb)] at e1
  rw [List.getElem?_append_left (by simpa using hs)] at e2
  exact ⟨n, ns, i', r', sd', ct', e1, e2, h0⟩
theorem setL_at {k : Nat} {xs : List PV} {j : Int} {n : Nat} {v : PV} (e : M[k]? = some (.lst xs)) (h : ixN xs.length j = some n) : setL (.ref k) (.int j) v M = some (M.set k (.lst (xs.set n v))) := by
  unfold setL
  simp only [e, h]
@[simp] theorem ev_fAugL (fo fi f : FE) (g : PV → PV → PM → Res PV) (σ : PS) (M : PM) : fAugL fo fi f g σ M = (fo σ M).go fun o M1 => (fi σ M1).go fun i M2 => (pIxL o i M2).go fun x M3 => (f σ M3).go fun y M4 => (g x y M4).go fun z M5 => toM σ (setL o i z M5) := id rfl
@[simp] theorem ev_fAsgL (f fo fi : FE) (σ : PS) (M : PM) : fAsgL f fo fi σ M = (f σ M).go fun v M1 => (fo σ M1).go fun o M2 => (fi σ M2).go fun i M3 => toM σ (setL o i v M3) := id rfl
section
variable {s : Nat} {i r sd ct : Int}
theorem bag_at (hb : b < M.length) : (M.set b (bagO s i r sd ct))[b]? = some (.lst [.ref s, .int i, .int r, .int sd, .int ct]) := List.getElem?_set_self hb
theorem bag0 (hb : b < M.length) : pIxL (.ref b) (.int 0) (M.set b (bagO s i r sd ct)) = .ok (.ref s) (M.set b (bagO s i r sd ct)) := pIxL_at (bag_at hb) rfl
theorem bag1 (hb : b < M.length) : pIxL (.ref b) (.int 1) (M.set b (bagO s i r sd ct)) = .ok (.int i) (M.set b (bagO s i r sd ct)) := pIxL_at (bag_at hb) rfl
theorem bag2 (hb : b < M.length) : pIxL (.ref b) (.int 2) (M.set b (bagO s i r sd ct)) = .ok (.int r) (M.set b (bagO s i r sd ct)) := pIxL_at (bag_at hb) rfl
theorem bag3 (hb : b < M.length) : pIxL (.ref b) (.int 3) (M.set b (bagO s i r sd ct)) = .ok (.int sd) (M.set b (bagO s i r sd ct)) := pIxL_at (bag_at hb) rfl
theorem bag4 (hb : b < M.length) : pIxL (.ref b) (.int 4) (M.set b (bagO s i r sd ct)) = .ok (.int ct) (M.set b (bagO s i r sd ct)) := pIxL_at (bag_at hb) rfl
theorem bset1 (hb : b < M.length) {x : Int} : setL (.ref b) (.int 1) (.int x) (M.set b (bagO s i r sd ct)) = some (M.set b (bagO s x r sd ct)) := by rw [setL_at (n := 1) (bag_at hb) rfl, List.set_set]; rfl
theorem bset2 (hb : b < M.length) {x : Int} : setL (.ref b) (.int 2) (.int x) (M.set b (bagO s i r sd ct)) = some (M.set b (bagO s i x sd ct)) := by rw [setL_at (n := 2) (bag_at hb) rfl, List.set_set]; rfl
theorem bset3 (hb : b < M.length) {x : Int} : setL (.ref b) (.int 3) (.int x) (M.set b (bagO s i r sd ct)) = some (M.set b (bagO s i r x ct)) := by rw [setL_at (n := 3) (bag_at hb) rfl, List.set_set]; rfl
theorem bset4 (hb : b < M.length) {x : Int} : setL (.ref b) (.int 4) (.int x) (M.set b (bagO s i r sd ct)) = some (M.set b (bagO s i r sd x)) := by rw [setL_at (n := 4) (bag_at hb) rfl, List.set_set]; rfl
theorem pI_mod {x y : Int} (h : 0 < y) : pI (fun _ j => 0 < j) (fun i j => .int (i % j)) (.int x) (.int y) M = .ok (.int (x % y)) M := pI_int h
theorem pI_div {x y : Int} (h : 0 < y ∧ y < 1073741824) : pI CDiv (fun i j => .int (i / j)) (.int x) (.int y) M = .ok (.int (x / y)) M := pI_int h
theorem pI_pow : pI CPow (fun i j => .int (i ^ j.toNat)) (.int 10) (.int 18) M = .ok (.int 1000000000000000000) M := pI_int (g := fun i j => PV.int (i ^ j.toNat)) ⟨by decide, by decide, by decide⟩
theorem mod_bd {x n : Int} (h : 0 < n) : 0 ≤ x % n ∧ x % n < n := ⟨Int.emod_nonneg _ (by omega), Int.emod_lt_of_pos _ h⟩
end
theorem pI_mulc {x y : Int} (h : -(2 ^ 64) < y ∧ y < 2 ^ 64) : pI CMul (fun i j => .int (i * j)) (.int x) (.int y) M = .ok (.int (x * y)) M := pI_int (.inr h)
set_option maxHeartbeats 2000000 in
theorem F_pull_eq {s : Nat} (h : BagAt M b s) {n : Int} (h0 : 0 < n) (h1 : n < 1073741824) : ∃ k M', F_pull c [.ref b, .int n] M = .ok (.int k) M' ∧ 0 ≤ k ∧ k < n ∧ Dr b s M M' := by
  obtain ⟨ne, ns, i, r, sd, ct, e1, e2, hi⟩ := id h
  have hb := h.ltb
  have eM : M = M.set b (bagO s i r sd ct) := by
    have := (List.getElem?_eq_some_iff.mp e1)
    rw [← this.2, List.set_getElem_self]
  have go : ∃ (k i' r' sd' ct' : Int), 0 ≤ k ∧ k < n ∧ 0 ≤ i' ∧ B_pull c [some (.ref b), some (.int n), none, none, none, none] (M.set b (bagO s i r sd ct)) = .rt (.int k) (M.set b (bagO s i' r' sd' ct')) := by
    unfold B_pull
    by_cases hr : 0 < r
    · exact ⟨r % n, i, r / n, sd, ct + 1, (mod_bd h0).1, (mod_bd h0).2, hi, by simp [bag4 hb, bset4 hb, bag2 hb, bset2 hb, hr, pI_div ⟨h0, h1⟩, pI_mod h0]⟩
    · have ls : ∀ {i r sd ct : Int}, (M.set b (bagO s i r sd ct))[s]? = some (.lst (ns.map PV.int)) := (List.getElem?_set_ne (Ne.symm ne)).trans e2
      have ln : ∀ {i r sd ct : Int}, bLen [.ref s] (M.set b (bagO s i r sd ct)) = .ok (.int (ns.length : Nat)) (M.set b (bagO s i r sd ct)) := by
        intro i r sd ct
        rw [bLen_lst ls, List.length_map]
      have small : ∀ x : Int, -(2 ^ 64) < x % 65521 + 11 ∧ x % 65521 + 11 < 2 ^ 64 := fun x => by
        have := mod_bd (x := x) (n := 65521) (by decide)
        omega
      have ms : ∀ (x y : Int) (M : PM), pI CMul (fun i j => .int (i * j)) (.int x) (.int (y % 65521 + 11)) M = .ok (.int (x * (y % 65521 + 11))) M := fun x y M => pI_mulc (small y)
      have last : ∀ (cell i' : Int), 0 ≤ i' → ∃ (k i2 r' sd' ct' : Int), 0 ≤ k ∧ k < n ∧ 0 ≤ i2 ∧ (if (1000000000000000000 : Int) ≤ cell then (.rt (.int (cell % n)) (M.set b (bagO s i' (cell / n) sd (ct + 1))) : SR) else
            .rt (.int ((((cell * 48271 + sd * 40503 + (ct + 1) * 69621 + 12345) % 2147483629 * ((cell * 48271 + sd * 40503 + (ct + 1) * 69621 + 12345) % 2147483629 % 65521 + 11) + (ct + 1) * 40692 + sd % 104729) % 998244353) / 7 % n)) (M.set b (bagO s i' r ((sd * 16807 + ((cell * 48271 + sd * 40503 + (ct + 1) * 69621 + 12345) % 2147483629 * ((cell * 48271 + sd * 40503 + (ct + 1) * 69621 + 12345) % 2147483629 % 65521 + 11) + (ct + 1) * 40692 + sd % 104729) % 998244353) % 2147483563) (ct + 1)))) = .rt (.int k) (M.set b (bagO s i2 r' sd' ct')) := fun cell i' h' => by
        by_cases hc : (1000000000000000000 : Int) ≤ cell
        · exact ⟨_, _, _, _, _, (mod_bd h0).1, (mod_bd h0).2, h', if_pos hc⟩
        · exact ⟨_, _, _, _, _, (mod_bd h0).1, (mod_bd h0).2, h', if_neg hc⟩
      by_cases hl : i < (ns.length : Nat)
      · obtain ⟨j, rfl⟩ := Int.eq_ofNat_of_zero_le hi
        have lj : j < ns.length := by omega
        have gc : ∀ {i r sd ct : Int}, pIxL (.ref s) (.int (j : Nat)) (M.set b (bagO s i r sd ct)) = .ok (.int ns[j]) (M.set b (bagO s i r sd ct)) := pIxL_at ls (atI_nat (by rw [List.getElem?_map, List.getElem?_eq_getElem lj]; rfl))
        obtain ⟨k, i2, r', sd', ct', p1, p2, p3, p4⟩ := last ns[j] ((j : Int) + 1) (by omega)
        refine ⟨k, i2, r', sd', ct', p1, p2, p3, ?_⟩
        rw [← p4]
        simp [bag4 hb, bset4 hb, bag3 hb, bset3 hb, bag2 hb, bset2 hb, bag1 hb, bset1 hb, bag0 hb, hr, ln, gc, lj, pI_div ⟨h0, h1⟩, pI_mod h0, pI_pow, pI_mulc, ms, pI_mod (M := _) (show (0 : Int) < 2147483629 by decide), pI_mod (show (0 : Int) < 65521 by decide), pI_mod (show (0 : Int) < 104729 by decide), pI_mod (show (0 : Int) < 998244353 by decide), pI_mod (show (0 : Int) < 2147483563 by decide), pI_div (show (0 : Int) < 7 ∧ (7 : Int) < 1073741824 by decide)]
      · obtain ⟨k, i2, r', sd', ct', p1, p2, p3, p4⟩ := last sd i hi
        refine ⟨k, i2, r', sd', ct', p1, p2, p3, ?_⟩
        rw [← p4]
        simp [bag4 hb, bset4 hb, bag3 hb, bset3 hb, bag2 hb, bset2 hb, bag1 hb, bset1 hb, bag0 hb, hr, ln, hl, pI_div ⟨h0, h1⟩, pI_mod h0, pI_pow, pI_mulc, ms, pI_mod (M := _) (show (0 : Int) < 2147483629 by decide), pI_mod (show (0 : Int) < 65521 by decide), pI_mod (show (0 : Int) < 104729 by decide), pI_mod (show (0 : Int) < 998244353 by decide), pI_mod (show (0 : Int) < 2147483563 by decide), pI_div (show (0 : Int) < 7 ∧ (7 : Int) < 1073741824 by decide)]
  obtain ⟨k, i', r', sd', ct', p1, p2, p3, p4⟩ := go
  refine ⟨k, M.set b (bagO s i' r' sd' ct'), ?_, p1, p2, .of h p3⟩
  rw [R_pull]
  rw [← eM] at p4
  rw [p4, fnRes_rt]
  exact gc_self (by simp)
/-! ### draws -/
@[simp] theorem bLenQ_str {s : List Nat} {M : PM} (h : s.length ≤ lim) : bLenQ [.str s] M = .ok (.int (s.length : Nat)) M := by
  unfold bLenQ
  exact bLenS_str h
theorem bLenQ_lst {k : Nat} {xs : List PV} {M : PM} (e : M[k]? = some (.lst xs)) : bLenQ [.ref k] M = .ok (.int (xs.length : Nat)) M := by
  unfold bLenQ
  exact bLen_lst e
/-- one of a list -/
theorem F_of_lst {s k : Nat} {xs : List PV} (h : BagAt M b s) (hk : k ≠ b) (e : M[k]? = some (.lst xs)) (h0 : 0 < xs.length) (h1 : xs.length < 1000000) : ∃ x M', F_of c [.ref b, .ref k] M = .ok x M' ∧ x ∈ xs ∧ Dr b s M M' := by
  obtain ⟨j, M', e1, j0, j1, d⟩ := F_pull_eq (c := c) h (n := (xs.length : Nat)) (by omega) (by omega)
  obtain ⟨i, rfl⟩ := Int.eq_ofNat_of_zero_le j0
  have li : i < xs.length := by omega
  have ek : M'[k]? = some (.lst xs) := (d.get hk).trans e
  refine ⟨xs[i], M', ?_, List.getElem_mem li, d⟩
  rw [R_of]
  unfold B_of
  have ex : pIxQ (.ref k) (.int (i : Nat)) M' = .ok xs[i] M' := pIxL_at ek (atI_nat (List.getElem?_eq_getElem li))
  simp [bLenQ_lst e, e1, ex]
  exact gc_self d.len
/-- one of a text's signs -/
theorem F_of_str {s : Nat} {z : List Nat} (h : BagAt M b s) (h0 : 0 < z.length) (h1 : z.length < 1000000) : ∃ x M', F_of c [.ref b, .str z] M = .ok (.str [x]) M' ∧ x ∈ z ∧ Dr b s M M' := by
  obtain ⟨j, M', e1, j0, j1, d⟩ := F_pull_eq (c := c) h (n := (z.length : Nat)) (by omega) (by omega)
  obtain ⟨i, rfl⟩ := Int.eq_ofNat_of_zero_le j0
  have li : i < z.length := by omega
  have hz : z.length ≤ lim := by unfold lim; omega
  refine ⟨z[i], M', ?_, List.getElem_mem li, d⟩
  rw [R_of]
  unfold B_of
  have ex : pIxQ (.str z) (.int (i : Nat)) M' = .ok (.str [z[i]]) M' := pIxS_at hz (atI_nat (List.getElem?_eq_getElem li))
  simp [bLenQ_str hz, e1, ex]
  exact gc_self d.len
/-- behind draws what was made is dropped -/
theorem gc_draw {s : Nat} {p : PV} {ex : PM} (h : BagAt M b s) (d : Dr b s M M') (w : p.wf M.length) : gc M (.ok p (M' ++ ex)) = .ok p M' := by
  obtain ⟨i, r, sd, ct, e⟩ := d.e
  rw [e, gc_keep (keep_set (bag_wf h.lts)) w, take_set]
/-- .. a new list alone is left -/
theorem gc_drawL {s k : Nat} {ex : PM} {xs : List PV} (h : BagAt M b s) (d : Dr b s M M') (lk : M.length ≤ k) (e : (M' ++ ex)[k]? = some (.lst xs)) (w : PV.wfs M.length xs) : gc M (.ok (.ref k) (M' ++ ex)) = .ok (.ref M.length) (M' ++ [.lst xs]) := by
  obtain ⟨i, r, sd, ct, e0⟩ := d.e
  subst e0
  rw [gc_new (keep_set (bag_wf h.lts)) lk e w, take_set]
theorem gc_drawLE {s k : Nat} {N : PM} {xs : List PV} (ex : PM) (h : BagAt M b s) (d : Dr b s M M') (hN : N = M' ++ ex) (lk : M.length ≤ k) (e : N[k]? = some (.lst xs)) (w : PV.wfs M.length xs) : gc M (.ok (.ref k) N) = .ok (.ref M.length) (M' ++ [.lst xs]) := by
  subst hN
  exact gc_drawL h d lk e w
theorem gc_drawE {s : Nat} {p : PV} {N : PM} (ex : PM) (h : BagAt M b s) (d : Dr b s M M') (hN : N = M' ++ ex) (w : p.wf M.length) : gc M (.ok p N) = .ok p M' := by
  subst hN
  exact gc_draw h d w
/-- a comprehension whose items are drawn -/
theorem lc_draw {α : Type} {s : Nat} {ok : PM → Prop} {g : FG} {ft : FT} {fe : FE} {σ : PS} {e : α → PV} (Good : α → PV → Prop) (hb : BagAt M b s) {zs : List α} (hl : zs.length ≤ lim) (hok : ∀ N ys, Dr b s M N → ok (N ++ [.lst ys]))
    (hs : ∀ z ∈ zs, ∃ σ1, g (e z) σ = some σ1 ∧ ∀ N ys, Dr b s M N → ft σ1 (N ++ [.lst ys]) = .ok true (N ++ [.lst ys]) ∧ ∃ y N', fe σ1 (N ++ [.lst ys]) = .ok y (N' ++ [.lst ys]) ∧ Dr b s N N' ∧ Good z y) :
    ∃ M' ys, lcP ok g ft fe M.length σ (zs.map e) (M ++ [.lst []]) = .ok () (M' ++ [.lst ys]) ∧ Dr b s M M' ∧ Paired Good zs ys := by
  have go : ∀ (zs : List α) (N : PM) (acc : List PV), Dr b s M N → acc.length + zs.length ≤ lim → (∀ z ∈ zs, ∃ σ1, g (e z) σ = some σ1 ∧ ∀ N ys, Dr b s M N → ft σ1 (N ++ [.lst ys]) = .ok true (N ++ [.lst ys]) ∧ ∃ y N', fe σ1 (N ++ [.lst ys]) = .ok y (N' ++ [.lst ys]) ∧ Dr b s N N' ∧ Good z y) →
      ∃ M' ys, lcP ok g ft fe M.length σ (zs.map e) (N ++ [.lst acc]) = .ok () (M' ++ [.lst (acc ++ ys)]) ∧ Dr b s M M' ∧ Paired Good zs ys := by
    intro zs
    induction zs with
    | nil =>
      intro N acc d _ _
      refine ⟨N, [], ?_, d, .nil⟩
      rw [List.map_nil, List.append_nil]
      unfold lcP
      rw [if_pos (hok N acc d)]
    | cons z zs ih =>
      intro N acc d hl hs
      obtain ⟨σ1, e1, h1⟩ := hs z List.mem_cons_self
      obtain ⟨e2, y, N', e3, d', gd⟩ := h1 N acc d
      rw [List.length_cons] at hl
      have dN := d.trans d'
      have lN : N'.length = M.length := dN.len
      obtain ⟨M', ys, e4, d4, p4⟩ := ih N' (acc ++ [y]) dN (by simp; omega) (fun w hw => hs w (List.mem_cons_of_mem _ hw))
      refine ⟨M', y :: ys, ?_, d4, .cons gd p4⟩
      rw [List.map_cons]
      unfold lcP
      rw [if_pos (hok N acc d), e1]
      simp only
      rw [e2, nox_ok, bnd_ok, if_pos rfl, e3, nox_ok, bnd_ok]
      have e5 : (N' ++ [PO.lst acc])[M.length]? = some (.lst acc) := by rw [← lN]; simp
      rw [e5]
      simp only
      rw [if_pos (by omega : acc.length < lim)]
      have e6 : (N' ++ [PO.lst acc]).set M.length (.lst (acc ++ [y])) = N' ++ [.lst (acc ++ [y])] := by rw [← lN]; simp
      rw [e6, e4]
      simp
  obtain ⟨M', ys, h⟩ := go zs M [] (.refl hb) (by simpa using hl) hs
  exact ⟨M', ys, by simpa using h⟩
theorem upTo_map {n : Nat} : upTo 0 n = (List.range n).map fun i => PV.int (i : Nat) := by
  unfold upTo
  exact List.map_congr_left fun i _ => by rw [Int.zero_add]
theorem itR1_nat {n : Nat} (h : n < 1000000) : itR1 [.int (n : Nat)] M = .ok ⟨(List.range n).map fun i => PV.int (i : Nat), fun _ => True⟩ M := by
  rw [itR1_int ⟨by omega, by omega⟩, Int.toNat_natCast, upTo_map]
theorem joinE {ys : List (List Nat)} : joinT [] ys = ys.flatten := by
  unfold joinT
  rw [show (tx [] : Str) = Str.ofString "" from by decide +kernel, join_tx]
theorem paired_strs {α : Type} {Good : α → PV → Prop} (f : ∀ z y, Good z y → ∃ t, y = .str t) : ∀ {zs : List α} {ys : List PV}, Paired Good zs ys → ∃ ts : List (List Nat), ys = ts.map PV.str ∧ Paired (fun z t => Good z (.str t)) zs ts
  | _, _, .nil => ⟨[], rfl, .nil⟩
  | _, _, .cons a r => by
    obtain ⟨t, rfl⟩ := f _ _ a
    obtain ⟨ts, rfl, p⟩ := paired_strs f r
    exact ⟨t :: ts, rfl, .cons a p⟩
theorem paired_all {α β : Type} {F : α → β → Prop} {P : β → Prop} (f : ∀ a b, F a b → P b) : ∀ {xs : List α} {ys : List β}, Paired F xs ys → ∀ y ∈ ys, P y
  | _, _, .nil, y, h => by cases h
  | _, _, .cons a r, y, h => by
    rcases List.mem_cons.mp h with rfl | h
    · exact f _ _ a
    · exact paired_all f r y h
end Pu
namespace Pu
open PySem PySem.Spec PyProof.Rows L2 LB
open Classical
variable {c : CA} {M M' M'' : PM} {b : Nat}
/-! ### letters and names -/
def alphaL : List Nat := [97, 98, 99, 100, 101, 102, 103, 104, 105, 106, 107, 108, 109, 110, 111, 112, 113, 114, 115, 116, 117, 118, 119, 120, 121, 122]
theorem alphaL_at {i : Int} (h0 : 0 ≤ i) (h1 : i < 26) : atI alphaL i = some (i.toNat + 97) := by
  obtain ⟨k, rfl⟩ := Int.eq_ofNat_of_zero_le h0
  have all : ∀ j : Fin 26, atI alphaL ((j.val : Nat) : Int) = some (j.val + 97) := by decide +kernel
  exact all ⟨k, by omega⟩
theorem alphaL_ix {f y : Int} {k : Nat} : pIxS (.str alphaL) (.int ((f + y * (k : Int)) % 26)) M = .ok (.str [lett f y k]) M := by
  have := mod_bd (x := f + y * (k : Int)) (n := 26) (by decide)
  exact pIxS_at (by decide) (alphaL_at this.1 this.2)
def six : List PV := [.int 1, .int 3, .int 5, .int 7, .int 9, .int 11]
/-- first and step -/
theorem draw_fy {s : Nat} (h : BagAt M b s) : ∃ f y M', 0 ≤ f ∧ f < 26 ∧ y ∈ [(1 : Int), 3, 5, 7, 9, 11] ∧ Dr b s M M' ∧ ∃ M1, F_pull c [.ref b, .int 26] M = .ok (.int f) M1 ∧ M1.length = M.length ∧ F_of c [.ref b, .ref M.length] (M1 ++ [.lst six]) = .ok (.int y) (M' ++ [.lst six]) := by
  obtain ⟨f, M1, e1, f0, f1, d1⟩ := F_pull_eq (c := c) h (n := 26) (by decide) (by decide)
  obtain ⟨x, X, e2, mx, dX⟩ := F_of_lst (c := c) (k := M.length) (xs := six) (d1.bag.app (ex := [.lst six])) (Ne.symm (Nat.ne_of_lt h.ltb)) (by rw [← d1.len]; simp) (by decide) (by decide)
  obtain ⟨M', rfl, d2⟩ := dX.app d1.bag.ltb d1.bag.lts
  have : ∃ y, x = .int y ∧ y ∈ [(1 : Int), 3, 5, 7, 9, 11] := by
    unfold six at mx
    simp only [List.mem_cons, List.not_mem_nil, or_false] at mx
    rcases mx with rfl | rfl | rfl | rfl | rfl | rfl <;> exact ⟨_, rfl, by decide⟩
  obtain ⟨y, rfl, hy⟩ := this
  exact ⟨f, y, M', f0, f1, hy, d1.trans d2, M1, e1, d1.len, e2⟩
theorem F_letters_eq {s : Nat} (h : BagAt M b s) : ∃ f y M', y ∈ [(1 : Int), 3, 5, 7, 9, 11] ∧ Dr b s M M' ∧ F_letters c [.ref b] M = .ok (.ref M.length) (M' ++ [.lst (((List.range 3).map (lett f y)).map fun d => .str [d])]) := by
  obtain ⟨f, y, M', f0, f1, hy, d, M1, e1, l1, e2⟩ := draw_fy (c := c) h
  refine ⟨f, y, M', hy, d, ?_⟩
  rw [R_letters]
  unfold B_letters
  have e3 : itR1 [.int 3] (M' ++ [.lst six]) = .ok ⟨(List.range 3).map fun i => PV.int (i : Nat), fun _ => True⟩ (M' ++ [.lst six]) := itR1_nat (n := 3) (by decide)
  have e2' : F_of c [.ref b, .ref M.length] (M1 ++ [.lst [.int 1, .int 3, .int 5, .int 7, .int 9, .int 11]]) = .ok (.int y) (M' ++ [.lst six]) := e2
  simp [e1, l1, e2', lim, e3]
  rw [lc_mapE (M' ++ [PO.lst six]) (fun k : Nat => .str [lett f y k]) (by simp) (by simp) (fun _ => trivial) (by rw [List.length_range]; decide) (fun k hk => ⟨_, rfl, fun acc => ⟨rfl, by
    have e4 : pIxS (.str [97, 98, 99, 100, 101, 102, 103, 104, 105, 106, 107, 108, 109, 110, 111, 112, 113, 114, 115, 116, 117, 118, 119, 120, 121, 122]) (.int ((f + y * (k : Int)) % 26)) (M' ++ [PO.lst six] ++ [.lst acc]) = _ := alphaL_ix
    have e5 := pI_mulc (M := M' ++ [PO.lst six] ++ [.lst acc]) (x := y) (y := (k : Int)) (by have := List.mem_range.mp hk; omega)
    have e6 := pI_mod (M := M' ++ [PO.lst six] ++ [.lst acc]) (x := f + y * (k : Int)) (y := 26) (by decide)
    simp only [wipeP, List.set_cons_succ, List.set_cons_zero, ev_fOp, ev_fVar0, ev_fVarS, ev_fC, bnd_ok, e5, pI0_int, e6, e4]⟩⟩)]
  rw [bnd_ok, go_ok, fnRes_rt, gc_drawLE (xs := (List.range 3).map fun k => PV.str [lett f y k]) [.lst six, .lst ((List.range 3).map fun k => PV.str [lett f y k])] h d (by simp) (by rw [d.len]; omega) (by simp) (wfs_iff.mpr fun x hx => by obtain ⟨k, _, rfl⟩ := List.mem_map.mp hx; simp)]
  simp [Function.comp_def]
theorem alphaL_mem {x : Nat} (h : x ∈ alphaL) : 97 ≤ x ∧ x < 123 := by
  unfold alphaL at h
  simp only [List.mem_cons, List.not_mem_nil, or_false] at h
  omega
/-- signs drawn from the alphabet, joined -/
theorem tail_lc {s n : Nat} {σ : PS} {i : Nat} (h : BagAt M b s) (hn : n < 1000) (hσ : ∀ x : PV, fVar 0 (σ.set i (some x)) M = .ok (.ref b) M → True) (fe : FE) (hf : ∀ (x : PV) (N : PM), fe (σ.set i (some x)) N = (F_of c [.ref b, .str alphaL] N).nox) :
    ∃ (M' : PM) (ts : List (List Nat)), lcP (fun _ => True) (gNm i) fYes fe M.length σ ((List.range n).map fun i => PV.int (i : Nat)) (M ++ [.lst []]) = .ok () (M' ++ [.lst (ts.map PV.str)]) ∧ Dr b s M M' ∧ ts.length = n ∧ ∀ y ∈ ts, ∃ x, y = [x] ∧ x ∈ alphaL := by
  obtain ⟨M', ys, e1, d1, p⟩ := lc_draw (M := M) (ok := fun _ => True) (g := gNm i) (ft := fYes) (fe := fe) (σ := σ) (e := fun i : Nat => PV.int (i : Nat)) (fun _ y => ∃ x, y = .str [x] ∧ x ∈ alphaL) h (zs := List.range n) (by rw [List.length_range]; unfold lim; omega) (fun _ _ _ => trivial) (fun z hz => ⟨_, rfl, fun N ys d => ⟨rfl, by
    obtain ⟨x, X, e3, mx, dX⟩ := F_of_str (c := c) (z := alphaL) (d.bag.app (ex := [.lst ys])) (by decide) (by decide)
    obtain ⟨N', rfl, dN⟩ := dX.app d.bag.ltb d.bag.lts
    exact ⟨_, N', by rw [hf, e3]; rfl, dN, x, rfl, mx⟩⟩⟩)
  obtain ⟨ts, rfl, p3⟩ := paired_strs (fun z y h => by obtain ⟨x, rfl, _⟩ := h; exact ⟨_, rfl⟩) p
  refine ⟨M', ts, e1, d1, by have := Paired.length p3; simpa using this.symm, paired_all (fun z y h => ?_) p3⟩
  obtain ⟨x, hx, hm⟩ := h
  injection hx with hx
  exact ⟨x, hx, hm⟩
theorem ones_flat : ∀ {ts : List (List Nat)}, (∀ y ∈ ts, ∃ x, y = [x] ∧ x ∈ alphaL) → ts.flatten.length = ts.length ∧ (ts.map List.length).sum = ts.length ∧ ∀ x ∈ ts.flatten, 97 ≤ x ∧ x < 123
  | [], _ => ⟨rfl, rfl, fun x h => by cases h⟩
  | a :: r, h => by
    obtain ⟨x, rfl, hx⟩ := h a List.mem_cons_self
    obtain ⟨h1, h2, h3⟩ := ones_flat fun y hy => h y (List.mem_cons_of_mem _ hy)
    refine ⟨by rw [List.flatten_cons, List.singleton_append, List.length_cons, List.length_cons, h1], by rw [List.map_cons, List.sum_cons, h2, List.length_singleton, List.length_cons]; omega, fun y hy => ?_⟩
    rw [List.flatten_cons, List.singleton_append] at hy
    rcases List.mem_cons.mp hy with e | hy
    · rw [e]; exact alphaL_mem hx
    · exact h3 y hy
theorem mJoin_at {k : Nat} {N : PM} {ts : List (List Nat)} (e : N[k]? = some (.lst (ts.map PV.str))) (h : (ts.map List.length).sum ≤ lim) : mJoin (.str []) [.ref k] N = .ok (.str ts.flatten) N := by
  have : lstAt N (.ref k) = some (ts.map PV.str) := lstAt_ref' _ _ _ e
  unfold mJoin seqAt
  simp only [this, Option.bind_some, asStrs_map, joinE]
  rw [if_pos (by rw [List.length_nil]; omega)]
set_option maxHeartbeats 1000000 in
theorem F_names_eq {s n : Nat} (h : BagAt M b s) (hn : n ≤ 26) : ∃ ns M', NameL ns ∧ ns.length = n ∧ Dr b s M M' ∧ F_names c [.ref b, .int (n : Nat)] M = .ok (.ref M.length) (M' ++ [.lst (ns.map PV.str)]) := by
  obtain ⟨j, M1, e1, j0, j1, d1⟩ := F_pull_eq (c := c) h (n := 8) (by decide) (by decide)
  obtain ⟨m, rfl⟩ := Int.eq_ofNat_of_zero_le j0
  obtain ⟨M2, ts, e2, d2, l2, one⟩ := tail_lc (c := c) (n := m) (i := 7) (σ := [some (.ref b), some (.int (n : Nat)), some (.str alphaL), none, none, none, none, none]) d1.bag (by omega) (fun _ _ => trivial) (fCallN (F_of c) [] (fCons (fVar 0) (fCons (fVar 2) fNil))) (fun x N => by simp)
  obtain ⟨f1, f2, f3⟩ := ones_flat one
  have hj0 : mJoin (.str []) [.ref M1.length] (M2 ++ [.lst (ts.map PV.str)]) = .ok (.str ts.flatten) (M2 ++ [.lst (ts.map PV.str)]) := mJoin_at (by rw [← d2.len]; simp) (by unfold lim; omega)
  generalize ts.flatten = tl at f1 f3 hj0
  have d12 := d1.trans d2
  obtain ⟨a, M3, e3, a0, a1, d3⟩ := F_pull_eq (c := c) d2.bag (n := (tl.length : Int) + 1) (by omega) (by omega)
  obtain ⟨i, rfl⟩ := Int.eq_ofNat_of_zero_le a0
  obtain ⟨f, y, M5, f0, f1', hy, d5, M4, e4, l4, e5⟩ := draw_fy (c := c) d3.bag
  have d := (d12.trans d3).trans d5
  have e5' : F_of c [.ref b, .ref M3.length] (M4 ++ [.lst [.int 1, .int 3, .int 5, .int 7, .int 9, .int 11]]) = .ok (.int y) (M5 ++ [.lst six]) := e5
  have hj := hj0
  have g1 : gc M (.ok (.str tl) (M2 ++ [.lst (ts.map PV.str)])) = .ok (.str tl) M2 := gc_draw h d12 (by simp)
  have lt : tl.length ≤ lim := by unfold lim; omega
  refine ⟨(List.range n).map fun k => nmAt tl i (lett f y k), M5, names_ok hy (by omega) f3 hn, by simp, d, ?_⟩
  rw [R_names]
  unfold B_names
  have e2' : lcP (fun _ => True) (gNm 7) fYes (fCallN (F_of c) [] (fCons (fVar 0) (fCons (fVar 2) fNil))) M1.length (wipeP [some (.ref b), some (.int (n : Nat)), some (.str [97, 98, 99, 100, 101, 102, 103, 104, 105, 106, 107, 108, 109, 110, 111, 112, 113, 114, 115, 116, 117, 118, 119, 120, 121, 122]), none, none, none, none, none] [7]) ((List.range m).map fun i => PV.int (i : Nat)) (M1 ++ [.lst []]) = _ := e2
  have eR := itR1_nat (M := M5 ++ [.lst six]) (n := n) (by omega)
  simp [e1, itR1_nat (M := M1) (show m < 1000000 by omega), e2', hj, g1, bLenS_str lt, e3, e4, l4, e5', lim, eR]
  rw [lc_mapE (M5 ++ [PO.lst six]) (fun k : Nat => .str (nmAt tl i (lett f y k))) (by simp) (by simp) (fun _ => trivial) (by rw [List.length_range]; unfold lim; omega) (fun k hk => ⟨_, rfl, fun acc => ⟨rfl, by
    have e6 : pIxS (.str [97, 98, 99, 100, 101, 102, 103, 104, 105, 106, 107, 108, 109, 110, 111, 112, 113, 114, 115, 116, 117, 118, 119, 120, 121, 122]) (.int ((f + y * (k : Int)) % 26)) (M5 ++ [PO.lst six] ++ [.lst acc]) = _ := alphaL_ix
    have e7 := pI_mulc (M := M5 ++ [PO.lst six] ++ [.lst acc]) (x := y) (y := (k : Int)) (by have := List.mem_range.mp hk; omega)
    have e8 := pI_mod (M := M5 ++ [PO.lst six] ++ [.lst acc]) (x := f + y * (k : Int)) (y := 26) (by decide)
    have s1 := pSlS_str (M := M5 ++ [PO.lst six] ++ [.lst acc]) (lo := none) (hi := some (i : Int)) lt
    have s2 := pSlS_str (M := M5 ++ [PO.lst six] ++ [.lst acc]) (lo := some (i : Int)) (hi := none) lt
    rw [cut_take'] at s1
    rw [cut_drop] at s2
    have l1 : (tl.take i).length ≤ tl.length := by rw [List.length_take]; omega
    have l2 : (tl.drop i).length ≤ tl.length := by rw [List.length_drop]; omega
    have p1 := pAddS_str (M := M5 ++ [PO.lst six] ++ [.lst acc]) (a := tl.take i) (b := [lett f y k]) (by rw [List.length_singleton]; unfold lim; omega)
    have p2 := pAddS_str (M := M5 ++ [PO.lst six] ++ [.lst acc]) (a := tl.take i ++ [lett f y k]) (b := tl.drop i) (by rw [List.length_append, List.length_singleton]; unfold lim; omega)
    simp only [wipeP, List.set_cons_succ, List.set_cons_zero, ev_fOp, ev_fSl, ev_fNoPart, ev_fPart, asI_int, ev_fVar0, ev_fVarS, ev_fC, bnd_ok, e7, pI0_int, e8, e6, s1, s2, p1, p2, nmAt]⟩⟩)]
  rw [bnd_ok, go_ok, fnRes_rt, gc_drawLE (xs := (List.range n).map fun k => PV.str (nmAt tl i (lett f y k))) [.lst six, .lst ((List.range n).map fun k => PV.str (nmAt tl i (lett f y k)))] h d (by simp) (by rw [d.len]; omega) (by simp) (wfs_iff.mpr fun x hx => by obtain ⟨k, _, rfl⟩ := List.mem_map.mp hx; simp)]
  simp [Function.comp_def]
end Pu
/-! Bodies, drawn. -/
namespace Pu
open PySem PySem.Spec PyProof.Rows L2 LB
open Classical
variable {c : CA} {M M' M'' M1 : PM} {b : Nat}
abbrev tSkip : List Nat := [115, 107, 105, 112]
abbrev tBare : List Nat := [98, 97, 114, 101]
abbrev tSend : List Nat := [115, 101, 110, 100]
abbrev tTake : List Nat := [116, 97, 107, 101]
abbrev tAgain : List Nat := [97, 103, 97, 105, 110]
abbrev tThen : List Nat := [116, 104, 101, 110]
abbrev tOr : List Nat := [111, 114]
inductive Bd where
  | skip
  | bare (r : List Nat)
  | act (t : Bool) (r : List Nat) (l : Nat)
  | again (x : Bd)
  | two (o : Bool) (x y : Bd)
def Bd.pv : Bd → PV
  | .skip => .tup [.str tSkip]
  | .bare r => .tup [.str tBare, .str r]
  | .act t r l => .tup [.str (if t then tTake else tSend), .str r, .str [l]]
  | .again x => .tup [.str tAgain, x.pv]
  | .two o x y => .tup [.str (if o then tOr else tThen), x.pv, y.pv]
/-- how far it goes in -/
def Bd.far : Bd → Nat
  | .again x => 1 + x.far
  | .two _ x y => 1 + max x.far y.far
  | _ => 1
def Bd.parts : Bd → List Bd
  | .again x => .again x :: x.parts
  | .two o x y => .two o x y :: (x.parts ++ y.parts)
  | x => [x]
/-- its rows and letters are of these -/
def BdOk (rows : List (List Nat)) (cs : List Nat) : Bd → Prop
  | .skip => True
  | .bare r => r ∈ rows
  | .act _ r l => r ∈ rows ∧ l ∈ cs
  | .again x => BdOk rows cs x
  | .two _ x y => BdOk rows cs x ∧ BdOk rows cs y
theorem Bd.far_pos : ∀ x : Bd, 0 < x.far
  | .skip => Nat.zero_lt_one
  | .bare _ => Nat.zero_lt_one
  | .act _ _ _ => Nat.zero_lt_one
  | .again x => by unfold Bd.far; omega
  | .two _ x y => by unfold Bd.far; omega
theorem Bd.wf {n : Nat} : ∀ x : Bd, x.pv.wf n
  | .skip => by unfold Bd.pv; simp
  | .bare _ => by unfold Bd.pv; simp
  | .act _ _ _ => by unfold Bd.pv; simp
  | .again x => by unfold Bd.pv; simp [Bd.wf x]
  | .two _ x y => by unfold Bd.pv; simp [Bd.wf x, Bd.wf y]
theorem F_leaf_eq {s rk lk : Nat} {rows : List (List Nat)} {cs : List Nat} (hb : BagAt M b s) (hr : rk ≠ b) (hl : lk ≠ b) (er : M[rk]? = some (.lst (rows.map PV.str))) (el : M[lk]? = some (.lst (cs.map fun d => PV.str [d])))
    (r0 : 0 < rows.length) (r1 : rows.length < 1000) (c0 : 0 < cs.length) (c1 : cs.length < 1000) :
    ∃ (t : Bd) (M' : PM), F_leaf c [.ref b, .ref rk, .ref lk] M = .ok t.pv M' ∧ Dr b s M M' ∧ BdOk rows cs t ∧ t.far = 1 := by
  have up : ∀ {N : PM} {k : Nat} {o : PO} (ex : PM), N[k]? = some o → (N ++ ex)[k]? = some o := fun ex h => by rw [List.getElem?_append_left (List.getElem?_eq_some_iff.mp h).1]; exact h
  have lb := hb.ltb
  have eF := F_of_lst (c := c) (b := b) (s := s) (k := M.length) (M := M ++ [.lst [.str tSend, .str tSend, .str tTake, .str tTake, .str tBare, .str tSkip]]) hb.app (by omega) (List.getElem?_concat_length ..) (by decide) (by decide)
  obtain ⟨u, N1, e1, mu, dX⟩ := eF
  obtain ⟨M1, rfl, d1⟩ := dX.app hb.ltb hb.lts
  generalize hX : ([.lst [.str tSend, .str tSend, .str tTake, .str tTake, .str tBare, .str tSkip]] : PM) = X at e1
  have e1' : F_of c [.ref b, .ref M.length] (M ++ [PO.lst [.str tSend, .str tSend, .str tTake, .str tTake, .str tBare, .str tSkip]]) = .ok u (M1 ++ X) := by rw [hX]; exact e1
  have er1 : (M1 ++ X)[rk]? = some (.lst (rows.map PV.str)) := up X (by rw [d1.get hr]; exact er)
  have eR := F_of_lst (c := c) (b := b) (s := s) (k := rk) (M := M1 ++ X) d1.bag.app hr er1 (by rw [List.length_map]; exact r0) (by rw [List.length_map]; omega)
  obtain ⟨x, N2, e2, mx, dX2⟩ := eR
  obtain ⟨M2, rfl, d2⟩ := dX2.app d1.bag.ltb d1.bag.lts
  obtain ⟨r, hr', rfl⟩ := List.mem_map.mp mx
  have d12 := d1.trans d2
  have el2 : (M2 ++ X)[lk]? = some (.lst (cs.map fun d => PV.str [d])) := up X (by rw [d12.get hl]; exact el)
  have eL := F_of_lst (c := c) (b := b) (s := s) (k := lk) (M := M2 ++ X) d2.bag.app hl el2 (by rw [List.length_map]; exact c0) (by rw [List.length_map]; omega)
  obtain ⟨y, N3, e3, my, dX3⟩ := eL
  obtain ⟨M3, rfl, d3⟩ := dX3.app d2.bag.ltb d2.bag.lts
  obtain ⟨l, hl', rfl⟩ := List.mem_map.mp my
  have d13 := d12.trans d3
  rw [R_leaf]
  unfold B_leaf
  have l6 : (6 : Nat) ≤ lim := by decide
  have l3 : (3 : Nat) ≤ lim := by decide
  have l2 : (2 : Nat) ≤ lim := by decide
  have l1 : (1 : Nat) ≤ lim := by decide
  simp only [List.mem_cons, List.not_mem_nil, or_false] at mu
  have act : ∀ (t : Bool), u = .str (if t then tTake else tSend) → ∃ (t : Bd) (M' : PM), gc M (fnRes ((fSeq (fAsg (fCall (F_of c) [] (fCons (fVar 0) (fCons (fLst (fCons (fC (.str tSend)) (fCons (fC (.str tSend)) (fCons (fC (.str tTake)) (fCons (fC (.str tTake)) (fCons (fC (.str tBare)) (fCons (fC (.str tSkip)) fNil))))))) fNil))) (gNm 3))
      (fSeq (fIfS (fTest (fOp pEq (fVar 3) (fC (.str tSkip)))) (fRet (fTup (fCons (fC (.str tSkip)) fNil))) fNext)
      (fSeq (fAsg (fCall (F_of c) [] (fCons (fVar 0) (fCons (fVar 1) fNil))) (gNm 4))
      (fRet (fIf (fTest (fOp pEq (fVar 3) (fC (.str tBare)))) (fTup (fCons (fC (.str tBare)) (fCons (fVar 4) fNil))) (fTup (fCons (fVar 3) (fCons (fVar 4) (fCons (fCall (F_of c) [] (fCons (fVar 0) (fCons (fVar 2) fNil))) fNil))))))))) [some (.ref b), some (.ref rk), some (.ref lk), none, none] M)) = .ok t.pv M' ∧ Dr b s M M' ∧ BdOk rows cs t ∧ t.far = 1 := fun t hu => by
    subst hu
    have n1 : decide ((if t = true then tTake else tSend) = tSkip) = false := by cases t <;> decide
    have n2 : decide ((if t = true then tTake else tSend) = tBare) = false := by cases t <;> decide
    refine ⟨.act t r l, M3, ?_, d13, ⟨hr', hl'⟩, rfl⟩
    simp only [ev_fSeq, ev_fAsg, ev_fCall, ev_fCons, ev_fVar0, ev_fVarS, bnd_ok, ev_fLst, ev_fC, ev_fNil, List.length_cons, List.length_nil, Nat.zero_add, Nat.reduceAdd, l6, l3, if_true, List.append_nil, e1', go_ok, ev_gNm, toSt_some, List.set_cons_succ, List.set_cons_zero, then2_nx, ev_fIfS, ev_fTest, ev_fOp, pEq_str, n1, asB_bl, Bool.false_eq_true, if_false, ev_fNext, e2, ev_fRet, ev_fIf, n2, ev_fTup, e3, fnRes_rt]
    exact gc_draw hb d13 (by simp)
  rcases mu with rfl | rfl | rfl | rfl | rfl | rfl
  · exact act false rfl
  · exact act false rfl
  · exact act true rfl
  · exact act true rfl
  · refine ⟨.bare r, M2, ?_, d12, hr', rfl⟩
    have n1 : decide (tBare = tSkip) = false := by decide
    simp only [ev_fSeq, ev_fAsg, ev_fCall, ev_fCons, ev_fVar0, ev_fVarS, bnd_ok, ev_fLst, ev_fC, ev_fNil, List.length_cons, List.length_nil, Nat.zero_add, Nat.reduceAdd, l6, l2, if_true, List.append_nil, e1', go_ok, ev_gNm, toSt_some, List.set_cons_succ, List.set_cons_zero, then2_nx, ev_fIfS, ev_fTest, ev_fOp, pEq_str, n1, asB_bl, Bool.false_eq_true, if_false, ev_fNext, e2, ev_fRet, ev_fIf, decide_true, ev_fTup, fnRes_rt]
    exact gc_draw hb d12 (by simp)
  · refine ⟨.skip, M1, ?_, d1, trivial, rfl⟩
    simp only [ev_fSeq, ev_fAsg, ev_fCall, ev_fCons, ev_fVar0, ev_fVarS, bnd_ok, ev_fLst, ev_fC, ev_fNil, List.length_cons, List.length_nil, Nat.zero_add, Nat.reduceAdd, l6, l1, if_true, List.append_nil, e1', go_ok, ev_gNm, toSt_some, List.set_cons_succ, List.set_cons_zero, then2_nx, ev_fIfS, ev_fTest, ev_fOp, pEq_str, decide_true, asB_bl, ev_fRet, ev_fTup, then2_rt, fnRes_rt]
    exact gc_draw hb d1 (by simp)
end Pu
/-! Bodies, drawn. -/
namespace Pu
open PySem PySem.Spec PyProof.Rows L2 LB
open Classical
variable {c : CA} {b : Nat}
theorem F_body_eq {s rk lk : Nat} {rows : List (List Nat)} {cs : List Nat} (hr : rk ≠ b) (hl : lk ≠ b) (r0 : 0 < rows.length) (r1 : rows.length < 1000) (c0 : 0 < cs.length) (c1 : cs.length < 1000) :
    ∀ (n : Nat) {room : Int} {M : PM}, BagAt M b s → M[rk]? = some (.lst (rows.map PV.str)) → M[lk]? = some (.lst (cs.map fun d => PV.str [d])) → room ≤ (n : Int) + 1 → -100 ≤ room + n →
      ∃ (t : Bd) (M' : PM), F_body c (n + 1) [.ref b, .ref rk, .ref lk, .int room] M = .ok t.pv M' ∧ Dr b s M M' ∧ BdOk rows cs t ∧ (t.far : Int) ≤ max 1 room := by
  have up : ∀ {N : PM} {k : Nat} {o : PO} (ex : PM), N[k]? = some o → (N ++ ex)[k]? = some o := fun ex h => by rw [List.getElem?_append_left (List.getElem?_eq_some_iff.mp h).1]; exact h
  have l2 : (2 : Nat) ≤ lim := by decide
  have l3 : (3 : Nat) ≤ lim := by decide
  intro n
  induction n with
  | zero =>
    intro room M hb er el hn _
    obtain ⟨k, M1, e1, k0, k6, d1⟩ := F_pull_eq (c := c) hb (n := 6) (by decide) (by decide)
    obtain ⟨t, M2, e2, d2, ok, f1⟩ := F_leaf_eq (c := c) d1.bag hr hl (by rw [d1.get hr]; exact er) (by rw [d1.get hl]; exact el) r0 r1 c0 c1
    refine ⟨t, M2, ?_, d1.trans d2, ok, by omega⟩
    have h2 : decide (room < 2) = true := decide_eq_true (by omega)
    rw [R_body]
    unfold B_body
    simp only [ev_fSeq, ev_fAsg, ev_fCall, ev_fCons, ev_fVar0, ev_fVarS, bnd_ok, ev_fC, ev_fNil, List.append_nil, e1, go_ok, ev_gNm, toSt_some, List.set_cons_succ, List.set_cons_zero, then2_nx, ev_fIfS, ev_fOr, ev_fTest, ev_fOp, pI0_int, h2, asB_bl, if_true, ev_fRet, e2, then2_rt, fnRes_rt]
    exact gc_drawE [] hb (d1.trans d2) (by simp) (Bd.wf t)
  | succ n ih =>
    intro room M hb er el hn hlow
    obtain ⟨k, M1, e1, k0, k6, d1⟩ := F_pull_eq (c := c) hb (n := 6) (by decide) (by decide)
    have er1 : M1[rk]? = some (.lst (rows.map PV.str)) := by rw [d1.get hr]; exact er
    have el1 : M1[lk]? = some (.lst (cs.map fun d => PV.str [d])) := by rw [d1.get hl]; exact el
    rw [R_body]
    unfold B_body
    by_cases hk : room < 2 ∨ k = 0
    · obtain ⟨t, M2, e2, d2, ok, f1⟩ := F_leaf_eq (c := c) d1.bag hr hl er1 el1 r0 r1 c0 c1
      refine ⟨t, M2, ?_, d1.trans d2, ok, by omega⟩
      by_cases h2 : room < 2
      · simp only [ev_fSeq, ev_fAsg, ev_fCall, ev_fCons, ev_fVar0, ev_fVarS, bnd_ok, ev_fC, ev_fNil, List.append_nil, e1, go_ok, ev_gNm, toSt_some, List.set_cons_succ, List.set_cons_zero, then2_nx, ev_fIfS, ev_fOr, ev_fTest, ev_fOp, pI0_int, decide_eq_true h2, asB_bl, if_true, ev_fRet, e2, then2_rt, fnRes_rt]
        exact gc_drawE [] hb (d1.trans d2) (by simp) (Bd.wf t)
      · have h0 : k = 0 := hk.resolve_left h2
        subst h0
        simp only [ev_fSeq, ev_fAsg, ev_fCall, ev_fCons, ev_fVar0, ev_fVarS, bnd_ok, ev_fC, ev_fNil, List.append_nil, e1, go_ok, ev_gNm, toSt_some, List.set_cons_succ, List.set_cons_zero, then2_nx, ev_fIfS, ev_fOr, ev_fTest, ev_fOp, pI0_int, decide_eq_false h2, asB_bl, Bool.false_eq_true, if_false, pEq_int, decide_true, if_true, ev_fRet, e2, then2_rt, fnRes_rt]
        exact gc_drawE [] hb (d1.trans d2) (by simp) (Bd.wf t)
    · have hr2 : ¬ room < 2 := fun h => hk (.inl h)
      have hk0 : ¬ k = 0 := fun h => hk (.inr h)
      by_cases hk1 : k = 1
      · subst hk1
        obtain ⟨t, M2, e2, d2, ok, f1⟩ := ih (room := room - 1) d1.bag er1 el1 (by push_cast at hn; omega) (by omega)
        refine ⟨.again t, M2, ?_, d1.trans d2, ok, by unfold Bd.far; omega⟩
        simp only [ev_fSeq, ev_fAsg, ev_fCall, ev_fCons, ev_fVar0, ev_fVarS, bnd_ok, ev_fC, ev_fNil, List.append_nil, e1, go_ok, ev_gNm, toSt_some, List.set_cons_succ, List.set_cons_zero, then2_nx, ev_fIfS, ev_fOr, ev_fTest, ev_fOp, pI0_int, decide_eq_false hr2, asB_bl, Bool.false_eq_true, if_false, pEq_int, decide_eq_false hk0, decide_true, if_true, ev_fRet, ev_fNext, ev_fTup, e2, List.length_cons, List.length_nil, Nat.zero_add, Nat.reduceAdd, l2, then2_rt, fnRes_rt]
        exact gc_drawE [] hb (d1.trans d2) (by simp) (by rw [show (PV.tup [.str [97, 103, 97, 105, 110], t.pv]) = (Bd.again t).pv from rfl]; exact Bd.wf _)
      · generalize hX : ([.lst [.str tThen, .str tOr]] : PM) = X
        have e0 : (M1 ++ X)[M1.length]? = some (.lst [.str tThen, .str tOr]) := by rw [← hX]; exact List.getElem?_concat_length ..
        obtain ⟨t, N2, e2, dX2, ok2, f2⟩ := ih (room := room - 1) (M := M1 ++ X) d1.bag.app (up X er1) (up X el1) (by push_cast at hn; omega) (by omega)
        obtain ⟨M2, rfl, d2⟩ := dX2.app d1.bag.ltb d1.bag.lts
        obtain ⟨j, N3, e3, j0, j2, dX3⟩ := F_pull_eq (c := c) (M := M2 ++ X) d2.bag.app (n := 2) (by decide) (by decide)
        obtain ⟨M3, rfl, d3⟩ := dX3.app d2.bag.ltb d2.bag.lts
        have d13 := (d1.trans d2).trans d3
        obtain ⟨u, N4, e4, dX4, ok4, f4⟩ := ih (room := room - 1 - j) (M := M3 ++ X) d3.bag.app (up X (by rw [d13.get hr]; exact er)) (up X (by rw [d13.get hl]; exact el)) (by push_cast at hn; omega) (by omega)
        obtain ⟨M4, rfl, d4⟩ := dX4.app d3.bag.ltb d3.bag.lts
        have km : k % 2 = 0 ∨ k % 2 = 1 := by omega
        obtain ⟨o, ho⟩ : ∃ o : Bool, pIxL (.ref M1.length) (.int (k % 2)) (M1 ++ X) = .ok (.str (if o then tOr else tThen)) (M1 ++ X) := by
          rcases km with h | h
          · exact ⟨false, by rw [h]; exact pIxL_at e0 (atI_nat (j := 0) rfl)⟩
          · exact ⟨true, by rw [h]; exact pIxL_at e0 (atI_nat (j := 1) rfl)⟩
        have hm : (pI (fun _ j => 0 < j) fun i j => .int (i % j)) (.int k) (.int 2) (M1 ++ X) = .ok (.int (k % 2)) (M1 ++ X) := by
          unfold pI
          simp
        refine ⟨.two o t u, M4, ?_, d13.trans d4, ⟨ok2, ok4⟩, by unfold Bd.far; omega⟩
        have hX' : (M1 ++ [PO.lst [.str [116, 104, 101, 110], .str [111, 114]]]) = M1 ++ X := by rw [← hX]
        simp only [ev_fSeq, ev_fAsg, ev_fCall, ev_fCons, ev_fVar0, ev_fVarS, bnd_ok, ev_fC, ev_fNil, List.append_nil, e1, go_ok, ev_gNm, toSt_some, List.set_cons_succ, List.set_cons_zero, then2_nx, ev_fIfS, ev_fOr, ev_fTest, ev_fOp, pI0_int, decide_eq_false hr2, asB_bl, Bool.false_eq_true, if_false, pEq_int, decide_eq_false hk0, decide_eq_false hk1, ev_fNext, ev_fLst, List.length_cons, List.length_nil, Nat.zero_add, Nat.reduceAdd, l2, if_true, hX', hm, ho, e2, e3, e4, ev_fRet, ev_fTup, l3, then2_rt, fnRes_rt]
        exact gc_draw hb (d13.trans d4) (by rw [show (PV.tup [.str (if o = true then tOr else tThen), t.pv, u.pv]) = (Bd.two o t u).pv from rfl]; exact Bd.wf _)
end Pu
namespace LB
open PySem PySem.Spec PyProof.Rows L2
/-! ### sorted(xs, key=f), f a def whose answers are ints, xs objects, fewer than 64 -/
end LB
namespace LB
open PySem PySem.Spec PyProof.Rows L2
/-! ### sorted(xs, key=f), f a def whose answers are ints, xs objects, any number: stable -/
end LB
/-! sorted(xs, key=f), as a run -/
namespace Pu
open PySem PySem.Spec PyProof.Rows L2 LB
/-! ### stable order by a key -/
def leK {α : Type} (p q : Int × α) : Bool := decide (p.1 ≤ q.1)
def sortK {α : Type} (ks : List Int) (xs : List α) : List α := ((ks.zip xs).mergeSort leK).map (·.2)
/-! ### the run -/
noncomputable def keysP (F : FF) : List PV → PM → Res (List Int)
  | [], M => .ok [] M
  | x :: xs, M => (F [x] M).nox.bnd fun k M1 => match k with
    | .int i => (keysP F xs M1).bnd fun ks M2 => .ok (i :: ks) M2
    | _ => .bad
def isTupP : PV → Bool
  | .tup _ => true
  | _ => false
noncomputable def bSortK (F : FF) (p : PV) (M : PM) : Res PV := match lstAt M p with
  | some xs => if xs.all isTupP = true ∧ xs.length < 100000 then (keysP F xs M).bnd fun ks M1 => .ok (.ref M1.length) (M1 ++ [.lst (sortK ks xs)]) else .bad
  | none => .bad
noncomputable def fSortK (F : FF) (f : FE) : FE := fun σ M => (f σ M).bnd (bSortK F)
@[simp] theorem ev_fSortK (F : FF) (f : FE) (σ : PS) (M : PM) : fSortK F f σ M = (f σ M).bnd (bSortK F) := id rfl
end Pu
namespace LB
open PySem PySem.Spec PyProof.Rows L2
/-! ### sets of nested tuples: what the search asks of a key -/
/-! ### the table's way, step by step -/
/-! ### the set -/
def nrow (w : World) (p : Addr × NestedKey) : Int × Value := (p.2.hash w, .ref p.1)
structure NS (P : Program) (w : World) (h : Heap) (a : Addr) (L : List (Addr × NestedKey)) (es : Array (Int × Value)) (ep : Nat) (t : SetTable) : Prop where
  ob : ∃ o, h.get? a = some o ∧ o.ExactSet ∧ o.data = .set es ep t
  rows : es.toList = L.map (nrow w)
  tab : TabOk t (L.map fun p => p.2.hash w)
  nd : (L.map Prod.snd).Nodup
  led : w.params.followText "set-order" = true ∨ t.led = true
  free : L.length * 5 < t.mask * 3
  few : L.length < 64
section
variable {P : Program} {w : World} {A : Around} {E : Value → Shared → Prop} {s : Shared} {h h' : Heap} {a : Addr} {L : List (Addr × NestedKey)} {es : Array (Int × Value)} {ep : Nat} {t : SetTable}
theorem rows_size (e : es.toList = L.map (nrow w)) : es.size = L.length := by
  rw [← Array.length_toList, e, List.length_map]
theorem NS.pl (R : NS P w h a L es ep t) : t.place.size = es.size := by
  have := R.tab.sz
  rw [List.length_map] at this
  rw [this, rows_size R.rows]
/-! ### adding -/
theorem NS.keep (R : NS P w h a L es ep t) (k : ∀ o, h.get? a = some o → h'.get? a = some o) : NS P w h' a L es ep t := by
  obtain ⟨o, ho, r⟩ := R.ob
  exact ⟨⟨o, k o ho, r⟩, R.rows, R.tab, R.nd, R.led, R.free, R.few⟩
end
end LB
namespace LB
open PySem PySem.Spec PyProof.Rows L2
/-! ### an order of nested keys -/
def rk : NestedKey → Nat
  | .none => 0
  | .num _ => 1
  | .text _ => 2
  | .tup _ => 3
mutual
def klt : NestedKey → NestedKey → Bool
  | .num a, .num b => decide (a < b)
  | .text a, .text b => decide (a.cps.toList < b.cps.toList)
  | .tup a, .tup b => kltL a b
  | .none, b => decide (0 < rk b)
  | .num _, b => decide (1 < rk b)
  | .text _, b => decide (2 < rk b)
  | .tup _, b => decide (3 < rk b)
def kltL : List NestedKey → List NestedKey → Bool
  | [], b => !b.isEmpty
  | _ :: _, [] => false
  | a :: as, b :: bs => if NestedKey.beq a b = true then kltL as bs else klt a b
end
/-! ### < as the program asks it -/
mutual
/-- two keys whose first unlike places are of one kind -/
def alike : NestedKey → NestedKey → Bool
  | .text _, .text _ => true
  | .tup a, .tup b => alikeL a b
  | .none, _ => false
  | .num _, _ => false
  | .text _, _ => false
  | .tup _, _ => false
def alikeL : List NestedKey → List NestedKey → Bool
  | [], _ => true
  | _ :: _, [] => true
  | a :: as, b :: bs => alike a b && alikeL as bs
end
/-! ### sorting them -/
end LB
namespace LB
open PySem PySem.Spec PyProof.Rows L2
/-! ### nested tuples of texts as the layer has them -/
mutual
inductive NV (H : Hp) : NestedKey → V → Prop
  | text (x : Str) : NV H (.text x) (.str x)
  | tup {a : Addr} {vs : List V} {ks : List NestedKey} : H a = some (.tup vs) → NVs H ks vs → NV H (.tup ks) (.ref a)
inductive NVs (H : Hp) : List NestedKey → List V → Prop
  | nil : NVs H [] []
  | cons {k : NestedKey} {v : V} {ks : List NestedKey} {vs : List V} : NV H k v → NVs H ks vs → NVs H (k :: ks) (v :: vs)
end
section
variable {P : Program} {w : World} {H : Hp} {h : Heap}
mutual
theorem NV.is (ok : HOk P w H h) : ∀ (k : NestedKey) (v : V) (u : Value), NV H k v → RelV v u → NestedIs h k u
  | .none, _, _, r, _ => by cases r
  | .num _, _, _, r, _ => by cases r
  | .text x, _, u, r, q => by
    cases r
    obtain ⟨t, rfl⟩ := q
    exact .text x t
  | .tup ks, _, u, r, q => by
    cases r with
    | @tup a vs _ ha hs =>
      cases q
      obtain ⟨_, its, rv, o, ho, hc, n, hd⟩ := ok a _ ha
      exact .tup ho hc hd (by simpa using NVs.are ok ks vs its hs rv)
theorem NVs.are (ok : HOk P w H h) : ∀ (ks : List NestedKey) (vs : List V) (us : List Value), NVs H ks vs → Vals vs us → NestedAll h ks us
  | [], _, _, r, q => by
    cases r
    cases q
    exact .nil
  | k :: ks, _, _, r, q => by
    cases r with
    | cons r1 r2 =>
      cases q with
      | cons q1 q2 => exact .cons (NV.is ok k _ _ r1 q1) (NVs.are ok ks _ _ r2 q2)
end
end
/-! ### the rules -/
/-! ### rising lists of the same keys are the same -/
end LB
/-! sorted(list of nested tuples of texts), as a run -/
namespace Pu
open PySem PySem.Spec PyProof.Rows L2 LB
/-- texts and tuples of them, not too deep -/
def okN : Nat → PV → Prop
  | _, .str _ => True
  | n + 1, .tup xs => ∀ x ∈ xs, okN n x
  | _, _ => False
/-! ### rising -/
def leN (p q : PV) : Bool := !klt (nkP q) (nkP p)
def sortN (xs : List PV) : List PV := xs.mergeSort leN
/-- what the run of sorted asks -/
def SrtP (xs : List PV) : Prop := (∀ p ∈ xs, okN 7 p ∧ ∃ f r, p = .tup (.tup f :: r)) ∧ ∀ p ∈ xs, ∀ q ∈ xs, alike (nkP p) (nkP q) = true
end Pu
/-! Sets of any great number: the masks behind 127. -/
namespace LB
open PySem PySem.Spec PyProof.Rows L2
/-- what of a mask is needed: each slot is met within a round -/
structure MaskG (m : Nat) : Prop where
  met : ∀ y, y ≤ m → ∃ b, b ≤ m ∧ lcgN m b = y
  rnd : lcgN m (m + 1) = 0
  odd : m % 2 = 1
theorem MaskG.of {m : Nat} (h : MaskOk m) : MaskG m := ⟨fun _ hy => lcg_all h hy, lcg_round h, mask_odd h⟩
/-- n places of the round, from x on -/
def orb (m : Nat) : Nat → Nat → List Nat
  | 0, _ => []
  | n + 1, x => x :: orb m n ((x * 5 + 1) % (m + 1))
theorem orb_mem {m : Nat} : ∀ {n a y : Nat}, y ∈ orb m n (lcgN m a) → ∃ b, b < a + n ∧ lcgN m b = y
  | 0, a, y, h => by cases h
  | n + 1, a, y, h => by
    rcases List.mem_cons.mp h with e | e
    · exact ⟨a, by omega, e.symm⟩
    · obtain ⟨b, l, q⟩ := orb_mem (a := a + 1) e
      exact ⟨b, by omega, q⟩
def orbEnd (m : Nat) : Nat → Nat → Nat
  | 0, x => x
  | n + 1, x => orbEnd m n ((x * 5 + 1) % (m + 1))
theorem orbEnd_eq {m : Nat} : ∀ {n a : Nat}, orbEnd m n (lcgN m a) = lcgN m (a + n)
  | 0, a => rfl
  | n + 1, a => by
    have := orbEnd_eq (m := m) (n := n) (a := a + 1)
    rw [show a + 1 + n = a + (n + 1) by omega] at this
    exact this
theorem MaskG.check {m : Nat} (h1 : ((List.range (m + 1)).all fun y => (orb m (m + 1) 0).contains y) = true) (h2 : orbEnd m (m + 1) 0 = 0) (h3 : m % 2 = 1) : MaskG m := by
  refine ⟨fun y hy => ?_, ?_, h3⟩
  · have q := List.all_eq_true.mp h1 y (List.mem_range.mpr (by omega))
    obtain ⟨b, l, e⟩ := orb_mem (m := m) (n := m + 1) (a := 0) (y := y) (show y ∈ orb m (m + 1) 0 by simpa using q)
    exact ⟨b, by omega, e⟩
  · have := orbEnd_eq (m := m) (n := m + 1) (a := 0)
    rw [Nat.zero_add] at this
    exact this.symm.trans h2
theorem mask511 : MaskG 511 := .check (by decide +kernel) (by decide +kernel) rfl
section
variable {m : Nat}
theorem MaskG.wrap (g : MaskG m) : ∀ k, lcgN m (m + 1 + k) = lcgN m k
  | 0 => g.rnd
  | k + 1 => congrArg (fun z => (z * 5 + 1) % (m + 1)) (g.wrap k)
theorem MaskG.from_ (g : MaskG m) {x y : Nat} (hx : x ≤ m) (hy : y ≤ m) : ∃ k, k ≤ m ∧ lcgI m x k = y := by
  obtain ⟨u, lu, rfl⟩ := g.met x hx
  obtain ⟨v, lv, rfl⟩ := g.met y hy
  by_cases c : u ≤ v
  · exact ⟨v - u, by omega, by rw [lcgN_add, show u + (v - u) = v by omega]⟩
  · exact ⟨v + (m + 1) - u, by omega, by rw [lcgN_add, show u + (v + (m + 1) - u) = m + 1 + v by omega, g.wrap]⟩
theorem MaskG.run (g : MaskG m) (h : Int) {y : Nat} (hy : y ≤ m) : ∃ n, n ≤ m + 12 ∧ runI m (SetTable.bits h) n = y := by
  obtain ⟨k, lk, e⟩ := g.from_ (runI_le m (SetTable.bits h) 12) hy
  refine ⟨12 + k, by omega, ?_⟩
  rw [runI_tail (bits_lt h), e]
theorem way_any {h : Int} {k : Nat} : way m h k ≤ m := by
  have b0 : SetTable.bits h % (m + 1) ≤ m := Nat.lt_succ_iff.mp (Nat.mod_lt _ (Nat.succ_pos m))
  have b1 := runEnd_bd b0
  have b2 := nth_in (m := m) k (runAt m (SetTable.bits h % (m + 1)) (SetTable.bits h)) (show SetTable.bits h % (m + 1) + (SetTable.runEnd m (SetTable.bits h % (m + 1)) - SetTable.bits h % (m + 1)) ≤ m by omega)
  exact Nat.le_trans (Nat.le_add_right _ _) b2
end
/-- a table whose slots all are found again, whatever its mask -/
structure TabG (t : SetTable) (gs : List Int) : Prop where
  ris : Ris t.place.toList
  dm : t.dummies = #[]
  sz : t.place.size = gs.length
  mg : MaskG t.mask
  bd : ∀ y ∈ t.place.toList, y ≤ t.mask
  reach : ∀ (i : Nat) (g : Int) (y : Nat), gs[i]? = some g → t.place.toList[i]? = some y → ∃ k, way t.mask g k = y ∧ ∀ d, d < k → way t.mask g d ∈ t.place.toList
theorem TabG.of {t : SetTable} {gs : List Int} (T : TabOk t gs) : TabG t gs := ⟨T.ris, T.dm, T.sz, .of T.mok, T.bd, T.reach⟩
/-! ### laid anew -/
section
variable {m : Nat}
theorem MaskG.free (g : MaskG m) (owner : Array (Option Nat)) (h : Int) {y : Nat} (hy : y ≤ m) (hf : oAt owner y = none) :
    ∃ K, SetTable.layClean.free m owner (SetTable.turns m) (SetTable.bits h % (m + 1)) (SetTable.bits h) = some (way m h K) ∧ oAt owner (way m h K) = none ∧ ∀ d, d < K → oAt owner (way m h d) ≠ none := by
  obtain ⟨n, ln, e⟩ := g.run h hy
  have at_ : way m h (off m (SetTable.bits h % (m + 1)) (SetTable.bits h) n) = y := by
    unfold way
    rw [nth_off, itL_run]
    exact e
  obtain ⟨K, a1, a2, a3⟩ := st_least (p := fun d => oAt owner (way m h d) = none) _ (show oAt owner (way m h (off m (SetTable.bits h % (m + 1)) (SetTable.bits h) n)) = none by rw [at_]; exact hf)
  refine ⟨K, free_spec m owner (SetTable.turns m) n _ _ K (by unfold SetTable.turns; omega) a1 (fun d hd => ?_) ?_, a2, a3⟩
  · exact Option.isNone_eq_false_iff.mpr (Option.isSome_iff_ne_none.mpr (a3 d hd))
  · exact (congrArg Option.isNone (show oAt owner (way m h K) = none from a2)).trans rfl
theorem MaskG.own (g : MaskG m) {done : List Int} {owner : Array (Option Nat)} (W : Own m done owner) (l : done.length ≤ m) (h : Int) :
    ∃ y, SetTable.layClean.free m owner (SetTable.turns m) (SetTable.bits h % (m + 1)) (SetTable.bits h) = some y ∧ Own m (done ++ [h]) (owner.setIfInBounds y (some done.length)) := by
  obtain ⟨ps, lp, inp⟩ := W.ps
  obtain ⟨y0, l0, n0⟩ := st_missing ps (m + 1) (by omega)
  have l0 := Nat.lt_succ_iff.mp l0
  obtain ⟨K, f1, f2, f3⟩ := g.free owner h l0 (Classical.not_not.mp fun z => n0 (inp y0 l0 z))
  have ly : way m h K ≤ m := way_any
  generalize hy : way m h K = y at f1 f2 ly
  have sy : y < owner.size := by rw [W.sz]; omega
  have me := oAt_set_self (some done.length) sy
  have stay : ∀ {i : Nat}, oAt owner i ≠ none → oAt (owner.setIfInBounds y (some done.length)) i ≠ none := fun {i} hi => by
    by_cases c : i = y
    · subst c
      rw [me]
      exact Option.some_ne_none _
    · rwa [oAt_set_ne _ c]
  refine ⟨y, f1, ⟨Array.size_setIfInBounds.trans W.sz, fun j k lj e => ?_, fun k lk => ?_, y :: ps, by simp [lp], fun j lj e => ?_⟩⟩
  · by_cases c : j = y
    · subst c
      rw [me] at e
      cases e
      exact ⟨h, K, List.getElem?_concat_length .., hy, fun d hd => stay (f3 d hd)⟩
    · rw [oAt_set_ne _ c] at e
      obtain ⟨g2, K2, a1, a2, a3⟩ := W.at_ j k lj e
      exact ⟨g2, K2, (List.getElem?_append_left (List.getElem?_eq_some_iff.mp a1).1).trans a1, a2, fun d hd => stay (a3 d hd)⟩
  · rw [List.length_append, List.length_singleton] at lk
    rcases Nat.lt_or_ge k done.length with c | c
    · obtain ⟨j, lj, e⟩ := W.all k c
      refine ⟨j, lj, (oAt_set_ne _ fun z => ?_).trans e⟩
      subst z
      rw [f2] at e
      cases e
    · exact ⟨y, ly, me.trans (congrArg some (by omega))⟩
  · by_cases c : j = y
    · subst c
      exact List.mem_cons_self
    · exact List.mem_cons_of_mem _ (inp j lj (by rwa [oAt_set_ne _ c] at e))
end
end LB
/-! Sets of nested keys, up to 299 of them: NSet over the greater masks. -/
namespace LBG
open PySem PySem.Spec PyProof.Rows L2 LB
/-! ### the set -/
def Mk (m : Nat) : Prop := m = 7 ∨ m = 31 ∨ m = 127 ∨ m = 511
theorem Mk.g {m : Nat} (h : Mk m) : MaskG m := by
  rcases h with e | e | e | e
  · exact .of (.inl e)
  · exact .of (.inr (.inl e))
  · exact .of (.inr (.inr e))
  · subst e
    exact mask511
structure NS (P : Program) (w : World) (h : Heap) (a : Addr) (L : List (Addr × NestedKey)) (es : Array (Int × Value)) (ep : Nat) (t : SetTable) : Prop where
  ob : ∃ o, h.get? a = some o ∧ o.ExactSet ∧ o.data = .set es ep t
  rows : es.toList = L.map (nrow w)
  tab : TabG t (L.map fun p => p.2.hash w)
  nd : (L.map Prod.snd).Nodup
  led : w.params.followText "set-order" = true ∨ t.led = true
  free : L.length * 5 < t.mask * 3
  few : L.length < 300
  mm : Mk t.mask
section
variable {P : Program} {w : World} {A : Around} {E : Value → Shared → Prop} {s : Shared} {h h' : Heap} {a : Addr} {L : List (Addr × NestedKey)} {es : Array (Int × Value)} {ep : Nat} {t : SetTable}
theorem NS.pl (R : NS P w h a L es ep t) : t.place.size = es.size := by
  have := R.tab.sz
  rw [List.length_map] at this
  rw [this, rows_size R.rows]
/-! ### adding -/
theorem NS.keep (R : NS P w h a L es ep t) (k : ∀ o, h.get? a = some o → h'.get? a = some o) : NS P w h' a L es ep t := by
  obtain ⟨o, ho, r⟩ := R.ob
  exact ⟨⟨o, k o ho, r⟩, R.rows, R.tab, R.nd, R.led, R.free, R.few, R.mm⟩
end
end LBG
/-! set(list of nested tuples), sorted(a set of them): up to 298 of them. -/
/-! sorted(set(list of nested tuples of texts)), as a run -/
namespace Pu
open PySem PySem.Spec PyProof.Rows L2 LB
open Classical
/-- each once -/
noncomputable def ddP : List PV → List PV
  | [] => []
  | x :: xs => if x ∈ ddP xs then ddP xs else x :: ddP xs
/-- sorted(set(xs)) -/
noncomputable def sortSN (xs : List PV) : List PV := sortN (ddP xs)
noncomputable def bSortSetN (p : PV) (M : PM) : Res PV := match lstAt M p with
  | some xs => if SrtP xs ∧ xs.length < 299 then .ok (.ref M.length) (M ++ [.lst (sortSN xs)]) else .bad
  | none => .bad
noncomputable def fSortSetN (f : FE) : FE := fun σ M => (f σ M).bnd bSortSetN
@[simp] theorem ev_fSortSetN (f : FE) (σ : PS) (M : PM) : fSortSetN f σ M = (f σ M).bnd bSortSetN := id rfl
end Pu
namespace Pu
open PySem PySem.Spec PyProof.Rows L2 LB
open Classical
/-! ### dicts whose keys are tuples: setdefault, values, locked -/
end Pu
namespace Pu
open PySem PySem.Spec PyProof.Rows L2 LB
open Classical
/-! ### comprehensions of two fors -/
section
variable {tb : List (Addr × Str)} {E : XK} {K : PySem.W.Frag} {ti ti1 : TI} {fi fi1 : FI} {g g1 : TG} {fg fg1 : FG} {ws ws1 : List Nat} {tt tt1 : TT} {ft ft1 : FT} {te : TE} {fe : FE} {ι : Nat → Addr} {n : Nat} {H : Hp} {M : PM} {σp : PS} {σ : L2.St}
theorem SmI.nox {γ δ : Type} {rel2 : (Nat → Addr) → Nat → Hp → γ → δ → Prop} (s : SmI tb E0 ti fi) (R : RM tb ι M H) (S : Rs ι M.length H σp σ) {k : PIt → PM → Res γ} {Q : δ → Hp → Prop} {Q' : It → Hp → Prop} (h : Wp tb rel2 ι M.length H ((fi σp M).nox.bnd k) Q E)
    (c : ∀ ι1 M1 H1 p v, On tb ι M.length H ι1 M1 H1 → Rs ι1 M1.length H1 σp σ → rIt tb ι1 M1.length H1 p v → Wp tb rel2 ι1 M1.length H1 (k p M1) Q E → Q' v H1) : ti σ H Q' :=
  s ι M H σp σ Q' R S (Wp.mono (Wp.nox h) fun v H1 ⟨ι1, M1, p, o, rv, w⟩ => c ι1 M1 H1 p v o (S.mono o.e o.l) rv w)
end
end Pu
namespace Pu
open PySem PySem.Spec PyProof.Rows L2 LB
open Classical
variable {c : CA} {M M' M'' : PM} {b : Nat}
/-! ### a drawn plan -/
def qLetters : List Nat := [108, 101, 116, 116, 101, 114, 115]
def qMachines : List Nat := [109, 97, 99, 104, 105, 110, 101, 115]
def qRows : List Nat := [114, 111, 119, 115]
def qMoves : List Nat := [109, 111, 118, 101, 115]
def qStands : List Nat := [115, 116, 97, 110, 100, 115]
def planD (l m r v t : Nat) : List (PV × PV) := [(.str qLetters, .ref l), (.str qMachines, .ref m), (.str qRows, .ref r), (.str qMoves, .ref v), (.str qStands, .ref t)]
abbrev pairP (x : List Nat × List Nat) : PV := .tup [.str x.1, .str x.2]
abbrev mvP (x : List Nat × List Nat × List (List Nat) × List Nat) : PV := .tup [.str x.1, .str x.2.1, tS x.2.2.1, .str x.2.2.2]
theorem kfind_pos {k v : PV} {r : List (PV × PV)} : kfind ((k, v) :: r) k = some v := by unfold kfind; simp
theorem kfind_neg {k k' v : PV} {r : List (PV × PV)} (h : k' ≠ k) : kfind ((k', v) :: r) k = kfind r k := by unfold kfind; simp [h]
theorem sne {a b : List Nat} (h : a ≠ b) : PV.str a ≠ PV.str b := fun z => h (by injection z)
def asV (M : PM) (o : Option (Option PV)) : Res PV := match o with
  | some (some v) => .ok v M
  | _ => .bad
@[simp] theorem asV_some (M : PM) (v : PV) : asV M (some (some v)) = .ok v M := id rfl
@[simp] theorem ev_fDGet (fd fk : FE) (σ : PS) (M : PM) : fDGet fd fk σ M = (fd σ M).bnd fun d M1 => (fk σ M1).bnd fun k M2 => asV M2 (dgetP M2 d k) := id rfl
/-- all but some is kept -/
structure Kp (E : Nat → Prop) (M M' : PM) : Prop where
  l : M.length ≤ M'.length
  k : ∀ i, i < M.length → ¬ E i → M'[i]? = M[i]?
theorem Kp.refl {E : Nat → Prop} : Kp E M M := ⟨Nat.le_refl _, fun _ _ _ => rfl⟩
theorem Kp.trans {E : Nat → Prop} (x : Kp E M M') (y : Kp E M' M'') : Kp E M M'' := ⟨Nat.le_trans x.l y.l, fun i hi h => (y.k i (Nat.lt_of_lt_of_le hi x.l) h).trans (x.k i hi h)⟩
theorem Kp.at {E : Nat → Prop} (x : Kp E M M') {i : Nat} {o : PO} (e : M[i]? = some o) (h : ¬ E i) : M'[i]? = some o := (x.k i (List.getElem?_eq_some_iff.mp e).1 h).trans e
theorem Kp.app {E : Nat → Prop} {ex : PM} : Kp E M (M ++ ex) := ⟨by simp, fun i hi _ => List.getElem?_append_left hi⟩
theorem Dr.kp {s : Nat} {E : Nat → Prop} (x : Dr b s M M') (h : E b) : Kp E M M' := ⟨Nat.le_of_eq x.len.symm, fun i hi n => x.get fun z => n (z ▸ h)⟩
theorem Kp.set {E : Nat → Prop} {k : Nat} {o : PO} (h : E k) : Kp E M (M.set k o) := ⟨by simp, fun i hi n => List.getElem?_set_ne fun z : k = i => n (z ▸ h)⟩
/-- the plan p in the store; own: its places -/
structure PlanAt (M : PM) (d l m r v t : Nat) (ks : List Nat) (p : PD) : Prop where
  d : M[d]? = some (.dct (planD l m r v t))
  l : M[l]? = some (.lst (p.letters.map fun x => .str [x]))
  m : M[m]? = some (.lst (p.machines.map pairP))
  r : M[r]? = some (.lst (p.rows.map pairP))
  v : M[v]? = some (.lst (p.moves.map mvP))
  t : M[t]? = some (.lst (ks.map PV.ref))
  lk : ks.length = p.stands.length
  ss : ∀ (i : Nat) (k : Nat) (ss : List (List Nat)), ks[i]? = some k → p.stands[i]? = some ss → M[k]? = some (.lst (ss.map PV.str))
def plAd (d l m r v t : Nat) (ks : List Nat) : Nat → Prop := fun i => i = d ∨ i = l ∨ i = m ∨ i = r ∨ i = v ∨ i = t ∨ i ∈ ks
theorem PlanAt.kp {E : Nat → Prop} {d l m r v t : Nat} {ks : List Nat} {p : PD} (h : PlanAt M d l m r v t ks p) (x : Kp E M M') (n : ∀ i, plAd d l m r v t ks i → ¬ E i) : PlanAt M' d l m r v t ks p :=
  ⟨x.at h.d (n _ (.inl rfl)), x.at h.l (n _ (.inr (.inl rfl))), x.at h.m (n _ (.inr (.inr (.inl rfl)))), x.at h.r (n _ (.inr (.inr (.inr (.inl rfl))))), x.at h.v (n _ (.inr (.inr (.inr (.inr (.inl rfl)))))), x.at h.t (n _ (.inr (.inr (.inr (.inr (.inr (.inl rfl))))))), h.lk, fun i k ss h1 h2 => x.at (h.ss i k ss h1 h2) (n _ (.inr (.inr (.inr (.inr (.inr (.inr (List.mem_of_getElem? h1))))))))⟩
/-! ### a drawn act, a drawn move -/
/-! ### the plan while it is made -/
structure PB (M : PM) (b s : Nat) (N : PM) (nm d l m r v t : Nat) (ks : List Nat) (ns : List (List Nat)) (p : PD) : Prop where
  bag : BagAt N b s
  kp : Kp (· = b) M N
  P : PlanAt N d l m r v t ks p
  nms : N[nm]? = some (.lst (ns.map PV.str))
  new : ∀ i, plAd d l m r v t ks i → M.length ≤ i
  nn : M.length ≤ nm
  ne : nm ≠ d ∧ nm ≠ m ∧ nm ≠ r ∧ nm ≠ v ∧ nm ≠ t ∧ l ≠ d ∧ l ≠ m ∧ l ≠ r ∧ l ≠ v ∧ l ≠ t ∧ d ≠ m ∧ d ≠ r ∧ d ≠ v ∧ d ≠ t ∧ m ≠ r ∧ m ≠ v ∧ m ≠ t ∧ r ≠ v ∧ r ≠ t ∧ v ≠ t
  nk : ∀ k ∈ ks, k ≠ m ∧ k ≠ r ∧ k ≠ v ∧ k ≠ t ∧ k ≠ d
theorem PB.nb {s nm d l m r v t : Nat} {ks : List Nat} {ns : List (List Nat)} {p : PD} {N : PM} (h : PB M b s N nm d l m r v t ks ns p) (hb : b < M.length) : ∀ i, plAd d l m r v t ks i → i ≠ b := fun i hi z => by
  have := h.new i hi
  omega
/-- drawn -/
theorem PB.dr {s nm d l m r v t : Nat} {ks : List Nat} {ns : List (List Nat)} {p : PD} {N N' : PM} (h : PB M b s N nm d l m r v t ks ns p) (hb : b < M.length) (x : Dr b s N N') : PB M b s N' nm d l m r v t ks ns p :=
  ⟨x.bag, h.kp.trans (x.kp rfl), h.P.kp (x.kp (E := (· = b)) rfl) (h.nb hb), (x.get (fun z => by have := h.nn; omega)).trans h.nms, h.new, h.nn, h.ne, h.nk⟩
/-- something made beside -/
theorem PB.app {s nm d l m r v t : Nat} {ks : List Nat} {ns : List (List Nat)} {p : PD} {N : PM} (h : PB M b s N nm d l m r v t ks ns p) (ex : PM) : PB M b s (N ++ ex) nm d l m r v t ks ns p :=
  ⟨h.bag.app, h.kp.trans .app, h.P.kp (E := fun _ => False) .app (fun _ _ z => z), (Kp.app (E := fun _ => False)).at h.nms (fun z => z), h.new, h.nn, h.ne, h.nk⟩
theorem BagAt.set {s k : Nat} {o : PO} (h : BagAt M b s) (h1 : k ≠ b) (h2 : k ≠ s) : BagAt (M.set k o) b s := by
  obtain ⟨n, ns, i, r, sd, ct, e1, e2, h0⟩ := h
  exact ⟨n, ns, i, r, sd, ct, (List.getElem?_set_ne h1).trans e1, (List.getElem?_set_ne h2).trans e2, h0⟩
end Pu
namespace Pu
open PySem PySem.Spec PyProof.Rows L2 LB
open Classical
variable {c : CA} {M M' M'' : PM} {b : Nat}
theorem mAppend_at {k : Nat} {xs : List PV} {y : PV} (e : M[k]? = some (.lst xs)) (h : xs.length < lim) : mAppend (.ref k) [y] M = .ok .non (M.set k (.lst (xs ++ [y]))) := by
  unfold mAppend chL
  simp only [e]
  rw [if_pos h]
theorem putP_new {kvs : List (PV × PV)} {k v : PV} (h : ∀ p ∈ kvs, p.1 ≠ k) : putP kvs k v = kvs ++ [(k, v)] := by
  unfold putP
  rw [if_neg fun ⟨p, hp, e⟩ => h p hp e]
end Pu
namespace Pu
open PySem PySem.Spec PyProof.Rows L2 LB
open Classical
variable {c : CA} {M M' M'' : PM} {b : Nat}
theorem isNm_asc {x : List Nat} (h : isNm x) : asc x := fun y hy => by have := h.2.2 y hy; omega
structure P1 (cs : List Nat) (ns : List (List Nat)) (st i : Nat) (p : PD) : Prop where
  l : p.letters = cs
  r : p.rows = []
  v : p.moves = []
  lm : p.machines.length = i
  ls : p.stands.length = i
  nm : p.machines.map (·.1) = ns.take i
  ms : ∀ (j : Nat) (x : List Nat × List Nat) (ss : List (List Nat)), p.machines[j]? = some x → p.stands[j]? = some ss → x.2 ∈ ss
  ss : ∀ s ∈ p.stands, NameL s ∧ 0 < s.length ∧ s.length ≤ st
end Pu
namespace Pu
open PySem PySem.Spec PyProof.Rows L2 LB
open Classical
variable {c : CA} {M M' M'' : PM} {b : Nat}
/-! ### a lab with many moves -/
/-! ### dicts of names -/
def asBo (g : Bool → Bool) (M : PM) (o : Option (Option PV)) : Res PV := match o with
  | some o => .ok (.bl (g o.isSome)) M
  | none => .bad
@[simp] theorem asBo_some (g : Bool → Bool) (M : PM) (o : Option PV) : asBo g M (some o) = .ok (.bl (g o.isSome)) M := id rfl
@[simp] theorem ev_fDIn (fd fk : FE) (σ : PS) (M : PM) : fDIn fk fd σ M = (fk σ M).bnd fun k M1 => (fd σ M1).bnd fun d M2 => asBo (fun z => z) M2 (dgetP M2 d k) := id rfl
@[simp] theorem ev_fDNotIn (fd fk : FE) (σ : PS) (M : PM) : fDNotIn fk fd σ M = (fk σ M).bnd fun k M1 => (fd σ M1).bnd fun d M2 => asBo (fun z => !z) M2 (dgetP M2 d k) := id rfl
@[simp] theorem ev_fDPut (fd fk fv : FE) (σ : PS) (M : PM) : fDPut fd fk fv σ M = (fv σ M).go fun v M1 => (fd σ M1).go fun d M2 => (fk σ M2).go fun k M3 => toM σ (dputP M3 d k v) := id rfl
theorem kfind_map {α : Type} (k : α → List Nat) (v : α → PV) (n : List Nat) : ∀ xs : List α, kfind (xs.map fun x => (.str (k x), v x)) (.str n) = (xs.find? fun x => decide (k x = n)).map v
  | [] => rfl
  | x :: r => by
    rw [List.map_cons]
    by_cases e : k x = n
    · rw [e, kfind_pos, List.find?_cons_of_pos (by simpa using e)]
      rfl
    · rw [kfind_neg (sne e), List.find?_cons_of_neg (by simpa using e)]
      exact kfind_map k v n r
theorem isNam_of {x : List Nat} (h : isNm x) : isNam x = true := by
  unfold isNam
  rw [Bool.and_eq_true, decide_eq_true_iff, List.all_eq_true]
  exact ⟨⟨h.1, h.2.1⟩, fun y hy => by unfold low; exact decide_eq_true (h.2.2 y hy)⟩
theorem nm_lim {x : List Nat} (h : isNm x) : x.length < lim := by have := h.2.1; unfold lim; omega
/-! ### acts and moves -/
inductive ActP (has : List Nat → Prop) : List (List Nat) → Prop where
  | idle : ActP has [wIdle]
  | bare {r : List Nat} (h : has r) : ActP has [wBare, r]
  | send {r : List Nat} {x : Nat} (h : has r) (hx : 97 ≤ x ∧ x < 123) : ActP has [wSend, r, [x]]
  | take {r : List Nat} {x : Nat} (h : has r) (hx : 97 ≤ x ∧ x < 123) : ActP has [wTake, r, [x]]
theorem ixT0 {x : PV} {r : List PV} : pIxT (.tup (x :: r)) (.int 0) M = .ok x M := pIxT_at (atI_nat (xs := x :: r) (j := 0) rfl)
theorem ixT1 {x y : PV} {r : List PV} : pIxT (.tup (x :: y :: r)) (.int 1) M = .ok y M := pIxT_at (atI_nat (xs := x :: y :: r) (j := 1) rfl)
abbrev actS : List (List Nat × Int) := [([115, 101, 110, 100], 3), ([116, 97, 107, 101], 3), ([98, 97, 114, 101], 2), ([105, 100, 108, 101], 1)]
theorem lk2 : List.lookup [98, 97, 114, 101] actS = some 2 := by rfl
/-! ### dict comprehensions -/
/-! ### places -/
def plcD (ps : List (List Nat × List Nat)) : List (PV × PV) := ps.zipIdx.map fun x => (PV.str x.1.1, PV.int (x.2 : Nat))
end Pu
namespace Pu
open PySem PySem.Spec PyProof.Rows L2 LB
open Classical
variable {c : CA} {M M' M'' : PM} {b : Nat}
@[simp] theorem lim0 : ((0 : Nat) ≤ lim) = True := eq_true (by decide)
@[simp] theorem lim1 : ((1 : Nat) ≤ lim) = True := eq_true (by decide)
@[simp] theorem lim2 : ((2 : Nat) ≤ lim) = True := eq_true (by decide)
@[simp] theorem lim3 : ((3 : Nat) ≤ lim) = True := eq_true (by decide)
@[simp] theorem lim4 : ((4 : Nat) ≤ lim) = True := eq_true (by decide)
@[simp] theorem lim5 : ((5 : Nat) ≤ lim) = True := eq_true (by decide)
@[simp] theorem lim6 : ((6 : Nat) ≤ lim) = True := eq_true (by decide)
theorem asStrs_str : ∀ xs : List (List Nat), asStrs (xs.map PV.str) = some xs
  | [] => rfl
  | x :: r => by
    rw [List.map_cons]
    unfold asStrs
    rw [asStrs_str r]
    rfl
theorem sortset_at {k : Nat} {xs : List (List Nat)} (e : M[k]? = some (.lst (xs.map PV.str))) (l : xs.length < 2000) : bSortSet (.ref k) M = .ok (.ref M.length) (M ++ [.lst ((sortU xs).map .str)]) := by
  unfold bSortSet lstAt
  simp only [e, Option.bind_some, asStrs_str]
  rw [if_pos l]
theorem itL_at {k : Nat} {xs : List PV} (e : M[k]? = some (.lst xs)) : itL (.ref k) M = .ok ⟨xs, fun M' => M'[k]? = some (.lst xs)⟩ M := by
  unfold itL
  simp only [e]
end Pu
namespace Pu
open PySem PySem.Spec PyProof.Rows L2 LB
open Classical
variable {c : CA} {M M' M'' : PM} {b : Nat}
abbrev Mv := List Nat × List Nat × List (List Nat) × List Nat
abbrev Pr := List Nat × List Nat
/-! ### fields, dicts that are locked -/
def asF (M : PM) (o : Option PV) : Res PV := match o with
  | some x => .ok x M
  | none => .bad
@[simp] theorem asF_some (M : PM) (x : PV) : asF M (some x) = .ok x M := id rfl
@[simp] theorem ev_fFld (C : Addr) (f : String) (fa : FE) (σ : PS) (M : PM) : fFld C f fa σ M = (fa σ M).bnd fun p M1 => asF M1 (fldP M1 C f p) := id rfl
@[simp] theorem ev_fSetF (C : Addr) (f : String) (fo fv : FE) (σ : PS) (M : PM) : fSetF C f fo fv σ M = (fv σ M).go fun y M1 => (fo σ M1).go fun o M2 => toM σ (setF M2 C f o y) := id rfl
theorem fld_at {k : Nat} {C : Addr} {fs : List (String × PV)} {f : String} {x : PV} (e : M[k]? = some (.ins C fs)) (h : fs.lookup f = some x) : fldP M C f (.ref k) = some x := by
  unfold fldP
  simp only [e, if_true, h]
theorem setF_at {k : Nat} {C : Addr} {fs : List (String × PV)} {f : String} {x : PV} (e : M[k]? = some (.ins C fs)) (l : fs.length < 1000) : setF M C f (.ref k) x = some (M.set k (.ins C (putS f x fs))) := by
  unfold setF
  simp only [e]
  rw [if_pos ⟨trivial, l⟩]
/-! ### the stands of each machine -/
def stOf (mv : List Mv) (x : Pr) : List (List Nat) := sortU (x.2 :: foundIn x.1 mv)
def stD (ms : List Pr) (mv : List Mv) : List (PV × PV) := ms.map fun x => (PV.str x.1, tS (stOf mv x))
end Pu
namespace Pu
open PySem PySem.Spec PyProof.Rows L2 LB
open Classical
variable {c : CA} {M M' M'' : PM} {b : Nat}
/-! ### steps -/
def plOf (ms : List Pr) (n : List Nat) : Nat := (ms.map (·.1)).idxOf n
def ActN (ns : List (List Nat)) : List (List Nat) → Prop := ActP (· ∈ ns)
def rowOf (rs : List Pr) (a : List (List Nat)) : Int := match a with
  | [_] => -1
  | _ :: r :: _ => (plOf rs r : Nat)
  | [] => -1
def stepOf (ms rs : List Pr) (m : Mv) : Stp := ⟨plOf ms m.1, m.2.1, m.2.2.1.headD [], rowOf rs m.2.2.1, (m.2.2.1.drop 2).headD [], m.2.2.2⟩
structure MvG (ms rs : List Pr) (m : Mv) : Prop where
  hm : m.1 ∈ ms.map (·.1)
  hs : isNm m.2.1
  ha : ActN (rs.map (·.1)) m.2.2.1
  he : isNm m.2.2.2
/-! ### too many -/
def overB (ms rs : List Pr) (mv : List Mv) : Bool := decide (3 < ms.length) || decide (3 < rs.length) || decide (24 < mv.length) || ms.any fun x => decide (6 < (stOf mv x).length)
/-! ### a lab -/
def labF (c : CA) (ms rs : List Pr) (mv : List Mv) (k1 k2 k3 : Nat) : List (String × PV) := [("machine_pairs", .tup (ms.map pairP)), ("row_pairs", .tup (rs.map pairP)), ("whole_moves", .tup (mv.map mvP)), ("machine_places", .ref k1), ("row_places", .ref k2), ("stand_lists", .ref k3), ("steps", .tup (mv.map fun m => (stepOf ms rs m).pv))]
structure LabAt (c : CA) (M : PM) (x : Nat) (ms rs : List Pr) (mv : List Mv) : Prop where
  ex : ∃ k1 k2 k3, M[x]? = some (.ins c.Lab (labF c ms rs mv k1 k2 k3)) ∧ M[k1]? = some (.dct (plcD ms)) ∧ M[k2]? = some (.dct (plcD rs)) ∧ M[k3]? = some (.dct (stD ms mv))
/-- what a lab may be made of -/
structure LabG (ms rs : List Pr) (mv : List Mv) : Prop where
  nd1 : (ms.map (·.1)).Nodup
  nd2 : (rs.map (·.1)).Nodup
  n1 : ∀ x ∈ ms, isNm x.1 ∧ isNm x.2
  n2 : ∀ x ∈ rs, isNm x.1 ∧ x.2.length ≤ 8 ∧ ∀ y ∈ x.2, 97 ≤ y ∧ y < 123
  hmv : ∀ m ∈ mv, MvG ms rs m
  ov : overB ms rs mv = false
theorem LabG.len {ms rs : List Pr} {mv : List Mv} (h : LabG ms rs mv) : ms.length ≤ 3 ∧ rs.length ≤ 3 ∧ mv.length ≤ 24 ∧ ∀ x ∈ ms, (stOf mv x).length ≤ 6 := by
  have := h.ov
  unfold overB at this
  rw [Bool.or_eq_false_iff, Bool.or_eq_false_iff, Bool.or_eq_false_iff, decide_eq_false_iff_not, decide_eq_false_iff_not, decide_eq_false_iff_not, List.any_eq_false] at this
  refine ⟨by omega, by omega, by omega, fun x hx => ?_⟩
  have := this.2 x hx
  simp at this
  exact this
end Pu
namespace Pu
open PySem PySem.Spec PyProof.Rows L2 LB
open Classical
variable {c : CA} {M M' M'' : PM} {b : Nat}
/-! ### what is drawn may be a lab -/
/-! ### the law's lab -/
theorem bLst_lst {k : Nat} {xs : List PV} (e : M[k]? = some (.lst xs)) : bLst [.ref k] M = .ok (.ref M.length) (M ++ [.lst xs]) := by unfold bLst seqAt; simp only [lstAt_ref' M k xs e]
theorem LabAt.kp {E : Nat → Prop} {x : Nat} {ms rs : List Pr} {mv : List Mv} (h : LabAt c M x ms rs mv) (k : Kp E M M') (n : ∀ i, E i → ∃ xs, M[i]? = some (.lst xs)) : LabAt c M' x ms rs mv := by
  obtain ⟨k1, k2, k3, e0, e1, e2, e3⟩ := h.ex
  have nl : ∀ {i : Nat} {o : PO}, M[i]? = some o → (∀ xs, o ≠ .lst xs) → ¬ E i := fun e q z => by
    obtain ⟨xs, e2⟩ := n _ z
    rw [e] at e2
    exact q xs (Option.some.inj e2)
  exact ⟨⟨k1, k2, k3, k.at e0 (nl e0 fun _ z => nomatch z), k.at e1 (nl e1 fun _ z => nomatch z), k.at e2 (nl e2 fun _ z => nomatch z), k.at e3 (nl e3 fun _ z => nomatch z)⟩⟩
theorem LabAt.app {x : Nat} {ms rs : List Pr} {mv : List Mv} {ex : PM} (h : LabAt c M x ms rs mv) : LabAt c (M ++ ex) x ms rs mv := h.kp (E := fun _ => False) .app fun _ z => z.elim
theorem LabAt.dr {s x : Nat} {ms rs : List Pr} {mv : List Mv} (h : LabAt c M x ms rs mv) (hb : BagAt M b s) (k : Dr b s M M') : LabAt c M' x ms rs mv := h.kp (E := (· = b)) (k.kp rfl) fun i z => by
  obtain ⟨_, ns, i, r, sd, ct, e, _⟩ := hb
  exact ⟨_, z ▸ e⟩
/-! ### scenes -/
def hasB (ms rs : List Pr) (mv : List Mv) (ss ws : List (List Nat)) : Bool := decide (ss.length = ms.length) && decide (ws.length = rs.length) && ((ms.zip ss).all fun z => decide (z.2 ∈ stOf mv z.1)) && ws.all (·.all low)
theorem inP_str {x : List Nat} {l : List (List Nat)} : inP (.str x) (l.map PV.str) = decide (x ∈ l) := by
  unfold inP
  rw [List.any_map]
  induction l with
  | nil => simp
  | cons y r ih =>
    rw [List.any_cons, ih]
    by_cases e : y = x
    · simp [eqF, e]
    · simp [eqF, e, Ne.symm e]
theorem flat_strs (l : List (List Nat)) : (l.map PV.str).all flatP = true := by simp [flatP]
theorem pIn_str {neg : Bool} {x : List Nat} {l : List (List Nat)} : pIn neg (.str x) (tS l) M = .ok (.bl (if neg then !decide (x ∈ l) else decide (x ∈ l))) M := by
  unfold pIn
  rw [show seqAt M (tS l) = some (l.map PV.str) from rfl]
  simp only
  rw [if_pos ⟨rfl, flat_strs l⟩, inP_str]
def Wd (l : List (List Nat)) : Prop := ∀ z ∈ l, z.length < 1000
end Pu
namespace Pu
open PySem PySem.Spec PyProof.Rows L2 LB
open Classical
variable {c : CA} {M M' M'' : PM} {b : Nat}
/-! ### best scenes, ways -/
structure ScG (ms rs : List Pr) (mv : List Mv) (ss ws : List (List Nat)) : Prop where
  has : hasB ms rs mv ss ws = true
  lw : Wd ws
/-! ### a comprehension that leaves things behind -/
/-! ### a drawn scene -/
theorem PlanAt.dr {s d l m r v t : Nat} {ks : List Nat} {p : PD} (P : PlanAt M d l m r v t ks p) (nb : ∀ i, plAd d l m r v t ks i → i ≠ b) (k : Dr b s M M') (ex : PM) : PlanAt (M' ++ ex) d l m r v t ks p :=
  P.kp ((k.kp (E := (· = b)) rfl).trans .app) nb
end Pu
namespace Pu
open PySem PySem.Spec PyProof.Rows L2 LB
open Classical
variable {c : CA} {M M' M'' : PM} {b : Nat}
/-! ### lists held against the empty one -/
theorem dat_lst {k : Nat} {xs : List PV} {n : Nat} (e : M[k]? = some (.lst xs)) (hd : ∀ x ∈ xs, Dat n x) : datF M (n + 1) (.ref k) = some (.list (dvs xs)) := by
  unfold datF
  rw [e]
  simp only
  rw [mapM_dv fun x hx => datF_dv (hd x hx)]
  rfl
theorem eqv_nilB (xs : List PV) : PyData.eqv (.list (dvs xs)) (.list (dvs [])) = decide (xs = []) := by
  rw [show dvs [] = [] from by unfold dvs; rfl, eqv_nil]
  cases xs with
  | nil => unfold dvs; rfl
  | cons x r => unfold dvs; rfl
theorem pNeD_nil {k j : Nat} {xs : List PV} (e : M[k]? = some (.lst xs)) (e2 : M[j]? = some (.lst [])) (hd : ∀ x ∈ xs, Dat 59 x) : pNeD (.ref k) (.ref j) M = .ok (.bl (!decide (xs = []))) M := by
  unfold pNeD
  rw [dat_lst e hd, dat_lst e2 (fun _ h => nomatch h)]
  simp only
  rw [eqv_nilB]
/-! ### the law's within -/
/-! ### a scene made greater -/
end Pu
namespace Pu
open PySem PySem.Spec PyProof.Rows L2 LB
open Classical
variable {c : CA} {M M' M'' : PM} {b : Nat}
/-! ### a lab that stands beside its plan -/
structure LabE (c : CA) (M : PM) (b s d x : Nat) (p : PD) : Prop where
  bag : BagAt M b s
  pl : ∃ l m r v t ks, PlanAt M d l m r v t ks p ∧ ∀ i, plAd d l m r v t ks i → i ≠ b
  lab : LabAt c M x p.machines p.rows p.moves
theorem LabE.dr {s d x : Nat} {p : PD} (h : LabE c M b s d x p) (k : Dr b s M M') (ex : PM) : LabE c (M' ++ ex) b s d x p := by
  obtain ⟨l, m, r, v, t, ks, P, nb⟩ := h.pl
  exact ⟨k.bag.app, ⟨l, m, r, v, t, ks, P.dr nb k ex, nb⟩, (h.lab.dr h.bag k).app⟩
theorem LabE.app {s d x : Nat} {p : PD} (h : LabE c M b s d x p) (ex : PM) : LabE c (M ++ ex) b s d x p := h.dr (.refl h.bag) ex
/-! ### scenes of a lab -/
theorem low_of {y : Nat} (h : 97 ≤ y ∧ y < 123) : low y = true := decide_eq_true h
/-- a scene of few small words -/
structure ScW (ms rs : List Pr) (mv : List Mv) (ss ws : List (List Nat)) (top : Nat) : Prop where
  g : ScG ms rs mv ss ws
  nm : ∀ s ∈ ss, isNm s
  wd : ∀ w ∈ ws, w.length ≤ top ∧ ∀ y ∈ w, 97 ≤ y ∧ y < 123
theorem ScW.wdsS {ms rs : List Pr} {mv : List Mv} {ss ws : List (List Nat)} {top : Nat} (h : ScW ms rs mv ss ws top) : Wds ss := fun s hs => ⟨isNm_asc (h.nm s hs), by have := (h.nm s hs).2.1; omega⟩
theorem ScW.wdsW {ms rs : List Pr} {mv : List Mv} {ss ws : List (List Nat)} {top : Nat} (h : ScW ms rs mv ss ws top) (ht : top < 1000) : Wds ws := fun s hs => ⟨fun y hy => by have := (h.wd s hs).2 y hy; omega, by have := (h.wd s hs).1; omega⟩
/-! ### greater scenes -/
/-! ### numbers in lists -/
end Pu
namespace Pu
open PySem PySem.Spec PyProof.Rows L2 LB
/-! #### leak_after -/
/-! #### leaked -/
/-! #### law: put -/
end Pu
namespace Pu
open PySem PySem.Spec PyProof.Rows L2 LB
open Classical
variable {c : CA} {M M' M'' : PM} {b : Nat}
/-! ### leaks -/
/-! ### what refusals tell -/
theorem told_exc {cs : List Addr} {x : Xc} (h : x.C ∈ cs) : toldP cs (.exc x M) = .ok (.tup [.str x.w.cps.toList, .int x.n]) M := if_pos h
@[simp] theorem told_ok {cs : List Addr} {p : PV} : toldP cs (.ok p M) = .ok (.tup [.str [108, 101, 116], .int (-1)]) M := id rfl
theorem asc_by {l : List Nat} (h : (l.all fun x => decide (x < 128)) = true) : asc l := fun x hx => of_decide_eq_true (List.all_eq_true.mp h x hx)
theorem dat_told {w : List Nat} {i : Int} (h : asc w) {n : Nat} : Dat (n + 1) (.tup [.str w, .int i]) := by
  rw [dat_tup]
  intro x hx
  rcases List.mem_cons.mp hx with rfl | hx
  · rw [dat_str]; exact h
  · rw [List.mem_singleton.mp hx]
    cases n <;> trivial
end Pu
namespace Pu
open PySem PySem.Spec PyProof.Rows L2 LB
/-! #### is_ready -/
/-! #### done_after -/
/-! #### can -/
/-! #### done -/
end Pu
namespace Pu
open PySem PySem.Spec PyProof.Rows L2 LB
/-! #### law: begin -/
/-! #### law: place -/
/-! #### law: led -/
/-! #### law: best -/
/-! #### law: done -/
end Pu
namespace Pu
open PySem PySem.Spec PyProof.Rows L2 LB
/-! #### law: wild -/
end Pu
namespace Pu
open PySem PySem.Spec PyProof.Rows L2 LB
open Classical
/-! ### places by name, the law's own walk -/
end Pu
namespace Pu
open PySem PySem.Spec PyProof.Rows L2 LB
open Classical
/-! ### a move that is none; wild numbers -/
end Pu
namespace Pu
open PySem PySem.Spec PyProof.Rows L2 LB
open Classical
/-! ### moves done -/
/-! ### the law's done, the begin -/
end Pu
namespace Pu
open PySem PySem.Spec PyProof.Rows L2 LB
/-! #### check_names -/
/-! #### check_wish -/
/-! #### grants -/
/-! #### law: wish -/
/-! #### law: grants -/
/-! #### law: scene_for -/
end Pu
namespace Pu
open PySem PySem.Spec PyProof.Rows L2 LB
/-! #### Lab.machines -/
/-! #### Lab.rows -/
/-! #### Lab.stands -/
/-! #### above_any -/
/-! #### letters_in -/
/-! #### least_up_to -/
/-! #### least -/
/-! #### stand_choices -/
/-! #### all_of -/
/-! #### least_for -/
/-! #### least_of -/
/-! #### law: least -/
/-! #### law: all_stands -/
end Pu
namespace Pu
open PySem PySem.Spec PyProof.Rows L2 LB
/-! #### word_before -/
/-! #### turned_by -/
/-! #### turned -/
/-! #### law: turned -/
end Pu
/-! A new instance by a call with keywords; try .. except X: (slots of the suite: none is read). -/
namespace Pu
open PySem PySem.Spec PyProof.Rows L2 LB
open Classical
noncomputable def fMakeK (C : Addr) (n m : Nat) (F : FF) (fr fk : FA) : FE := fun σ M => (fr σ M).bnd fun as M1 => (fk σ M1).bnd fun zs M2 => if as.length = n ∧ zs.length = m then (F (.ref M2.length :: ((as ++ zs) ++ [])) (M2 ++ [.ins C []])).bnd (asN M2.length) else .bad
@[simp] theorem ev_fMakeK (C : Addr) (n m : Nat) (F : FF) (fr fk : FA) (σ : PS) (M : PM) : fMakeK C n m F fr fk σ M = (fr σ M).bnd fun as M1 => (fk σ M1).bnd fun zs M2 => if as.length = n ∧ zs.length = m then (F (.ref M2.length :: ((as ++ zs) ++ [])) (M2 ++ [.ins C []])).bnd (asN M2.length) else .bad := id rfl
/-! ### try .. except X: -/
end Pu
namespace Pu
open PySem PySem.Spec PyProof.Rows L2 LB
/-! #### by_stands -/
/-! #### not_above -/
/-! #### turned_low -/
/-! #### Search.__init__ -/
/-! #### Search.more -/
/-! #### Search.layer -/
/-! #### Search.since -/
end Pu
namespace Pu
open PySem PySem.Spec PyProof.Rows L2 LB
open Classical
variable {c : CA} {M M' M'' : PM} {b : Nat}
/-! ### moves turned back -/
theorem sIx_m1 (n d : Nat) : HT.sIx n d (some (-1)) = n - 1 := by
  unfold HT.sIx
  first
  | (simp; omega)
  | (simp only []; omega)
  | omega
theorem cut_last {α : Type} (w : List α) : cut w none (some (-1)) = w.dropLast := by
  unfold cut
  rw [sIx_m1, HT.sIx_none, List.drop_zero, Nat.sub_zero, List.dropLast_eq_take]
end Pu
namespace Pu
open PySem PySem.Spec PyProof.Rows L2 LB
/-! #### law: small -/
end Pu
namespace Pu
open PySem PySem.Spec PyProof.Rows L2 LB
open Classical
/-! ### a small lab -/
/-! ### turned back is least -/
end Pu
namespace Pu
open PySem PySem.Spec PyProof.Rows L2 LB
/-! #### law: leaks -/
end Pu
namespace Pu
open PySem PySem.Spec PyProof.Rows L2 LB
open Classical
variable {c : CA} {M M' M'' : PM} {b : Nat}
/-! ### all that leaks may leave -/
def LkP (ws : List (List Nat)) (i s : Nat) (q : List (List Nat)) : Prop := q.length = ws.length ∧ ∀ (j : Nat) (a w : List Nat), q[j]? = some a → ws[j]? = some w → (j < i → a.Sublist w) ∧ (j = i → ∃ t, a = w.take s ++ t ∧ t.Sublist (w.drop s)) ∧ (i < j → a = w)
theorem hasB_iff {ms rs : List Pr} {mv : List Mv} {ss ws : List (List Nat)} : hasB ms rs mv ss ws = true ↔ ss.length = ms.length ∧ ws.length = rs.length ∧ (∀ (i : Nat) (x : Pr) (s : List Nat), ms[i]? = some x → ss[i]? = some s → s ∈ stOf mv x) ∧ ∀ w ∈ ws, w.all low = true := by
  unfold hasB
  rw [Bool.and_eq_true, Bool.and_eq_true, Bool.and_eq_true, decide_eq_true_iff, decide_eq_true_iff, List.all_eq_true, List.all_eq_true]
  constructor
  · rintro ⟨⟨⟨h1, h2⟩, h3⟩, h4⟩
    refine ⟨h1, h2, fun i x s hx hs => ?_, h4⟩
    obtain ⟨g1, rfl⟩ := List.getElem?_eq_some_iff.mp hx
    obtain ⟨g2, rfl⟩ := List.getElem?_eq_some_iff.mp hs
    exact of_decide_eq_true (h3 (ms[i], ss[i]) (List.mem_iff_getElem.mpr ⟨i, by rw [List.length_zip]; omega, by rw [List.getElem_zip]⟩))
  · rintro ⟨h1, h2, h3, h4⟩
    refine ⟨⟨⟨h1, h2⟩, fun z hz => ?_⟩, h4⟩
    obtain ⟨i, hi, e⟩ := List.mem_iff_getElem.mp hz
    rw [List.length_zip] at hi
    rw [List.getElem_zip] at e
    rw [← e]
    exact decide_eq_true (h3 i _ _ (List.getElem?_eq_getElem (by omega)) (List.getElem?_eq_getElem (by omega)))
theorem ScW.words {ms rs : List Pr} {mv : List Mv} {ss ws zs : List (List Nat)} {top k : Nat} (h : ScW ms rs mv ss ws top) (lz : zs.length = ws.length) (hz : ∀ w ∈ zs, w.length ≤ k ∧ ∀ y ∈ w, 97 ≤ y ∧ y < 123) (hk : k < 1000) : ScW ms rs mv ss zs k := by
  obtain ⟨h1, h2, h3, h4⟩ := hasB_iff.mp h.g.has
  exact ⟨⟨hasB_iff.mpr ⟨h1, by rw [lz, h2], h3, fun w hw => by rw [List.all_eq_true]; exact fun y hy => low_of ((hz w hw).2 y hy)⟩, fun z hz' => by have := (hz z hz').1; omega⟩, h.nm, hz⟩
theorem ScW.lk {ms rs : List Pr} {mv : List Mv} {ss ws q : List (List Nat)} {top i s : Nat} (h : ScW ms rs mv ss ws top) (ht : top < 1000) (hq : LkP ws i s q) : ScW ms rs mv ss q top := by
  refine h.words hq.1 (fun w hw => ?_) ht
  obtain ⟨j, hj, rfl⟩ := List.mem_iff_getElem.mp hw
  have hj2 : j < ws.length := by rw [← hq.1]; exact hj
  have f := hq.2 j _ _ (List.getElem?_eq_getElem hj) (List.getElem?_eq_getElem hj2)
  have w2 := h.wd _ (List.getElem_mem hj2)
  have sub : (q[j]).Sublist ws[j] := by
    rcases Nat.lt_trichotomy j i with a | a | a
    · exact f.1 a
    · obtain ⟨t, e1, e2⟩ := f.2.1 a
      rw [e1]
      have := List.Sublist.append (List.Sublist.refl (ws[j].take s)) e2
      rwa [List.take_append_drop] at this
    · rw [f.2.2 a]; exact .refl _
  have := sub.length_le
  exact ⟨by omega, fun y hy => w2.2 y (sub.subset hy)⟩
end Pu
/-! zip of a list and a tuple -/
namespace LB
open PySem PySem.Spec PyProof.Rows L2
end LB
namespace Pu
open PySem PySem.Spec PyProof.Rows L2 LB
open Classical
end Pu
namespace Pu
open PySem PySem.Spec PyProof.Rows L2 LB
/-! #### Lab.begin -/
/-! #### first_scene -/
/-! #### after_deed -/
/-! #### play -/
/-! #### count -/
/-! #### law: leak_of -/
/-! #### law: after -/
/-! #### law: run_of -/
/-! #### law: bent_run -/
/-! #### law: played -/
end Pu
namespace Pu
open PySem PySem.Spec PyProof.Rows L2 LB
open Classical
variable {c : CA} {M M' M'' : PM} {b : Nat}
/-! ### deeds of runs -/
abbrev Sc := List (List Nat) × List (List Nat)
inductive Deed
  | mv (i : Int)
  | lk (n : List Nat) (i : Int)
def kMove : List Nat := [109, 111, 118, 101]
def kLeak : List Nat := [108, 101, 97, 107]
def Deed.pv : Deed → PV
  | .mv i => .tup [.str kMove, .int i]
  | .lk n i => .tup [.str kLeak, .str n, .int i]
/-! ### how far words grow -/
/-! ### a run, deed by deed -/
/-! ### play -/
/-! ### the law's own look -/
end Pu
/-! Scenes by their stands; above any; letters. -/
namespace Pu
open PySem PySem.Spec PyProof.Rows L2 LB
open Classical
variable {c : CA} {M M' M'' : PM}
abbrev scV (s : Sc) : PV := scP s.1 s.2
structure ScL (s : Sc) : Prop where
  w1 : Wds s.1
  w2 : Wds s.2
/-! ### groups -/
abbrev Gs := List (List (List Nat) × Nat)
def gsV (gs : Gs) : List (PV × PV) := gs.map fun g => (tS g.1, .ref g.2)
def ofSt (st : List (List Nat)) (ks : List Sc) : List Sc := ks.filter fun s => decide (s.1 = st)
structure Grp (N : PM) (B d : Nat) (gs : Gs) (ks : List Sc) : Prop where
  dct : N[d]? = some (.dtt (gsV gs))
  nd : (gs.map (·.1)).Nodup
  nr : (gs.map (·.2)).Nodup
  off : ∀ g ∈ gs, g.2 ≠ d ∧ B ≤ g.2
  lst : ∀ g ∈ gs, N[g.2]? = some (.lst ((ofSt g.1 ks).map scV))
  all : ∀ s ∈ ks, s.1 ∈ gs.map (·.1)
abbrev KF (M N : PM) : Prop := Kp (fun _ => False) M N
theorem Grp.nil {d B : Nat} (e : M[d]? = some (.dtt [])) : Grp M B d [] [] := ⟨e, List.nodup_nil, List.nodup_nil, fun g h => (List.not_mem_nil h).elim, fun g h => (List.not_mem_nil h).elim, fun g h => (List.not_mem_nil h).elim⟩
theorem Grp.kp {N N' : PM} {B d : Nat} {gs : Gs} {ks : List Sc} (G : Grp N B d gs ks) (k : KF N N') : Grp N' B d gs ks := ⟨k.at G.dct id, G.nd, G.nr, G.off, fun g h => k.at (G.lst g h) id, G.all⟩
end Pu
/-! Scenes by their stands; those above none. -/
namespace Pu
open PySem PySem.Spec PyProof.Rows L2 LB
open Classical
variable {c : CA} {M M' M'' : PM}
theorem KF.keep {N : PM} (k : KF M N) : keepOk M N := ⟨k.l, fun i hi => .inl (k.k i hi id)⟩
theorem KF.take {N : PM} (k : KF M N) : N.take M.length = M := by
  refine List.ext_getElem? fun i => ?_
  rcases Nat.lt_or_ge i M.length with h | h
  · rw [List.getElem?_take_of_lt h, k.k i h id]
  · rw [List.getElem?_eq_none (by simp; omega), List.getElem?_eq_none h]
/-- a new list of flat things -/
theorem gc_newL {N : PM} {k : Nat} {xs : List PV} (K : KF M N) (lk : M.length ≤ k) (e : N[k]? = some (.lst xs)) (w : PV.wfs M.length xs) : gc M (.ok (.ref k) N) = .ok (.ref M.length) (M ++ [.lst xs]) := by
  rw [gc_new K.keep lk e w, K.take]
theorem gc_old {N : PM} {p : PV} (K : KF M N) (w : p.wf M.length) : gc M (.ok p N) = .ok p M := by
  rw [gc_keep K.keep w, K.take]
end Pu
/-! Scenes sorted. -/
namespace Pu
open PySem PySem.Spec PyProof.Rows L2 LB
open Classical
/-! ### by their letters -/
/-! ### groups in a row -/
end Pu
/-! The least scenes, up to so many. -/
namespace Pu
open PySem PySem.Spec PyProof.Rows L2 LB
open Classical
end Pu
/-! Scenes of small words stay such, done and turned back. -/
namespace Pu
open PySem PySem.Spec PyProof.Rows L2 LB
open Classical
end Pu
/-! The order of scenes; the least ones; all that moves tell turned back. -/
namespace Pu
open PySem PySem.Spec PyProof.Rows L2 LB
open Classical
variable {c : CA} {M M' M'' : PM}
/-! ### the order -/
/-! ### turned back -/
abbrev ScT (ms rs : List Pr) (mv : List Mv) (top : Nat) (s : Sc) : Prop := ScW ms rs mv s.1 s.2 top
theorem ScT.l {ms rs : List Pr} {mv : List Mv} {top : Nat} {s : Sc} (h : ScT ms rs mv top s) (ht : top < 1000) : ScL s := ⟨h.wdsS, h.wdsW ht⟩
end Pu
/-! A search: its layers, made one by one. -/
namespace Pu
open PySem PySem.Spec PyProof.Rows L2 LB
open Classical
variable {c : CA} {M M' M'' : PM}
theorem atI_lastE {α : Type} {xs : List α} {n : Nat} (h : xs.length = n + 1) : atI xs (-1) = xs[n]? := by
  unfold atI ixN
  rw [h, if_neg (by decide), if_pos (by omega), Option.bind_some, show (-1 + ((n + 1 : Nat) : Int)).toNat = n by omega]
theorem pAddL_at {A B : List PV} {k j : Nat} (h : A.length + B.length ≤ lim) (e1 : M[k]? = some (.lst A)) (e2 : M[j]? = some (.lst B)) : pAddL (.ref k) (.ref j) M = .ok (.ref M.length) (M ++ [.lst (A ++ B)]) := by
  unfold pAddL
  simp only [lstAt_ref' M k _ e1, lstAt_ref' M j _ e2, h, if_true]
theorem gc_chg {N : PM} {p : PV} {i : Nat} {o : PO} (e : N[i]? = some o) (hi : i < M.length) (w : ¬ o.wf M.length) (h : M[i]? ≠ some o) : gc M (.ok p N) = .ok p N := by
  have nk : ¬ keepOk M N := fun z => by
    rcases z.2 i hi with z | ⟨o', z, w'⟩
    · exact h (z.symm.trans e)
    · rw [e] at z
      cases z
      exact w w'
  unfold gc
  simp only
  rw [if_neg fun z => nk z.1]
  split
  · split
    · rw [if_neg fun z => nk z.1]
    · rfl
  · rfl
abbrev seF (lab ly gi : Nat) (most : Int) : List (String × PV) := [("home", .ref lab), ("limit", .int most), ("layers", .ref ly), ("gained", .ref gi)]
structure SeaAt (c : CA) (M : PM) (x ly lab : Nat) (most : Int) (Ls : List (List Sc)) (gn : List Sc) : Prop where
  ex : ∃ (gi : Nat) (ks : List Nat), M[x]? = some (.ins c.Search (seF lab ly gi most)) ∧ M[ly]? = some (.lst (ks.map PV.ref)) ∧ ks.length = Ls.length ∧ M[gi]? = some (.lst (gn.map scV)) ∧ ∀ (j k : Nat) (L : List Sc), ks[j]? = some k → Ls[j]? = some L → M[k]? = some (.lst (L.map scV))
theorem SeaAt.kp {x ly lab : Nat} {most : Int} {Ls : List (List Sc)} {gn : List Sc} (h : SeaAt c M x ly lab most Ls gn) (k : KF M M') : SeaAt c M' x ly lab most Ls gn := by
  obtain ⟨gi, ks, h1, h2, h3, h4, h5⟩ := h.ex
  exact ⟨gi, ks, k.at h1 id, k.at h2 id, h3, k.at h4 id, fun j k' L a b => k.at (h5 j k' L a b) id⟩
theorem up1 {o : PO} {i : Nat} {z : PO} (h : M[i]? = some z) : (M ++ [o])[i]? = some z := by rw [List.getElem?_append_left (List.getElem?_eq_some_iff.mp h).1]; exact h
theorem at1 {o : PO} : (M ++ [o])[M.length]? = some o := List.getElem?_concat_length ..
end Pu
/-! Bodies: what stands within them. -/
namespace Pu
open PySem PySem.Spec PyProof.Rows L2 LB
variable {c : CA} {M M' M'' M1 : PM} {b : Nat}
def Bd.subs : Bd → List Bd
  | .again x => [x]
  | .two _ x y => [x, y]
  | _ => []
def Bd.word : Bd → List Nat
  | .skip => tSkip
  | .bare _ => tBare
  | .act t _ _ => if t then tTake else tSend
  | .again _ => tAgain
  | .two o _ _ => if o then tOr else tThen
def Bd.args : Bd → List PV
  | .skip => []
  | .bare r => [.str r]
  | .act _ r l => [.str r, .str [l]]
  | .again x => [x.pv]
  | .two _ x y => [x.pv, y.pv]
def Bd.comp : Bd → Bool
  | .again _ => true
  | .two _ _ _ => true
  | _ => false
theorem Bd.pv_eq (x : Bd) : x.pv = .tup (.str x.word :: x.args) := by cases x <;> rfl
theorem Bd.args_sub {x : Bd} (h : x.comp = true) : x.args = x.subs.map Bd.pv := by
  cases x <;> first | rfl | cases h
theorem Bd.no_sub {x : Bd} (h : x.comp = false) : x.subs = [] := by
  cases x <;> first | rfl | cases h
theorem Bd.parts_eq (x : Bd) : x.parts = x :: x.subs.flatMap Bd.parts := by
  cases x <;> simp [Bd.parts, Bd.subs]
theorem Bd.far_sub {x y : Bd} (h : y ∈ x.subs) : y.far < x.far := by
  cases x <;> simp [Bd.subs] at h
  · subst h; simp [Bd.far]
  · rcases h with rfl | rfl <;> simp [Bd.far] <;> omega
theorem BdOk.sub {rows : List (List Nat)} {cs : List Nat} {x y : Bd} (hx : BdOk rows cs x) (h : y ∈ x.subs) : BdOk rows cs y := by
  cases x <;> simp [Bd.subs] at h
  · subst h; exact hx
  · rcases h with rfl | rfl
    · exact hx.1
    · exact hx.2
theorem Bd.len_subs (x : Bd) : x.subs.length ≤ 2 := by cases x <;> simp [Bd.subs]
theorem Bd.len_args (x : Bd) : x.args.length ≤ 2 := by cases x <;> simp [Bd.args]
theorem ix_pv (x : Bd) : pIxT x.pv (.int 0) M = .ok (.str x.word) M := by rw [x.pv_eq]; exact ixT0
theorem sl_pv (x : Bd) : pSlT x.pv (some 1) none M = .ok (.tup x.args) M := by
  rw [x.pv_eq, pSlT_tup]
  have := cut_drop (PV.str x.word :: x.args) 1
  rw [show ((1 : Nat) : Int) = 1 from rfl] at this
  rw [this]
  rfl
theorem ln_pv (x : Bd) : bLen [x.pv] M = .ok (.int ((x.args.length + 1 : Nat) : Int)) M := by rw [x.pv_eq, bLen_tup]; rfl
theorem mem_word (x : Bd) : decide (x.word ∈ [tThen, tOr, tAgain]) = x.comp := by
  cases x with
  | skip => decide
  | bare r => show decide (tBare ∈ [tThen, tOr, tAgain]) = false; decide
  | act t r l => cases t <;> (show decide (_ ∈ [tThen, tOr, tAgain]) = false) <;> simp [Bd.word]
  | again x => show decide (tAgain ∈ [tThen, tOr, tAgain]) = true; decide
  | two o x y => cases o <;> (show decide (_ ∈ [tThen, tOr, tAgain]) = true) <;> simp [Bd.word]
theorem in_pv (x : Bd) : pIn false (.str x.word) (.tup [.str tThen, .str tOr, .str tAgain]) M = .ok (.bl x.comp) M := by
  have := pIn_str (neg := false) (x := x.word) (l := [tThen, tOr, tAgain]) (M := M)
  rw [← mem_word x]
  exact this
theorem F_inner_eq (x : Bd) : F_inner c [x.pv] M = .ok (.ref M.length) (M ++ [.lst (x.subs.map Bd.pv)]) := by
  have l3 : (3 : Nat) ≤ lim := by decide
  have l0 : (0 : Nat) ≤ lim := Nat.zero_le _
  rw [R_inner]
  unfold B_inner
  simp only [ev_fRet, ev_fIf, ev_fTest, ev_fOp, ev_fVar0, ev_fVarS, bnd_ok, ev_fC, ix_pv, ev_fTup, ev_fCons, ev_fNil, List.length_cons, List.length_nil, Nat.zero_add, Nat.reduceAdd, l3, if_true, in_pv, asB_bl]
  cases h : x.comp with
  | true =>
    have bl : bLst [.tup x.args] M = .ok (.ref M.length) (M ++ [.lst x.args]) := by unfold bLst seqAt; rfl
    simp only [if_true, ev_fB, ev_fCons, ev_fSl, ev_fVar0, bnd_ok, ev_fPart, ev_fC, asI_int, ev_fNoPart, sl_pv, ev_fNil, bl, go_ok, fnRes_rt, x.args_sub h]
    refine gc_newL .app (Nat.le_refl _) (List.getElem?_concat_length ..) (wfs_iff.mpr fun p hp => ?_)
    obtain ⟨y, _, rfl⟩ := List.mem_map.mp hp
    exact y.wf
  | false =>
    simp only [Bool.false_eq_true, if_false, ev_fLst, ev_fNil, List.length_nil, l0, if_true, bnd_ok, go_ok, fnRes_rt, x.no_sub h, List.map_nil]
    exact gc_newL .app (Nat.le_refl _) (List.getElem?_concat_length ..) (wfs_iff.mpr fun p hp => by cases hp)
theorem pvs_wf {n : Nat} (xs : List Bd) : PV.wfs n (xs.map Bd.pv) := wfs_iff.mpr fun p hp => by
  obtain ⟨y, _, rfl⟩ := List.mem_map.mp hp
  exact y.wf
theorem Bd.len_parts : ∀ x : Bd, x.parts.length < 2 ^ x.far
  | .skip => by decide
  | .bare _ => by simp [Bd.parts, Bd.far]
  | .act _ _ _ => by simp [Bd.parts, Bd.far]
  | .again x => by
    have := Bd.len_parts x
    simp only [Bd.parts, Bd.far, List.length_cons]
    rw [Nat.add_comm 1, Nat.pow_succ]
    omega
  | .two o x y => by
    have h1 := Bd.len_parts x
    have h2 := Bd.len_parts y
    have m1 := Nat.pow_le_pow_right (n := 2) (by decide) (Nat.le_max_left x.far y.far)
    have m2 := Nat.pow_le_pow_right (n := 2) (by decide) (Nat.le_max_right x.far y.far)
    simp only [Bd.parts, Bd.far, List.length_cons, List.length_append]
    rw [Nat.add_comm 1, Nat.pow_succ]
    omega
theorem F_all_in_eq : ∀ (n : Nat) (x : Bd) (M : PM), x.far ≤ n → n ≤ 12 → F_all_in c n [x.pv] M = .ok (.ref M.length) (M ++ [.lst (x.parts.map Bd.pv)])
  | 0, x, M, h, _ => absurd x.far_pos (by omega)
  | n + 1, x, M, h, hn => by
    have l1 : (1 : Nat) ≤ lim := by decide
    have lp := x.len_parts
    have p13 := Nat.pow_le_pow_right (n := 2) (by decide) (show x.far ≤ 13 by omega)
    have up0 : ∀ {N : PM} {k : Nat} {o : PO} (ex : PM), N[k]? = some o → (N ++ ex)[k]? = some o := fun ex h => by rw [List.getElem?_append_left (List.getElem?_eq_some_iff.mp h).1]; exact h
    have go : Goes (fFor (fI itL (fCall (F_inner c) [] (fCons (fVar 0) fNil))) (gNm 2) (fAsg (fOp pAddL (fVar 1) (fCall (F_all_in c n) [] (fCons (fVar 2) fNil))) (gNm 1)))
        [some x.pv, some (.ref M.length), none] (M ++ [.lst [x.pv]]) (fun σ N => ∃ (k : Nat) (ex : PM) (y2 : Option PV), σ = [some x.pv, some (.ref k), y2] ∧ N = M ++ ex ∧ M.length ≤ k ∧ N[k]? = some (.lst (x.parts.map Bd.pv))) := by
      refine goes_for (zs := x.subs) (e := Bd.pv) (ok := fun M' : PM => M'[(M ++ [PO.lst [x.pv]]).length]? = some (.lst (x.subs.map Bd.pv)))
        (fun i σ N => ∃ (k : Nat) (ex : PM) (y2 : Option PV), σ = [some x.pv, some (.ref k), y2] ∧ N = M ++ [.lst [x.pv]] ++ [.lst (x.subs.map Bd.pv)] ++ ex ∧ M.length ≤ k ∧ N[k]? = some (.lst ((x :: (x.subs.take i).flatMap Bd.parts).map Bd.pv)))
        (M1 := M ++ [.lst [x.pv]] ++ [.lst (x.subs.map Bd.pv)]) ?_ ⟨M.length, [], _, rfl, by simp, Nat.le_refl _, up0 _ (List.getElem?_concat_length ..)⟩ (fun i σ N hI => ?_) (fun i y σ N hi hI => ?_) (fun σ N hI => ?_)
      · have e1 : (M ++ [PO.lst [x.pv]] ++ [PO.lst (x.subs.map Bd.pv)])[(M ++ [PO.lst [x.pv]]).length]? = some (.lst (x.subs.map Bd.pv)) := List.getElem?_concat_length ..
        simp only [ev_fI, ev_fCall, ev_fCons, ev_fVar0, bnd_ok, ev_fNil, List.append_nil, F_inner_eq, itL_at e1]
      · obtain ⟨k, ex, y2, _, rfl, _⟩ := hI
        exact up0 ex (List.getElem?_concat_length ..)
      · obtain ⟨k, ex, y2, rfl, rfl, lk, ek⟩ := hI
        obtain ⟨hi', rfl⟩ := List.getElem?_eq_some_iff.mp hi
        have hm := List.getElem_mem hi'
        have ih := F_all_in_eq n x.subs[i] (M ++ [.lst [x.pv]] ++ [.lst (x.subs.map Bd.pv)] ++ ex) (by have := Bd.far_sub hm; omega) (by omega)
        have tk : (x.subs.take (i + 1)).flatMap Bd.parts = (x.subs.take i).flatMap Bd.parts ++ x.subs[i].parts := by
          rw [List.take_succ_eq_append_getElem hi', List.flatMap_append]
          simp
        have le : ((x.subs.take (i + 1)).flatMap Bd.parts).length ≤ (x.subs.flatMap Bd.parts).length := by
          have := List.take_append_drop (i + 1) x.subs
          have h2 : (x.subs.flatMap Bd.parts).length = ((x.subs.take (i + 1)).flatMap Bd.parts).length + ((x.subs.drop (i + 1)).flatMap Bd.parts).length := by
            rw [← List.length_append, ← List.flatMap_append, this]
          omega
        have lpe : x.parts.length = 1 + (x.subs.flatMap Bd.parts).length := by rw [x.parts_eq]; simp; omega
        rw [tk, List.length_append] at le
        generalize hN : M ++ [PO.lst [x.pv]] ++ [PO.lst (x.subs.map Bd.pv)] ++ ex = N at ih ek
        have ad := pAddL_at (M := N ++ [PO.lst (x.subs[i].parts.map Bd.pv)]) (A := (x :: (x.subs.take i).flatMap Bd.parts).map Bd.pv) (B := x.subs[i].parts.map Bd.pv) (k := k) (j := N.length) (by simp only [List.length_map, List.length_cons]; unfold lim; omega) (up0 _ ek) (List.getElem?_concat_length ..)
        refine ⟨_, rfl, goes_asg (p := .ref (N ++ [PO.lst (x.subs[i].parts.map Bd.pv)]).length) (M1 := N ++ [PO.lst (x.subs[i].parts.map Bd.pv)] ++ [PO.lst ((x :: (x.subs.take i).flatMap Bd.parts).map Bd.pv ++ x.subs[i].parts.map Bd.pv)]) (by simp only [ev_fOp, ev_fVar0, ev_fVarS, List.set_cons_succ, List.set_cons_zero, bnd_ok, ev_fCall, ev_fCons, ev_fNil, List.append_nil, ih, ad]) rfl ?_⟩
        refine ⟨_, ex ++ [PO.lst (x.subs[i].parts.map Bd.pv)] ++ [PO.lst ((x :: (x.subs.take i).flatMap Bd.parts).map Bd.pv ++ x.subs[i].parts.map Bd.pv)], _, rfl, by rw [← hN]; simp only [List.append_assoc], ?_, ?_⟩
        · rw [← hN]
          simp only [List.length_append]
          omega
        · rw [tk, List.getElem?_concat_length]
          simp [List.map_append]
      · obtain ⟨k, ex, y2, rfl, rfl, lk, ek⟩ := hI
        rw [List.take_length, ← x.parts_eq] at ek
        exact ⟨k, [.lst [x.pv]] ++ [PO.lst (x.subs.map Bd.pv)] ++ ex, y2, rfl, by simp only [List.append_assoc], lk, ek⟩
    obtain ⟨σ, N, eg, k, ex, y2, rfl, rfl, lk, ek⟩ := go
    rw [R_all_in]
    unfold B_all_in
    simp only [ev_fSeq, ev_fAsg, ev_fLst, ev_fCons, ev_fVar0, ev_fNil, bnd_ok, List.length_cons, List.length_nil, Nat.zero_add, l1, if_true, go_ok, ev_gNm, toSt_some, List.set_cons_succ, List.set_cons_zero, then2_nx, eg, ev_fRet, ev_fVarS, fnRes_rt]
    exact gc_newL .app lk ek (pvs_wf _)
def Bd.subFar (x : Bd) : Nat := (x.subs.map Bd.far).foldr max 0
theorem Bd.far_eq (x : Bd) : x.far = 1 + x.subFar := by
  cases x <;> simp [Bd.far, Bd.subFar, Bd.subs]
theorem maxI_zero : ∀ l : List Nat, maxI (l.map (fun n : Nat => (n : Int)) ++ [0]) = ((l.foldr max 0 : Nat) : Int)
  | [] => rfl
  | [a] => by
    show max (a : Int) 0 = ((max a 0 : Nat) : Int)
    omega
  | a :: b :: l => by
    have ih := maxI_zero (b :: l)
    have e : maxI ((a :: b :: l).map (fun n : Nat => (n : Int)) ++ [0]) = max (a : Int) (maxI ((b :: l).map (fun n : Nat => (n : Int)) ++ [0])) := rfl
    rw [e, ih]
    show max (a : Int) ((List.foldr max 0 (b :: l) : Nat) : Int) = ((max a (List.foldr max 0 (b :: l)) : Nat) : Int)
    generalize List.foldr max 0 (b :: l) = q
    omega
theorem F_far_in_eq : ∀ (n : Nat) (x : Bd) (M : PM), x.far ≤ n → n ≤ 12 → F_far_in c n [x.pv] M = .ok (.int (x.far : Nat)) M
  | 0, x, M, h, _ => absurd x.far_pos (by omega)
  | n + 1, x, M, h, hn => by
    have l1 : (1 : Nat) ≤ lim := by decide
    have up0 : ∀ {N : PM} {k : Nat} {o : PO} (ex : PM), N[k]? = some o → (N ++ ex)[k]? = some o := fun ex h => by rw [List.getElem?_append_left (List.getElem?_eq_some_iff.mp h).1]; exact h
    rw [R_far_in]
    unfold B_far_in
    have ls := x.len_subs
    have e1 : (M ++ [PO.lst (x.subs.map Bd.pv)])[M.length]? = some (.lst (x.subs.map Bd.pv)) := List.getElem?_concat_length ..
    have lc := lc_mapE (ok := fun M' : PM => M'[M.length]? = some (.lst (x.subs.map Bd.pv))) (g := gNm 1) (ft := fYes) (fe := fCallN (F_far_in c n) [] (fCons (fVar 1) fNil)) (σ := [some x.pv, none]) (e := Bd.pv) (zs := x.subs) (M ++ [PO.lst (x.subs.map Bd.pv)]) (fun y : Bd => PV.int (y.far : Nat)) rfl rfl (fun acc => up0 _ e1) (by unfold lim; omega) (fun y hy => by
      refine ⟨_, rfl, fun acc => ⟨rfl, ?_⟩⟩
      have ih := F_far_in_eq n y (M ++ [PO.lst (x.subs.map Bd.pv)] ++ [.lst acc]) (by have := Bd.far_sub hy; omega) (by omega)
      simp only [ev_fCallN, ev_fCons, ev_fVar0, ev_fVarS, List.set_cons_succ, List.set_cons_zero, bnd_ok, ev_fNil, List.append_nil, ih, nox_ok])
    have hw : wipeP [some x.pv, none] [1] = [some x.pv, none] := rfl
    generalize hN : M ++ [PO.lst (x.subs.map Bd.pv)] = N at lc e1
    have ad := pAddL_at (M := N ++ [PO.lst (x.subs.map fun y : Bd => PV.int (y.far : Nat))] ++ [PO.lst [PV.int 0]]) (A := x.subs.map fun y : Bd => PV.int (y.far : Nat)) (B := [PV.int 0]) (k := N.length) (j := (N ++ [PO.lst (x.subs.map fun y : Bd => PV.int (y.far : Nat))]).length) (by simp only [List.length_map, List.length_cons, List.length_nil]; unfold lim; omega) (up0 _ (List.getElem?_concat_length ..)) (List.getElem?_concat_length ..)
    have mx : bMaxL [.ref (N ++ [PO.lst (x.subs.map fun y : Bd => PV.int (y.far : Nat))] ++ [PO.lst [PV.int 0]]).length] (N ++ [PO.lst (x.subs.map fun y : Bd => PV.int (y.far : Nat))] ++ [PO.lst [PV.int 0]] ++ [PO.lst ((x.subs.map fun y : Bd => PV.int (y.far : Nat)) ++ [PV.int 0])]) = .ok (.int (x.subFar : Nat)) (N ++ [PO.lst (x.subs.map fun y : Bd => PV.int (y.far : Nat))] ++ [PO.lst [PV.int 0]] ++ [PO.lst ((x.subs.map fun y : Bd => PV.int (y.far : Nat)) ++ [PV.int 0])]) := by
      have hl : (x.subs.map fun y : Bd => PV.int (y.far : Nat)) ++ [PV.int 0] = ((x.subs.map Bd.far).map (fun n : Nat => (n : Int)) ++ [0]).map PV.int := by
        rw [List.map_append, List.map_map, List.map_map]
        rfl
      unfold bMaxL
      simp only [lstAt_ref' _ _ _ (List.getElem?_concat_length ..), hl, Option.bind_some, asInts_map]
      rw [if_pos (by simp), maxI_zero]
      rfl
    simp only [ev_fRet, ev_fOp, ev_fC, bnd_ok, ev_fB, ev_fCons, ev_fLc, ev_fI, ev_fCall, ev_fVar0, ev_fNil, List.append_nil, F_inner_eq, hN, itL_at e1, hw, lc, ev_fLst, List.length_cons, List.length_nil, Nat.zero_add, l1, if_true, ad, mx, pI0_int, go_ok, fnRes_rt]
    rw [x.far_eq, ← hN]
    simp only [List.append_assoc]
    rw [gc_old .app (by simp)]
    simp
end Pu
/-! Bodies: what the program says of them. -/
namespace Pu
open PySem PySem.Spec PyProof.Rows L2 LB
variable {c : CA} {M M' M'' M1 : PM} {b : Nat}
/-- rows are names, letters are letters -/
def BdG : Bd → Prop
  | .skip => True
  | .bare r => isNm r
  | .act _ r l => isNm r ∧ 97 ≤ l ∧ l < 123
  | .again x => BdG x
  | .two _ x y => BdG x ∧ BdG y
theorem BdOk.good {rows : List (List Nat)} {cs : List Nat} (hr : ∀ r ∈ rows, isNm r) (hc : ∀ l ∈ cs, 97 ≤ l ∧ l < 123) : ∀ {x : Bd}, BdOk rows cs x → BdG x
  | .skip, _ => trivial
  | .bare r, h => hr r h
  | .act _ r l, h => ⟨hr r h.1, hc l h.2⟩
  | .again x, h => BdOk.good hr hc (x := x) h
  | .two _ x y, h => ⟨BdOk.good hr hc (x := x) h.1, BdOk.good hr hc (x := y) h.2⟩
theorem BdG.sub {x y : Bd} (hx : BdG x) (h : y ∈ x.subs) : BdG y := by
  cases x <;> simp [Bd.subs] at h
  · subst h; exact hx
  · rcases h with rfl | rfl
    · exact hx.1
    · exact hx.2
abbrev inn : List (List Nat × Int) := [([116, 104, 101, 110], 2), ([111, 114], 2), ([97, 103, 97, 105, 110], 1)]
theorem lookup_word (x : Bd) : inn.lookup x.word = if x.comp = true then some ((x.subs.length : Nat) : Int) else none := by
  cases x with
  | skip => rfl
  | bare r => rfl
  | act t r l => cases t <;> rfl
  | again x => rfl
  | two o x y => cases o <;> rfl
theorem kin_word {f : FE} {σ : PS} {neg : Bool} (x : Bd) (h : f σ M = .ok (.str x.word) M) : fKIn neg inn f σ M = .ok (.bl (neg ^^ x.comp)) M := by
  rw [ev_fKIn, h]
  simp only [bnd_ok, lookup_word]
  cases x.comp <;> rfl
theorem F_p_inner_eq (x : Bd) : F_p_inner c [x.pv] M = .ok (.tup (x.subs.map Bd.pv)) M := by
  have l0 : (0 : Nat) ≤ lim := Nat.zero_le _
  have e0 : (fOp pIxT (fVar 0) (fC (.int 0))) [some x.pv] M = .ok (.str x.word) M := by simp only [ev_fOp, ev_fVar0, bnd_ok, ev_fC, ix_pv]
  rw [R_p_inner]
  unfold B_p_inner
  simp only [ev_fRet, ev_fIf, ev_fTest, kin_word x e0, bnd_ok, asB_bl]
  cases h : x.comp with
  | true =>
    simp only [Bool.false_bne, Bool.xor_true, Bool.not_false, if_true, ev_fSl, ev_fVar0, bnd_ok, ev_fPart, ev_fC, asI_int, ev_fNoPart, sl_pv, go_ok, fnRes_rt, x.args_sub h]
    have := gc_flat (M := M) (ex := []) (p := .tup (x.subs.map Bd.pv)) (by rw [wf_tup]; exact pvs_wf _)
    rw [List.append_nil] at this
    simpa using this
  | false =>
    simp only [Bool.false_bne, ev_fTup, ev_fNil, bnd_ok, List.length_nil, l0, if_true, Bool.false_eq_true, if_false, go_ok, fnRes_rt, x.no_sub h, List.map_nil]
    have := gc_flat (M := M) (ex := []) (p := .tup []) (by simp)
    rw [List.append_nil] at this
    simpa using this
theorem gcN {p : PV} (h : p.wf M.length) : gc M (.ok p M) = .ok p M := by
  have := gc_flat (M := M) (ex := []) (p := p) h
  rw [List.append_nil] at this
  exact this
theorem Bd.dat : ∀ (n : Nat) {x : Bd}, BdG x → x.far ≤ n → Dat (n + 1) x.pv
  | n, .skip, _, _ => by
    unfold Bd.pv
    rw [dat_tup]
    intro y hy
    rw [List.mem_singleton.mp hy, dat_str]
    intro z hz
    simp at hz
    omega
  | n, .bare r, g, _ => by
    unfold Bd.pv
    rw [dat_tup]
    intro y hy
    simp only [List.mem_cons, List.not_mem_nil, or_false] at hy
    rcases hy with rfl | rfl
    · rw [dat_str]
      intro z hz
      simp at hz
      omega
    · rw [dat_str]
      exact isNm_asc g
  | n, .act t r l, g, _ => by
    unfold Bd.pv
    rw [dat_tup]
    intro y hy
    simp only [List.mem_cons, List.not_mem_nil, or_false] at hy
    rcases hy with rfl | rfl | rfl
    · rw [dat_str]
      intro z hz
      cases t <;> simp at hz <;> omega
    · rw [dat_str]
      exact isNm_asc g.1
    · rw [dat_str]
      intro z hz
      have := g.2
      rw [List.mem_singleton.mp hz]
      omega
  | n, .again x, g, h => by
    unfold Bd.far at h
    obtain ⟨m, rfl⟩ : ∃ m, n = m + 1 := ⟨n - 1, by omega⟩
    unfold Bd.pv
    rw [dat_tup]
    intro y hy
    simp only [List.mem_cons, List.not_mem_nil, or_false] at hy
    rcases hy with rfl | rfl
    · rw [dat_str]
      intro z hz
      simp at hz
      omega
    · exact Bd.dat m g (by omega)
  | n, .two o x y, g, h => by
    unfold Bd.far at h
    obtain ⟨m, rfl⟩ : ∃ m, n = m + 1 := ⟨n - 1, by omega⟩
    unfold Bd.pv
    rw [dat_tup]
    intro z hz
    simp only [List.mem_cons, List.not_mem_nil, or_false] at hz
    rcases hz with rfl | rfl | rfl
    · rw [dat_str]
      intro z hz
      cases o <;> simp at hz <;> omega
    · exact Bd.dat m g.1 (by omega)
    · exact Bd.dat m g.2 (by omega)
theorem Dat.mono : ∀ {n m : Nat} {p : PV}, Dat n p → n ≤ m → Dat m p
  | _, _, .non, _, _ => by unfold Dat; trivial
  | _, _, .int _, _, _ => by unfold Dat; trivial
  | _, _, .str s, h, _ => by rw [dat_str] at h ⊢; exact h
  | 0, _, .tup xs, h, _ => by unfold Dat at h; exact h.elim
  | n + 1, m, .tup xs, h, hm => by
    obtain ⟨k, rfl⟩ : ∃ k, m = k + 1 := ⟨m - 1, by omega⟩
    rw [dat_tup] at h ⊢
    exact fun x hx => Dat.mono (h x hx) (by omega)
  | _, _, .bl _, h, _ => by unfold Dat at h; exact h.elim
  | _, _, .ty _, h, _ => by unfold Dat at h; exact h.elim
  | _, _, .adr _, h, _ => by unfold Dat at h; exact h.elim
  | _, _, .ref _, h, _ => by unfold Dat at h; exact h.elim
  | _, _, .tpb _, h, _ => by unfold Dat at h; exact h.elim
theorem Bd.dat60 {x : Bd} (g : BdG x) (h : x.far ≤ 50) : Dat 60 x.pv := (Bd.dat _ g (Nat.le_refl _)).mono (by omega)
theorem dat_skip : Dat 60 (.tup [.str tSkip]) := Bd.dat60 (x := .skip) trivial (by decide)
def Bd.isSkip : Bd → Bool
  | .skip => true
  | _ => false
theorem Bd.eq_skip (x : Bd) : x.pv = .tup [.str tSkip] ↔ x.isSkip = true := by
  cases x <;> simp [Bd.pv, Bd.isSkip] <;> (intro h; split at h <;> simp at h)
open Classical in
theorem eqd_skip {x : Bd} (g : BdG x) (h : x.far ≤ 50) : pEqD x.pv (.tup [.str tSkip]) M = .ok (.bl x.isSkip) M := by
  rw [pEqD_dat (Bd.dat60 g h) dat_skip]
  congr 2
  have := x.eq_skip
  cases e : x.isSkip with
  | true => exact decide_eq_true (this.mpr e)
  | false => exact decide_eq_false fun z => by rw [this.mp z] at e; cases e
/-! ### the program's own looks -/
theorem all_strs {ss : List (List Nat)} (hl : ss.length ≤ 9) : (fNot (fTest (fGc (fB bAll (fCons (fLc (fI itT (fVar 0)) (gNm 1) fYes (fB bIsi (fCons (fVar 1) (fCons (fC (.ty "str")) fNil))) [1]) fNil))))) [some (.tup (ss.map PV.str)), none] M = .ok false M := by
  have lc := lc_mapE (ok := fun _ : PM => True) (g := gNm 1) (ft := fYes) (fe := fB bIsi (fCons (fVar 1) (fCons (fC (.ty "str")) fNil))) (σ := [some (.tup (ss.map PV.str)), none]) (e := PV.str) (d := M.length) (N := M ++ [.lst []]) (zs := ss)
    M (fun _ => PV.bl true) rfl rfl (fun acc => trivial) (by unfold lim; omega) (fun z hz => ⟨_, rfl, fun acc => ⟨rfl, rfl⟩⟩)
  have hwp : wipeP [some (.tup (ss.map PV.str)), none] [1] = [some (PV.tup (ss.map PV.str)), none] := rfl
  have ba : bAll [.ref M.length] (M ++ [PO.lst (ss.map fun _ => PV.bl true)]) = _ := bAll_atF M [] (fun _ => true) ss
  simp only [ev_fNot, ev_fTest, ev_fGc, ev_fB, ev_fCons, ev_fLc, ev_fI, ev_fVar0, bnd_ok, itT_tup, hwp, lc, ev_fNil, ba]
  rw [gc_old .app (by simp)]
  simp
theorem F_p_is_single_eq {x : Bd} (h : x.comp = false) (g : BdG x) : F_p_is_single c [x.pv] M = .ok (.bl true) M := by
  have l1 : (1 : Nat) ≤ lim := by decide
  rw [R_p_is_single]
  unfold B_p_is_single
  cases x with
  | again x => cases h
  | two o x y => cases h
  | skip =>
    have a := all_strs (M := M) (ss := [tSkip]) (by decide)
    have a : (fNot (fTest (fGc (fB bAll (fCons (fLc (fI itT (fVar 0)) (gNm 1) fYes (fB bIsi (fCons (fVar 1) (fCons (fC (.ty "str")) fNil))) [1]) fNil))))) [some Bd.skip.pv, none] M = .ok false M := a
    have e := eqd_skip (M := M) (x := .skip) trivial (by decide)
    have e : pEqD Bd.skip.pv (.tup [.str tSkip]) M = .ok (.bl true) M := e
    simp only [ev_fSeq, ev_fIfS, a, go_ok, Bool.false_eq_true, if_false, ev_fNext, then2_nx, ev_fTest, ev_fOp, ev_fVar0, bnd_ok, ev_fTup, ev_fCons, ev_fC, ev_fNil, List.length_cons, List.length_nil, Nat.zero_add, if_pos l1, e, asB_bl, if_true, ev_fRet, then2_rt, fnRes_rt]
    exact gcN (by simp)
  | bare r =>
    have a := all_strs (M := M) (ss := [tBare, r]) (by simp)
    have a : (fNot (fTest (fGc (fB bAll (fCons (fLc (fI itT (fVar 0)) (gNm 1) fYes (fB bIsi (fCons (fVar 1) (fCons (fC (.ty "str")) fNil))) [1]) fNil))))) [some (Bd.bare r).pv, none] M = .ok false M := a
    have e := eqd_skip (M := M) (x := .bare r) g (by simp [Bd.far])
    have e : pEqD (Bd.bare r).pv (.tup [.str tSkip]) M = .ok (.bl false) M := e
    have i0 : pIxT (Bd.bare r).pv (.int 0) M = .ok (.str tBare) M := ixT0
    have i1 : pIxT (Bd.bare r).pv (.int 1) M = .ok (.str r) M := ixT1
    have bl : bLen [(Bd.bare r).pv] M = .ok (.int 2) M := rfl
    have nm := F_is_name_eq (c := c) (M := M) (nm_lim g)
    rw [isNam_of g] at nm
    have d1 : decide (tBare = tBare) = true := rfl
    simp only [ev_fSeq, ev_fIfS, a, go_ok, Bool.false_eq_true, if_false, ev_fNext, then2_nx, ev_fTest, ev_fOp, ev_fVar0, bnd_ok, ev_fTup, ev_fCons, ev_fC, ev_fNil, List.length_cons, List.length_nil, Nat.zero_add, if_pos l1, e, asB_bl, i0, pEq_str, d1, if_true, ev_fRet, ev_fAndV, ev_fB, bl, pEq_int, decide_true, ev_fCall, i1, List.append_nil, nm, then2_rt, fnRes_rt]
    exact gcN (by simp)
  | act t r l =>
    have a := all_strs (M := M) (ss := [if t then tTake else tSend, r, [l]]) (by simp)
    have a : (fNot (fTest (fGc (fB bAll (fCons (fLc (fI itT (fVar 0)) (gNm 1) fYes (fB bIsi (fCons (fVar 1) (fCons (fC (.ty "str")) fNil))) [1]) fNil))))) [some (Bd.act t r l).pv, none] M = .ok false M := a
    have e := eqd_skip (M := M) (x := .act t r l) g (by simp [Bd.far])
    have e : pEqD (Bd.act t r l).pv (.tup [.str tSkip]) M = .ok (.bl false) M := e
    have i0 : pIxT (Bd.act t r l).pv (.int 0) M = .ok (.str (if t then tTake else tSend)) M := ixT0
    have i1 : pIxT (Bd.act t r l).pv (.int 1) M = .ok (.str r) M := ixT1
    have i2 : pIxT (Bd.act t r l).pv (.int 2) M = .ok (.str [l]) M := rfl
    have bl : bLen [(Bd.act t r l).pv] M = .ok (.int 3) M := rfl
    have nm := F_is_name_eq (c := c) (M := M) (nm_lim g.1)
    rw [isNam_of g.1] at nm
    have lt := F_is_letter_eq (c := c) (M := M) (s := [l]) (by simp [lim])
    have lt : F_p_is_letter c [.str [l]] M = .ok (.bl true) M := by
      rw [lt]
      have := g.2
      simp [low]
      omega
    have d1 : decide ((if t = true then tTake else tSend) = tBare) = false := by cases t <;> decide
    have d2 : (fOr (fTest (fOp pEq (fOp pIxT (fVar 0) (fC (.int 0))) (fC (.str [115, 101, 110, 100])))) (fTest (fOp pEq (fOp pIxT (fVar 0) (fC (.int 0))) (fC (.str [116, 97, 107, 101]))))) [some (Bd.act t r l).pv, none] M = .ok true M := by
      have q1 : decide ((if t = true then tTake else tSend) = tSend) = !t := by cases t <;> decide
      have q2 : decide ((if t = true then tTake else tSend) = tTake) = t := by cases t <;> decide
      simp only [ev_fOr, ev_fTest, ev_fOp, ev_fVar0, bnd_ok, ev_fC, i0, pEq_str, q1, q2, asB_bl]
      cases t <;> rfl
    simp only [ev_fSeq, ev_fIfS, a, go_ok, Bool.false_eq_true, if_false, ev_fNext, then2_nx, ev_fTest, ev_fOp, ev_fVar0, bnd_ok, ev_fTup, ev_fCons, ev_fC, ev_fNil, List.length_cons, List.length_nil, Nat.zero_add, if_pos l1, e, asB_bl, i0, pEq_str, d1, d2, if_true, ev_fRet, ev_fAndV, ev_fB, bl, pEq_int, decide_true, ev_fCall, i1, i2, List.append_nil, nm, lt, then2_rt, fnRes_rt]
    exact gcN (by simp)
theorem ln_comp (x : Bd) (h : x.comp = true) : x.args.length = x.subs.length := by rw [x.args_sub h, List.length_map]
theorem F_p_is_built_eq : ∀ (n : Nat) {x : Bd} {lv : Nat} {M : PM}, BdG x → x.far ≤ n → x.far ≤ lv → lv ≤ 50 → F_p_is_built c n [x.pv, .int (lv : Nat)] M = .ok (.bl true) M
  | 0, x, _, _, _, h, _, _ => absurd x.far_pos (by omega)
  | n + 1, x, lv, M, g, hn, hl, h50 => by
    rw [R_p_is_built]
    unfold B_p_is_built
    have fp := x.far_pos
    have ty : bIsi [x.pv, .ty "tuple"] M = .ok (.bl true) M := by rw [x.pv_eq]; rfl
    have ln := ln_pv (M := M) x
    have n0 : decide (((x.args.length + 1 : Nat) : Int) = 0) = false := decide_eq_false (by omega)
    have n1 : decide (((lv : Nat) : Int) = 0) = false := decide_eq_false (by omega)
    have t1 : (fOr (fNot (fTest (fB bIsi (fCons (fVar 0) (fCons (fC (.ty "tuple")) fNil))))) (fOr (fTest (fOp pEq (fB bLen (fCons (fVar 0) fNil)) (fC (.int 0)))) (fTest (fOp pEq (fVar 1) (fC (.int 0)))))) [some x.pv, some (.int (lv : Nat)), none] M = .ok false M := by
      simp only [ev_fOr, ev_fNot, ev_fTest, ev_fB, ev_fCons, ev_fVar0, ev_fVarS, ev_fC, ev_fNil, bnd_ok, ty, asB_bl, Bool.not_true, Bool.false_eq_true, if_false, ev_fOp, ln, pEq_int, n0, n1]
    have e0 : (fOp pIxT (fVar 0) (fC (.int 0))) [some x.pv, some (.int (lv : Nat)), none] M = .ok (.str x.word) M := by simp only [ev_fOp, ev_fVar0, bnd_ok, ev_fC, ix_pv]
    have t2 : fTest (fKIn true inn (fOp pIxT (fVar 0) (fC (.int 0)))) [some x.pv, some (.int (lv : Nat)), none] M = .ok (!x.comp) M := by
      simp only [ev_fTest, kin_word x e0, bnd_ok, asB_bl]
      cases x.comp <;> rfl
    cases hc : x.comp with
    | false =>
      rw [hc] at t2
      have sg := F_p_is_single_eq (c := c) (M := M) hc g
      simp only [ev_fSeq, ev_fIfS, t1, go_ok, Bool.false_eq_true, if_false, ev_fNext, then2_nx, t2, Bool.not_false, if_true, ev_fRet, ev_fCall, ev_fCons, ev_fVar0, ev_fNil, bnd_ok, List.append_nil, sg, then2_rt, fnRes_rt]
      exact gcN (by simp)
    | true =>
      rw [hc] at t2
      have ki : fKItem inn (fOp pIxT (fVar 0) (fC (.int 0))) [some x.pv, some (.int (lv : Nat)), none] M = .ok (.int (x.subs.length : Nat)) M := by
        rw [ev_fKItem, e0]
        simp only [bnd_ok, lookup_word, hc, if_true]
      have t3 : fTest (fOp pNe (fB bLen (fCons (fVar 0) fNil)) (fOp (pI0 fun i j => .int (i + j)) (fKItem inn (fOp pIxT (fVar 0) (fC (.int 0)))) (fC (.int 1)))) [some x.pv, some (.int (lv : Nat)), none] M = .ok false M := by
        rw [ev_fTest, ev_fOp]
        simp only [ev_fB, ev_fCons, ev_fVar0, ev_fNil, bnd_ok, ln]
        rw [ev_fOp, ki]
        simp only [bnd_ok, ev_fC, pI0_int, pNe_int, ln_comp x hc, asB_bl]
        simp
      have lc := lc_mapE (ok := fun _ : PM => True) (g := gNm 2) (ft := fYes) (fe := fCallN (F_p_is_built c n) [] (fCons (fVar 2) (fCons (fOp (pI0 fun i j => .int (i - j)) (fVar 1) (fC (.int 1))) fNil))) (σ := [some x.pv, some (.int (lv : Nat)), none]) (e := Bd.pv) (d := M.length) (N := M ++ [.lst []]) (zs := x.subs)
        M (fun _ => PV.bl true) rfl rfl (fun acc => trivial) (by have := x.len_subs; unfold lim; omega) (fun y hy => by
          refine ⟨_, rfl, fun acc => ⟨rfl, ?_⟩⟩
          have fs := Bd.far_sub hy
          have ih := F_p_is_built_eq n (x := y) (lv := lv - 1) (M := M ++ [.lst acc]) (g.sub hy) (by omega) (by omega) (by omega)
          have el : ((lv : Nat) : Int) - 1 = ((lv - 1 : Nat) : Int) := by omega
          simp only [ev_fCallN, ev_fCons, ev_fVar0, ev_fVarS, List.set_cons_succ, List.set_cons_zero, bnd_ok, ev_fOp, ev_fC, pI0_int, el, ev_fNil, List.append_nil, ih, nox_ok])
      have hwp : wipeP [some x.pv, some (.int (lv : Nat)), none] [2] = [some x.pv, some (.int (lv : Nat)), none] := rfl
      have ba : bAll [.ref M.length] (M ++ [PO.lst (x.subs.map fun _ => PV.bl true)]) = _ := bAll_atF M [] (fun _ => true) x.subs
      simp only [ev_fSeq, ev_fIfS, t1, go_ok, Bool.false_eq_true, if_false, ev_fNext, then2_nx, t2, Bool.not_true, t3, ev_fRet, ev_fGc, ev_fB, ev_fCons, ev_fLc, ev_fI, ev_fCall, ev_fVar0, ev_fNil, bnd_ok, List.append_nil, F_p_inner_eq, itT_tup, hwp, lc, ba]
      rw [gc_old .app (by simp)]
      simp only [go_ok, fnRes_rt]
      rw [gcN (by simp)]
      simp
end Pu
/-! Bodies: parts, texts, the law's own looks. -/
namespace Pu
open PySem PySem.Spec PyProof.Rows L2 LB
open Classical
variable {c : CA} {M M' M'' M1 : PM} {b : Nat}
theorem mExt_at {k j : Nat} {xs ys : List PV} (e : M[k]? = some (.lst xs)) (e2 : M[j]? = some (.lst ys)) (l : xs.length + ys.length ≤ lim) : mExtend (.ref k) [.ref j] M = .ok .non (M.set k (.lst (xs ++ ys))) := by
  unfold mExtend chL
  simp only [lstAt_ref' _ _ _ e2, e]
  rw [if_pos l]
theorem F_p_all_parts_eq : ∀ (n : Nat) (x : Bd) (M : PM), x.far ≤ n → n ≤ 12 → F_p_all_parts c n [x.pv] M = .ok (.ref M.length) (M ++ [.lst (x.parts.map Bd.pv)])
  | 0, x, M, h, _ => absurd x.far_pos (by omega)
  | n + 1, x, M, h, hn => by
    have l1 : (1 : Nat) ≤ lim := by decide
    have lp := x.len_parts
    have p13 := Nat.pow_le_pow_right (n := 2) (by decide) (show x.far ≤ 13 by omega)
    have go : Goes (fFor (fI itT (fCall (F_p_inner c) [] (fCons (fVar 0) fNil))) (gNm 2) (fDrop (fBM "list" mExtend (fVar 1) (fCons (fCall (F_p_all_parts c n) [] (fCons (fVar 2) fNil)) fNil))))
        [some x.pv, some (.ref M.length), none] (M ++ [.lst [x.pv]]) (fun σ N => ∃ (ex : PM) (y2 : Option PV), σ = [some x.pv, some (.ref M.length), y2] ∧ N = M ++ .lst (x.parts.map Bd.pv) :: ex) := by
      refine goes_for (zs := x.subs) (e := Bd.pv) (ok := fun _ : PM => True)
        (fun i σ N => ∃ (ex : PM) (y2 : Option PV), σ = [some x.pv, some (.ref M.length), y2] ∧ N = M ++ .lst ((x :: (x.subs.take i).flatMap Bd.parts).map Bd.pv) :: ex)
        (M1 := M ++ [.lst [x.pv]]) ?_ ⟨[], _, rfl, by simp⟩ (fun _ _ _ _ => trivial) (fun i y σ N hi hI => ?_) (fun σ N hI => ?_)
      · simp only [ev_fI, ev_fCall, ev_fCons, ev_fVar0, bnd_ok, ev_fNil, List.append_nil, F_p_inner_eq, itT_tup]
      · obtain ⟨ex, y2, rfl, rfl⟩ := hI
        obtain ⟨hi', rfl⟩ := List.getElem?_eq_some_iff.mp hi
        have hm := List.getElem_mem hi'
        have ih := F_p_all_parts_eq n x.subs[i] (M ++ .lst ((x :: (x.subs.take i).flatMap Bd.parts).map Bd.pv) :: ex) (by have := Bd.far_sub hm; omega) (by omega)
        have tk : (x.subs.take (i + 1)).flatMap Bd.parts = (x.subs.take i).flatMap Bd.parts ++ x.subs[i].parts := by
          rw [List.take_succ_eq_append_getElem hi', List.flatMap_append]
          simp
        have le : ((x.subs.take (i + 1)).flatMap Bd.parts).length ≤ (x.subs.flatMap Bd.parts).length := by
          have := List.take_append_drop (i + 1) x.subs
          have h2 : (x.subs.flatMap Bd.parts).length = ((x.subs.take (i + 1)).flatMap Bd.parts).length + ((x.subs.drop (i + 1)).flatMap Bd.parts).length := by
            rw [← List.length_append, ← List.flatMap_append, this]
          omega
        have lpe : x.parts.length = 1 + (x.subs.flatMap Bd.parts).length := by rw [x.parts_eq]; simp; omega
        rw [tk, List.length_append] at le
        have e1 : (M ++ PO.lst ((x :: (x.subs.take i).flatMap Bd.parts).map Bd.pv) :: ex)[M.length]? = some (.lst ((x :: (x.subs.take i).flatMap Bd.parts).map Bd.pv)) := by simp
        have me := mExt_at (M := M ++ PO.lst ((x :: (x.subs.take i).flatMap Bd.parts).map Bd.pv) :: ex ++ [.lst (x.subs[i].parts.map Bd.pv)]) (k := M.length) (j := (M ++ PO.lst ((x :: (x.subs.take i).flatMap Bd.parts).map Bd.pv) :: ex).length) (up1 e1) at1 (by simp only [List.length_map, List.length_cons]; unfold lim; omega)
        have es : (M ++ PO.lst ((x :: (x.subs.take i).flatMap Bd.parts).map Bd.pv) :: ex ++ [PO.lst (x.subs[i].parts.map Bd.pv)]).set M.length (.lst ((x :: (x.subs.take i).flatMap Bd.parts).map Bd.pv ++ x.subs[i].parts.map Bd.pv)) = M ++ PO.lst ((x :: (x.subs.take (i + 1)).flatMap Bd.parts).map Bd.pv) :: (ex ++ [PO.lst (x.subs[i].parts.map Bd.pv)]) := by
          rw [tk]
          simp
        rw [es] at me
        exact ⟨_, rfl, goes_drop (p := .non) (M1 := M ++ PO.lst ((x :: (x.subs.take (i + 1)).flatMap Bd.parts).map Bd.pv) :: (ex ++ [PO.lst (x.subs[i].parts.map Bd.pv)])) (by simp only [ev_fBM, ev_fVar0, ev_fVarS, List.set_cons_succ, List.set_cons_zero, bnd_ok, isTy_lst e1, if_true, ev_fCons, ev_fCall, ev_fNil, List.append_nil, ih, me]) ⟨_, _, rfl, rfl⟩⟩
      · obtain ⟨ex, y2, rfl, rfl⟩ := hI
        rw [List.take_length, ← x.parts_eq]
        exact ⟨ex, y2, rfl, rfl⟩
    obtain ⟨σ, N, eg, ex, y2, rfl, rfl⟩ := go
    rw [R_p_all_parts]
    unfold B_p_all_parts
    simp only [ev_fSeq, ev_fAsg, ev_fLst, ev_fCons, ev_fVar0, ev_fNil, bnd_ok, List.length_cons, List.length_nil, Nat.zero_add, l1, if_true, go_ok, ev_gNm, toSt_some, List.set_cons_succ, List.set_cons_zero, then2_nx, eg, ev_fRet, ev_fVarS, fnRes_rt]
    exact gc_newL .app (Nat.le_refl _) (by simp) (pvs_wf _)
theorem F_p_is_body_eq {x : Bd} (g : BdG x) (h6 : x.far ≤ 6) (h24 : x.parts.length ≤ 24) : F_p_is_body c [x.pv] M = .ok (.bl true) M := by
  rw [R_p_is_body]
  unfold B_p_is_body
  have b1 := F_p_is_built_eq (c := c) (M := M) 9 (lv := 6) g (by omega) h6 (by decide)
  have b1 : F_p_is_built c 9 [x.pv, .int 6] M = .ok (.bl true) M := b1
  have b2 := F_p_all_parts_eq (c := c) 9 x M (by omega) (by decide)
  have d : decide (((x.parts.map Bd.pv).length : Nat) ≤ (24 : Int)) = true := decide_eq_true (by rw [List.length_map]; omega)
  simp only [ev_fRet, ev_fAndV, ev_fCall, ev_fCons, ev_fVar0, ev_fC, ev_fNil, bnd_ok, List.append_nil, b1, asB_bl, if_true, ev_fOp, ev_fB, b2, bLen_lst at1, pI0_int, d, go_ok, fnRes_rt]
  exact gc_old .app (by simp)
theorem F_p_check_body_eq {x : Bd} (g : BdG x) (h6 : x.far ≤ 6) (h24 : x.parts.length ≤ 24) : F_p_check_body c [x.pv] M = .ok .non M := by
  rw [R_p_check_body]
  unfold B_p_check_body
  simp only [ev_fIfS, ev_fNot, ev_fTest, ev_fCall, ev_fCons, ev_fVar0, ev_fNil, bnd_ok, List.append_nil, F_p_is_body_eq g h6 h24, asB_bl, Bool.not_true, go_ok, Bool.false_eq_true, if_false, ev_fNext, fnRes_nx]
  exact gcN (by simp)
/-! ### texts -/
/-! ### the law's own -/
theorem F_plain_eq {s : List Nat} {few top : Nat} (h1 : few ≤ s.length) (h2 : s.length ≤ top) (h3 : s.length ≤ 9) (hs : s.all low = true) : F_plain_text c [.str s, .int (few : Nat), .int (top : Nat)] M = .ok (.bl true) M := by
  rw [R_plain_text]
  unfold B_plain_text
  have ty : bIsi [.str s, .ty "str"] M = .ok (.bl true) M := rfl
  have ls : bLenS [.str s] M = .ok (.int (s.length : Nat)) M := bLenS_str (by unfold lim; omega)
  have d1 : decide (((few : Nat) : Int) ≤ (s.length : Nat)) = true := decide_eq_true (by omega)
  have d2 : decide (((s.length : Nat) : Int) ≤ (top : Nat)) = true := decide_eq_true (by omega)
  have lc := lc_mapE (ok := fun _ : PM => True) (g := gNm 5) (ft := fYes) (fe := fOp pInS (fVar 5) (fVar 3)) (σ := [some (.str s), some (.int (few : Nat)), some (.int (top : Nat)), some (.str [97, 98, 99, 100, 101, 102, 103, 104, 105, 106, 107, 108, 109, 110, 111, 112, 113, 114, 115, 116, 117, 118, 119, 120, 121, 122]), some (.bl true), none]) (e := fun d : Nat => PV.str [d]) (d := M.length) (N := M ++ [.lst []]) (zs := s)
    M (fun d => PV.bl (low d)) rfl rfl (fun acc => trivial) (by unfold lim; omega) (fun d hd => ⟨_, rfl, fun acc => ⟨rfl, by rw [← low_in]; rfl⟩⟩)
  have hwp : wipeP [some (.str s), some (.int (few : Nat)), some (.int (top : Nat)), some (.str [97, 98, 99, 100, 101, 102, 103, 104, 105, 106, 107, 108, 109, 110, 111, 112, 113, 114, 115, 116, 117, 118, 119, 120, 121, 122]), some (.bl true), none] [5] = [some (PV.str s), some (.int (few : Nat)), some (.int (top : Nat)), some (.str [97, 98, 99, 100, 101, 102, 103, 104, 105, 106, 107, 108, 109, 110, 111, 112, 113, 114, 115, 116, 117, 118, 119, 120, 121, 122]), some (.bl true), none] := rfl
  have is : itS (.str s) M = .ok ⟨s.map fun d => PV.str [d], fun _ => True⟩ M := rfl
  have ba : bAll [.ref M.length] (M ++ [PO.lst (s.map fun d => PV.bl (low d))]) = _ := bAll_atF M [] low s
  simp only [ev_fSeq, ev_fAsg, ev_fC, go_ok, ev_gNm, toSt_some, List.set_cons_succ, List.set_cons_zero, then2_nx, ev_fAndV, ev_fB, ev_fCons, ev_fVar0, ev_fVarS, ev_fNil, bnd_ok, ty, asB_bl, if_true, ev_fChain, ls, pI0_int, d1, d2, ev_fRet, ev_fGc, ev_fLc, ev_fI, is, hwp, lc, ba]
  rw [gc_old .app (by simp)]
  simp only [go_ok, fnRes_rt, hs]
  exact gcN (by simp)
end Pu
/-! Bodies: the law's forms, its own text. -/
namespace Pu
open PySem PySem.Spec PyProof.Rows L2 LB
open Classical
variable {c : CA} {M M' M'' M1 : PM} {b : Nat}
abbrev frm : List (List Nat × List Nat) := [(tSend, [114, 108]), (tTake, [114, 108]), (tBare, [114]), (tSkip, []), (tThen, [101, 101]), (tOr, [101, 101]), (tAgain, [101])]
abbrev frmD : List (PV × PV) := frm.map fun x => (.str x.1, .str x.2)
theorem merge_strs : ∀ (l acc : List (List Nat × List Nat)), ((acc ++ l).map (·.1)).Nodup → (l.map fun x => ((.str x.1 : PV), (.str x.2 : PV))).foldl (fun a kv => putP a kv.1 kv.2) (acc.map fun x => ((.str x.1 : PV), (.str x.2 : PV))) = (acc ++ l).map fun x => ((.str x.1 : PV), (.str x.2 : PV))
  | [], acc, _ => by simp
  | x :: l, acc, h => by
    rw [List.map_cons, List.foldl_cons]
    have h1 : putP (acc.map fun x => ((.str x.1 : PV), (.str x.2 : PV))) (.str x.1) (.str x.2) = (acc ++ [x]).map fun x => ((.str x.1 : PV), (.str x.2 : PV)) := by
      rw [putP_new, List.map_append]
      · rfl
      · intro p hp e
        obtain ⟨y, hy, rfl⟩ := List.mem_map.mp hp
        injection e with e
        rw [List.map_append, List.nodup_append] at h
        exact h.2.2 y.1 (List.mem_map_of_mem hy) x.1 (by simp) e
    have ih := merge_strs l (acc ++ [x]) (by rw [List.append_assoc]; exact h)
    rw [List.append_assoc] at ih
    show List.foldl _ (putP _ (.str x.1) (.str x.2)) _ = _
    rw [h1]
    exact ih
theorem F_forms_eq : F_forms c [] M = .ok (.ref M.length) (M ++ [.dct frmD]) := by
  rw [R_forms]
  unfold B_forms
  have e : fPairs [((fC (.str [115, 101, 110, 100])), (fC (.str [114, 108]))), ((fC (.str [116, 97, 107, 101])), (fC (.str [114, 108]))), ((fC (.str [98, 97, 114, 101])), (fC (.str [114]))), ((fC (.str [115, 107, 105, 112])), (fC (.str []))), ((fC (.str [116, 104, 101, 110])), (fC (.str [101, 101]))), ((fC (.str [111, 114])), (fC (.str [101, 101]))), ((fC (.str [97, 103, 97, 105, 110])), (fC (.str [101])))] [] (M ++ [.dct []]) = .ok frmD (M ++ [.dct []]) := rfl
  have d : fDisp [((fC (.str [115, 101, 110, 100])), (fC (.str [114, 108]))), ((fC (.str [116, 97, 107, 101])), (fC (.str [114, 108]))), ((fC (.str [98, 97, 114, 101])), (fC (.str [114]))), ((fC (.str [115, 107, 105, 112])), (fC (.str []))), ((fC (.str [116, 104, 101, 110])), (fC (.str [101, 101]))), ((fC (.str [111, 114])), (fC (.str [101, 101]))), ((fC (.str [97, 103, 97, 105, 110])), (fC (.str [101])))] [] M = .ok (.ref M.length) (M ++ [.dct frmD]) := by
    unfold fDisp
    rw [e, bnd_ok]
    have e2 : (M ++ [PO.dct []])[M.length]? = some (.dct []) := by simp
    rw [e2]
    simp only
    rw [if_pos ⟨by decide, fun p hp => by
      obtain ⟨y, _, rfl⟩ := List.mem_map.mp hp
      rfl⟩]
    have := merge_strs frm [] (by decide)
    unfold mergeP
    rw [List.nil_append, List.map_nil] at this
    rw [this]
    congr 1
    simp
  simp only [ev_fRet, d, go_ok, fnRes_rt]
  rw [gc_new (KF.keep .app) (Nat.le_refl _) (o := .dct frmD) (by simp) (fun p hp => by
    obtain ⟨y, _, rfl⟩ := List.mem_map.mp hp
    exact ⟨by simp, by simp⟩), List.take_left]
def Bd.sig : Bd → List Nat
  | .skip => []
  | .bare _ => [114]
  | .act _ _ _ => [114, 108]
  | .again _ => [101]
  | .two _ _ _ => [101, 101]
theorem frm_word (x : Bd) : kfind frmD (.str x.word) = some (.str x.sig) := by
  unfold frmD
  rw [kfind_map (fun y : List Nat × List Nat => y.1) (fun y => PV.str y.2)]
  have : frm.find? (fun y => decide (y.1 = x.word)) = some (x.word, x.sig) := by
    cases x with
    | skip => rfl
    | bare r => rfl
    | act t r l => cases t <;> rfl
    | again x => rfl
    | two o x y => cases o <;> rfl
  rw [this]
  rfl
theorem Bd.len_sig (x : Bd) : x.sig.length = x.args.length := by cases x <;> rfl
/-- what stands at a sign -/
def SigOk (x : Bd) (z : Nat × PV) : Prop := (z.1 = 101 ∧ ∃ y ∈ x.subs, z.2 = y.pv) ∨ (z.1 = 114 ∧ ∃ s : List Nat, z.2 = .str s ∧ 1 ≤ s.length ∧ s.length ≤ 8 ∧ s.all low = true) ∨ (z.1 = 108 ∧ ∃ s : List Nat, z.2 = .str s ∧ s.length = 1 ∧ s.all low = true)
theorem nm_low {r : List Nat} (h : isNm r) : r.all low = true := by
  rw [List.all_eq_true]
  intro y hy
  have := h.2.2 y hy
  unfold low
  simp
  omega
theorem sig_ok {x : Bd} (g : BdG x) : ∀ z ∈ x.sig.zip x.args, SigOk x z := by
  intro z hz
  cases x with
  | skip => cases hz
  | bare r =>
    have hz : z ∈ [((114 : Nat), PV.str r)] := hz
    rw [List.mem_singleton.mp hz]
    exact .inr (.inl ⟨rfl, r, rfl, (show isNm r from g).1, (show isNm r from g).2.1, nm_low g⟩)
  | act t r l =>
    have hz : z ∈ [((114 : Nat), PV.str r), (108, PV.str [l])] := hz
    rcases List.mem_cons.mp hz with rfl | hz
    · exact .inr (.inl ⟨rfl, r, rfl, (show isNm r from g.1).1, (show isNm r from g.1).2.1, nm_low g.1⟩)
    · rw [List.mem_singleton.mp hz]
      refine .inr (.inr ⟨rfl, [l], rfl, rfl, ?_⟩)
      have := g.2
      simp [low]
      omega
  | again y =>
    have hz : z ∈ [((101 : Nat), y.pv)] := hz
    rw [List.mem_singleton.mp hz]
    exact .inl ⟨rfl, y, by simp [Bd.subs], rfl⟩
  | two o y y2 =>
    have hz : z ∈ [((101 : Nat), y.pv), (101, y2.pv)] := hz
    rcases List.mem_cons.mp hz with rfl | hz
    · exact .inl ⟨rfl, y, by simp [Bd.subs], rfl⟩
    · rw [List.mem_singleton.mp hz]
      exact .inl ⟨rfl, y2, by simp [Bd.subs], rfl⟩
theorem zip_sig (x : Bd) : zipP (x.sig.map fun d => PV.str [d]) x.args = (x.sig.zip x.args).map fun z => .tup [.str [z.1], z.2] := by
  unfold zipP
  rw [List.zip_map_left, List.map_map]
  rfl
theorem dat_nil : Dat 60 (.tup []) := by
  unfold Dat
  intro x hx
  cases hx
set_option maxHeartbeats 1000000 in
theorem F_form_ok_eq : ∀ (n : Nat) {x : Bd} {M : PM}, BdG x → x.far ≤ n → n ≤ 9 → F_form_ok c n [x.pv] M = .ok (.bl true) M
  | 0, x, _, _, h, _ => absurd x.far_pos (by omega)
  | n + 1, x, M, g, hn, h9 => by
    have l0 : (0 : Nat) ≤ lim := by decide
    have l2 : (2 : Nat) ≤ lim := by decide
    have ty : ∀ N : PM, bIsi [x.pv, .ty "tuple"] N = .ok (.bl true) N := fun N => by rw [x.pv_eq]; rfl
    have tw : ∀ N : PM, bIsi [.str x.word, .ty "str"] N = .ok (.bl true) N := fun N => rfl
    have en : pEqD x.pv (.tup []) M = .ok (.bl false) M := by
      rw [pEqD_dat (Bd.dat60 g (by omega)) dat_nil]
      congr 2
      exact decide_eq_false fun z => by rw [x.pv_eq] at z; cases z
    have ln := ln_pv (M := M ++ [.dct frmD]) x
    have la := x.len_args
    have ls : bLenS [.str x.sig] (M ++ [.dct frmD]) = .ok (.int (x.sig.length : Nat)) (M ++ [.dct frmD]) := bLenS_str (by rw [x.len_sig]; unfold lim; omega)
    have t1 : (fOr (fNot (fTest (fB bIsi (fCons (fVar 0) (fCons (fC (.ty "tuple")) fNil))))) (fOr (fTest (fOp pEqD (fVar 0) (fTup fNil))) (fNot (fTest (fB bIsi (fCons (fOp pIxT (fVar 0) (fC (.int 0))) (fCons (fC (.ty "str")) fNil))))))) [some x.pv, none, none, none] M = .ok false M := by
      simp only [ev_fOr, ev_fNot, ev_fTest, ev_fB, ev_fCons, ev_fVar0, ev_fC, ev_fNil, bnd_ok, ty, tw, asB_bl, Bool.not_true, Bool.false_eq_true, if_false, ev_fOp, ev_fTup, List.length_nil, if_pos l0, en, ix_pv]
    have gt : (fDGet1 (fCall (F_forms c) [] fNil) (fOp pIxT (fVar 0) (fC (.int 0)))) [some x.pv, none, none, none] M = .ok (.str x.sig) (M ++ [.dct frmD]) := by
      have e1 : (M ++ [PO.dct frmD])[M.length]? = some (.dct frmD) := by simp
      unfold fDGet1
      simp only [ev_fCall, ev_fNil, bnd_ok, List.append_nil, F_forms_eq, isDP, e1, if_true, ev_fOp, ev_fVar0, ev_fC, ix_pv, dgetP, keyOf, Option.isSome_some, frm_word, Option.getD_some]
    have t2 : (fOr (fTest (fOp pIsN (fVar 1) (fC .non))) (fTest (fOp pNe (fB bLen (fCons (fVar 0) fNil)) (fOp (pI0 fun i j => .int (i + j)) (fC (.int 1)) (fB bLenS (fCons (fVar 1) fNil)))))) [some x.pv, some (.str x.sig), none, none] (M ++ [.dct frmD]) = .ok false (M ++ [.dct frmD]) := by
      simp only [ev_fOr, ev_fTest, ev_fOp, ev_fVar0, ev_fVarS, ev_fC, bnd_ok, pIsN_non, isNon, asB_bl, Bool.false_eq_true, if_false, ev_fB, ev_fCons, ev_fNil, ln, ls, pI0_int, pNe_int, x.len_sig]
      congr 1
      simp
      omega
    have go : Goes (fFor (fIA itZX (fCons (fVar 1) (fCons (fSl pSlT (fVar 0) (fPart (fC (.int 1))) fNoPart) fNil))) (gTp (gsCons (gNm 2) (gsCons (gNm 3) gsNil))) (fSeq (fIfS (fAnd (fTest (fOp pEq (fVar 2) (fC (.str [101])))) (fNot (fTest (fCall (F_form_ok c n) [] (fCons (fVar 3) fNil))))) (fRet (fC (.bl false))) fNext)
      (fIfS (fAnd (fTest (fOp pNe (fVar 2) (fC (.str [101])))) (fNot (fTest (fCall (F_plain_text c) [] (fCons (fVar 3) (fCons (fC (.int 1)) (fCons (fOp pIxL (fLst (fCons (fC (.int 8)) (fCons (fC (.int 1)) fNil))) (fB bInt (fCons (fOp pEq (fVar 2) (fC (.str [108]))) fNil))) fNil))))))) (fRet (fC (.bl false))) fNext)))
      [some x.pv, some (.str x.sig), none, none] (M ++ [.dct frmD]) (fun σ N => ∃ ex y2 y3, σ = [some x.pv, some (.str x.sig), y2, y3] ∧ N = M ++ ex) := by
      refine goes_each (zs := x.sig.zip x.args) (e := fun z => .tup [.str [z.1], z.2]) (ok := fun _ : PM => True) (fun σ N => ∃ ex y2 y3, σ = [some x.pv, some (.str x.sig), y2, y3] ∧ N = M ++ ex) (M1 := M ++ [.dct frmD]) ?_ ⟨_, _, _, rfl, rfl⟩ (fun _ _ _ => trivial) (fun z hz σ N hI => ?_) (fun σ N hI => hI)
      · have iz : itZX [.str x.sig, .tup x.args] (M ++ [.dct frmD]) = .ok ⟨zipP (x.sig.map fun d => PV.str [d]) x.args, fun _ => True⟩ (M ++ [.dct frmD]) := rfl
        simp only [ev_fIA, ev_fCons, ev_fVar0, ev_fVarS, ev_fSl, bnd_ok, ev_fPart, ev_fC, asI_int, ev_fNoPart, sl_pv, ev_fNil, iz, zip_sig]
      · obtain ⟨ex, y2, y3, rfl, rfl⟩ := hI
        obtain ⟨d, pv⟩ := z
        refine ⟨[some x.pv, some (.str x.sig), some (.str [d]), some pv], rfl, ?_⟩
        have text : ∀ (s : List Nat) (top : Nat) (i : Nat), d ≠ 101 → pv = .str s → 1 ≤ s.length → s.length ≤ top → s.length ≤ 9 → s.all low = true → decide ([d] = [108]) = decide (i = 1) → i < 2 → [8, 1][i]? = some top →
            Goes (fSeq (fIfS (fAnd (fTest (fOp pEq (fVar 2) (fC (.str [101])))) (fNot (fTest (fCall (F_form_ok c n) [] (fCons (fVar 3) fNil))))) (fRet (fC (.bl false))) fNext)
      (fIfS (fAnd (fTest (fOp pNe (fVar 2) (fC (.str [101])))) (fNot (fTest (fCall (F_plain_text c) [] (fCons (fVar 3) (fCons (fC (.int 1)) (fCons (fOp pIxL (fLst (fCons (fC (.int 8)) (fCons (fC (.int 1)) fNil))) (fB bInt (fCons (fOp pEq (fVar 2) (fC (.str [108]))) fNil))) fNil))))))) (fRet (fC (.bl false))) fNext)) [some x.pv, some (.str x.sig), some (.str [d]), some pv] (M ++ ex) (fun σ N => ∃ ex y2 y3, σ = [some x.pv, some (.str x.sig), y2, y3] ∧ N = M ++ ex) := fun s top i h1 h2 h3 h4 h5 h6 h7 hi h8 => by
          subst h2
          have dE : decide ([d] = [101]) = false := decide_eq_false (by simp; exact h1)
          refine goes_seq (goes_no (M1 := M ++ ex) (by simp only [ev_fAnd, ev_fTest, ev_fOp, ev_fVar0, ev_fVarS, ev_fC, bnd_ok, pEq_str, dE, asB_bl, Bool.false_eq_true, if_false]) ?_)
          have ix : pIxL (.ref (M ++ ex).length) (.int (i : Nat)) (M ++ ex ++ [PO.lst [.int 8, .int 1]]) = .ok (.int (top : Nat)) (M ++ ex ++ [PO.lst [.int 8, .int 1]]) := pIxL_at at1 (atI_nat (by
            have : ([PV.int 8, PV.int 1])[i]? = ([8, 1][i]?).map fun t : Nat => PV.int (t : Nat) := by
              rcases (show i = 0 ∨ i = 1 by omega) with rfl | rfl <;> rfl
            rw [this, h8]
            rfl))
          have bi : bInt [.bl (decide (i = 1))] (M ++ ex ++ [PO.lst [.int 8, .int 1]]) = .ok (.int (i : Nat)) (M ++ ex ++ [PO.lst [.int 8, .int 1]]) := by
            rcases (show i = 0 ∨ i = 1 by omega) with rfl | rfl <;> rfl
          have pl := F_plain_eq (c := c) (M := M ++ ex ++ [PO.lst [.int 8, .int 1]]) (few := 1) (top := top) (s := s) h3 h4 h5 h6
          have pl : F_plain_text c [.str s, .int 1, .int (top : Nat)] (M ++ ex ++ [PO.lst [.int 8, .int 1]]) = .ok (.bl true) (M ++ ex ++ [PO.lst [.int 8, .int 1]]) := pl
          refine goes_no (M1 := M ++ ex ++ [PO.lst [.int 8, .int 1]]) (by simp only [ev_fAnd, ev_fNot, ev_fTest, ev_fOp, ev_fVar0, ev_fVarS, ev_fC, bnd_ok, pNe_str, dE, Bool.not_false, asB_bl, if_true, ev_fCall, ev_fCons, ev_fLst, ev_fNil, List.length_cons, List.length_nil, Nat.zero_add, Nat.reduceAdd, if_pos l2, ev_fB, pEq_str, h7, bi, ix, List.append_nil, pl, Bool.not_true]) ⟨ex ++ [PO.lst [.int 8, .int 1]], _, _, rfl, by rw [List.append_assoc]⟩
        rcases sig_ok g _ hz with ⟨h1, y, hy, h2⟩ | ⟨h1, s, h2, h3, h4, h5⟩ | ⟨h1, s, h2, h3, h4⟩
        · obtain rfl : d = 101 := h1
          obtain rfl : pv = y.pv := h2
          have fs := Bd.far_sub hy
          have ih := F_form_ok_eq n (x := y) (M := M ++ ex) (g.sub hy) (by omega) (by omega)
          refine goes_seq (goes_no (M1 := M ++ ex) (by simp only [ev_fAnd, ev_fNot, ev_fTest, ev_fOp, ev_fVar0, ev_fVarS, ev_fC, bnd_ok, pEq_str, decide_true, asB_bl, if_true, ev_fCall, ev_fCons, ev_fNil, List.append_nil, ih, Bool.not_true]) ?_)
          exact goes_no (M1 := M ++ ex) (by simp only [ev_fAnd, ev_fTest, ev_fOp, ev_fVar0, ev_fVarS, ev_fC, bnd_ok, pNe_str, decide_true, Bool.not_true, asB_bl, Bool.false_eq_true, if_false]) ⟨_, _, _, rfl, rfl⟩
        · obtain rfl : d = 114 := h1
          exact text s 8 0 (by decide) h2 h3 h4 (by omega) h5 (by decide) (by decide) rfl
        · obtain rfl : d = 108 := h1
          exact text s 1 1 (by decide) h2 (by omega) (by omega) (by omega) h4 (by decide) (by decide) rfl
    obtain ⟨σ, N, eg, ex, y2, y3, rfl, rfl⟩ := go
    rw [R_form_ok]
    unfold B_form_ok
    simp only [ev_fSeq, ev_fIfS, t1, go_ok, Bool.false_eq_true, if_false, ev_fNext, then2_nx, ev_fAsg, gt, ev_gNm, toSt_some, List.set_cons_succ, List.set_cons_zero, t2, eg, ev_fRet, ev_fC, fnRes_rt]
    exact gc_old .app (by simp)
theorem F_body_ok_eq {x : Bd} (g : BdG x) (h9 : x.far ≤ 9) : F_body_ok c [x.pv] M = .ok (.bl (decide (x.parts.length ≤ 24 ∧ x.far ≤ 6))) M := by
  rw [R_body_ok]
  unfold B_body_ok
  have a1 := F_form_ok_eq (c := c) (M := M) 9 g h9 (by decide)
  have a2 := F_all_in_eq (c := c) 9 x M h9 (by decide)
  have a3 : ∀ N : PM, F_far_in c 9 [x.pv] N = .ok (.int (x.far : Nat)) N := fun N => F_far_in_eq (c := c) 9 x N h9 (by decide)
  have e1 : decide (((x.parts.map Bd.pv).length : Nat) ≤ (24 : Int)) = decide (x.parts.length ≤ 24) := decide_eq_decide.mpr (by rw [List.length_map]; omega)
  have e2 : decide (((x.far : Nat) : Int) ≤ 6) = decide (x.far ≤ 6) := decide_eq_decide.mpr (by omega)
  simp only [ev_fRet, ev_fAndV, ev_fCall, ev_fCons, ev_fVar0, ev_fC, ev_fNil, bnd_ok, List.append_nil, a1, asB_bl, if_true, ev_fOp, ev_fB, a2, bLen_lst at1, pI0_int, e1]
  by_cases h : x.parts.length ≤ 24
  · simp only [decide_eq_true h, if_true, a3, bnd_ok, pI0_int, e2, go_ok, fnRes_rt]
    rw [gc_old .app (by simp)]
    congr 2
    exact decide_eq_decide.mpr ⟨fun z => ⟨h, z⟩, fun z => z.2⟩
  · simp only [decide_eq_false h, Bool.false_eq_true, if_false, go_ok, fnRes_rt]
    rw [gc_old .app (by simp)]
    congr 2
    exact (decide_eq_false fun z => h z.1).symm
end Pu
/-! Bodies: texts cut and read back. -/
namespace Pu
open PySem PySem.Spec PyProof.Rows L2 LB
open Classical
/-! ### cut -/
/-! ### texts of bodies -/
end Pu
/-! Bodies compiled. -/
namespace Pu
open PySem PySem.Spec PyProof.Rows L2 LB
open Classical
variable {c : CA} {M M' M'' M1 : PM} {b : Nat}
abbrev tIdle : List Nat := [105, 100, 108, 101]
structure Cm where
  s : List Nat
  a : PV
  e : List Nat
def cmV (ow : List Nat) (m : Cm) : PV := .tup [.str ow, .str m.s, m.a, .str m.e]
abbrev idleV : PV := .tup [.str tIdle]
def stnd (st : List Nat) (k : Nat) : List Nat := st ++ [97 + k]
def fillB (st : List Nat) : Bd → List Nat → List Nat → Nat → List Cm × Nat
  | .again x, s, e, k => (⟨s, idleV, stnd st k⟩ :: ((fillB st x (stnd st k) (stnd st k) (k + 1)).1 ++ [⟨stnd st k, idleV, e⟩]), (fillB st x (stnd st k) (stnd st k) (k + 1)).2)
  | .two false x y, s, e, k => ((fillB st x s (stnd st k) (k + 1)).1 ++ (fillB st y (stnd st k) e (fillB st x s (stnd st k) (k + 1)).2).1, (fillB st y (stnd st k) e (fillB st x s (stnd st k) (k + 1)).2).2)
  | .two true x y, s, e, k => ((fillB st x s e k).1 ++ (fillB st y s e (fillB st x s e k).2).1, (fillB st y s e (fillB st x s e k).2).2)
  | .skip, s, e, k => ([⟨s, idleV, e⟩], k)
  | .bare r, s, e, k => ([⟨s, (Bd.bare r).pv, e⟩], k)
  | .act t r l, s, e, k => ([⟨s, (Bd.act t r l).pv, e⟩], k)
/-- how many stands of its own, how many moves -/
def Bd.mids : Bd → Nat
  | .again x => 1 + x.mids
  | .two o x y => (if o then 0 else 1) + x.mids + y.mids
  | _ => 0
def Bd.mvs : Bd → Nat
  | .again x => 2 + x.mvs
  | .two _ x y => x.mvs + y.mvs
  | _ => 1
theorem fill_k (st : List Nat) : ∀ (x : Bd) (s e : List Nat) (k : Nat), (fillB st x s e k).2 = k + x.mids
  | .again x, s, e, k => by
    unfold fillB Bd.mids
    rw [fill_k st x]
    omega
  | .two false x y, s, e, k => by
    unfold fillB Bd.mids
    rw [fill_k st y, fill_k st x]
    simp
    omega
  | .two true x y, s, e, k => by
    unfold fillB Bd.mids
    rw [fill_k st y, fill_k st x]
    simp
    omega
  | .skip, _, _, _ => rfl
  | .bare _, _, _, _ => rfl
  | .act _ _ _, _, _, _ => rfl
theorem fill_len (st : List Nat) : ∀ (x : Bd) (s e : List Nat) (k : Nat), (fillB st x s e k).1.length = x.mvs
  | .again x, s, e, k => by
    unfold fillB Bd.mvs
    simp [fill_len st x]
    omega
  | .two false x y, s, e, k => by
    unfold fillB Bd.mvs
    simp [fill_len st x, fill_len st y]
  | .two true x y, s, e, k => by
    unfold fillB Bd.mvs
    simp [fill_len st x, fill_len st y]
  | .skip, _, _, _ => rfl
  | .bare _, _, _, _ => rfl
  | .act _ _ _, _, _, _ => rfl
theorem Bd.mids_lt : ∀ x : Bd, x.mids + 1 ≤ x.parts.length
  | .again x => by
    have := x.mids_lt
    unfold Bd.mids Bd.parts
    simp
    omega
  | .two o x y => by
    have h1 := x.mids_lt
    have h2 := y.mids_lt
    unfold Bd.mids Bd.parts
    cases o <;> simp <;> omega
  | .skip => Nat.le_refl _
  | .bare _ => Nat.le_refl _
  | .act _ _ _ => Nat.le_refl _
theorem Bd.mvs_le : ∀ x : Bd, x.mvs ≤ 2 * x.parts.length
  | .again x => by
    have := x.mvs_le
    unfold Bd.mvs Bd.parts
    simp
    omega
  | .two o x y => by
    have h1 := x.mvs_le
    have h2 := y.mvs_le
    unfold Bd.mvs Bd.parts
    simp
    omega
  | .skip => by decide
  | .bare _ => by simp [Bd.mvs, Bd.parts]
  | .act _ _ _ => by simp [Bd.mvs, Bd.parts]
abbrev planF (ow st : List Nat) (k l : Nat) : List (String × PV) := [("owner", .str ow), ("stem", .str st), ("stand_count", .int (k : Nat)), ("made", .ref l)]
/-- the plan of so many stands and moves -/
def plSt (c : CA) (M : PM) (p l : Nat) (ow st : List Nat) (k : Nat) (mv : List Cm) : PM := (M.set p (.ins c.Plan (planF ow st k l))).set l (.lst (mv.map (cmV ow)))
section
variable {p l k : Nat} {ow st : List Nat} {mv : List Cm}
theorem plSt_len : (plSt c M p l ow st k mv).length = M.length := by unfold plSt; simp
theorem plSt_p (hp : p < M.length) (hl : l < M.length) (h : p ≠ l) : (plSt c M p l ow st k mv)[p]? = some (.ins c.Plan (planF ow st k l)) := by
  unfold plSt
  rw [List.getElem?_set_ne h.symm, List.getElem?_set_self hp]
theorem plSt_l (hp : p < M.length) (hl : l < M.length) : (plSt c M p l ow st k mv)[l]? = some (.lst (mv.map (cmV ow))) := by
  unfold plSt
  rw [List.getElem?_set_self (by simpa using hl)]
theorem plSt_setP (hp : p < M.length) (hl : l < M.length) (h : p ≠ l) {k' : Nat} : (plSt c M p l ow st k mv).set p (.ins c.Plan (planF ow st k' l)) = plSt c M p l ow st k' mv := by
  unfold plSt
  rw [List.set_comm _ _ h.symm, List.set_set]
theorem plSt_setL {mv' : List Cm} : (plSt c M p l ow st k mv).set l (.lst (mv'.map (cmV ow))) = plSt c M p l ow st k mv' := by
  unfold plSt
  rw [List.set_set]
theorem F_new_stand_eq (hp : p < M.length) (hl : l < M.length) (h : p ≠ l) (hk : k < 26) (hs : st.length ≤ 1000) : F_Plan_new_stand c [.ref p] (plSt c M p l ow st k mv) = .ok (.str (stnd st k)) (plSt c M p l ow st (k + 1) mv) := by
  have ep := plSt_p (c := c) (ow := ow) (st := st) (k := k) (mv := mv) hp hl h
  have ep1 := plSt_p (c := c) (ow := ow) (st := st) (k := k + 1) (mv := mv) hp hl h
  have f1 : fldP (plSt c M p l ow st k mv) c.Plan "stand_count" (.ref p) = some (.int (k : Nat)) := fld_at ep (by simp [List.lookup])
  have f2 : fldP (plSt c M p l ow st (k + 1) mv) c.Plan "stand_count" (.ref p) = some (.int ((k + 1 : Nat) : Int)) := fld_at ep1 (by simp [List.lookup])
  have f3 : fldP (plSt c M p l ow st (k + 1) mv) c.Plan "stem" (.ref p) = some (.str st) := fld_at ep1 (by simp [List.lookup])
  have sf : setF (plSt c M p l ow st k mv) c.Plan "stand_count" (.ref p) (.int ((k : Nat) + 1)) = some (plSt c M p l ow st (k + 1) mv) := by
    rw [setF_at ep (by simp)]
    have : putS "stand_count" (.int ((k : Nat) + 1)) (planF ow st k l) = planF ow st (k + 1) l := by simp [putS]
    rw [this, plSt_setP hp hl h]
  have au : fAugF c.Plan "stand_count" (fVar 0) (fC (.int 1)) (fun i j => i + j) [some (.ref p)] (plSt c M p l ow st k mv) = .nx [some (.ref p)] (plSt c M p l ow st (k + 1) mv) := by
    unfold fAugF
    simp only [ev_fVar0, go_ok, f1, ev_fC, sf]
  have ix : pIxS (.str alphaL) (.int (k : Nat)) (plSt c M p l ow st (k + 1) mv) = .ok (.str [97 + k]) (plSt c M p l ow st (k + 1) mv) := by
    have := pIxS_at (M := plSt c M p l ow st (k + 1) mv) (xs := alphaL) (by decide) (alphaL_at (i := (k : Nat)) (by omega) (by omega))
    rw [this, show ((k : Nat) : Int).toNat + 97 = 97 + k by omega]
  have ix : pIxS (.str [97, 98, 99, 100, 101, 102, 103, 104, 105, 106, 107, 108, 109, 110, 111, 112, 113, 114, 115, 116, 117, 118, 119, 120, 121, 122]) (.int (k : Nat)) (plSt c M p l ow st (k + 1) mv) = .ok (.str [97 + k]) (plSt c M p l ow st (k + 1) mv) := ix
  have ad : pAddS (.str st) (.str [97 + k]) (plSt c M p l ow st (k + 1) mv) = .ok (.str (stnd st k)) (plSt c M p l ow st (k + 1) mv) := by
    unfold pAddS stnd
    exact if_pos (by simp; unfold lim; omega)
  have e1 : ((k + 1 : Nat) : Int) - 1 = (k : Nat) := by omega
  rw [R_Plan_new_stand]
  unfold B_Plan_new_stand
  simp only [ev_fSeq, au, then2_nx, ev_fRet, ev_fOp, ev_fFld, ev_fVar0, bnd_ok, f3, asF_some, ev_fC, f2, pI0_int, e1, ix, ad, go_ok, fnRes_rt]
  exact gc_self ((plSt_len (c := c)).trans (plSt_len (c := c)).symm)
theorem F_pput_eq (hp : p < M.length) (hl : l < M.length) (h : p ≠ l) {s e : List Nat} {a : PV} (hm : mv.length < 100000) : F_Plan_put c [.ref p, .str s, a, .str e] (plSt c M p l ow st k mv) = .ok .non (plSt c M p l ow st k (mv ++ [⟨s, a, e⟩])) := by
  have ep := plSt_p (c := c) (ow := ow) (st := st) (k := k) (mv := mv) hp hl h
  have el := plSt_l (c := c) (ow := ow) (st := st) (k := k) (mv := mv) hp hl
  have f1 : fldP (plSt c M p l ow st k mv) c.Plan "made" (.ref p) = some (.ref l) := fld_at ep (by simp [List.lookup])
  have f2 : fldP (plSt c M p l ow st k mv) c.Plan "owner" (.ref p) = some (.str ow) := fld_at ep (by simp [List.lookup])
  have ty : isTyP (plSt c M p l ow st k mv) "list" (.ref l) = true := by unfold isTyP; simp only [el]; rfl
  have ap := mAppend_at (y := cmV ow ⟨s, a, e⟩) el (by rw [List.length_map]; unfold lim; omega)
  have st' : (plSt c M p l ow st k mv).set l (.lst (mv.map (cmV ow) ++ [cmV ow ⟨s, a, e⟩])) = plSt c M p l ow st k (mv ++ [⟨s, a, e⟩]) := by
    have e' : mv.map (cmV ow) ++ [cmV ow ⟨s, a, e⟩] = (mv ++ [(⟨s, a, e⟩ : Cm)]).map (cmV ow) := by simp
    rw [e', plSt_setL]
  rw [st'] at ap
  have ap : mAppend (.ref l) [.tup [.str ow, .str s, a, .str e]] (plSt c M p l ow st k mv) = _ := ap
  have l4 : (4 : Nat) ≤ lim := by decide
  rw [R_Plan_put]
  unfold B_Plan_put
  simp only [ev_fDrop, ev_fBM, ev_fFld, ev_fVar0, ev_fVarS, bnd_ok, f1, asF_some, ty, if_true, ev_fCons, ev_fTup, f2, ev_fNil, List.length_cons, List.length_nil, Nat.zero_add, Nat.reduceAdd, l4, ap, go_ok, fnRes_nx]
  exact gc_self ((plSt_len (c := c)).trans (plSt_len (c := c)).symm)
theorem hasM_at' {m : String} {C : Addr} {fs : List (String × PV)} {q : Nat} (e : M[q]? = some (.ins C fs)) (h : fs.lookup m = none) : hasM M C m (.ref q) = true := by
  unfold hasM
  simp only [e, h]
  simp
theorem F_fill_eq (hp : p < M.length) (hl : l < M.length) (h : p ≠ l) (hs : st.length ≤ 1000) : ∀ (n : Nat) {x : Bd} {s e : List Nat} {k : Nat} {mv : List Cm}, x.far ≤ n → k + x.mids ≤ 26 → mv.length + x.mvs < 100000 →
    F_Plan_fill c n [.ref p, x.pv, .str s, .str e] (plSt c M p l ow st k mv) = .ok .non (plSt c M p l ow st (fillB st x s e k).2 (mv ++ (fillB st x s e k).1))
  | 0, x, _, _, _, _, hn, _, _ => absurd x.far_pos (by omega)
  | n + 1, x, s, e, k, mv, hn, hk, hm => by
    have hM : ∀ (k' : Nat) (mv' : List Cm) (m : String), (planF ow st k' l).lookup m = none → hasM (plSt c M p l ow st k' mv') c.Plan m (.ref p) = true := fun k' mv' m hh => hasM_at' (plSt_p hp hl h) hh
    have hM1 : ∀ (k' : Nat) (mv' : List Cm), hasM (plSt c M p l ow st k' mv') c.Plan "new_stand" (.ref p) = true := fun k' mv' => hM k' mv' _ (by simp [List.lookup])
    have hM2 : ∀ (k' : Nat) (mv' : List Cm), hasM (plSt c M p l ow st k' mv') c.Plan "put" (.ref p) = true := fun k' mv' => hM k' mv' _ (by simp [List.lookup])
    have hM3 : ∀ (k' : Nat) (mv' : List Cm), hasM (plSt c M p l ow st k' mv') c.Plan "fill" (.ref p) = true := fun k' mv' => hM k' mv' _ (by simp [List.lookup])
    have l1 : (1 : Nat) ≤ lim := by decide
    rw [R_Plan_fill]
    unfold B_Plan_fill
    cases x with
    | again x =>
      have ns := F_new_stand_eq (c := c) (ow := ow) (mv := mv) (k := k) hp hl h (by unfold Bd.mids at hk; omega) hs
      have pu := F_pput_eq (c := c) (ow := ow) (st := st) (k := k + 1) (s := s) (a := idleV) (e := stnd st k) (mv := mv) hp hl h (by omega)
      have ih := F_fill_eq hp hl h hs n (x := x) (s := stnd st k) (e := stnd st k) (k := k + 1) (mv := mv ++ [⟨s, idleV, stnd st k⟩]) (by unfold Bd.far at hn; omega) (by unfold Bd.mids at hk; omega) (by unfold Bd.mvs at hm; simp; omega)
      have pu2 := F_pput_eq (c := c) (ow := ow) (st := st) (k := (fillB st x (stnd st k) (stnd st k) (k + 1)).2) (s := stnd st k) (a := idleV) (e := e) (mv := mv ++ [⟨s, idleV, stnd st k⟩] ++ (fillB st x (stnd st k) (stnd st k) (k + 1)).1) hp hl h (by
        unfold Bd.mvs at hm
        simp [fill_len]
        omega)
      have i0 : ∀ N : PM, pIxT (Bd.again x).pv (.int 0) N = .ok (.str tAgain) N := fun N => ixT0
      have i1 : ∀ N : PM, pIxT (Bd.again x).pv (.int 1) N = .ok x.pv N := fun N => ixT1
      have d1 : decide (tAgain = [116, 104, 101, 110]) = false := by decide
      have d2 : decide (tAgain = [111, 114]) = false := by decide
      have d3 : decide (tAgain = [97, 103, 97, 105, 110]) = true := by decide
      simp only [ev_fSeq, ev_fAsg, ev_fOp, ev_fVar0, ev_fVarS, bnd_ok, ev_fC, i0, go_ok, ev_gNm, toSt_some, List.set_cons_succ, List.set_cons_zero, then2_nx, ev_fIfS, ev_fTest, pEq_str, d1, d2, d3, asB_bl, Bool.false_eq_true, if_false, if_true, ev_fMeth, hM1, hM2, hM3, ev_fNil, List.append_nil, ns, ev_fDrop, ev_fCons, ev_fTup, List.length_cons, List.length_nil, Nat.zero_add, l1, pu, i1, ih, pu2, fnRes_nx]
      have e1 : mv ++ [⟨s, idleV, stnd st k⟩] ++ (fillB st x (stnd st k) (stnd st k) (k + 1)).1 ++ [⟨stnd st k, idleV, e⟩] = mv ++ (fillB st (.again x) s e k).1 := by
        conv => rhs; unfold fillB
        simp
      rw [e1]
      exact gc_self ((plSt_len (c := c)).trans (plSt_len (c := c)).symm)
    | two o x y =>
      have i1 : ∀ N : PM, pIxT (Bd.two o x y).pv (.int 1) N = .ok x.pv N := fun N => ixT1
      have i2 : ∀ N : PM, pIxT (Bd.two o x y).pv (.int 2) N = .ok y.pv N := fun N => rfl
      unfold Bd.far at hn
      unfold Bd.mids at hk
      unfold Bd.mvs at hm
      cases o with
      | false =>
        have hk : 1 + x.mids + y.mids + k ≤ 26 := by simp at hk; omega
        have i0 : ∀ N : PM, pIxT (Bd.two false x y).pv (.int 0) N = .ok (.str tThen) N := fun N => ixT0
        have ns := F_new_stand_eq (c := c) (ow := ow) (mv := mv) (k := k) hp hl h (by omega) hs
        have ih1 := F_fill_eq hp hl h hs n (x := x) (s := s) (e := stnd st k) (k := k + 1) (mv := mv) (by omega) (by omega) (by omega)
        have ih2 := F_fill_eq hp hl h hs n (x := y) (s := stnd st k) (e := e) (k := (fillB st x s (stnd st k) (k + 1)).2) (mv := mv ++ (fillB st x s (stnd st k) (k + 1)).1) (by omega) (by rw [fill_k]; omega) (by simp [fill_len]; omega)
        have d1 : decide (tThen = [116, 104, 101, 110]) = true := by decide
        simp only [ev_fSeq, ev_fAsg, ev_fOp, ev_fVar0, ev_fVarS, bnd_ok, ev_fC, i0, go_ok, ev_gNm, toSt_some, List.set_cons_succ, List.set_cons_zero, then2_nx, ev_fIfS, ev_fTest, pEq_str, d1, asB_bl, if_true, ev_fMeth, hM1, hM3, ev_fNil, List.append_nil, ns, ev_fDrop, ev_fCons, i1, ih1, i2, ih2, fnRes_nx]
        rw [List.append_assoc]
        exact gc_self ((plSt_len (c := c)).trans (plSt_len (c := c)).symm)
      | true =>
        have hk : x.mids + y.mids + k ≤ 26 := by simp at hk; omega
        have i0 : ∀ N : PM, pIxT (Bd.two true x y).pv (.int 0) N = .ok (.str tOr) N := fun N => ixT0
        have ih1 := F_fill_eq hp hl h hs n (x := x) (s := s) (e := e) (k := k) (mv := mv) (by omega) (by omega) (by omega)
        have ih2 := F_fill_eq hp hl h hs n (x := y) (s := s) (e := e) (k := (fillB st x s e k).2) (mv := mv ++ (fillB st x s e k).1) (by omega) (by rw [fill_k]; omega) (by simp [fill_len]; omega)
        have d1 : decide (tOr = [116, 104, 101, 110]) = false := by decide
        have d2 : decide (tOr = [111, 114]) = true := by decide
        simp only [ev_fSeq, ev_fAsg, ev_fOp, ev_fVar0, ev_fVarS, bnd_ok, ev_fC, i0, go_ok, ev_gNm, toSt_some, List.set_cons_succ, List.set_cons_zero, then2_nx, ev_fIfS, ev_fTest, pEq_str, d1, d2, asB_bl, Bool.false_eq_true, if_false, if_true, ev_fMeth, hM3, List.append_nil, ev_fDrop, ev_fCons, ev_fNil, i1, ih1, i2, ih2, fnRes_nx]
        rw [List.append_assoc]
        exact gc_self ((plSt_len (c := c)).trans (plSt_len (c := c)).symm)
    | skip =>
      have pu := F_pput_eq (c := c) (ow := ow) (st := st) (k := k) (s := s) (a := idleV) (e := e) (mv := mv) hp hl h (by omega)
      have i0 : ∀ N : PM, pIxT Bd.skip.pv (.int 0) N = .ok (.str tSkip) N := fun N => ixT0
      have d1 : decide (tSkip = [116, 104, 101, 110]) = false := by decide
      have d2 : decide (tSkip = [111, 114]) = false := by decide
      have d3 : decide (tSkip = [97, 103, 97, 105, 110]) = false := by decide
      have d4 : decide (tSkip = [115, 107, 105, 112]) = true := by decide
      simp only [ev_fSeq, ev_fAsg, ev_fOp, ev_fVar0, ev_fVarS, bnd_ok, ev_fC, i0, go_ok, ev_gNm, toSt_some, List.set_cons_succ, List.set_cons_zero, then2_nx, ev_fIfS, ev_fTest, pEq_str, d1, d2, d3, d4, decide_true, asB_bl, Bool.false_eq_true, if_false, if_true, ev_fMeth, hM2, ev_fNil, List.append_nil, ev_fDrop, ev_fCons, ev_fIf, ev_fTup, List.length_cons, List.length_nil, Nat.zero_add, l1, pu, fnRes_nx]
      exact gc_self ((plSt_len (c := c)).trans (plSt_len (c := c)).symm)
    | bare r =>
      have pu := F_pput_eq (c := c) (ow := ow) (st := st) (k := k) (s := s) (a := (Bd.bare r).pv) (e := e) (mv := mv) hp hl h (by omega)
      have i0 : ∀ N : PM, pIxT (Bd.bare r).pv (.int 0) N = .ok (.str tBare) N := fun N => ixT0
      have d1 : decide (tBare = [116, 104, 101, 110]) = false := by decide
      have d2 : decide (tBare = [111, 114]) = false := by decide
      have d3 : decide (tBare = [97, 103, 97, 105, 110]) = false := by decide
      have d4 : decide (tBare = [115, 107, 105, 112]) = false := by decide
      simp only [ev_fSeq, ev_fAsg, ev_fOp, ev_fVar0, ev_fVarS, bnd_ok, ev_fC, i0, go_ok, ev_gNm, toSt_some, List.set_cons_succ, List.set_cons_zero, then2_nx, ev_fIfS, ev_fTest, pEq_str, d1, d2, d3, d4, asB_bl, Bool.false_eq_true, if_false, if_true, ev_fMeth, hM2, ev_fNil, List.append_nil, ev_fDrop, ev_fCons, ev_fIf, pu, fnRes_nx]
      exact gc_self ((plSt_len (c := c)).trans (plSt_len (c := c)).symm)
    | act t r j =>
      have pu := F_pput_eq (c := c) (ow := ow) (st := st) (k := k) (s := s) (a := (Bd.act t r j).pv) (e := e) (mv := mv) hp hl h (by omega)
      have i0 : ∀ N : PM, pIxT (Bd.act t r j).pv (.int 0) N = .ok (.str (if t then tTake else tSend)) N := fun N => ixT0
      have d1 : decide ((if t then tTake else tSend) = [116, 104, 101, 110]) = false := by cases t <;> decide
      have d2 : decide ((if t then tTake else tSend) = [111, 114]) = false := by cases t <;> decide
      have d3 : decide ((if t then tTake else tSend) = [97, 103, 97, 105, 110]) = false := by cases t <;> decide
      have d4 : decide ((if t then tTake else tSend) = [115, 107, 105, 112]) = false := by cases t <;> decide
      simp only [ev_fSeq, ev_fAsg, ev_fOp, ev_fVar0, ev_fVarS, bnd_ok, ev_fC, i0, go_ok, ev_gNm, toSt_some, List.set_cons_succ, List.set_cons_zero, then2_nx, ev_fIfS, ev_fTest, pEq_str, d1, d2, d3, d4, asB_bl, Bool.false_eq_true, if_false, if_true, ev_fMeth, hM2, ev_fNil, List.append_nil, ev_fDrop, ev_fCons, ev_fIf, pu, fnRes_nx]
      exact gc_self ((plSt_len (c := c)).trans (plSt_len (c := c)).symm)
end
end Pu
/-! Bodies compiled: the whole. -/
namespace Pu
open PySem PySem.Spec PyProof.Rows L2 LB
open Classical
variable {c : CA} {M M' M'' M1 : PM} {b : Nat}
theorem F_Plan_init_eq {ow st : List Nat} : F_Plan_init c [.ref M.length, .str ow, .str st] (M ++ [.ins c.Plan []]) = .ok .non (M ++ [.ins c.Plan (planF ow st 0 (M.length + 1)), .lst []]) := by
  rw [R_Plan_init]
  unfold B_Plan_init
  have s1 : ∀ (fs' : List (String × PV)) (f : String) (v : PV) (r : PM), fs'.length < 1000 → setF (M ++ .ins c.Plan fs' :: r) c.Plan f (.ref M.length) v = some (M ++ .ins c.Plan (putS f v fs') :: r) := fun fs' f v r h => by
    rw [setF_at (fs := fs') (by simp) h]
    simp
  have l0 : (0 : Nat) ≤ lim := Nat.zero_le _
  simp only [ev_fSeq, ev_fSetF, ev_fVar0, ev_fVarS, go_ok]
  rw [s1 _ _ _ _ (by simp)]
  simp only [toM_some, then2_nx, ev_fSeq, ev_fSetF, ev_fVar0, ev_fVarS, go_ok]
  rw [s1 _ _ _ _ (by simp [putS])]
  simp only [toM_some, then2_nx, ev_fSeq, ev_fSetF, ev_fC, ev_fVar0, ev_fVarS, go_ok]
  rw [s1 _ _ _ _ (by simp [putS])]
  simp only [toM_some, then2_nx, ev_fSetF, ev_fLst, ev_fNil, bnd_ok, List.length_nil, l0, if_true, ev_fVar0, ev_fVarS, go_ok, List.append_assoc, List.cons_append, List.nil_append]
  rw [s1 _ _ _ _ (by simp [putS])]
  simp only [toM_some, fnRes_nx]
  have hF : putS "made" (.ref (M ++ [PO.ins c.Plan (putS "stand_count" (.int 0) (putS "stem" (.str st) (putS "owner" (.str ow) [])))]).length) (putS "stand_count" (.int 0) (putS "stem" (.str st) (putS "owner" (.str ow) []))) = planF ow st 0 (M.length + 1) := by
    simp [putS]
  rw [hF]
  refine gc_chg (i := M.length) (o := .ins c.Plan (planF ow st 0 (M.length + 1))) (by simp) (by simp) (fun w => ?_) (by simp)
  have := w ("made", .ref (M.length + 1)) (by simp)
  simp at this
/-- all moves of a body -/
def compB (st : List Nat) (x : Bd) : List Cm := (fillB st x (stnd st 0) (stnd st 1) 2).1
theorem plSt_app {ow st : List Nat} {k : Nat} {mv : List Cm} {o1 o2 : PO} : plSt c (M ++ [o1, o2]) M.length (M.length + 1) ow st k mv = M ++ [.ins c.Plan (planF ow st k (M.length + 1)), .lst (mv.map (cmV ow))] := by
  unfold plSt
  rw [List.set_append_right _ _ (Nat.le_refl _), Nat.sub_self, List.set_append_right _ _ (Nat.le_succ _), show M.length + 1 - M.length = 1 by omega]
  rfl
theorem isNm_of {s : List Nat} (h : isNam s = true) : isNm s := by
  unfold isNam at h
  rw [Bool.and_eq_true, decide_eq_true_eq, List.all_eq_true] at h
  exact ⟨by omega, h.1.2, fun d hd => by
    have := h.2 d hd
    unfold low at this
    exact of_decide_eq_true this⟩
theorem F_compiled_eq {ow st : List Nat} {x : Bd} (ho : isNam ow = true) (hs : isNam st = true) (h7 : st.length ≤ 7) (g : BdG x) (h6 : x.far ≤ 6) (h24 : x.parts.length ≤ 24) :
    F_p_compiled c [.str ow, x.pv, .str st] M = .ok (.tup [.str (stnd st 0), .ref (M.length + 1), .str (stnd st 1)]) (M ++ [.ins c.Plan (planF ow st (2 + x.mids) (M.length + 1)), .lst ((compB st x).map (cmV ow))]) := by
  have no := (isNm_of ho).2.1
  have n1 := F_is_name_eq (c := c) (M := M) (s := ow) (by unfold lim; omega)
  have n2 := F_is_name_eq (c := c) (M := M) (s := st) (by unfold lim; omega)
  rw [ho] at n1
  rw [hs] at n2
  have ls : bLenS [.str st] M = .ok (.int (st.length : Nat)) M := bLenS_str (by unfold lim; omega)
  have d7 : decide ((7 : Int) < (st.length : Nat)) = false := decide_eq_false (by omega)
  have cb := F_p_check_body_eq (c := c) (M := M) g h6 h24
  have hi := F_Plan_init_eq (c := c) (M := M) (ow := ow) (st := st)
  have hl : M.length + 1 < (M ++ [PO.ins c.Plan (planF ow st 0 (M.length + 1)), .lst []]).length := by simp
  have hp : M.length < (M ++ [PO.ins c.Plan (planF ow st 0 (M.length + 1)), .lst []]).length := by simp
  have hne : M.length ≠ M.length + 1 := by omega
  have s0 : plSt c (M ++ [.ins c.Plan (planF ow st 0 (M.length + 1)), .lst []]) M.length (M.length + 1) ow st 0 [] = M ++ [.ins c.Plan (planF ow st 0 (M.length + 1)), .lst []] := plSt_app
  have w1 := F_new_stand_eq (c := c) (k := 0) (mv := []) (ow := ow) (st := st) hp hl hne (by decide) (by omega)
  have w2 := F_new_stand_eq (c := c) (k := 1) (mv := []) (ow := ow) (st := st) hp hl hne (by decide) (by omega)
  have md := x.mids_lt
  have mm := x.mvs_le
  have fl := F_fill_eq (c := c) (ow := ow) (st := st) hp hl hne (by omega) 9 (x := x) (s := stnd st 0) (e := stnd st 1) (k := 2) (mv := []) (by omega) (by omega) (by simp; omega)
  rw [s0] at w1
  have hM : ∀ (k' : Nat) (mv' : List Cm) (m : String), (planF ow st k' (M.length + 1)).lookup m = none → hasM (plSt c (M ++ [.ins c.Plan (planF ow st 0 (M.length + 1)), .lst []]) M.length (M.length + 1) ow st k' mv') c.Plan m (.ref M.length) = true := fun k' mv' m hh => hasM_at' (plSt_p hp hl hne) hh
  have hM0 : hasM (M ++ [.ins c.Plan (planF ow st 0 (M.length + 1)), .lst []]) c.Plan "new_stand" (.ref M.length) = true := by rw [← s0]; exact hM 0 [] _ (by simp [List.lookup])
  have hM1 := hM 1 [] "new_stand" (by simp [List.lookup])
  have hM2 := hM 2 [] "fill" (by simp [List.lookup])
  have ff : fldP (plSt c (M ++ [.ins c.Plan (planF ow st 0 (M.length + 1)), .lst []]) M.length (M.length + 1) ow st (fillB st x (stnd st 0) (stnd st 1) 2).2 ([] ++ (fillB st x (stnd st 0) (stnd st 1) 2).1)) c.Plan "made" (.ref M.length) = some (.ref (M.length + 1)) := fld_at (plSt_p hp hl hne) (by simp [List.lookup])
  have l3 : (3 : Nat) ≤ lim := by decide
  rw [R_p_compiled]
  unfold B_p_compiled
  simp only [ev_fSeq, ev_fIfS, ev_fOr, ev_fNot, ev_fTest, ev_fCall, ev_fCons, ev_fVar0, ev_fVarS, ev_fNil, bnd_ok, List.append_nil, n1, n2, asB_bl, Bool.not_true, Bool.false_eq_true, if_false, ev_fOp, ev_fB, ls, ev_fC, pI0_int, d7, go_ok, ev_fNext, then2_nx, ev_fDrop, cb, ev_fAsg, ev_fMake, hi, asN, ev_gNm, toSt_some, List.set_cons_succ, List.set_cons_zero, ev_fMeth, hM0, if_true, w1, hM1, w2, hM2, fl, ev_fRet, ev_fTup, ev_fFld, ff, asF_some, List.length_cons, List.length_nil, Nat.zero_add, Nat.reduceAdd, l3, fnRes_rt]
  rw [plSt_app, fill_k, List.nil_append]
  unfold gc
  simp only
  rw [if_neg fun z => ?_]
  · rfl
  · have := z.2
    simp at this
    omega
theorem F_compiled_name {ow st : List Nat} {p : PV} (ho : ow.length ≤ 100) (hs : st.length ≤ 100) (h : ¬ (isNam ow = true ∧ isNam st = true ∧ st.length ≤ 7)) : F_p_compiled c [.str ow, p, .str st] M = .exc ⟨c.BadName, Str.ofString "badname", -1⟩ M := by
  have n1 := F_is_name_eq (c := c) (M := M) (s := ow) (by unfold lim; omega)
  have n2 := F_is_name_eq (c := c) (M := M) (s := st) (by unfold lim; omega)
  have ls : bLenS [.str st] M = .ok (.int (st.length : Nat)) M := bLenS_str (by unfold lim; omega)
  have t : (fOr (fNot (fTest (fCall (F_p_is_name c) [] (fCons (fVar 0) fNil)))) (fOr (fNot (fTest (fCall (F_p_is_name c) [] (fCons (fVar 2) fNil)))) (fTest (fOp (pI0 fun i j => .bl (decide (j < i))) (fB bLenS (fCons (fVar 2) fNil)) (fC (.int 7)))))) [some (.str ow), some p, some (.str st), none, none, none] M = .ok true M := by
    cases h1 : isNam ow with
    | false =>
      rw [h1] at n1
      simp only [ev_fOr, ev_fNot, ev_fTest, ev_fCall, ev_fCons, ev_fVar0, ev_fNil, bnd_ok, List.append_nil, n1, asB_bl, Bool.not_false, if_true]
    | true =>
      rw [h1] at n1
      cases h2 : isNam st with
      | false =>
        rw [h2] at n2
        simp only [ev_fOr, ev_fNot, ev_fTest, ev_fCall, ev_fCons, ev_fVar0, ev_fVarS, ev_fNil, bnd_ok, List.append_nil, n1, n2, asB_bl, Bool.not_true, Bool.not_false, Bool.false_eq_true, if_false, if_true]
      | true =>
        rw [h2] at n2
        have d7 : decide ((7 : Int) < (st.length : Nat)) = true := decide_eq_true (by
          by_cases q : st.length ≤ 7
          · exact absurd ⟨h1, h2, q⟩ h
          · omega)
        simp only [ev_fOr, ev_fNot, ev_fTest, ev_fCall, ev_fCons, ev_fVar0, ev_fVarS, ev_fNil, bnd_ok, List.append_nil, n1, n2, asB_bl, Bool.not_true, Bool.false_eq_true, if_false, ev_fOp, ev_fB, ls, ev_fC, pI0_int, d7]
  rw [R_p_compiled]
  unfold B_p_compiled
  simp only [ev_fSeq, ev_fIfS, t, go_ok, if_true, fRaise, ev_fNil, bnd_ok, List.nil_append, show (-1000 : Int) ≤ -1 ∧ (-1 : Int) < 512 from by decide, and_self, then2_exc, fnRes_exc]
  have := gc_exc (M := M) (M2 := M) (x := ⟨c.BadName, Str.ofString "badname", -1⟩) keep_self
  rw [List.take_length] at this
  exact this
theorem F_p_is_body_all {x : Bd} (g : BdG x) (h6 : x.far ≤ 6) : F_p_is_body c [x.pv] M = .ok (.bl (decide (x.parts.length ≤ 24))) M := by
  have e1 := F_p_is_built_eq (c := c) (M := M) 9 g (by omega) (lv := 6) h6 (by decide)
  have e1 : F_p_is_built c 9 [x.pv, .int 6] M = .ok (.bl true) M := e1
  have e2 := F_p_all_parts_eq (c := c) 9 x M (by omega) (by decide)
  have bl := bLen_lst (M := M ++ [PO.lst (x.parts.map Bd.pv)]) (k := M.length) at1
  rw [List.length_map] at bl
  rw [R_p_is_body]
  unfold B_p_is_body
  simp only [ev_fRet, ev_fAndV, ev_fCall, ev_fCons, ev_fVar0, ev_fC, ev_fNil, bnd_ok, List.append_nil, e1, asB_bl, if_true, ev_fOp, ev_fB, e2, bl, pI0_int, go_ok, fnRes_rt]
  rw [gc_old .app (by simp)]
  congr 2
  apply decide_eq_decide.mpr
  omega
theorem F_compiled_body {ow st : List Nat} {x : Bd} (ho : isNam ow = true) (hs : isNam st = true) (h7 : st.length ≤ 7) (g : BdG x) (h6 : x.far ≤ 6) (h24 : ¬ x.parts.length ≤ 24) :
    F_p_compiled c [.str ow, x.pv, .str st] M = .exc ⟨c.BadBody, Str.ofString "badbody", -1⟩ M := by
  have no := (isNm_of ho).2.1
  have n1 := F_is_name_eq (c := c) (M := M) (s := ow) (by unfold lim; omega)
  have n2 := F_is_name_eq (c := c) (M := M) (s := st) (by unfold lim; omega)
  rw [ho] at n1
  rw [hs] at n2
  have ls : bLenS [.str st] M = .ok (.int (st.length : Nat)) M := bLenS_str (by unfold lim; omega)
  have d7 : decide ((7 : Int) < (st.length : Nat)) = false := decide_eq_false (by omega)
  have ib := F_p_is_body_all (c := c) (M := M) g h6
  rw [decide_eq_false h24] at ib
  have ge : ∀ x : Xc, gc M (.exc x M) = .exc x M := fun x => by
    have := gc_exc (M := M) (M2 := M) (x := x) keep_self
    rw [List.take_length] at this
    exact this
  have cb : F_p_check_body c [x.pv] M = .exc ⟨c.BadBody, Str.ofString "badbody", -1⟩ M := by
    rw [R_p_check_body]
    unfold B_p_check_body
    simp only [ev_fIfS, ev_fNot, ev_fTest, ev_fCall, ev_fCons, ev_fVar0, ev_fNil, bnd_ok, List.append_nil, ib, asB_bl, Bool.not_false, go_ok, if_true, fRaise, List.nil_append, show (-1000 : Int) ≤ -1 ∧ (-1 : Int) < 512 from by decide, and_self, fnRes_exc]
    exact ge _
  rw [R_p_compiled]
  unfold B_p_compiled
  simp only [ev_fSeq, ev_fIfS, ev_fOr, ev_fNot, ev_fTest, ev_fCall, ev_fCons, ev_fVar0, ev_fVarS, ev_fNil, bnd_ok, List.append_nil, n1, n2, asB_bl, Bool.not_true, Bool.false_eq_true, if_false, ev_fOp, ev_fB, ls, ev_fC, pI0_int, d7, go_ok, ev_fNext, then2_nx, ev_fDrop, cb, go_exc, then2_exc, fnRes_exc]
  exact ge _
/-! ### the stands -/
theorem fill_stands (st : List Nat) : ∀ (x : Bd) (s e : List Nat) (k : Nat), (∃ i < k, s = stnd st i) → (∃ i < k, e = stnd st i) → ∀ m ∈ (fillB st x s e k).1, (∃ i < k + x.mids, m.s = stnd st i) ∧ (∃ i < k + x.mids, m.e = stnd st i)
  | .again x, s, e, k, hs, he, m, hm => by
    have up : ∀ {z : List Nat} {a b : Nat}, (∃ i < a, z = stnd st i) → a ≤ b → ∃ i < b, z = stnd st i := fun ⟨i, hi, e⟩ h => ⟨i, by omega, e⟩
    have mid : ∃ i < k + 1, stnd st k = stnd st i := ⟨k, by omega, rfl⟩
    unfold fillB at hm
    unfold Bd.mids
    simp only [List.mem_cons, List.mem_append, List.not_mem_nil, or_false] at hm
    rcases hm with rfl | hm | rfl
    · exact ⟨up hs (by omega), up mid (by omega)⟩
    · have := fill_stands st x (stnd st k) (stnd st k) (k + 1) mid mid m hm
      exact ⟨up this.1 (by omega), up this.2 (by omega)⟩
    · exact ⟨up mid (by omega), up he (by omega)⟩
  | .two false x y, s, e, k, hs, he, m, hm => by
    have up : ∀ {z : List Nat} {a b : Nat}, (∃ i < a, z = stnd st i) → a ≤ b → ∃ i < b, z = stnd st i := fun ⟨i, hi, e⟩ h => ⟨i, by omega, e⟩
    have mid : ∃ i < k + 1, stnd st k = stnd st i := ⟨k, by omega, rfl⟩
    unfold fillB at hm
    unfold Bd.mids
    simp only [List.mem_append, fill_k] at hm
    simp only [Bool.false_eq_true, if_false]
    rcases hm with hm | hm
    · have := fill_stands st x s (stnd st k) (k + 1) (up hs (by omega)) mid m hm
      exact ⟨up this.1 (by omega), up this.2 (by omega)⟩
    · have := fill_stands st y (stnd st k) e (k + 1 + x.mids) (up mid (by omega)) (up he (by omega)) m hm
      exact ⟨up this.1 (by omega), up this.2 (by omega)⟩
  | .two true x y, s, e, k, hs, he, m, hm => by
    have up : ∀ {z : List Nat} {a b : Nat}, (∃ i < a, z = stnd st i) → a ≤ b → ∃ i < b, z = stnd st i := fun ⟨i, hi, e⟩ h => ⟨i, by omega, e⟩
    unfold fillB at hm
    unfold Bd.mids
    simp only [List.mem_append, fill_k] at hm
    simp only [if_true]
    rcases hm with hm | hm
    · have := fill_stands st x s e k hs he m hm
      exact ⟨up this.1 (by omega), up this.2 (by omega)⟩
    · have := fill_stands st y s e (k + x.mids) (up hs (by omega)) (up he (by omega)) m hm
      exact ⟨up this.1 (by omega), up this.2 (by omega)⟩
  | .skip, s, e, k, hs, he, m, hm => by
    unfold fillB at hm
    have := List.mem_singleton.mp hm
    subst this
    exact ⟨hs, he⟩
  | .bare r, s, e, k, hs, he, m, hm => by
    unfold fillB at hm
    have := List.mem_singleton.mp hm
    subst this
    exact ⟨hs, he⟩
  | .act t r j, s, e, k, hs, he, m, hm => by
    unfold fillB at hm
    have := List.mem_singleton.mp hm
    subst this
    exact ⟨hs, he⟩
/-- the acts -/
theorem fill_acts (st : List Nat) : ∀ (x : Bd) (s e : List Nat) (k : Nat), BdG x → ∀ m ∈ (fillB st x s e k).1, m.a = idleV ∨ ∃ y : Bd, BdG y ∧ m.a = y.pv ∧ y.comp = false ∧ y.isSkip = false
  | .again x, s, e, k, g, m, hm => by
    unfold fillB at hm
    simp only [List.mem_cons, List.mem_append, List.not_mem_nil, or_false] at hm
    rcases hm with rfl | hm | rfl
    · exact .inl rfl
    · exact fill_acts st x _ _ _ g m hm
    · exact .inl rfl
  | .two false x y, s, e, k, g, m, hm => by
    unfold fillB at hm
    rcases List.mem_append.mp hm with hm | hm
    · exact fill_acts st x _ _ _ g.1 m hm
    · exact fill_acts st y _ _ _ g.2 m hm
  | .two true x y, s, e, k, g, m, hm => by
    unfold fillB at hm
    rcases List.mem_append.mp hm with hm | hm
    · exact fill_acts st x _ _ _ g.1 m hm
    · exact fill_acts st y _ _ _ g.2 m hm
  | .skip, s, e, k, g, m, hm => by
    unfold fillB at hm
    have := List.mem_singleton.mp hm
    subst this
    exact .inl rfl
  | .bare r, s, e, k, g, m, hm => by
    unfold fillB at hm
    have := List.mem_singleton.mp hm
    subst this
    exact .inr ⟨.bare r, g, rfl, rfl, rfl⟩
  | .act t r j, s, e, k, g, m, hm => by
    unfold fillB at hm
    have := List.mem_singleton.mp hm
    subst this
    exact .inr ⟨.act t r j, g, rfl, rfl, rfl⟩
end Pu
namespace Puk48
open PySem PySem.Spec PyProof.Rows L2 LB Pu
abbrev exCs (c : CA) : List Addr := [c.BadName, c.BadBody]
def KGP_p_compiled_2_stem : List PV → List PV → List PV
  | [x0, x1], [k_stem] => [x0, x1, k_stem]
  | _, _ => []
/-! #### the law -/
noncomputable def B_law (c : CA) : FS :=
  (fSeq (fAsg (fTup (fCons (fCallN (F_letters c) [] (fCons (fVar 1) fNil)) (fCons (fCallN (F_names c) [] (fCons (fVar 1) (fCons (fC (.int 3)) fNil))) fNil))) (gTp (gsCons (gNm 2) (gsCons (gNm 3) gsNil))))
  (fSeq (fAsg (fC (.str [97, 98, 99, 100, 101, 102, 103, 104, 105, 106, 107, 108, 109, 110, 111, 112, 113, 114, 115, 116, 117, 118, 119, 120, 121, 122])) (gNm 4))
  (fSeq (fFor (fIA itR1 (fCons (fC (.int 5)) fNil)) (gNm 5) (fSeq (fAsg (fCallN (F_body c 9) [] (fCons (fVar 1) (fCons (fVar 3) (fCons (fVar 2) (fCons (fOp (pI0 fun i j => .int (i + j)) (fC (.int 1)) (fCallN (F_pull c) [] (fCons (fVar 1) (fCons (fC (.int 6)) fNil)))) fNil))))) (gNm 13))
  (fSeq (fAsg (fCallN (F_of c) [] (fCons (fVar 1) (fCons (fOp pAddL (fCallN (F_names c) [] (fCons (fVar 1) (fCons (fC (.int 3)) fNil))) (fLst (fCons (fC (.str [])) (fCons (fC (.str [65])) (fCons (fC (.str [97, 98, 99, 100, 101, 102, 103, 104, 105])) (fCons (fC (.str [97, 32, 98])) fNil)))))) fNil))) (gNm 14))
  (fSeq (fAsg (fCallN (F_of c) [] (fCons (fVar 1) (fCons (fOp pAddL (fCallN (F_names c) [] (fCons (fVar 1) (fCons (fC (.int 3)) fNil))) (fLst (fCons (fC (.str [])) (fCons (fC (.str [83])) (fCons (fC (.str [97, 98, 99, 100, 101, 102, 103])) (fCons (fC (.str [97, 98, 99, 100, 101, 102, 103, 104])) fNil)))))) fNil))) (gNm 15))
  (fSeq (fAsg (fAndV (fCallN (F_plain_text c) [] (fCons (fVar 14) (fCons (fC (.int 1)) (fCons (fC (.int 8)) fNil)))) (fCallN (F_plain_text c) [] (fCons (fVar 15) (fCons (fC (.int 1)) (fCons (fC (.int 7)) fNil))))) (gNm 6))
  (fIfS (fNot (fTest (fVar 6))) (fIfS (fTest (fOp pNeD (fRef (exCs c) (fCallK (F_p_compiled c) KGP_p_compiled_2_stem (fCons (fVar 14) (fCons (fTup (fCons (fC (.str [116, 104, 101, 110])) fNil)) fNil)) (fCons (fVar 15) fNil))) (fTup (fCons (fC (.str [98, 97, 100, 110, 97, 109, 101])) (fCons (fUn (pU fun i => .int (-i)) (fC (.int 1))) fNil))))) (fRet (fC (.bl false))) fNext) (fIfS (fNot (fTest (fCallN (F_body_ok c) [] (fCons (fVar 13) fNil)))) (fIfS (fTest (fOp pNeD (fRef (exCs c) (fCallK (F_p_compiled c) KGP_p_compiled_2_stem (fCons (fVar 14) (fCons (fVar 13) fNil)) (fCons (fVar 15) fNil))) (fTup (fCons (fC (.str [98, 97, 100, 98, 111, 100, 121])) (fCons (fUn (pU fun i => .int (-i)) (fC (.int 1))) fNil))))) (fRet (fC (.bl false))) fNext) (fSeq (fAsg (fCallKN (F_p_compiled c) KGP_p_compiled_2_stem (fCons (fVar 14) (fCons (fVar 13) fNil)) (fCons (fVar 15) fNil)) (gTp (gsCons (gNm 7) (gsCons (gNm 8) (gsCons (gNm 9) gsNil)))))
  (fSeq (fAsg (fB bLst (fCons (fVar 8) fNil)) (gNm 10))
  (fSeq (fAsg (fB bLen (fCons (fCallN (F_all_in c 9) [] (fCons (fVar 13) fNil)) fNil)) (gNm 11))
  (fSeq (fAsg (fSortSet (fOp pAddL (fOp pAddL (fLst (fCons (fVar 7) (fCons (fVar 9) fNil))) (fLc (fI itL (fVar 8)) (gNm 18) fYes (fOp pIxT (fVar 18) (fC (.int 1))) [18])) (fLc (fI itL (fVar 8)) (gNm 18) fYes (fOp pIxT (fVar 18) (fC (.int 3))) [18]))) (gNm 12))
  (fSeq (fIfS (fOr (fTest (fOp (pI0 fun i j => .bl (decide (j < i))) (fB bLen (fCons (fVar 8) fNil)) (fOp (pI0 fun i j => .int (i + j)) (fOp (pI CMul fun i j => .int (i * j)) (fC (.int 3)) (fVar 11)) (fC (.int 2))))) (fOr (fTest (fOp (pI0 fun i j => .bl (decide (j < i))) (fB bLen (fCons (fVar 12) fNil)) (fOp (pI0 fun i j => .int (i + j)) (fVar 11) (fC (.int 2))))) (fNot (fTest (fB bIsi (fCons (fVar 8) (fCons (fC (.ty "list")) fNil))))))) (fRet (fC (.bl false))) fNext)
  (fSeq (fIfS (fNot (fTest (fGc (fB bAll (fCons (fLc (fI itL (fVar 12)) (gNm 17) fYes (fAndV (fOp pEq (fSl pSlS (fVar 17) fNoPart (fPart (fUn (pU fun i => .int (-i)) (fC (.int 1))))) (fVar 15)) (fOp pInS (fOp pIxS (fVar 17) (fUn (pU fun i => .int (-i)) (fC (.int 1)))) (fVar 4))) [17]) fNil))))) (fRet (fC (.bl false))) fNext)
  (fSeq (fIfS (fTest (fOp pNeD (fLc (fI itL (fVar 8)) (gNm 16) (fOr (fTest (fOp pNe (fOp pIxT (fVar 16) (fC (.int 0))) (fVar 14))) (fTest (fOp (pIn true) (fOp pIxT (fOp pIxT (fVar 16) (fC (.int 2))) (fC (.int 0))) (fTup (fCons (fC (.str [115, 101, 110, 100])) (fCons (fC (.str [116, 97, 107, 101])) (fCons (fC (.str [98, 97, 114, 101])) (fCons (fC (.str [105, 100, 108, 101])) fNil)))))))) (fVar 16) [16]) (fLst fNil))) (fRet (fC (.bl false))) fNext)
  (fSeq (fDrop (fBM "list" mAppend (fVar 8) (fCons (fC (.int 1)) fNil)))
  (fIfS (fNot (fTest (fCallN (F_same 9) [] (fCons (fCallKN (F_p_compiled c) KGP_p_compiled_2_stem (fCons (fVar 14) (fCons (fVar 13) fNil)) (fCons (fVar 15) fNil)) (fCons (fTup (fCons (fVar 7) (fCons (fVar 10) (fCons (fVar 9) fNil)))) fNil))))) (fRet (fC (.bl false))) fNext))))))))))))))))
  (fRet (fC (.bl true))))))
end Puk48
namespace Pu
open PySem PySem.Spec PyProof.Rows L2 LB
open Classical
/-! ### a law's body: what ends with True -/
def YesR (r : SR) : Prop := ∃ M', r = .rt (.bl true) M'
section
variable {fe : FE} {fg : FG} {f g h : FS} {σ σ1 : PS} {p : PV} {t : FT} {M M1 : PM}
theorem asgY (e : fe σ M = .ok p M1) (hg : fg p σ = some σ1) (k : YesR (f σ1 M1)) : YesR (fSeq (fAsg fe fg) f σ M) := by
  rw [ev_fSeq, ev_fAsg, e, go_ok, hg, toSt_some, then2_nx]
  exact k
theorem goesY {Q : PS → PM → Prop} (b : Goes f σ M Q) (k : ∀ σ M, Q σ M → YesR (h σ M)) : YesR (fSeq f h σ M) := by
  obtain ⟨σ', M', e, q⟩ := b
  rw [ev_fSeq, e, then2_nx]
  exact k _ _ q
theorem trueY : YesR (fRet (fC (.bl true)) σ M) := ⟨M, rfl⟩
end
end Pu
namespace Pu
open PySem PySem.Spec PyProof.Rows L2 LB
open Classical
/-! ### list.index over a list of data -/
end Pu
namespace Pu
open PySem PySem.Spec PyProof.Rows L2 LB
open Classical
end Pu
namespace Pu
open PySem PySem.Spec PyProof.Rows L2 LB
open Classical
/-! ### drawn leaks -/
/-! ### drawn runs -/
end Pu
namespace Pu
open PySem PySem.Spec PyProof.Rows L2 LB
open Classical
/-! ### draws beside other things -/
end Pu
namespace Pu
open PySem PySem.Spec PyProof.Rows L2 LB
open Classical
end Pu
namespace Pu
open PySem PySem.Spec PyProof.Rows L2 LB
open Classical
variable {c : CA} {M M' M'' M1 : PM} {b : Nat}
@[simp] theorem ev_fCallK (F : FF) (g : List PV → List PV → List PV) (fr fk : FA) (σ : PS) (M : PM) : fCallK F g fr fk σ M = (fr σ M).bnd fun as M1 => (fk σ M1).bnd fun zs M2 => F (g as zs) M2 := id rfl
@[simp] theorem ev_fCallKN (F : FF) (g : List PV → List PV → List PV) (fr fk : FA) (σ : PS) (M : PM) : fCallKN F g fr fk σ M = (fr σ M).bnd fun as M1 => (fk σ M1).bnd fun zs M2 => (F (g as zs) M2).nox := id rfl
/-! ### the texts of a run -/
end Pu
namespace Pu
open PySem PySem.Spec PyProof.Rows L2 LB
open Classical
variable {c : CA} {M M' M'' M1 : PM} {b : Nat}
/-! ### wishes -/
theorem nd_len {ns ps : List (List Nat)} (nd : ns.Nodup) (sub : ∀ n ∈ ns, n ∈ ps) : ns.length ≤ ps.length := List.Nodup.length_le_of_subset nd sub
/-! ### granted -/
end Pu
namespace Puk48
open PySem PySem.Spec PyProof.Rows L2 LB Pu
open Classical
variable {c : CA} {M M' M'' : PM} {b : Nat}
theorem F_plain_all {s : List Nat} {few top : Nat} (h3 : s.length ≤ 1000) : F_plain_text c [.str s, .int (few : Nat), .int (top : Nat)] M = .ok (.bl (decide (few ≤ s.length ∧ s.length ≤ top) && s.all low)) M := by
  rw [R_plain_text]
  unfold B_plain_text
  have ty : bIsi [.str s, .ty "str"] M = .ok (.bl true) M := rfl
  have ls : bLenS [.str s] M = .ok (.int (s.length : Nat)) M := bLenS_str (by unfold lim; omega)
  by_cases h1 : few ≤ s.length
  · have d1 : decide (((few : Nat) : Int) ≤ (s.length : Nat)) = true := decide_eq_true (by omega)
    by_cases h2 : s.length ≤ top
    · have d2 : decide (((s.length : Nat) : Int) ≤ (top : Nat)) = true := decide_eq_true (by omega)
      have lc := lc_mapE (ok := fun _ : PM => True) (g := gNm 5) (ft := fYes) (fe := fOp pInS (fVar 5) (fVar 3)) (σ := [some (.str s), some (.int (few : Nat)), some (.int (top : Nat)), some (.str [97, 98, 99, 100, 101, 102, 103, 104, 105, 106, 107, 108, 109, 110, 111, 112, 113, 114, 115, 116, 117, 118, 119, 120, 121, 122]), some (.bl true), none]) (e := fun d : Nat => PV.str [d]) (d := M.length) (N := M ++ [.lst []]) (zs := s)
        M (fun d => PV.bl (low d)) rfl rfl (fun acc => trivial) (by unfold lim; omega) (fun d hd => ⟨_, rfl, fun acc => ⟨rfl, by rw [← low_in]; rfl⟩⟩)
      have hwp : wipeP [some (.str s), some (.int (few : Nat)), some (.int (top : Nat)), some (.str [97, 98, 99, 100, 101, 102, 103, 104, 105, 106, 107, 108, 109, 110, 111, 112, 113, 114, 115, 116, 117, 118, 119, 120, 121, 122]), some (.bl true), none] [5] = [some (PV.str s), some (.int (few : Nat)), some (.int (top : Nat)), some (.str [97, 98, 99, 100, 101, 102, 103, 104, 105, 106, 107, 108, 109, 110, 111, 112, 113, 114, 115, 116, 117, 118, 119, 120, 121, 122]), some (.bl true), none] := rfl
      have is : itS (.str s) M = .ok ⟨s.map fun d => PV.str [d], fun _ => True⟩ M := rfl
      have ba : bAll [.ref M.length] (M ++ [PO.lst (s.map fun d => PV.bl (low d))]) = _ := bAll_atF M [] low s
      simp only [ev_fSeq, ev_fAsg, ev_fC, go_ok, ev_gNm, toSt_some, List.set_cons_succ, List.set_cons_zero, then2_nx, ev_fAndV, ev_fB, ev_fCons, ev_fVar0, ev_fVarS, ev_fNil, bnd_ok, ty, asB_bl, if_true, ev_fChain, ls, pI0_int, d1, d2, ev_fRet, ev_fGc, ev_fLc, ev_fI, is, hwp, lc, ba]
      rw [gc_old .app (by simp)]
      simp only [go_ok, fnRes_rt, decide_eq_true (show few ≤ s.length ∧ s.length ≤ top from ⟨h1, h2⟩), Bool.true_and]
      exact gcN (by simp)
    · have d2 : decide (((s.length : Nat) : Int) ≤ (top : Nat)) = false := decide_eq_false (by omega)
      simp only [ev_fSeq, ev_fAsg, ev_fC, go_ok, ev_gNm, toSt_some, List.set_cons_succ, List.set_cons_zero, then2_nx, ev_fAndV, ev_fB, ev_fCons, ev_fVar0, ev_fVarS, ev_fNil, bnd_ok, ty, asB_bl, if_true, ev_fChain, ls, pI0_int, d1, d2, ev_fRet, Bool.false_eq_true, if_false, fnRes_rt, decide_eq_false (show ¬ (few ≤ s.length ∧ s.length ≤ top) from fun z => h2 z.2), Bool.false_and]
      exact gcN (by simp)
  · have d1 : decide (((few : Nat) : Int) ≤ (s.length : Nat)) = false := decide_eq_false (by omega)
    simp only [ev_fSeq, ev_fAsg, ev_fC, go_ok, ev_gNm, toSt_some, List.set_cons_succ, List.set_cons_zero, then2_nx, ev_fAndV, ev_fB, ev_fCons, ev_fVar0, ev_fVarS, ev_fNil, bnd_ok, ty, asB_bl, if_true, ev_fChain, ls, pI0_int, d1, ev_fRet, Bool.false_eq_true, if_false, fnRes_rt, decide_eq_false (show ¬ (few ≤ s.length ∧ s.length ≤ top) from fun z => h1 z.1), Bool.false_and]
    exact gcN (by simp)
theorem bag_set {s k : Nat} {o : PO} (h : BagAt M b s) (h1 : k ≠ b) (h2 : k ≠ s) : BagAt (M.set k o) b s := by
  obtain ⟨n, ns, i, r, sd, ct, e, e2, h0⟩ := h
  exact ⟨n, ns, i, r, sd, ct, (List.getElem?_set_ne h1).trans e, (List.getElem?_set_ne h2).trans e2, h0⟩
/-- a name, or an odd one -/
theorem odd_name {a1 a2 a3 a4 : List Nat} {σ : PS} {N : PM} (h0 : σ[1]? = some (some (.ref 1))) (hB : BagAt N 1 0) (h1 : a1.length ≤ 10) (h2 : a2.length ≤ 10) (h3 : a3.length ≤ 10) (h4 : a4.length ≤ 10) :
    ∃ w N', (fCallN (F_of c) [] (fCons (fVar 1) (fCons (fOp pAddL (fCallN (F_names c) [] (fCons (fVar 1) (fCons (fC (.int 3)) fNil))) (fLst (fCons (fC (.str a1)) (fCons (fC (.str a2)) (fCons (fC (.str a3)) (fCons (fC (.str a4)) fNil)))))) fNil))) σ N = .ok (.str w) N' ∧ w.length ≤ 10 ∧ BagAt N' 1 0 ∧ ∀ (i : Nat) (o : PO), i ≠ 1 → N[i]? = some o → N'[i]? = some o := by
  have hv : ∀ N : PM, fVar 1 σ N = .ok (.ref 1) N := fun N => by unfold fVar; simp only [h0]
  obtain ⟨ns, N1, nl, ln, d1, e1⟩ := F_names_eq (c := c) hB (n := 3) (by decide)
  have e1 : F_names c [.ref 1, .int 3] N = .ok (.ref N.length) (N1 ++ [.lst (ns.map PV.str)]) := e1
  have l4 : (4 : Nat) ≤ lim := by decide
  have al := pAddL_at (M := N1 ++ [PO.lst (ns.map PV.str)] ++ [.lst [.str a1, .str a2, .str a3, .str a4]]) (A := ns.map PV.str) (B := [.str a1, .str a2, .str a3, .str a4]) (k := N.length) (j := (N1 ++ [PO.lst (ns.map PV.str)]).length) (by rw [List.length_map, ln]; simp; unfold lim; omega) (by rw [List.getElem?_append_left (by simp [d1.len]), ← d1.len]; exact at1) at1
  have lB := hB.ltb
  obtain ⟨x, N2, e2, mx, d2⟩ := F_of_lst (c := c) (b := 1) (s := 0) (k := (N1 ++ [PO.lst (ns.map PV.str)] ++ [PO.lst [.str a1, .str a2, .str a3, .str a4]]).length) (M := N1 ++ [PO.lst (ns.map PV.str)] ++ [PO.lst [.str a1, .str a2, .str a3, .str a4]] ++ [PO.lst (ns.map PV.str ++ [.str a1, .str a2, .str a3, .str a4])]) d1.bag.app.app.app (by simp [d1.len]) at1 (by simp) (by simp [ln])
  have mx' : ∃ w : List Nat, x = .str w ∧ w.length ≤ 10 := by
    rcases List.mem_append.mp mx with h | h
    · obtain ⟨w, hw, rfl⟩ := List.mem_map.mp h
      have := (nl.ok w hw).2.1
      exact ⟨w, rfl, by omega⟩
    · simp only [List.mem_cons, List.not_mem_nil, or_false] at h
      rcases h with rfl | rfl | rfl | rfl
      · exact ⟨_, rfl, h1⟩
      · exact ⟨_, rfl, h2⟩
      · exact ⟨_, rfl, h3⟩
      · exact ⟨_, rfl, h4⟩
  obtain ⟨w, rfl, hw⟩ := mx'
  refine ⟨w, N2, ?_, hw, d2.bag, fun i o hi ho => ?_⟩
  · simp only [ev_fCallN, ev_fCons, hv, bnd_ok, ev_fOp, ev_fC, ev_fNil, List.append_nil, e1, nox_ok, ev_fLst, List.length_cons, List.length_nil, Nat.zero_add, Nat.reduceAdd, l4, if_true, al, e2]
  · have li := (List.getElem?_eq_some_iff.mp ho).1
    rw [d2.get hi, List.getElem?_append_left (by simp [d1.len]; omega), List.getElem?_append_left (by simp [d1.len]; omega), List.getElem?_append_left (by rw [d1.len]; exact li), d1.get hi]
    exact ho
theorem told_bn : toldP (exCs c) (.exc ⟨c.BadName, Str.ofString "badname", -1⟩ M) = .ok (.tup [.str [98, 97, 100, 110, 97, 109, 101], .int (-1)]) M := by
  rw [told_exc (by simp [exCs]), show (Str.ofString "badname").cps.toList = [98, 97, 100, 110, 97, 109, 101] by decide +kernel]
theorem told_bb : toldP (exCs c) (.exc ⟨c.BadBody, Str.ofString "badbody", -1⟩ M) = .ok (.tup [.str [98, 97, 100, 98, 111, 100, 121], .int (-1)]) M := by
  rw [told_exc (by simp [exCs]), show (Str.ofString "badbody").cps.toList = [98, 97, 100, 98, 111, 100, 121] by decide +kernel]
theorem ne_told {w : List Nat} (h : asc w) {i : Int} : pNeD (.tup [.str w, .int i]) (.tup [.str w, .int i]) M = .ok (.bl false) M := by
  rw [pNeD_dat (dat_told (n := 59) h) (dat_told (n := 59) h)]
  simp
theorem Bd.flt' : ∀ (n : Nat) {x : Bd}, x.far ≤ n → Flt n x.pv
  | 0, x, h => absurd x.far_pos (by omega)
  | n + 1, x, h => by
    cases x with
    | skip => unfold Bd.pv Flt; exact ⟨by decide, fun y hy => by simp at hy; subst hy; unfold Flt; trivial⟩
    | bare r => unfold Bd.pv Flt; exact ⟨by simp, fun y hy => by simp at hy; rcases hy with rfl | rfl <;> (unfold Flt; trivial)⟩
    | act t r l => unfold Bd.pv Flt; exact ⟨by simp, fun y hy => by simp at hy; rcases hy with rfl | rfl | rfl <;> (unfold Flt; trivial)⟩
    | again x =>
      unfold Bd.far at h
      unfold Bd.pv Flt
      refine ⟨by simp, fun y hy => ?_⟩
      simp at hy
      rcases hy with rfl | rfl
      · unfold Flt; trivial
      · exact Bd.flt' n (x := x) (by omega)
    | two o x z =>
      unfold Bd.far at h
      unfold Bd.pv Flt
      refine ⟨by simp, fun y hy => ?_⟩
      simp at hy
      rcases hy with rfl | rfl | rfl
      · unfold Flt; trivial
      · exact Bd.flt' n (x := x) (by omega)
      · exact Bd.flt' n (x := z) (by omega)
theorem far_leaf {y : Bd} (h : y.comp = false) : y.far = 1 := by cases y <;> first | rfl | cases h
theorem flt_cm {st ow : List Nat} {x : Bd} (g : BdG x) : ∀ m ∈ compB st x, Flt 7 (cmV ow m) := fun m hm => by
  unfold cmV Flt
  refine ⟨by simp, fun y hy => ?_⟩
  simp only [List.mem_cons, List.not_mem_nil, or_false] at hy
  rcases hy with rfl | rfl | rfl | rfl
  · unfold Flt; trivial
  · unfold Flt; trivial
  · rcases fill_acts st x _ _ _ g m hm with h | ⟨y, gy, h, h2, h3⟩
    · rw [h]; unfold Flt; exact ⟨by simp, fun y hy => by simp at hy; subst hy; unfold Flt; trivial⟩
    · rw [h]
      exact Bd.flt' 6 (by rw [far_leaf h2]; omega)
  · unfold Flt; trivial
/-- the act's word -/
theorem act_word {st : List Nat} {x : Bd} (g : BdG x) {m : Cm} (hm : m ∈ compB st x) : ∃ w : List Nat, w ∈ [tSend, tTake, tBare, tIdle] ∧ ∀ N : PM, pIxT m.a (.int 0) N = .ok (.str w) N := by
  rcases fill_acts st x _ _ _ g m hm with h | ⟨y, gy, h, h2, h3⟩
  · exact ⟨tIdle, by simp, fun N => by rw [h]; exact ixT0⟩
  · refine ⟨y.word, ?_, fun N => by rw [h]; exact ix_pv y⟩
    cases y with
    | skip => cases h3
    | bare r => simp [Bd.word]
    | act t r l => cases t <;> simp [Bd.word]
    | again x => cases h2
    | two o x y => cases h2
theorem up {N X : PM} {i : Nat} {o : PO} (h : N[i]? = some o) : (N ++ X)[i]? = some o := by rw [List.getElem?_append_left (List.getElem?_eq_some_iff.mp h).1]; exact h
theorem stnd_last {st : List Nat} {i : Nat} (h : (stnd st i).length ≤ lim) : pIxS (.str (stnd st i)) (.int (-1)) M = .ok (.str [97 + i]) M := by
  have hl : (stnd st i).length = st.length + 1 := by unfold stnd; simp
  refine pIxS_at h ?_
  rw [atI_lastE hl]
  unfold stnd
  rw [List.getElem?_append_right (Nat.le_refl _), Nat.sub_self]
  rfl
theorem stnd_init {st : List Nat} {i : Nat} : (stnd st i).dropLast = st := by unfold stnd; exact List.dropLast_concat
theorem law_turn {lk rk : Nat} {nL : lk ≠ 1} {nR : rk ≠ 1} {ls rows : List (List Nat)} {x5 x6 x7 x8 x9 x10 x11 x12 x13 : Option PV} {x : Bd} {ow st : List Nat} {N : PM} {Q : PS → PM → Prop} (hB : BagAt N 1 0) (eL : N[lk]? = some (.lst (ls.map PV.str))) (eR : N[rk]? = some (.lst (rows.map PV.str))) (g : BdG x) (h6 : x.far ≤ 6)
    (ho : ow.length ≤ 10) (hs : st.length ≤ 10)
    (k : ∀ (σ : PS) (N' : PM), (∃ x5 x6 x7 x8 x9 x10 x11 x12 x13 x14 x15, σ = [none, some (.ref 1), some (.ref lk), some (.ref rk), some (.str [97, 98, 99, 100, 101, 102, 103, 104, 105, 106, 107, 108, 109, 110, 111, 112, 113, 114, 115, 116, 117, 118, 119, 120, 121, 122]), x5, x6, x7, x8, x9, x10, x11, x12, x13, x14, x15, none, none, none]) → BagAt N' 1 0 → N'[lk]? = some (.lst (ls.map PV.str)) → N'[rk]? = some (.lst (rows.map PV.str)) → Q σ N') :
    Goes ((fSeq (fAsg (fAndV (fCallN (F_plain_text c) [] (fCons (fVar 14) (fCons (fC (.int 1)) (fCons (fC (.int 8)) fNil)))) (fCallN (F_plain_text c) [] (fCons (fVar 15) (fCons (fC (.int 1)) (fCons (fC (.int 7)) fNil))))) (gNm 6))
  (fIfS (fNot (fTest (fVar 6))) (fIfS (fTest (fOp pNeD (fRef (exCs c) (fCallK (F_p_compiled c) KGP_p_compiled_2_stem (fCons (fVar 14) (fCons (fTup (fCons (fC (.str [116, 104, 101, 110])) fNil)) fNil)) (fCons (fVar 15) fNil))) (fTup (fCons (fC (.str [98, 97, 100, 110, 97, 109, 101])) (fCons (fUn (pU fun i => .int (-i)) (fC (.int 1))) fNil))))) (fRet (fC (.bl false))) fNext) (fIfS (fNot (fTest (fCallN (F_body_ok c) [] (fCons (fVar 13) fNil)))) (fIfS (fTest (fOp pNeD (fRef (exCs c) (fCallK (F_p_compiled c) KGP_p_compiled_2_stem (fCons (fVar 14) (fCons (fVar 13) fNil)) (fCons (fVar 15) fNil))) (fTup (fCons (fC (.str [98, 97, 100, 98, 111, 100, 121])) (fCons (fUn (pU fun i => .int (-i)) (fC (.int 1))) fNil))))) (fRet (fC (.bl false))) fNext) (fSeq (fAsg (fCallKN (F_p_compiled c) KGP_p_compiled_2_stem (fCons (fVar 14) (fCons (fVar 13) fNil)) (fCons (fVar 15) fNil)) (gTp (gsCons (gNm 7) (gsCons (gNm 8) (gsCons (gNm 9) gsNil)))))
  (fSeq (fAsg (fB bLst (fCons (fVar 8) fNil)) (gNm 10))
  (fSeq (fAsg (fB bLen (fCons (fCallN (F_all_in c 9) [] (fCons (fVar 13) fNil)) fNil)) (gNm 11))
  (fSeq (fAsg (fSortSet (fOp pAddL (fOp pAddL (fLst (fCons (fVar 7) (fCons (fVar 9) fNil))) (fLc (fI itL (fVar 8)) (gNm 18) fYes (fOp pIxT (fVar 18) (fC (.int 1))) [18])) (fLc (fI itL (fVar 8)) (gNm 18) fYes (fOp pIxT (fVar 18) (fC (.int 3))) [18]))) (gNm 12))
  (fSeq (fIfS (fOr (fTest (fOp (pI0 fun i j => .bl (decide (j < i))) (fB bLen (fCons (fVar 8) fNil)) (fOp (pI0 fun i j => .int (i + j)) (fOp (pI CMul fun i j => .int (i * j)) (fC (.int 3)) (fVar 11)) (fC (.int 2))))) (fOr (fTest (fOp (pI0 fun i j => .bl (decide (j < i))) (fB bLen (fCons (fVar 12) fNil)) (fOp (pI0 fun i j => .int (i + j)) (fVar 11) (fC (.int 2))))) (fNot (fTest (fB bIsi (fCons (fVar 8) (fCons (fC (.ty "list")) fNil))))))) (fRet (fC (.bl false))) fNext)
  (fSeq (fIfS (fNot (fTest (fGc (fB bAll (fCons (fLc (fI itL (fVar 12)) (gNm 17) fYes (fAndV (fOp pEq (fSl pSlS (fVar 17) fNoPart (fPart (fUn (pU fun i => .int (-i)) (fC (.int 1))))) (fVar 15)) (fOp pInS (fOp pIxS (fVar 17) (fUn (pU fun i => .int (-i)) (fC (.int 1)))) (fVar 4))) [17]) fNil))))) (fRet (fC (.bl false))) fNext)
  (fSeq (fIfS (fTest (fOp pNeD (fLc (fI itL (fVar 8)) (gNm 16) (fOr (fTest (fOp pNe (fOp pIxT (fVar 16) (fC (.int 0))) (fVar 14))) (fTest (fOp (pIn true) (fOp pIxT (fOp pIxT (fVar 16) (fC (.int 2))) (fC (.int 0))) (fTup (fCons (fC (.str [115, 101, 110, 100])) (fCons (fC (.str [116, 97, 107, 101])) (fCons (fC (.str [98, 97, 114, 101])) (fCons (fC (.str [105, 100, 108, 101])) fNil)))))))) (fVar 16) [16]) (fLst fNil))) (fRet (fC (.bl false))) fNext)
  (fSeq (fDrop (fBM "list" mAppend (fVar 8) (fCons (fC (.int 1)) fNil)))
  (fIfS (fNot (fTest (fCallN (F_same 9) [] (fCons (fCallKN (F_p_compiled c) KGP_p_compiled_2_stem (fCons (fVar 14) (fCons (fVar 13) fNil)) (fCons (fVar 15) fNil)) (fCons (fTup (fCons (fVar 7) (fCons (fVar 10) (fCons (fVar 9) fNil)))) fNil))))) (fRet (fC (.bl false))) fNext)))))))))))))
    [none, some (.ref 1), some (.ref lk), some (.ref rk), some (.str [97, 98, 99, 100, 101, 102, 103, 104, 105, 106, 107, 108, 109, 110, 111, 112, 113, 114, 115, 116, 117, 118, 119, 120, 121, 122]), x5, x6, x7, x8, x9, x10, x11, x12, some x.pv, some (.str ow), some (.str st), none, none, none] N Q := by
  have p1 := F_plain_all (c := c) (M := N) (s := ow) (few := 1) (top := 8) (by omega)
  have p2 := F_plain_all (c := c) (M := N) (s := st) (few := 1) (top := 7) (by omega)
  have p1 : F_plain_text c [.str ow, .int 1, .int 8] N = .ok (.bl (isNam ow)) N := p1
  have p2 : F_plain_text c [.str st, .int 1, .int 7] N = .ok (.bl (decide (1 ≤ st.length ∧ st.length ≤ 7) && st.all low)) N := p2
  have e7 : (decide (1 ≤ st.length ∧ st.length ≤ 7) && st.all low) = (isNam st && decide (st.length ≤ 7)) := by
    unfold isNam
    cases st.all low with
    | false => simp
    | true =>
      rw [Bool.and_true, Bool.and_true, ← Bool.decide_and]
      exact decide_eq_decide.mpr (by omega)
  rw [e7] at p2
  have l1 : (1 : Nat) ≤ lim := by decide
  have l2 : (2 : Nat) ≤ lim := by decide
  have l3 : (3 : Nat) ≤ lim := by decide
  have l4 : (4 : Nat) ≤ lim := by decide
  refine goes_seq (goes_asg (p := .bl (isNam ow && (isNam st && decide (st.length ≤ 7)))) (M1 := N) ?_ rfl ?_)
  · simp only [ev_fAndV, ev_fCallN, ev_fCons, ev_fVar0, ev_fVarS, ev_fC, ev_fNil, bnd_ok, List.append_nil, p1, nox_ok, asB_bl]
    cases isNam ow with
    | false => rfl
    | true => simp only [if_true, p2, nox_ok, Bool.true_and]
  simp only [List.set_cons_succ, List.set_cons_zero]
  by_cases hg : isNam ow = true ∧ isNam st = true ∧ st.length ≤ 7
  rotate_left
  · have e0 : (isNam ow && (isNam st && decide (st.length ≤ 7))) = false := by
      cases h1 : isNam ow with
      | false => rfl
      | true =>
        cases h2 : isNam st with
        | false => rfl
        | true =>
          have q : ¬ st.length ≤ 7 := fun q => hg ⟨h1, h2, q⟩
          rw [decide_eq_false q]
          rfl
    rw [e0]
    have ec := F_compiled_name (c := c) (M := N) (p := .tup [.str [116, 104, 101, 110]]) (by omega) (by omega) hg
    refine goes_T (M1 := N) (by simp only [ev_fNot, ev_fTest, ev_fVar0, ev_fVarS, bnd_ok, asB_bl, Bool.not_false]) ?_
    refine goes_no (M1 := N) ?_ (k _ _ ⟨_, _, _, _, _, _, _, _, _, _, _, rfl⟩ hB eL eR)
    have kg : KGP_p_compiled_2_stem [.str ow, .tup [.str [116, 104, 101, 110]]] [.str st] = [.str ow, .tup [.str [116, 104, 101, 110]], .str st] := rfl
    simp only [ev_fTest, ev_fOp, ev_fRef, ev_fCallK, ev_fCons, ev_fVar0, ev_fVarS, ev_fTup, ev_fC, ev_fNil, bnd_ok, List.length_cons, List.length_nil, Nat.zero_add, Nat.reduceAdd, l1, l2, if_true, kg, ec, told_bn, ev_fUn, pU_int, ne_told (asc_by (l := [98, 97, 100, 110, 97, 109, 101]) (by decide)), asB_bl]
  · have e1 : (isNam ow && (isNam st && decide (st.length ≤ 7))) = true := by rw [hg.1, hg.2.1, decide_eq_true hg.2.2]; rfl
    rw [e1]
    refine goes_F (M1 := N) (by simp only [ev_fNot, ev_fTest, ev_fVar0, ev_fVarS, bnd_ok, asB_bl, Bool.not_true]) ?_
    have ob := F_body_ok_eq (c := c) (M := N) g (by omega)
    have kg : KGP_p_compiled_2_stem [.str ow, x.pv] [.str st] = [.str ow, x.pv, .str st] := rfl
    by_cases h24 : x.parts.length ≤ 24
    rotate_left
    · rw [decide_eq_false (fun z => h24 z.1)] at ob
      have ec := F_compiled_body (c := c) (M := N) hg.1 hg.2.1 hg.2.2 g h6 h24
      refine goes_T (M1 := N) (by simp only [ev_fNot, ev_fTest, ev_fCallN, ev_fCons, ev_fVar0, ev_fVarS, ev_fNil, bnd_ok, List.append_nil, ob, nox_ok, asB_bl, Bool.not_false]) ?_
      refine goes_no (M1 := N) ?_ (k _ _ ⟨_, _, _, _, _, _, _, _, _, _, _, rfl⟩ hB eL eR)
      simp only [ev_fTest, ev_fOp, ev_fRef, ev_fCallK, ev_fCons, ev_fVar0, ev_fVarS, ev_fTup, ev_fC, ev_fNil, bnd_ok, List.length_cons, List.length_nil, Nat.zero_add, Nat.reduceAdd, l2, if_true, kg, ec, told_bb, ev_fUn, pU_int, ne_told (asc_by (l := [98, 97, 100, 98, 111, 100, 121]) (by decide)), asB_bl]
    · rw [decide_eq_true ⟨h24, h6⟩] at ob
      refine goes_F (M1 := N) (by simp only [ev_fNot, ev_fTest, ev_fCallN, ev_fCons, ev_fVar0, ev_fVarS, ev_fNil, bnd_ok, List.append_nil, ob, nox_ok, asB_bl, Bool.not_true]) ?_
      have ec := F_compiled_eq (c := c) (M := N) hg.1 hg.2.1 hg.2.2 g h6 h24
      refine goes_seq (goes_asg (p := .tup [.str (stnd st 0), .ref (N.length + 1), .str (stnd st 1)]) (M1 := N ++ [.ins c.Plan (planF ow st (2 + x.mids) (N.length + 1)), .lst ((compB st x).map (cmV ow))]) (by simp only [ev_fCallKN, ev_fCons, ev_fVar0, ev_fVarS, ev_fNil, bnd_ok, kg, ec, nox_ok]) rfl ?_)
      simp only [List.set_cons_succ, List.set_cons_zero]
      have mm := x.mvs_le
      have md := x.mids_lt
      have lm : (compB st x).length = x.mvs := fill_len st x _ _ _
      have lN := hB.ltb
      have em : (N ++ [PO.ins c.Plan (planF ow st (2 + x.mids) (N.length + 1)), .lst ((compB st x).map (cmV ow))])[N.length + 1]? = some (.lst ((compB st x).map (cmV ow))) := by simp
      have hB1 := hB.app (ex := [PO.ins c.Plan (planF ow st (2 + x.mids) (N.length + 1)), .lst ((compB st x).map (cmV ow))])
      have eL1 := up (X := [PO.ins c.Plan (planF ow st (2 + x.mids) (N.length + 1)), .lst ((compB st x).map (cmV ow))]) eL
      have eR1 := up (X := [PO.ins c.Plan (planF ow st (2 + x.mids) (N.length + 1)), .lst ((compB st x).map (cmV ow))]) eR
      have lkN := (List.getElem?_eq_some_iff.mp eL).1
      have rkN := (List.getElem?_eq_some_iff.mp eR).1
      have mne : N.length + 1 ≠ lk ∧ N.length + 1 ≠ rk ∧ N.length + 1 ≠ 1 ∧ N.length + 1 ≠ 0 := ⟨by omega, by omega, by omega, by omega⟩
      generalize hmk : N.length + 1 = mk at em mne hB1 eL1 eR1
      generalize N ++ [PO.ins c.Plan (planF ow st (2 + x.mids) mk), .lst ((compB st x).map (cmV ow))] = N1 at em hB1 eL1 eR1
      -- kept
      refine goes_seq (goes_asg (p := .ref N1.length) (M1 := N1 ++ [.lst ((compB st x).map (cmV ow))]) (by simp only [ev_fB, ev_fCons, ev_fVar0, ev_fVarS, ev_fNil, bnd_ok, bLst_lst em]) rfl ?_)
      simp only [List.set_cons_succ, List.set_cons_zero]
      have mk1 := (List.getElem?_eq_some_iff.mp em).1
      have ek : (N1 ++ [PO.lst ((compB st x).map (cmV ow))])[N1.length]? = some (.lst ((compB st x).map (cmV ow))) := at1
      have em2 := up (X := [PO.lst ((compB st x).map (cmV ow))]) em
      have hB2 := hB1.app (ex := [PO.lst ((compB st x).map (cmV ow))])
      have eL2 := up (X := [PO.lst ((compB st x).map (cmV ow))]) eL1
      have eR2 := up (X := [PO.lst ((compB st x).map (cmV ow))]) eR1
      have kne : mk ≠ N1.length := by omega
      generalize N1.length = kk at ek kne
      generalize N1 ++ [PO.lst ((compB st x).map (cmV ow))] = N2 at ek em2 hB2 eL2 eR2
      -- how many
      have ea := F_all_in_eq (c := c) 9 x N2 (by omega) (by decide)
      have bl := bLen_lst (M := N2 ++ [PO.lst (x.parts.map Bd.pv)]) (k := N2.length) at1
      rw [List.length_map] at bl
      refine goes_seq (goes_asg (p := .int (x.parts.length : Nat)) (M1 := N2 ++ [.lst (x.parts.map Bd.pv)]) (by simp only [ev_fB, ev_fCons, ev_fCallN, ev_fVar0, ev_fVarS, ev_fNil, bnd_ok, List.append_nil, ea, nox_ok, bl]) rfl ?_)
      simp only [List.set_cons_succ, List.set_cons_zero]
      have ek3 := up (X := [PO.lst (x.parts.map Bd.pv)]) ek
      have em3 := up (X := [PO.lst (x.parts.map Bd.pv)]) em2
      have hB3 := hB2.app (ex := [PO.lst (x.parts.map Bd.pv)])
      have eL3 := up (X := [PO.lst (x.parts.map Bd.pv)]) eL2
      have eR3 := up (X := [PO.lst (x.parts.map Bd.pv)]) eR2
      generalize N2 ++ [PO.lst (x.parts.map Bd.pv)] = N3 at ek3 em3 hB3 eL3 eR3
      -- stands
      have hσ : ∀ (x5 x6 x7 x8 x9 x10 x11 x12 : Option PV), wipeP [none, some (.ref 1), some (.ref lk), some (.ref rk), some (.str [97, 98, 99, 100, 101, 102, 103, 104, 105, 106, 107, 108, 109, 110, 111, 112, 113, 114, 115, 116, 117, 118, 119, 120, 121, 122]), x5, x6, x7, x8, x9, x10, x11, x12, some x.pv, some (.str ow), some (.str st), none, none, none] [18] = [none, some (PV.ref 1), some (.ref lk), some (.ref rk), some (.str [97, 98, 99, 100, 101, 102, 103, 104, 105, 106, 107, 108, 109, 110, 111, 112, 113, 114, 115, 116, 117, 118, 119, 120, 121, 122]), x5, x6, x7, x8, x9, x10, x11, x12, some x.pv, some (.str ow), some (.str st), none, none, none] := fun _ _ _ _ _ _ _ _ => rfl
      have hσ7 : ∀ (x5 x6 x7 x8 x9 x10 x11 x12 : Option PV), wipeP [none, some (.ref 1), some (.ref lk), some (.ref rk), some (.str [97, 98, 99, 100, 101, 102, 103, 104, 105, 106, 107, 108, 109, 110, 111, 112, 113, 114, 115, 116, 117, 118, 119, 120, 121, 122]), x5, x6, x7, x8, x9, x10, x11, x12, some x.pv, some (.str ow), some (.str st), none, none, none] [17] = [none, some (PV.ref 1), some (.ref lk), some (.ref rk), some (.str [97, 98, 99, 100, 101, 102, 103, 104, 105, 106, 107, 108, 109, 110, 111, 112, 113, 114, 115, 116, 117, 118, 119, 120, 121, 122]), x5, x6, x7, x8, x9, x10, x11, x12, some x.pv, some (.str ow), some (.str st), none, none, none] := fun _ _ _ _ _ _ _ _ => rfl
      have hσ6 : ∀ (x5 x6 x7 x8 x9 x10 x11 x12 : Option PV), wipeP [none, some (.ref 1), some (.ref lk), some (.ref rk), some (.str [97, 98, 99, 100, 101, 102, 103, 104, 105, 106, 107, 108, 109, 110, 111, 112, 113, 114, 115, 116, 117, 118, 119, 120, 121, 122]), x5, x6, x7, x8, x9, x10, x11, x12, some x.pv, some (.str ow), some (.str st), none, none, none] [16] = [none, some (PV.ref 1), some (.ref lk), some (.ref rk), some (.str [97, 98, 99, 100, 101, 102, 103, 104, 105, 106, 107, 108, 109, 110, 111, 112, 113, 114, 115, 116, 117, 118, 119, 120, 121, 122]), x5, x6, x7, x8, x9, x10, x11, x12, some x.pv, some (.str ow), some (.str st), none, none, none] := fun _ _ _ _ _ _ _ _ => rfl
      have lmv : (compB st x).length ≤ 48 := by omega
      have lcs := fun (N : PM) (h : N[mk]? = some (.lst ((compB st x).map (cmV ow)))) (y : Option PV) => lc_mapE (ok := fun M' : PM => M'[mk]? = some (.lst ((compB st x).map (cmV ow)))) (g := gNm 18) (ft := fYes) (fe := fOp pIxT (fVar 18) (fC (.int 1))) (σ := [none, some (.ref 1), some (.ref lk), some (.ref rk), some (.str [97, 98, 99, 100, 101, 102, 103, 104, 105, 106, 107, 108, 109, 110, 111, 112, 113, 114, 115, 116, 117, 118, 119, 120, 121, 122]), x5, some (.bl true), some (.str (stnd st 0)), some (.ref mk), some (.str (stnd st 1)), some (.ref kk), some (.int (x.parts.length : Nat)), x12, some x.pv, some (.str ow), some (.str st), none, none, none]) (e := cmV ow) (d := N.length) (N := N ++ [.lst []]) (zs := compB st x)
        N (fun m => PV.str m.s) rfl rfl (fun acc => up h) (by unfold lim; omega) (fun m hm => ⟨_, rfl, fun acc => ⟨rfl, rfl⟩⟩)
      have lce := fun (N : PM) (h : N[mk]? = some (.lst ((compB st x).map (cmV ow)))) => lc_mapE (ok := fun M' : PM => M'[mk]? = some (.lst ((compB st x).map (cmV ow)))) (g := gNm 18) (ft := fYes) (fe := fOp pIxT (fVar 18) (fC (.int 3))) (σ := [none, some (.ref 1), some (.ref lk), some (.ref rk), some (.str [97, 98, 99, 100, 101, 102, 103, 104, 105, 106, 107, 108, 109, 110, 111, 112, 113, 114, 115, 116, 117, 118, 119, 120, 121, 122]), x5, some (.bl true), some (.str (stnd st 0)), some (.ref mk), some (.str (stnd st 1)), some (.ref kk), some (.int (x.parts.length : Nat)), x12, some x.pv, some (.str ow), some (.str st), none, none, none]) (e := cmV ow) (d := N.length) (N := N ++ [.lst []]) (zs := compB st x)
        N (fun m => PV.str m.e) rfl rfl (fun acc => up h) (by unfold lim; omega) (fun m hm => ⟨_, rfl, fun acc => ⟨rfl, rfl⟩⟩)
      obtain ⟨N9, sk, e9, es9, hB9, eL9, eR9, em9, ek9⟩ : ∃ (N9 : PM) (sk : Nat), (fSortSet (fOp pAddL (fOp pAddL (fLst (fCons (fVar 7) (fCons (fVar 9) fNil))) (fLc (fI itL (fVar 8)) (gNm 18) fYes (fOp pIxT (fVar 18) (fC (.int 1))) [18])) (fLc (fI itL (fVar 8)) (gNm 18) fYes (fOp pIxT (fVar 18) (fC (.int 3))) [18]))) [none, some (.ref 1), some (.ref lk), some (.ref rk), some (.str [97, 98, 99, 100, 101, 102, 103, 104, 105, 106, 107, 108, 109, 110, 111, 112, 113, 114, 115, 116, 117, 118, 119, 120, 121, 122]), x5, some (.bl true), some (.str (stnd st 0)), some (.ref mk), some (.str (stnd st 1)), some (.ref kk), some (.int (x.parts.length : Nat)), x12, some x.pv, some (.str ow), some (.str st), none, none, none] N3 = .ok (.ref sk) N9 ∧
          N9[sk]? = some (.lst ((sortU ([stnd st 0, stnd st 1] ++ (compB st x).map Cm.s ++ (compB st x).map Cm.e)).map PV.str)) ∧ BagAt N9 1 0 ∧ N9[lk]? = some (.lst (ls.map PV.str)) ∧ N9[rk]? = some (.lst (rows.map PV.str)) ∧ N9[mk]? = some (.lst ((compB st x).map (cmV ow))) ∧ N9[kk]? = some (.lst ((compB st x).map (cmV ow))) := by
        have q1 := lcs (N3 ++ [.lst [.str (stnd st 0), .str (stnd st 1)]]) (up em3) none
        have a1 := pAddL_at (M := N3 ++ [PO.lst [.str (stnd st 0), .str (stnd st 1)]] ++ [PO.lst ((compB st x).map fun m => PV.str m.s)]) (A := [.str (stnd st 0), .str (stnd st 1)]) (B := (compB st x).map fun m => PV.str m.s) (k := N3.length) (j := (N3 ++ [PO.lst [.str (stnd st 0), .str (stnd st 1)]]).length) (by simp; unfold lim; omega) (up at1) at1
        generalize hN6 : N3 ++ [PO.lst [.str (stnd st 0), .str (stnd st 1)]] ++ [PO.lst ((compB st x).map fun m => PV.str m.s)] = N5 at q1 a1
        have em5 : N5[mk]? = some (.lst ((compB st x).map (cmV ow))) := by rw [← hN6]; exact up (up em3)
        have hB5 : BagAt N5 1 0 := by rw [← hN6]; exact hB3.app.app
        have eL5 : N5[lk]? = some (.lst (ls.map PV.str)) := by rw [← hN6]; exact up (up eL3)
        have eR5 : N5[rk]? = some (.lst (rows.map PV.str)) := by rw [← hN6]; exact up (up eR3)
        have ek5 : N5[kk]? = some (.lst ((compB st x).map (cmV ow))) := by rw [← hN6]; exact up (up ek3)
        have q2 := lce (N5 ++ [.lst ([.str (stnd st 0), .str (stnd st 1)] ++ (compB st x).map fun m => PV.str m.s)]) (up em5)
        have a2 := pAddL_at (M := N5 ++ [PO.lst ([.str (stnd st 0), .str (stnd st 1)] ++ (compB st x).map fun m => PV.str m.s)] ++ [PO.lst ((compB st x).map fun m => PV.str m.e)]) (A := [.str (stnd st 0), .str (stnd st 1)] ++ (compB st x).map fun m => PV.str m.s) (B := (compB st x).map fun m => PV.str m.e) (k := N5.length) (j := (N5 ++ [PO.lst ([.str (stnd st 0), .str (stnd st 1)] ++ (compB st x).map fun m => PV.str m.s)]).length) (by simp; unfold lim; omega) (up at1) at1
        have eT : [PV.str (stnd st 0), .str (stnd st 1)] ++ ((compB st x).map fun m => PV.str m.s) ++ ((compB st x).map fun m => PV.str m.e) = ([stnd st 0, stnd st 1] ++ (compB st x).map Cm.s ++ (compB st x).map Cm.e).map PV.str := by
          rw [List.map_append, List.map_append, List.map_map, List.map_map]
          rfl
        rw [eT] at a2
        generalize hN8 : N5 ++ [PO.lst ([.str (stnd st 0), .str (stnd st 1)] ++ (compB st x).map fun m => PV.str m.s)] ++ [PO.lst ((compB st x).map fun m => PV.str m.e)] = N7 at q2 a2
        have ss := sortset_at (M := N7 ++ [PO.lst (([stnd st 0, stnd st 1] ++ (compB st x).map Cm.s ++ (compB st x).map Cm.e).map PV.str)]) (k := N7.length) (xs := [stnd st 0, stnd st 1] ++ (compB st x).map Cm.s ++ (compB st x).map Cm.e) at1 (by simp; omega)
        refine ⟨N7 ++ [PO.lst (([stnd st 0, stnd st 1] ++ (compB st x).map Cm.s ++ (compB st x).map Cm.e).map PV.str)] ++ [PO.lst ((sortU ([stnd st 0, stnd st 1] ++ (compB st x).map Cm.s ++ (compB st x).map Cm.e)).map PV.str)], (N7 ++ [PO.lst (([stnd st 0, stnd st 1] ++ (compB st x).map Cm.s ++ (compB st x).map Cm.e).map PV.str)]).length, ?_, at1, ?_, ?_, ?_, ?_, ?_⟩
        · simp only [ev_fSortSet, ev_fOp, ev_fLst, ev_fCons, ev_fVar0, ev_fVarS, bnd_ok, ev_fNil, List.length_cons, List.length_nil, Nat.zero_add, Nat.reduceAdd, l2, if_true, ev_fLc, ev_fI, itL_at (up em3), hσ, q1, a1, itL_at (up em5), q2, a2, ss]
        · rw [← hN8]; exact hB5.app.app.app.app
        · rw [← hN8]; exact up (up (up (up eL5)))
        · rw [← hN8]; exact up (up (up (up eR5)))
        · rw [← hN8]; exact up (up (up (up em5)))
        · rw [← hN8]; exact up (up (up (up ek5)))
      refine goes_seq (goes_asg (p := .ref sk) (M1 := N9) e9 rfl ?_)
      simp only [List.set_cons_succ, List.set_cons_zero]
      have st2 : ∀ m ∈ compB st x, (∃ i < 2 + x.mids, m.s = stnd st i) ∧ (∃ i < 2 + x.mids, m.e = stnd st i) := fill_stands st x _ _ 2 ⟨0, by omega, rfl⟩ ⟨1, by omega, rfl⟩
      have hS : ∀ z ∈ sortU ([stnd st 0, stnd st 1] ++ (compB st x).map Cm.s ++ (compB st x).map Cm.e), ∃ i < 2 + x.mids, z = stnd st i := fun z hz => by
        have hz := mem_sortU.mp hz
        simp only [List.mem_append, List.mem_cons, List.not_mem_nil, or_false, List.mem_map] at hz
        rcases hz with ((rfl | rfl) | ⟨m, hm, rfl⟩) | ⟨m, hm, rfl⟩
        · exact ⟨0, by omega, rfl⟩
        · exact ⟨1, by omega, rfl⟩
        · exact (st2 m hm).1
        · exact (st2 m hm).2
      have hSl : (sortU ([stnd st 0, stnd st 1] ++ (compB st x).map Cm.s ++ (compB st x).map Cm.e)).length ≤ 2 + x.mids := by
        have := nd_len (ps := (List.range (2 + x.mids)).map (stnd st)) nodup_sortU (fun z hz => by
          obtain ⟨i, hi, rfl⟩ := hS z hz
          exact List.mem_map_of_mem (List.mem_range.mpr hi))
        simpa using this
      generalize sortU ([stnd st 0, stnd st 1] ++ (compB st x).map Cm.s ++ (compB st x).map Cm.e) = S at es9 hS hSl
      -- how many
      have b1 := bLen_lst em9
      have b2 := bLen_lst es9
      rw [List.length_map] at b1 b2
      have mu : (pI CMul fun i j => .int (i * j)) (.int 3) (.int (x.parts.length : Nat)) N9 = .ok (.int (3 * (x.parts.length : Nat))) N9 := by
        unfold pI
        simp [CMul]
      have isi : bIsi [.ref mk, .ty "list"] N9 = .ok (.bl true) N9 := by
        unfold bIsi isiNm
        simp [em9, isiTys]
      refine goes_seq (goes_no (M1 := N9) ?_ ?_)
      · have d1 : decide ((3 * (x.parts.length : Nat) + 2 : Int) < ((compB st x).length : Nat)) = false := decide_eq_false (by omega)
        have d2 : decide (((x.parts.length : Nat) + 2 : Int) < (S.length : Nat)) = false := decide_eq_false (by omega)
        simp only [ev_fOr, ev_fTest, ev_fOp, ev_fB, ev_fCons, ev_fVar0, ev_fVarS, ev_fC, ev_fNil, bnd_ok, b1, mu, pI0_int, d1, asB_bl, Bool.false_eq_true, if_false, b2, d2, ev_fNot, isi, Bool.not_true]
      -- the stands' signs
      refine goes_seq (goes_no (M1 := N9) ?_ ?_)
      · have q := lc_mapE (ok := fun M' : PM => M'[sk]? = some (.lst (S.map PV.str))) (g := gNm 17) (ft := fYes) (fe := fAndV (fOp pEq (fSl pSlS (fVar 17) fNoPart (fPart (fUn (pU fun i => .int (-i)) (fC (.int 1))))) (fVar 15)) (fOp pInS (fOp pIxS (fVar 17) (fUn (pU fun i => .int (-i)) (fC (.int 1)))) (fVar 4))) (σ := [none, some (.ref 1), some (.ref lk), some (.ref rk), some (.str [97, 98, 99, 100, 101, 102, 103, 104, 105, 106, 107, 108, 109, 110, 111, 112, 113, 114, 115, 116, 117, 118, 119, 120, 121, 122]), x5, some (.bl true), some (.str (stnd st 0)), some (.ref mk), some (.str (stnd st 1)), some (.ref kk), some (.int (x.parts.length : Nat)), some (.ref sk), some x.pv, some (.str ow), some (.str st), none, none, none]) (e := PV.str) (d := N9.length) (N := N9 ++ [.lst []]) (zs := S)
          N9 (fun _ => PV.bl true) rfl rfl (fun acc => up es9) (by unfold lim; omega) (fun z hz => ⟨_, rfl, fun acc => ⟨rfl, by
            obtain ⟨i, hi, rfl⟩ := hS z hz
            have hl : (stnd st i).length ≤ lim := by unfold stnd; simp; unfold lim; omega
            have s1 : pSlS (.str (stnd st i)) none (some (-1)) (N9 ++ [.lst acc]) = .ok (.str st) (N9 ++ [.lst acc]) := by rw [pSlS_str hl, cut_last, stnd_init]
            have s2 : pInS (.str [97 + i]) (.str [97, 98, 99, 100, 101, 102, 103, 104, 105, 106, 107, 108, 109, 110, 111, 112, 113, 114, 115, 116, 117, 118, 119, 120, 121, 122]) (N9 ++ [.lst acc]) = .ok (.bl true) (N9 ++ [.lst acc]) := by
              unfold pInS
              simp only
              rw [low_in]
              have : low (97 + i) = true := by unfold low; exact decide_eq_true (by omega)
              rw [this]
            simp only [ev_fAndV, ev_fOp, ev_fSl, ev_fVar0, ev_fVarS, List.set_cons_succ, List.set_cons_zero, bnd_ok, ev_fNoPart, ev_fPart, ev_fUn, ev_fC, pU_int, asI_int, s1, pEq_str, decide_true, asB_bl, if_true, stnd_last hl, s2]⟩⟩)
        have ba : bAll [.ref N9.length] (N9 ++ [PO.lst (S.map fun _ => PV.bl true)]) = _ := bAll_atF N9 [] (fun _ => true) S
        simp only [ev_fNot, ev_fTest, ev_fGc, ev_fB, ev_fCons, ev_fLc, ev_fI, ev_fVar0, ev_fVarS, bnd_ok, itL_at es9, hσ7, q, ev_fNil, ba]
        rw [gc_old .app (by simp)]
        simp
      -- the acts
      have qf : lcP (fun M' : PM => M'[mk]? = some (.lst ((compB st x).map (cmV ow)))) (gNm 16) (fOr (fTest (fOp pNe (fOp pIxT (fVar 16) (fC (.int 0))) (fVar 14))) (fTest (fOp (pIn true) (fOp pIxT (fOp pIxT (fVar 16) (fC (.int 2))) (fC (.int 0))) (fTup (fCons (fC (.str [115, 101, 110, 100])) (fCons (fC (.str [116, 97, 107, 101])) (fCons (fC (.str [98, 97, 114, 101])) (fCons (fC (.str [105, 100, 108, 101])) fNil)))))))) (fVar 16) N9.length [none, some (.ref 1), some (.ref lk), some (.ref rk), some (.str [97, 98, 99, 100, 101, 102, 103, 104, 105, 106, 107, 108, 109, 110, 111, 112, 113, 114, 115, 116, 117, 118, 119, 120, 121, 122]), x5, some (.bl true), some (.str (stnd st 0)), some (.ref mk), some (.str (stnd st 1)), some (.ref kk), some (.int (x.parts.length : Nat)), some (.ref sk), some x.pv, some (.str ow), some (.str st), none, none, none] ((compB st x).map (cmV ow)) (N9 ++ [.lst []]) = .ok () (N9 ++ [.lst (((compB st x).filter fun _ => false).map (cmV ow))]) :=
        lc_filterE N9 (cmV ow) (fun _ => false) rfl rfl (fun acc => up em9) (by unfold lim; omega) (fun m hm => ⟨_, rfl, fun acc => ⟨by
          obtain ⟨w, hw, ew⟩ := act_word g hm
          have i0 : pIxT (cmV ow m) (.int 0) (N9 ++ [.lst acc]) = .ok (.str ow) (N9 ++ [.lst acc]) := ixT0
          have i2 : pIxT (cmV ow m) (.int 2) (N9 ++ [.lst acc]) = .ok m.a (N9 ++ [.lst acc]) := rfl
          have pin : pIn true (.str w) (.tup [.str [115, 101, 110, 100], .str [116, 97, 107, 101], .str [98, 97, 114, 101], .str [105, 100, 108, 101]]) (N9 ++ [.lst acc]) = .ok (.bl false) (N9 ++ [.lst acc]) := by
            simp only [List.mem_cons, List.not_mem_nil, or_false] at hw
            rcases hw with rfl | rfl | rfl | rfl <;> rfl
          simp only [ev_fOr, ev_fTest, ev_fOp, ev_fVar0, ev_fVarS, List.set_cons_succ, List.set_cons_zero, ev_fC, bnd_ok, i0, pNe_str, decide_true, Bool.not_true, asB_bl, Bool.false_eq_true, if_false, i2, ew, ev_fTup, ev_fCons, ev_fNil, List.length_cons, List.length_nil, Nat.zero_add, Nat.reduceAdd, l4, if_true, pin], fun z => by cases z⟩⟩)
      rw [List.filter_eq_nil_iff.mpr (fun m hm => by simp), List.map_nil] at qf
      have l0 : ([] : List PV).length ≤ lim := Nat.zero_le _
      refine goes_seq (goes_no (M1 := N9 ++ [.lst []] ++ [.lst []]) ?_ ?_)
      · simp only [ev_fTest, ev_fOp, ev_fLc, ev_fI, ev_fVar0, ev_fVarS, bnd_ok, itL_at em9, hσ6, qf, ev_fLst, ev_fNil, if_pos l0, pNeD_nil (k := N9.length) (j := (N9 ++ [PO.lst []]).length) (M := N9 ++ [PO.lst []] ++ [PO.lst []]) (up at1) at1 (fun _ h => nomatch h), asB_bl]
        simp
      have em10 : (N9 ++ [PO.lst []] ++ [PO.lst []])[mk]? = some (.lst ((compB st x).map (cmV ow))) := up (up em9)
      have ek10 : (N9 ++ [PO.lst []] ++ [PO.lst []])[kk]? = some (.lst ((compB st x).map (cmV ow))) := up (up ek9)
      have hB10 : BagAt (N9 ++ [PO.lst []] ++ [PO.lst []]) 1 0 := hB9.app.app
      have eL10 : (N9 ++ [PO.lst []] ++ [PO.lst []])[lk]? = some (.lst (ls.map PV.str)) := up (up eL9)
      have eR10 : (N9 ++ [PO.lst []] ++ [PO.lst []])[rk]? = some (.lst (rows.map PV.str)) := up (up eR9)
      generalize N9 ++ [PO.lst []] ++ [PO.lst []] = N10 at em10 ek10 hB10 eL10 eR10
      -- changed
      have ty : isTyP N10 "list" (.ref mk) = true := by unfold isTyP; simp only [em10]; rfl
      have ap := mAppend_at (y := PV.int 1) em10 (by rw [List.length_map]; unfold lim; omega)
      refine goes_seq (goes_drop (p := .non) (M1 := N10.set mk (.lst ((compB st x).map (cmV ow) ++ [.int 1]))) (by simp only [ev_fBM, ev_fVar0, ev_fVarS, bnd_ok, ty, if_true, ev_fCons, ev_fC, ev_fNil, ap]) ?_)
      have hB11 := bag_set (k := mk) (o := .lst ((compB st x).map (cmV ow) ++ [.int 1])) hB10 mne.2.2.1 mne.2.2.2
      have ek11 : (N10.set mk (.lst ((compB st x).map (cmV ow) ++ [.int 1])))[kk]? = some (.lst ((compB st x).map (cmV ow))) := by rw [List.getElem?_set_ne kne]; exact ek10
      have eL11 : (N10.set mk (.lst ((compB st x).map (cmV ow) ++ [.int 1])))[lk]? = some (.lst (ls.map PV.str)) := by rw [List.getElem?_set_ne mne.1]; exact eL10
      have eR11 : (N10.set mk (.lst ((compB st x).map (cmV ow) ++ [.int 1])))[rk]? = some (.lst (rows.map PV.str)) := by rw [List.getElem?_set_ne mne.2.1]; exact eR10
      generalize N10.set mk (.lst ((compB st x).map (cmV ow) ++ [.int 1])) = N11 at hB11 ek11 eL11 eR11
      have ec2 := F_compiled_eq (c := c) (M := N11) hg.1 hg.2.1 hg.2.2 g h6 h24
      have sm : F_same 9 [.tup [.str (stnd st 0), .ref (N11.length + 1), .str (stnd st 1)], .tup [.str (stnd st 0), .ref kk, .str (stnd st 1)]] (N11 ++ [.ins c.Plan (planF ow st (2 + x.mids) (N11.length + 1)), .lst ((compB st x).map (cmV ow))]) = .ok (.bl true) (N11 ++ [.ins c.Plan (planF ow st (2 + x.mids) (N11.length + 1)), .lst ((compB st x).map (cmV ow))]) := by
        refine if_pos (.inr ⟨_, _, .inl ⟨rfl, rfl⟩, by simp, .cons (.inl ⟨rfl, rfl⟩) (.cons (.inr ⟨_, _, .inr ⟨N11.length + 1, kk, rfl, rfl, by simp, up ek11⟩, by rw [List.length_map]; omega, paired_refl fun y hy => ?_⟩) (.cons (.inl ⟨rfl, rfl⟩) .nil))⟩)
        obtain ⟨m, hm, rfl⟩ := List.mem_map.mp hy
        exact samP_refl (flt_cm g m hm)
      refine goes_no (M1 := N11 ++ [.ins c.Plan (planF ow st (2 + x.mids) (N11.length + 1)), .lst ((compB st x).map (cmV ow))]) ?_ (k _ _ ⟨_, _, _, _, _, _, _, _, _, _, _, rfl⟩ hB11.app (up eL11) (up eR11))
      simp only [ev_fNot, ev_fTest, ev_fCallN, ev_fCons, ev_fCallKN, ev_fVar0, ev_fVarS, ev_fNil, bnd_ok, kg, ec2, nox_ok, ev_fTup, List.length_cons, List.length_nil, Nat.zero_add, Nat.reduceAdd, l3, if_true, List.append_nil, sm, asB_bl, Bool.not_true]
end Puk48
namespace Puk48
open PySem PySem.Spec PyProof.Rows L2 LB Pu
open Classical
theorem law_pure (c : CA) (ns : List Int) (i r sd ct : Int) (h0 : 0 ≤ i) : ∃ M', B_law c (none :: some (.ref 1) :: List.replicate 17 none) [.lst (ns.map PV.int), .lst [.ref 0, .int i, .int r, .int sd, .int ct]] = .rt (.bl true) M' := by
  unfold B_law
  have hB : BagAt [PO.lst (ns.map PV.int), PO.lst [.ref 0, .int i, .int r, .int sd, .int ct]] 1 0 := ⟨by decide, ns, i, r, sd, ct, rfl, rfl, h0⟩
  generalize [PO.lst (ns.map PV.int), PO.lst [.ref 0, .int i, .int r, .int sd, .int ct]] = M0 at hB
  obtain ⟨f, y, M1, hy, d1, e1⟩ := F_letters_eq (c := c) hB
  generalize hX : ([.lst (((List.range 3).map (lett f y)).map fun d => .str [d])] : PM) = X at e1
  obtain ⟨rows, N2, nl, ln, dX, e2⟩ := F_names_eq (c := c) (M := M1 ++ X) d1.bag.app (n := 3) (by decide)
  obtain ⟨M2, rfl, d2⟩ := dX.app d1.bag.ltb d1.bag.lts
  have e2 : F_names c [.ref 1, .int 3] (M1 ++ X) = .ok (.ref (M1 ++ X).length) (M2 ++ X ++ [.lst (rows.map PV.str)]) := e2
  have lt1 := hB.ltb
  have lX : X.length = 1 := by rw [← hX]; rfl
  have eL : (M2 ++ X ++ [.lst (rows.map PV.str)])[M0.length]? = some (.lst (((List.range 3).map (lett f y)).map fun d => .str [d])) := by
    rw [List.getElem?_append_left (by simp [d2.len, d1.len, lX]), ← hX, ← d1.len, ← d2.len]
    exact at1
  have eR : (M2 ++ X ++ [.lst (rows.map PV.str)])[(M1 ++ X).length]? = some (.lst (rows.map PV.str)) := by
    rw [show (M1 ++ X).length = (M2 ++ X).length by simp [d2.len]]
    exact at1
  have hB2 : BagAt (M2 ++ X ++ [.lst (rows.map PV.str)]) 1 0 := d2.bag.app.app
  have nL : M0.length ≠ 1 := by omega
  have nR : (M1 ++ X).length ≠ 1 := by rw [List.length_append, d1.len, lX]; omega
  refine asgY (p := .tup [.ref M0.length, .ref (M1 ++ X).length]) (M1 := M2 ++ X ++ [.lst (rows.map PV.str)]) (by
    have l2 : (2 : Nat) ≤ lim := by decide
    simp only [ev_fTup, ev_fCons, ev_fCallN, ev_fVar0, ev_fVarS, ev_fC, ev_fNil, bnd_ok, List.append_nil, e1, e2, nox_ok, List.length_cons, List.length_nil, Nat.zero_add, Nat.reduceAdd, l2, if_true]) rfl ?_
  simp only [List.replicate_succ, List.replicate_zero, List.set_cons_succ, List.set_cons_zero]
  generalize M2 ++ X ++ [PO.lst (rows.map PV.str)] = M3 at eL eR hB2
  generalize M0.length = lk at eL nL
  generalize (M1 ++ X).length = rk at eR nR
  have gl : ∀ l ∈ (List.range 3).map (lett f y), 97 ≤ l ∧ l < 123 := fun l hl => by
    obtain ⟨j, _, rfl⟩ := List.mem_map.mp hl
    exact lett_bd f y j
  have eLS : ∀ N : PM, N[lk]? = some (.lst (((List.range 3).map (lett f y)).map fun d => PV.str [d])) ↔ N[lk]? = some (.lst ((((List.range 3).map (lett f y)).map fun d => [d]).map PV.str)) := fun N => by rw [List.map_map]; rfl
  refine asgY (p := .str [97, 98, 99, 100, 101, 102, 103, 104, 105, 106, 107, 108, 109, 110, 111, 112, 113, 114, 115, 116, 117, 118, 119, 120, 121, 122]) (M1 := M3) rfl rfl ?_
  simp only [List.set_cons_succ, List.set_cons_zero]
  refine goesY (Q := fun _ _ => True) ?_ fun _ _ _ => trueY
  refine goes_each (zs := List.range 5) (e := fun i : Nat => PV.int (i : Nat)) (fun σ N => (∃ x5 x6 x7 x8 x9 x10 x11 x12 x13 x14 x15, σ = [none, some (.ref 1), some (.ref lk), some (.ref rk), some (.str [97, 98, 99, 100, 101, 102, 103, 104, 105, 106, 107, 108, 109, 110, 111, 112, 113, 114, 115, 116, 117, 118, 119, 120, 121, 122]), x5, x6, x7, x8, x9, x10, x11, x12, x13, x14, x15, none, none, none]) ∧ BagAt N 1 0 ∧ N[lk]? = some (.lst (((List.range 3).map (lett f y)).map fun d => .str [d])) ∧ N[rk]? = some (.lst (rows.map PV.str)))
    (by simp only [ev_fIA, ev_fCons, ev_fC, ev_fNil, bnd_ok]; exact itR1_nat (n := 5) (by decide)) ⟨⟨_, _, _, _, _, _, _, _, _, _, _, rfl⟩, hB2, eL, eR⟩ (fun _ _ _ => trivial) (fun z _ σ N hI => ?_) (fun _ _ _ => trivial)
  obtain ⟨⟨x5, x6, x7, x8, x9, x10, x11, x12, x13, x14, x15, rfl⟩, hB, eL, eR⟩ := hI
  obtain ⟨k, N1, ek, k0, k6, dk⟩ := F_pull_eq (c := c) hB (n := 6) (by decide) (by decide)
  obtain ⟨x, N2, eb, db, ok, fr⟩ := F_body_eq (c := c) (s := 0) (rows := rows) (cs := (List.range 3).map (lett f y)) (rk := rk) (lk := lk) nR nL (by omega) (by omega) (by simp) (by simp) 8 (room := 1 + k) dk.bag (by rw [dk.get nR]; exact eR) (by rw [dk.get nL]; exact eL) (by omega) (by omega)
  have dd := dk.trans db
  have g : BdG x := BdOk.good nl.ok gl ok
  have eL2 : N2[lk]? = some (.lst (((List.range 3).map (lett f y)).map fun d => .str [d])) := by rw [dd.get nL]; exact eL
  have eR2 : N2[rk]? = some (.lst (rows.map PV.str)) := by rw [dd.get nR]; exact eR
  have eb : F_body c 9 [.ref 1, .ref rk, .ref lk, .int (1 + k)] N1 = .ok x.pv N2 := eb
  refine ⟨_, rfl, ?_⟩
  refine goes_seq (goes_asg (p := x.pv) (M1 := N2) (by simp only [ev_fCons, ev_fCallN, ev_fVar0, ev_fVarS, List.set_cons_succ, List.set_cons_zero, ev_fC, ev_fOp, ev_fNil, bnd_ok, List.append_nil, ek, nox_ok, pI0_int, eb]) rfl ?_)
  simp only [List.set_cons_succ, List.set_cons_zero]
  obtain ⟨ow, N3, e3, ho, hB3, k3⟩ := odd_name (c := c) (a1 := []) (a2 := [65]) (a3 := [97, 98, 99, 100, 101, 102, 103, 104, 105]) (a4 := [97, 32, 98]) (σ := [none, some (.ref 1), some (.ref lk), some (.ref rk), some (.str [97, 98, 99, 100, 101, 102, 103, 104, 105, 106, 107, 108, 109, 110, 111, 112, 113, 114, 115, 116, 117, 118, 119, 120, 121, 122]), some (.int (z : Nat)), x6, x7, x8, x9, x10, x11, x12, some x.pv, x14, x15, none, none, none]) (N := N2) rfl dd.bag (by decide) (by decide) (by decide) (by decide)
  refine goes_seq (goes_asg (p := .str ow) (M1 := N3) e3 rfl ?_)
  simp only [List.set_cons_succ, List.set_cons_zero]
  obtain ⟨st, N4, e4, hs, hB4, k4⟩ := odd_name (c := c) (a1 := []) (a2 := [83]) (a3 := [97, 98, 99, 100, 101, 102, 103]) (a4 := [97, 98, 99, 100, 101, 102, 103, 104]) (σ := [none, some (.ref 1), some (.ref lk), some (.ref rk), some (.str [97, 98, 99, 100, 101, 102, 103, 104, 105, 106, 107, 108, 109, 110, 111, 112, 113, 114, 115, 116, 117, 118, 119, 120, 121, 122]), some (.int (z : Nat)), x6, x7, x8, x9, x10, x11, x12, some x.pv, some (.str ow), x15, none, none, none]) (N := N3) rfl hB3 (by decide) (by decide) (by decide) (by decide)
  refine goes_seq (goes_asg (p := .str st) (M1 := N4) e4 rfl ?_)
  simp only [List.set_cons_succ, List.set_cons_zero]
  have eL4 := (eLS N4).mp (k4 lk _ nL (k3 lk _ nL eL2))
  have eR4 := k4 rk _ nR (k3 rk _ nR eR2)
  exact law_turn (c := c) (x13 := none) (nL := nL) (nR := nR) hB4 eL4 eR4 g (by omega) ho hs fun σ N' hσ hB' eL' eR' => ⟨hσ, hB', (eLS N').mpr eL', eR'⟩
end Puk48
namespace K48
open PySem PySem.Spec PyProof.Rows L2 LB Pu Puk48
set_option maxHeartbeats 0 in
structure Tx (K : PySem.W.Frag) (mg : Str → Option Value) (w : World) where
  C_LeakError : Addr
  gC_LeakError : mg "LeakError" = some (.ref C_LeakError)
  C_BadName : Addr
  gC_BadName : mg "BadName" = some (.ref C_BadName)
  C_BadBody : Addr
  gC_BadBody : mg "BadBody" = some (.ref C_BadBody)
  C_Plan : Addr
  gC_Plan : mg "Plan" = some (.ref C_Plan)
  f_LeakError_init : Addr
  fd_LeakError_init : FuncData
  F_LeakError_init : FunD K "__init__" "LeakError.__init__" (defArgs s_LeakError_init) (defBody s_LeakError_init) (defScope s_LeakError_init) [V.int (-1), V.str (PySem.Str.ofString "leakerror")] [] f_LeakError_init fd_LeakError_init
  ds_LeakError_init_1 : List Value
  dv_LeakError_init_1 : Vals [V.int (-1), V.str (PySem.Str.ofString "leakerror")] ds_LeakError_init_1
  b_LeakError_init_1 : L2.Binds K fd_LeakError_init P_LeakError_init ds_LeakError_init_1
  ds_LeakError_init_2 : List Value
  dv_LeakError_init_2 : Vals [V.str (PySem.Str.ofString "leakerror")] ds_LeakError_init_2
  b_LeakError_init_2 : L2.Binds K fd_LeakError_init P_LeakError_init ds_LeakError_init_2
  ds_LeakError_init_3 : List Value
  dv_LeakError_init_3 : Vals [] ds_LeakError_init_3
  b_LeakError_init_3 : L2.Binds K fd_LeakError_init P_LeakError_init ds_LeakError_init_3
  f_BadName_init : Addr
  fd_BadName_init : FuncData
  F_BadName_init : FunD K "__init__" "BadName.__init__" (defArgs s_BadName_init) (defBody s_BadName_init) (defScope s_BadName_init) [V.int (-1)] [] f_BadName_init fd_BadName_init
  ds_BadName_init_1 : List Value
  dv_BadName_init_1 : Vals [V.int (-1)] ds_BadName_init_1
  b_BadName_init_1 : L2.Binds K fd_BadName_init P_BadName_init ds_BadName_init_1
  ds_BadName_init_2 : List Value
  dv_BadName_init_2 : Vals [] ds_BadName_init_2
  b_BadName_init_2 : L2.Binds K fd_BadName_init P_BadName_init ds_BadName_init_2
  f_BadBody_init : Addr
  fd_BadBody_init : FuncData
  F_BadBody_init : FunD K "__init__" "BadBody.__init__" (defArgs s_BadBody_init) (defBody s_BadBody_init) (defScope s_BadBody_init) [V.int (-1)] [] f_BadBody_init fd_BadBody_init
  ds_BadBody_init_1 : List Value
  dv_BadBody_init_1 : Vals [V.int (-1)] ds_BadBody_init_1
  b_BadBody_init_1 : L2.Binds K fd_BadBody_init P_BadBody_init ds_BadBody_init_1
  ds_BadBody_init_2 : List Value
  dv_BadBody_init_2 : Vals [] ds_BadBody_init_2
  b_BadBody_init_2 : L2.Binds K fd_BadBody_init P_BadBody_init ds_BadBody_init_2
  f_p_is_word : Addr
  fd_p_is_word : FuncData
  F_p_is_word : Fun K "is_word" "is_word" s_p_is_word f_p_is_word fd_p_is_word
  b_p_is_word : L2.Binds K fd_p_is_word P_p_is_word []
  g_p_is_word : mg "is_word" = some (.ref f_p_is_word)
  f_p_is_name : Addr
  fd_p_is_name : FuncData
  F_p_is_name : Fun K "is_name" "is_name" s_p_is_name f_p_is_name fd_p_is_name
  b_p_is_name : L2.Binds K fd_p_is_name P_p_is_name []
  g_p_is_name : mg "is_name" = some (.ref f_p_is_name)
  f_p_is_letter : Addr
  fd_p_is_letter : FuncData
  F_p_is_letter : Fun K "is_letter" "is_letter" s_p_is_letter f_p_is_letter fd_p_is_letter
  b_p_is_letter : L2.Binds K fd_p_is_letter P_p_is_letter []
  g_p_is_letter : mg "is_letter" = some (.ref f_p_is_letter)
  f_p_inner : Addr
  fd_p_inner : FuncData
  F_p_inner : Fun K "inner" "inner" s_p_inner f_p_inner fd_p_inner
  b_p_inner : L2.Binds K fd_p_inner P_p_inner []
  g_p_inner : mg "inner" = some (.ref f_p_inner)
  f_p_is_single : Addr
  fd_p_is_single : FuncData
  F_p_is_single : Fun K "is_single" "is_single" s_p_is_single f_p_is_single fd_p_is_single
  b_p_is_single : L2.Binds K fd_p_is_single P_p_is_single []
  g_p_is_single : mg "is_single" = some (.ref f_p_is_single)
  f_p_is_built : Addr
  fd_p_is_built : FuncData
  F_p_is_built : Fun K "is_built" "is_built" s_p_is_built f_p_is_built fd_p_is_built
  b_p_is_built : L2.Binds K fd_p_is_built P_p_is_built []
  g_p_is_built : mg "is_built" = some (.ref f_p_is_built)
  f_p_all_parts : Addr
  fd_p_all_parts : FuncData
  F_p_all_parts : Fun K "all_parts" "all_parts" s_p_all_parts f_p_all_parts fd_p_all_parts
  b_p_all_parts : L2.Binds K fd_p_all_parts P_p_all_parts []
  g_p_all_parts : mg "all_parts" = some (.ref f_p_all_parts)
  f_p_is_body : Addr
  fd_p_is_body : FuncData
  F_p_is_body : Fun K "is_body" "is_body" s_p_is_body f_p_is_body fd_p_is_body
  b_p_is_body : L2.Binds K fd_p_is_body P_p_is_body []
  g_p_is_body : mg "is_body" = some (.ref f_p_is_body)
  f_p_check_body : Addr
  fd_p_check_body : FuncData
  F_p_check_body : Fun K "check_body" "check_body" s_p_check_body f_p_check_body fd_p_check_body
  b_p_check_body : L2.Binds K fd_p_check_body P_p_check_body []
  g_p_check_body : mg "check_body" = some (.ref f_p_check_body)
  f_Plan_init : Addr
  fd_Plan_init : FuncData
  F_Plan_init : Fun K "__init__" "Plan.__init__" s_Plan_init f_Plan_init fd_Plan_init
  b_Plan_init : L2.Binds K fd_Plan_init P_Plan_init []
  f_Plan_new_stand : Addr
  fd_Plan_new_stand : FuncData
  F_Plan_new_stand : Fun K "new_stand" "Plan.new_stand" s_Plan_new_stand f_Plan_new_stand fd_Plan_new_stand
  b_Plan_new_stand : L2.Binds K fd_Plan_new_stand P_Plan_new_stand []
  me_Plan_new_stand : Meth K C_Plan "new_stand" f_Plan_new_stand
  f_Plan_put : Addr
  fd_Plan_put : FuncData
  F_Plan_put : Fun K "put" "Plan.put" s_Plan_put f_Plan_put fd_Plan_put
  b_Plan_put : L2.Binds K fd_Plan_put P_Plan_put []
  me_Plan_put : Meth K C_Plan "put" f_Plan_put
  f_Plan_fill : Addr
  fd_Plan_fill : FuncData
  F_Plan_fill : Fun K "fill" "Plan.fill" s_Plan_fill f_Plan_fill fd_Plan_fill
  b_Plan_fill : L2.Binds K fd_Plan_fill P_Plan_fill []
  me_Plan_fill : Meth K C_Plan "fill" f_Plan_fill
  f_p_compiled : Addr
  fd_p_compiled : FuncData
  F_p_compiled : FunD K "compiled" "compiled" (defArgs s_p_compiled) (defBody s_p_compiled) (defScope s_p_compiled) [] [("stem", V.str (PySem.Str.ofString "s"))] f_p_compiled fd_p_compiled
  ds_p_compiled_2 : List Value
  dv_p_compiled_2 : Vals [V.str (PySem.Str.ofString "s")] ds_p_compiled_2
  b_p_compiled_2 : L2.Binds K fd_p_compiled P_p_compiled ds_p_compiled_2
  g_p_compiled : mg "compiled" = some (.ref f_p_compiled)
  f_bag : Addr
  fd_bag : FuncData
  F_bag : Fun K "_law_bag" "_law_bag" s_bag f_bag fd_bag
  b_bag : L2.Binds K fd_bag P_bag []
  g_bag : mg "_law_bag" = some (.ref f_bag)
  f_pull : Addr
  fd_pull : FuncData
  F_pull : Fun K "_law_pull" "_law_pull" s_pull f_pull fd_pull
  b_pull : L2.Binds K fd_pull P_pull []
  g_pull : mg "_law_pull" = some (.ref f_pull)
  f_of : Addr
  fd_of : FuncData
  F_of : Fun K "_law_of" "_law_of" s_of f_of fd_of
  b_of : L2.Binds K fd_of P_of []
  g_of : mg "_law_of" = some (.ref f_of)
  f_same : Addr
  fd_same : FuncData
  F_same : Fun K "_law_same" "_law_same" s_same f_same fd_same
  b_same : L2.Binds K fd_same P_same []
  g_same : mg "_law_same" = some (.ref f_same)
  f_letters : Addr
  fd_letters : FuncData
  F_letters : Fun K "_law_letters" "_law_letters" s_letters f_letters fd_letters
  b_letters : L2.Binds K fd_letters P_letters []
  g_letters : mg "_law_letters" = some (.ref f_letters)
  f_names : Addr
  fd_names : FuncData
  F_names : Fun K "_law_names" "_law_names" s_names f_names fd_names
  b_names : L2.Binds K fd_names P_names []
  g_names : mg "_law_names" = some (.ref f_names)
  f_refusal : Addr
  fd_refusal : FuncData
  F_refusal : Fun K "_law_refusal" "_law_refusal" s_refusal f_refusal fd_refusal
  b_refusal : L2.Binds K fd_refusal P_refusal []
  g_refusal : mg "_law_refusal" = some (.ref f_refusal)
  f_leaf : Addr
  fd_leaf : FuncData
  F_leaf : Fun K "_law_leaf" "_law_leaf" s_leaf f_leaf fd_leaf
  b_leaf : L2.Binds K fd_leaf P_leaf []
  g_leaf : mg "_law_leaf" = some (.ref f_leaf)
  f_body : Addr
  fd_body : FuncData
  F_body : Fun K "_law_body" "_law_body" s_body f_body fd_body
  b_body : L2.Binds K fd_body P_body []
  g_body : mg "_law_body" = some (.ref f_body)
  f_forms : Addr
  fd_forms : FuncData
  F_forms : Fun K "_law_forms" "_law_forms" s_forms f_forms fd_forms
  b_forms : L2.Binds K fd_forms P_forms []
  g_forms : mg "_law_forms" = some (.ref f_forms)
  f_plain_text : Addr
  fd_plain_text : FuncData
  F_plain_text : Fun K "_law_plain_text" "_law_plain_text" s_plain_text f_plain_text fd_plain_text
  b_plain_text : L2.Binds K fd_plain_text P_plain_text []
  g_plain_text : mg "_law_plain_text" = some (.ref f_plain_text)
  f_inner : Addr
  fd_inner : FuncData
  F_inner : Fun K "_law_inner" "_law_inner" s_inner f_inner fd_inner
  b_inner : L2.Binds K fd_inner P_inner []
  g_inner : mg "_law_inner" = some (.ref f_inner)
  f_all_in : Addr
  fd_all_in : FuncData
  F_all_in : Fun K "_law_all_in" "_law_all_in" s_all_in f_all_in fd_all_in
  b_all_in : L2.Binds K fd_all_in P_all_in []
  g_all_in : mg "_law_all_in" = some (.ref f_all_in)
  f_form_ok : Addr
  fd_form_ok : FuncData
  F_form_ok : Fun K "_law_form_ok" "_law_form_ok" s_form_ok f_form_ok fd_form_ok
  b_form_ok : L2.Binds K fd_form_ok P_form_ok []
  g_form_ok : mg "_law_form_ok" = some (.ref f_form_ok)
  f_far_in : Addr
  fd_far_in : FuncData
  F_far_in : Fun K "_law_far_in" "_law_far_in" s_far_in f_far_in fd_far_in
  b_far_in : L2.Binds K fd_far_in P_far_in []
  g_far_in : mg "_law_far_in" = some (.ref f_far_in)
  f_body_ok : Addr
  fd_body_ok : FuncData
  F_body_ok : Fun K "_law_body_ok" "_law_body_ok" s_body_ok f_body_ok fd_body_ok
  b_body_ok : L2.Binds K fd_body_ok P_body_ok []
  g_body_ok : mg "_law_body_ok" = some (.ref f_body_ok)
  f_law : Addr
  fd_law : FuncData
  F_law : Fun K "law" "law" s_law f_law fd_law
  b_law : L2.Binds K fd_law P_law []
  g_law : mg "law" = some (.ref f_law)
  ox_LeakError : OexC K C_LeakError
  iC_LeakError : PySem.W.findIn K (.ref C_LeakError) "__init__" = some (some (.ref f_LeakError_init))
  tI_LeakError : PySem.W.typeIn K (.ref f_LeakError_init) = some (.type "function")
  cf_LeakError_init : LB.CFn K C_LeakError "__init__" f_LeakError_init
  xc_LeakError : LB.XC K C_LeakError
  no_LeakError_word : PySem.W.findIn K (.ref C_LeakError) "word" = some none
  no_LeakError_at : PySem.W.findIn K (.ref C_LeakError) "at" = some none
  em_LeakError : PySem.W.exmOne K (.ref C_LeakError) (.ref C_LeakError) = some true
  kv_LeakError : PySem.W.kitOne K (.ref C_LeakError) (.type "ValueError") = some true
  kl_LeakError : PySem.W.kitOne K (.ref C_LeakError) (.type "LookupError") = some false
  ox_BadName : OexC K C_BadName
  iC_BadName : PySem.W.findIn K (.ref C_BadName) "__init__" = some (some (.ref f_BadName_init))
  tI_BadName : PySem.W.typeIn K (.ref f_BadName_init) = some (.type "function")
  cf_BadName_init : LB.CFn K C_BadName "__init__" f_BadName_init
  xc_BadName : LB.XC K C_BadName
  no_BadName_word : PySem.W.findIn K (.ref C_BadName) "word" = some none
  no_BadName_at : PySem.W.findIn K (.ref C_BadName) "at" = some none
  em_BadName : PySem.W.exmOne K (.ref C_BadName) (.ref C_LeakError) = some true
  kv_BadName : PySem.W.kitOne K (.ref C_BadName) (.type "ValueError") = some true
  kl_BadName : PySem.W.kitOne K (.ref C_BadName) (.type "LookupError") = some false
  ox_BadBody : OexC K C_BadBody
  iC_BadBody : PySem.W.findIn K (.ref C_BadBody) "__init__" = some (some (.ref f_BadBody_init))
  tI_BadBody : PySem.W.typeIn K (.ref f_BadBody_init) = some (.type "function")
  cf_BadBody_init : LB.CFn K C_BadBody "__init__" f_BadBody_init
  xc_BadBody : LB.XC K C_BadBody
  no_BadBody_word : PySem.W.findIn K (.ref C_BadBody) "word" = some none
  no_BadBody_at : PySem.W.findIn K (.ref C_BadBody) "at" = some none
  em_BadBody : PySem.W.exmOne K (.ref C_BadBody) (.ref C_LeakError) = some true
  kv_BadBody : PySem.W.kitOne K (.ref C_BadBody) (.type "ValueError") = some true
  kl_BadBody : PySem.W.kitOne K (.ref C_BadBody) (.type "LookupError") = some false
  cl_Plan : Cls K C_Plan
  mk_Plan : Mk K C_Plan f_Plan_init
  no_Plan_owner : NoAttr K C_Plan "owner"
  no_Plan_stem : NoAttr K C_Plan "stem"
  no_Plan_stand_count : NoAttr K C_Plan "stand_count"
  no_Plan_made : NoAttr K C_Plan "made"
  vV : PySem.W.findCls K (.type "ValueError") (.type "type") "__init__" = some (.val (.builtin "ValueError.__init__"))
  kb_p_compiled_2_stem : KBinds K fd_p_compiled P_p_compiled ["stem"] KG_p_compiled_2_stemV KG_p_compiled_2_stem
  m_LookupError : mg "LookupError" = none
  m_ValueError : mg "ValueError" = none
  m_all : mg "all" = none
  m_bool : mg "bool" = none
  m_int : mg "int" = none
  m_isinstance : mg "isinstance" = none
  m_len : mg "len" = none
  m_list : mg "list" = none
  m_max : mg "max" = none
  m_range : mg "range" = none
  m_set : mg "set" = none
  m_sorted : mg "sorted" = none
  m_str : mg "str" = none
  m_tuple : mg "tuple" = none
  m_zip : mg "zip" = none
  u_LETTERS : Value
  c_LETTERS : mg "LETTERS" = some u_LETTERS
  r_LETTERS : RelV (V.str (PySem.Str.ofString "abcdefghijklmnopqrstuvwxyz")) u_LETTERS
  u_MOST_NAME : Value
  c_MOST_NAME : mg "MOST_NAME" = some u_MOST_NAME
  r_MOST_NAME : RelV (V.int 8) u_MOST_NAME
  u_MOST_PARTS : Value
  c_MOST_PARTS : mg "MOST_PARTS" = some u_MOST_PARTS
  r_MOST_PARTS : RelV (V.int 24) u_MOST_PARTS
  u_MOST_LEVELS : Value
  c_MOST_LEVELS : mg "MOST_LEVELS" = some u_MOST_LEVELS
  r_MOST_LEVELS : RelV (V.int 6) u_MOST_LEVELS
  d_INNER_COUNTS : Addr
  c_INNER_COUNTS : mg "INNER_COUNTS" = some (.ref d_INNER_COUNTS)
  kd_INNER_COUNTS : He.dicW K d_INNER_COUNTS = some (He.keysIn w.params ["then", "or", "again"])
  ns_INNER_COUNTS_then : ∃ t, PySem.W.nsIn K d_INNER_COUNTS "then" = some (some (.int 2 t))
  ns_INNER_COUNTS_or : ∃ t, PySem.W.nsIn K d_INNER_COUNTS "or" = some (some (.int 2 t))
  ns_INNER_COUNTS_again : ∃ t, PySem.W.nsIn K d_INNER_COUNTS "again" = some (some (.int 1 t))
  u_MOST_STEM : Value
  c_MOST_STEM : mg "MOST_STEM" = some u_MOST_STEM
  r_MOST_STEM : RelV (V.int 7) u_MOST_STEM
theorem kbp_p_compiled_2_stem {K : PySem.W.Frag} {f : Addr} {fd : FuncData} (F : FunD K "compiled" "compiled" (defArgs s_p_compiled) (defBody s_p_compiled) (defScope s_p_compiled) [] [("stem", V.str (PySem.Str.ofString "s"))] f fd) : KBinds K fd P_p_compiled ["stem"] KG_p_compiled_2_stemV KG_p_compiled_2_stem := by
  obtain ⟨oc, od, dV, kV, doc, pm, an, cdv, ct, osl, rfl, lk, hcd, hD, hK⟩ := F.ex
  obtain rfl : dV = .none := by
    rcases hD with ⟨_, e⟩ | ⟨e, _⟩
    · exact e
    · exact absurd rfl e
  refine ⟨fun s us ws _ hl => ?_, fun {vs us zs ws} r1 r2 => ?_⟩
  · rcases us with _ | ⟨u0, us⟩
    · simp [KG_p_compiled_2_stemV] at hl
    · rcases us with _ | ⟨u1, us⟩
      · simp [KG_p_compiled_2_stemV] at hl
      · rcases us with _ | ⟨u2, us⟩
        · rcases ws with _ | ⟨w0, ws⟩
          · simp [KG_p_compiled_2_stemV] at hl
          · rcases ws with _ | ⟨w1, ws⟩
            · exact .of_eq rfl
            · simp [KG_p_compiled_2_stemV] at hl
        · simp [KG_p_compiled_2_stemV] at hl
  · rcases r1 with _ | ⟨a0, r1⟩
    · exact .nil
    · rcases r1 with _ | ⟨a1, r1⟩
      · exact .nil
      · rcases r1 with _ | ⟨a2, r1⟩
        · rcases r2 with _ | ⟨b0, r2⟩
          · exact .nil
          · rcases r2 with _ | ⟨b1, r2⟩
            · exact (.cons a0 (.cons a1 (.cons b0 .nil)))
            · exact .nil
        · exact .nil
theorem kgr_p_compiled_2_stem : ∀ (ι : Nat → Addr) (N : Nat) (H : Hp) (a b : List PV) (va vb : List V), Rvs ι N H a va → Rvs ι N H b vb → Rvs ι N H (KGP_p_compiled_2_stem a b) (KG_p_compiled_2_stem va vb) := by
  intro ι N H a b va vb ra rb
  rcases a with _ | ⟨a0, a⟩
  · unfold Rvs at ra
    subst ra
    show Rvs ι N H [] []
    unfold Rvs
    rfl
  · unfold Rvs at ra
    obtain ⟨va0, va, rfl, qa0, ra⟩ := ra
    rcases a with _ | ⟨a1, a⟩
    · unfold Rvs at ra
      subst ra
      show Rvs ι N H [] []
      unfold Rvs
      rfl
    · unfold Rvs at ra
      obtain ⟨va1, va, rfl, qa1, ra⟩ := ra
      rcases a with _ | ⟨a2, a⟩
      · unfold Rvs at ra
        subst ra
        rcases b with _ | ⟨b0, b⟩
        · unfold Rvs at rb
          subst rb
          show Rvs ι N H [] []
          unfold Rvs
          rfl
        · unfold Rvs at rb
          obtain ⟨vb0, vb, rfl, qb0, rb⟩ := rb
          rcases b with _ | ⟨b1, b⟩
          · unfold Rvs at rb
            subst rb
            show Rvs ι N H [a0, a1, b0] [va0, va1, vb0]
            simp only [Rvs]
            exact ⟨_, _, rfl, qa0, ⟨_, _, rfl, qa1, ⟨_, _, rfl, qb0, rfl⟩⟩⟩
          · unfold Rvs at rb
            obtain ⟨vb1, vb, rfl, qb1, rb⟩ := rb
            show Rvs ι N H [] []
            unfold Rvs
            rfl
      · unfold Rvs at ra
        obtain ⟨va2, va, rfl, qa2, ra⟩ := ra
        show Rvs ι N H [] []
        unfold Rvs
        rfl
abbrev Tx.ca {K : PySem.W.Frag} {mg : Str → Option Value} {w : World} (T : Tx K mg w) : CA := { LeakError := T.C_LeakError, BadName := T.C_BadName, BadBody := T.C_BadBody, Plan := T.C_Plan }
section
variable {P : Program} {w : World} {K : PySem.W.Frag} {mg : Str → Option Value} {base : Heap}
/-! ### the refusals: what their making does -/
abbrev xdOf (n : Int) (w : Str) : List (Str × V) := xdOf' n w
def sp_leak (K : PySem.W.Frag) : Sp := fun vs H Q _ => ∃ (a C : Addr) (n : Int) (w : Str), vs = [.ref a, .int n, .str w] ∧ OexC K C ∧ PySem.W.findIn K (.ref C) "word" = some none ∧ PySem.W.findIn K (.ref C) "at" = some none ∧ H a = some (exo a C none) ∧ w.length < 1000 ∧ (n < 0 ∨ (0 ≤ n ∧ n < 512)) ∧ n.natAbs.log2 < 1920 ∧
  ∀ d, H d = none → d ≠ a → Q .non (upd (upd (upd H d (exd d [(Str.ofString "word", .str w)])) a (exo a C (some d))) d (exd d (xdOf n w)))
theorem small_text {n : Int} (h0 : 0 ≤ n) (h1 : n < 512) : (toString n : Str).length ≤ 100 := by
  obtain ⟨k, rfl⟩ := Int.eq_ofNat_of_zero_le h0
  have all : ∀ j : Fin 512, (toString ((j.val : Nat) : Int) : Str).length ≤ 100 := by decide +kernel
  exact all ⟨k, by omega⟩
theorem ok_LeakError_init (T : Tx K mg w) : FnOk P w K mg base CX0 1 T.f_LeakError_init T.fd_LeakError_init P_LeakError_init (sp_leak K) := by
  refine T.F_LeakError_init.ok sc_LeakError_init (fun vs H Q E h => ?_) (fun cdv A outer s H vs Q E hr h => ?_)
  · obtain ⟨a, C, n, w, rfl, _⟩ := h
    rfl
  · obtain ⟨a, C, n, w, rfl, oc, nw, na, ha, lw, sn, ln, q⟩ := h
    refine ⟨_, PSs.nox 
      (pss_cons (ps_expr (pe_veinit (by rfl) T.m_ValueError T.vV (pa_cons (L2.pv 0) (pa_cons (pe_ifExp (pt_cmpR op_lt (L2.pv 1) pe_int (nomark _)) (L2.pv 2) (pe_joined (PJ.cons (pe_fmt (L2.pv 2)) (PJ.cons pe_str (PJ.cons (pe_fmt (L2.pv 1)) PJ.nil))))) pa_nil))))
      (pss_cons (ps_ost (L2.pv 0) (L2.pv 2))
      (pss_one (ps_ost (L2.pv 0) (L2.pv 1))))), ?_⟩
    have sw : w.length ≤ sizeLine := by rw [sizeLine_eq]; omega
    have at0 : ∀ d, d ≠ a → (upd (upd H d (exd d [(Str.ofString "word", .str w)])) a (exo a C (some d))) d = some (exd d [(Str.ofString "word", .str w)]) := fun d nda => (upd_ne nda).trans upd_same
    refine ⟨.ref a, rfl, .int n, rfl, n, 0, rfl, rfl, _, rfl, ite2 (fun _ => ?_) (fun hn => ?_)⟩
    · refine ⟨.str w, rfl, a, C, [.str w], rfl, by show 1 ≤ 1000; decide, oc, ha, ?_⟩
      refine ⟨.str w, rfl, .ref a, rfl, a, C, rfl, oc, nw, .inl ⟨ha, fun d nd nda => ?_⟩⟩
      exact ⟨.int n, rfl, .ref a, rfl, a, C, rfl, oc, na, .inr ⟨d, _, upd_same, at0 d nda, by show 1 ≤ 900; decide, q d nd nda⟩⟩
    · have hn0 : 0 ≤ n ∧ n < 512 := by
        rcases sn with h | h
        · exact absurd (decide_eq_true h) hn
        · exact h
      have tl := small_text hn0.1 hn0.2
      have la : ∀ x y : Str, (x ++ y).length = x.length + y.length := fun x y => by
        show (x.cps ++ y.cps).size = x.cps.size + y.cps.size
        exact Array.size_append
      have l4 : (Str.ofString " at ").length = 4 := by decide +kernel
      have le : Str.empty.length = 0 := rfl
      refine ⟨.str w, rfl, .inl ⟨w, rfl, sw, w, rfl, by rw [la, le, sizeLine_eq]; omega, _, rfl, by rw [la, la, le, l4, sizeLine_eq]; omega, .int n, rfl, .inr ⟨n, rfl, ln, _, rfl, by rw [la, la, la, le, l4, sizeLine_eq]; omega, ?_⟩⟩⟩
      refine ⟨a, C, [.str _], rfl, by show 1 ≤ 1000; decide, oc, ha, ?_⟩
      refine ⟨.str w, rfl, .ref a, rfl, a, C, rfl, oc, nw, .inl ⟨ha, fun d nd nda => ?_⟩⟩
      exact ⟨.int n, rfl, .ref a, rfl, a, C, rfl, oc, na, .inr ⟨d, _, upd_same, at0 d nda, by show 1 ≤ 900; decide, q d nd nda⟩⟩
theorem ok_BadName_init (T : Tx K mg w) : FnOk P w K mg base CX0 2 T.f_BadName_init T.fd_BadName_init P_BadName_init (spErr K (Str.ofString "badname")) := by
  have G_LeakError_init : FnOk P w K mg base CX0 1 T.f_LeakError_init T.fd_LeakError_init P_LeakError_init (sp_leak K) := ok_LeakError_init T
  refine T.F_BadName_init.ok sc_BadName_init (fun vs H Q E h => ?_) (fun cdv A outer s H vs Q E hr h => ?_)
  · obtain ⟨a, C, n, rfl, _⟩ := h
    rfl
  · obtain ⟨a, C, n, rfl, oc, nw, na, ha, sn, ln, q⟩ := h
    refine ⟨_, PSs.nox 
      (pss_one (ps_expr (LB.pe_cfn T.cf_LeakError_init G_LeakError_init (hr.mono (by decide)) (by rfl) T.gC_LeakError T.b_LeakError_init_3 T.dv_LeakError_init_3 pass0 (pa_cons (L2.pv 0) (pa_cons (L2.pv 1) (pa_cons pe_str pa_nil)))))), ?_⟩
    exact ⟨.ref a, rfl, .int n, rfl, a, C, n, _, rfl, oc, nw, na, ha, (by decide), sn, ln, q⟩
theorem ok_BadBody_init (T : Tx K mg w) : FnOk P w K mg base CX0 2 T.f_BadBody_init T.fd_BadBody_init P_BadBody_init (spErr K (Str.ofString "badbody")) := by
  have G_LeakError_init : FnOk P w K mg base CX0 1 T.f_LeakError_init T.fd_LeakError_init P_LeakError_init (sp_leak K) := ok_LeakError_init T
  refine T.F_BadBody_init.ok sc_BadBody_init (fun vs H Q E h => ?_) (fun cdv A outer s H vs Q E hr h => ?_)
  · obtain ⟨a, C, n, rfl, _⟩ := h
    rfl
  · obtain ⟨a, C, n, rfl, oc, nw, na, ha, sn, ln, q⟩ := h
    refine ⟨_, PSs.nox 
      (pss_one (ps_expr (LB.pe_cfn T.cf_LeakError_init G_LeakError_init (hr.mono (by decide)) (by rfl) T.gC_LeakError T.b_LeakError_init_3 T.dv_LeakError_init_3 pass0 (pa_cons (L2.pv 0) (pa_cons (L2.pv 1) (pa_cons pe_str pa_nil)))))), ?_⟩
    exact ⟨.ref a, rfl, .int n, rfl, a, C, n, _, rfl, oc, nw, na, ha, (by decide), sn, ln, q⟩
/-! ### a refusal, told -/
open LamX in
theorem refusal_gives {X : Cx} {CS g : Addr} {cdg : Value} {q : Str} (hme : X.mg "LeakError" = some (.ref CS)) (hi : X.mg "isinstance" = none) (hv : X.mg "ValueError" = none) (hl : X.mg "LookupError" = none) :
    GivesTo X N_refusal "_law_refusal" (defScope s_refusal) g cdg (defBody s_refusal) "_law_ask" q (TRef X.K CS) := by
  intro f c' s H Q tl act hc h
  refine ⟨_, (pss_cons (ps_set (i := 1) sc_refusal.nd rfl (.inl rfl) (pe_tup (pa_cons pe_str (pa_cons (pe_un un_neg pe_int) pa_nil))))
    (pss_cons (ps_try_as (X := (cxOf C8.CX0 X.prog X.w X.K X.mg X.base N_refusal "_law_refusal" (defScope s_refusal) g cdg X.A X.stack s H C8.E0).nox) (c := .ref CS) (i := 2)
      (tb := fun W D σ H => ∃ Ech : XK, (∀ cls d σ' H', σ'.length = 3 → Ech cls d H' → W cls d σ' H') ∧ σ[0]? = some (some (.ref f)) ∧ H c' = some (CodeO c' q) ∧ tl Ech H (fun _ H' => D.nx σ H'))
      rfl rfl sc_refusal.nd rfl rfl ⟨(by rfl), (by decide), .inl hme⟩ L2.takes0 (fun W pn xe tk _ => ?_)
      (fun a oe cls d pn hz hf => (pss_cons (ps_set (i := 1) sc_refusal.nd rfl (.inl rfl) (pe_tup (pa_cons pe_str (pa_cons (pe_un un_neg pe_int) pa_nil))))
        (pss_one (ps_if (PW.pt (pw_and (pt_val (pe_callB (call_isX hz hf) (by rfl) hi (by decide +kernel) (pa_cons (L2.pv 2) (pa_cons (pe_bltn (v := .ty "ValueError") (by rfl) hv (by decide +kernel) rfl) pa_nil))))
            (pw_and1 (pt_not (pt_val (pe_callB (call_isX hz hf) (by rfl) hi (by decide +kernel) (pa_cons (L2.pv 2) (pa_cons (pe_bltn (v := .ty "LookupError") (by rfl) hl (by decide +kernel) rfl) pa_nil))))))))
          (pss_one (ps_set (i := 1) sc_refusal.nd rfl (.inl rfl) (pe_tup (pa_cons (pe_xfX hz hf (L2.pv 2)) (pa_cons (pe_xfX hz hf (L2.pv 2)) pa_nil)))))
          pss_nil)))))
    (pss_one (ps_ret (L2.pv 1))))), ?_⟩
  · refine ⟨fun pins s' σ H' D I h' => ?_⟩
    obtain ⟨Ech, hW, h1, h2, h3⟩ := h'
    have tk' : Takes ((cxOf C8.CX0 X.prog X.w X.K X.mg X.base N_refusal "_law_refusal" (defScope s_refusal) g cdg X.A X.stack s H C8.E0).tr pn xe) (fun c d σ H => σ.length = 3 → W c d σ H) := fun u s2 ⟨a, B, sI, pins, σ, H, cls, d, e, J, nb, up, sky, na, os, ag, w⟩ =>
      tk u s2 ⟨a, B, sI, pins, σ, H, cls, d, e, J, nb, up, sky, na, os, ag, w J.len⟩
    exact (pss_one (ps_expr (act _ pn xe Ech _ _ tk' (fun cls d σ' H' e l => hW cls d σ' H' l e)))).run pins s' σ H' D I ⟨h1, h2, h3⟩
  · refine ⟨1, rfl, (by show 2 ≤ sizeLine; decide), fun p0 np0 => ?_⟩
    refine ⟨_, fun cls d σ' H' hl he => ?_, rfl, (upd_ne (ne_of_none hc np0)).trans hc, h p0 np0⟩
    obtain ⟨D, dd, fs, w, n, rfl, rfl, xc, em, kv, kl, fw, fa, hdd, lw, la, hq⟩ := he
    refine ⟨true, em, fun _ a na => ?_, fun z => nomatch z⟩
    obtain ⟨z0, z1, z2, rfl⟩ : ∃ z0 z1 z2, σ' = [z0, z1, z2] := by
      match σ', hl with
      | [z0, z1, z2], _ => exact ⟨z0, z1, z2, rfl⟩
    refine ⟨1, rfl, (by show 2 ≤ sizeLine; decide), fun p1 np1 => ?_⟩
    have hdd1 : upd H' p1 (.tup [.str "odd", .int (-1)]) dd = some (.xd fs) := (upd_ne (ne_of_none hdd np1)).trans hdd
    refine ⟨.ref a, rfl, D, dd, fs, .ty "ValueError", .type "ValueError", true, rfl, xc, rfl, hdd1, rfl, (fun u r => r), kv, true, rfl, iteT ?_⟩
    refine ⟨.ref a, rfl, D, dd, fs, .ty "LookupError", .type "LookupError", false, rfl, xc, rfl, hdd1, rfl, (fun u r => r), kl, false, rfl, iteT ?_⟩
    refine ⟨.ref a, rfl, rfl, D, dd, fs, w, rfl, xc, fw, rfl, hdd1, lw, .ref a, rfl, rfl, D, dd, fs, n, rfl, xc, fa, rfl, hdd1, la, (by show 2 ≤ sizeLine; decide), fun p2 np2 => ?_⟩
    exact ⟨.ref p2, rfl, hq p1 np1 p2 np2⟩
/-! ### the bag: made, drawn from -/
def sp_bag (K : PySem.W.Frag) : Sp := fun vs H Q _ => ∃ (a : Addr) (ns : List Int), vs = [.ref a] ∧ SqL K H a (ns.map V.int) ∧ ns.length ≤ 63 ∧ ∀ H' b s, Same H H' → Bag b s H' → H b = none → Q (.ref b) H'
theorem ok_bag (T : Tx K mg w) : FnOk P w K mg base CX0 1 T.f_bag T.fd_bag P_bag (sp_bag K) := by
  refine T.F_bag.ok sc_bag (fun vs H Q E h => ?_) (fun cdv A outer s H vs Q E hr h => ?_)
  · obtain ⟨a, ns, rfl, _⟩ := h
    rfl
  · obtain ⟨a, ns, rfl, hS, hlen, q⟩ := h
    refine ⟨_, 
      (pss_cons (ps_set (i := 1) sc_bag.nd rfl (.inl rfl) pe_int)
      (pss_cons (ps_for PassesOwn.never rfl (pi_list (pe_slice sl_list (L2.pv 0) po_none (po_some pe_int))) (pg_name (i := 2) sc_bag.nd rfl (.inl rfl))
        (pss_one (ps_set (i := 1) sc_bag.nd rfl (.inl rfl) (pe_op op_mod (pe_op op_add (pe_op op_add (pe_op op_mul (L2.pv 1) pe_int) (L2.pv 2)) pe_int) pe_int))))
      (pss_one (ps_ret (pe_lst (pa_cons (pe_callTy call_list_of (by rfl) T.m_list (by decide +kernel) (pa_cons (pe_slice sl_list (L2.pv 0) po_none (po_some pe_int)) pa_nil)) (pa_cons pe_int (pa_cons pe_int (pa_cons (L2.pv 1) (pa_cons pe_int pa_nil)))))))))), ?_⟩
    refine ⟨.ref a, rfl, 63, rfl, a, ns.map V.int, rfl, hS, fun c nc => ?_⟩
    have ec : cutV (ns.map V.int) none (some 63) = ns.map V.int := by
      rw [show (63 : Int) = ((63 : Nat) : Int) from rfl, LB.cut_take, List.take_of_length_le (by rw [List.length_map]; exact hlen)]
    rw [ec]
    have s1 : Same H (upd H c (.lst (ns.map V.int))) := LB.same_new nc
    refine ⟨c, rfl, ⟨_, .of upd_same⟩, for_list (xs := ns.map V.int) (fun _ σ H' => ∃ (sd : Int) (y : Option V), σ = [some (.ref a), some (.int sd), y] ∧ H' = upd H c (.lst (ns.map V.int))) ⟨_, _, rfl, rfl⟩ (fun i σ H' _ h => ?_) (fun i x σ H' hx h => ?_) (fun σ H' h => ?_)⟩
    · obtain ⟨sd, y, _, rfl⟩ := h
      exact .of upd_same
    · obtain ⟨sd, y, rfl, rfl⟩ := h
      obtain ⟨n, _, rfl⟩ : ∃ n, ns[i]? = some n ∧ V.int n = x := by
        rw [List.getElem?_map] at hx
        cases e : ns[i]? with
        | none => rw [e] at hx; cases hx
        | some n => rw [e] at hx; exact ⟨n, rfl, Option.some.inj hx⟩
      refine ⟨.int sd, rfl, sd, 65539, rfl, rfl, .inr ⟨by decide, by decide⟩, .int n, rfl, _, n, rfl, rfl, _, 7, rfl, rfl, _, 2147483629, rfl, rfl, (by show (0 : Int) < 2147483629; decide), _, _, rfl, rfl⟩
    · obtain ⟨sd, y, rfl, rfl⟩ := h
      refine ⟨.ref a, rfl, 63, rfl, a, ns.map V.int, rfl, s1.seq hS, fun d nd => ?_⟩
      rw [ec]
      have s2 := LB.same_new (o := .lst (ns.map V.int)) nd
      refine ⟨d, _, rfl, .inl (.of upd_same), fun l nl => ?_⟩
      have s3 := LB.same_new (o := .lst (ns.map V.int)) nl
      refine ⟨.int sd, rfl, (by show 5 ≤ sizeLine; decide), fun b nb => ?_⟩
      have s4 := LB.same_new (o := .lst [.ref l, .int 0, .int 0, .int sd, .int 0]) nb
      have nlb : l ≠ b := ne_of_none upd_same nb
      refine q _ b l (s1.trans (s2.trans (s3.trans s4))) ⟨nlb, ns, 0, 0, sd, 0, upd_same, ?_, hlen, Int.le_refl _⟩ ((s1.trans (s2.trans s3)).free nb)
      rw [upd_ne nlb, upd_same]
/-! ### the same data -/
def sp_same (K : PySem.W.Frag) (n : Nat) : Sp := fun vs H Q _ => ∃ v w, vs = [v, w] ∧ Sam K H n v w ∧ ∀ H', Same H H' → Q (.bl true) H'
theorem same_flat (T : Tx K mg w) {k n : Nat} {cdv : Value} {A : Around} {outer : List Env} {s : Shared} {H : Hp} {Q : VK} {E : XK} {v : V} (hv : flat1 v = true) (q : ∀ H', Same H H' → Q (.bl true) H') :
    ∃ t, PSs (cxOf CX0 P w K mg base N_same "_law_same" (defScope s_same) T.f_same cdv A outer s H E).nox (defBody s_same) t ∧ t { nx := fun _ H' => Q .non H', rt := Q } (start N_same [v, v]) H := by
  refine ⟨_, 
      (pss_cons (ps_if (pt_val (pe_callB call_isiT (by rfl) T.m_isinstance (by decide +kernel) (pa_cons (L2.pv 1) (pa_cons (pe_tup (pa_cons (pe_bltn (v := .ty "list") (by rfl) T.m_list (by decide +kernel) rfl) (pa_cons (pe_bltn (v := .ty "tuple") (by rfl) T.m_tuple (by decide +kernel) rfl) pa_nil))) pa_nil))))
        pss_never
        pss_nil)
      (pss_cons (ps_if (PW.pt (pw_or (pt_cmpR op_isN (L2.pv 1) pe_non (nomark _)) (pw_or1 (pt_cmpR op_isN (L2.pv 0) pe_non (nomark _)))))
        (pss_one (ps_ret (pe_and (pe_cmpR op_isN (L2.pv 0) pe_non (nomark _)) (pe_one (pe_cmpR op_isN (L2.pv 1) pe_non (nomark _))))))
        pss_nil)
      (pss_cons (ps_if (PW.pt (pw_or (pt_cmpR op_ne (pe_callB call_isi (by rfl) T.m_isinstance (by decide +kernel) (pa_cons (L2.pv 0) (pa_cons (pe_bltn (v := .ty "bool") (by rfl) T.m_bool (by decide +kernel) rfl) pa_nil))) (pe_callB call_isi (by rfl) T.m_isinstance (by decide +kernel) (pa_cons (L2.pv 1) (pa_cons (pe_bltn (v := .ty "bool") (by rfl) T.m_bool (by decide +kernel) rfl) pa_nil))) (nomark _)) (pw_or1 (pt_cmpR op_ne (pe_callB call_isi (by rfl) T.m_isinstance (by decide +kernel) (pa_cons (L2.pv 0) (pa_cons (pe_bltn (v := .ty "int") (by rfl) T.m_int (by decide +kernel) rfl) pa_nil))) (pe_callB call_isi (by rfl) T.m_isinstance (by decide +kernel) (pa_cons (L2.pv 1) (pa_cons (pe_bltn (v := .ty "int") (by rfl) T.m_int (by decide +kernel) rfl) pa_nil))) (nomark _)))))
        (pss_one (ps_ret pe_bl))
        pss_nil)
      (pss_one (ps_ret (pe_and (pe_cmpR op_eq (pe_callB call_isi (by rfl) T.m_isinstance (by decide +kernel) (pa_cons (L2.pv 0) (pa_cons (pe_bltn (v := .ty "str") (by rfl) T.m_str (by decide +kernel) rfl) pa_nil))) (pe_callB call_isi (by rfl) T.m_isinstance (by decide +kernel) (pa_cons (L2.pv 1) (pa_cons (pe_bltn (v := .ty "str") (by rfl) T.m_str (by decide +kernel) rfl) pa_nil))) (nomark _)) (pe_one (pe_cmpR op_eq (L2.pv 0) (L2.pv 1) (nomark _))))))))), ?_⟩
  cases v with
  | byt _ => cases hv
  | flt _ => cases hv
  | ref _ => cases hv
  | ty _ => cases hv
  | non =>
    refine ⟨.non, rfl, (by show 2 ≤ sizeLine; decide), fun p np => ?_⟩
    refine ⟨.non, p, _, _, _, false, rfl, upd_same, .cons (.ty "list") (.cons (.ty "tuple") .nil), .base .non, kit_seq (by decide +kernel) (by decide +kernel), false, rfl, iteF ?_⟩
    refine ⟨.non, rfl, rfl, _, rfl, iteT (iteT ?_)⟩
    refine ⟨.non, rfl, rfl, _, rfl, iteT ?_⟩
    exact ⟨.non, rfl, rfl, q _ (same_new np)⟩
  | bl y =>
    refine ⟨.bl y, rfl, (by show 2 ≤ sizeLine; decide), fun p np => ?_⟩
    refine ⟨.bl y, p, _, _, _, false, rfl, upd_same, .cons (.ty "list") (.cons (.ty "tuple") .nil), .base (.bl y), kit_seq (by decide +kernel) (by decide +kernel), false, rfl, iteF ?_⟩
    refine ⟨.bl y, rfl, rfl, _, rfl, iteF ⟨.bl y, rfl, rfl, _, rfl, iteF ?_⟩⟩
    refine ⟨.bl y, rfl, .bl y, .ty "bool", _, _, true, rfl, .ty _, .base (.bl y), kit_ty (by decide +kernel), .bl y, rfl, .bl y, .ty "bool", _, _, true, rfl, .ty _, .base (.bl y), kit_ty (by decide +kernel), rfl, _, rfl, iteF ⟨.bl y, rfl, .bl y, .ty "int", _, _, true, rfl, .ty _, .base (.bl y), kit_ty (by decide +kernel), .bl y, rfl, .bl y, .ty "int", _, _, true, rfl, .ty _, .base (.bl y), kit_ty (by decide +kernel), rfl, _, rfl, iteF ?_⟩⟩
    refine ⟨.bl y, rfl, .bl y, .ty "str", _, _, false, rfl, .ty _, .base (.bl y), kit_ty (by decide +kernel), .bl y, rfl, .bl y, .ty "str", _, _, false, rfl, .ty _, .base (.bl y), kit_ty (by decide +kernel), rfl, _, rfl, iteT ⟨.bl y, rfl, .bl y, rfl, rfl, ?_⟩⟩
    rw [decide_eq_true rfl]
    exact q _ (same_new np)
  | int y =>
    refine ⟨.int y, rfl, (by show 2 ≤ sizeLine; decide), fun p np => ?_⟩
    refine ⟨.int y, p, _, _, _, false, rfl, upd_same, .cons (.ty "list") (.cons (.ty "tuple") .nil), .base (.int y), kit_seq (by decide +kernel) (by decide +kernel), false, rfl, iteF ?_⟩
    refine ⟨.int y, rfl, rfl, _, rfl, iteF ⟨.int y, rfl, rfl, _, rfl, iteF ?_⟩⟩
    refine ⟨.int y, rfl, .int y, .ty "bool", _, _, false, rfl, .ty _, .base (.int y), kit_ty (by decide +kernel), .int y, rfl, .int y, .ty "bool", _, _, false, rfl, .ty _, .base (.int y), kit_ty (by decide +kernel), rfl, _, rfl, iteF ⟨.int y, rfl, .int y, .ty "int", _, _, true, rfl, .ty _, .base (.int y), kit_ty (by decide +kernel), .int y, rfl, .int y, .ty "int", _, _, true, rfl, .ty _, .base (.int y), kit_ty (by decide +kernel), rfl, _, rfl, iteF ?_⟩⟩
    refine ⟨.int y, rfl, .int y, .ty "str", _, _, false, rfl, .ty _, .base (.int y), kit_ty (by decide +kernel), .int y, rfl, .int y, .ty "str", _, _, false, rfl, .ty _, .base (.int y), kit_ty (by decide +kernel), rfl, _, rfl, iteT ⟨.int y, rfl, .int y, rfl, rfl, ?_⟩⟩
    rw [decide_eq_true rfl]
    exact q _ (same_new np)
  | str y =>
    refine ⟨.str y, rfl, (by show 2 ≤ sizeLine; decide), fun p np => ?_⟩
    refine ⟨.str y, p, _, _, _, false, rfl, upd_same, .cons (.ty "list") (.cons (.ty "tuple") .nil), .base (.str y), kit_seq (by decide +kernel) (by decide +kernel), false, rfl, iteF ?_⟩
    refine ⟨.str y, rfl, rfl, _, rfl, iteF ⟨.str y, rfl, rfl, _, rfl, iteF ?_⟩⟩
    refine ⟨.str y, rfl, .str y, .ty "bool", _, _, false, rfl, .ty _, .base (.str y), kit_ty (by decide +kernel), .str y, rfl, .str y, .ty "bool", _, _, false, rfl, .ty _, .base (.str y), kit_ty (by decide +kernel), rfl, _, rfl, iteF ⟨.str y, rfl, .str y, .ty "int", _, _, false, rfl, .ty _, .base (.str y), kit_ty (by decide +kernel), .str y, rfl, .str y, .ty "int", _, _, false, rfl, .ty _, .base (.str y), kit_ty (by decide +kernel), rfl, _, rfl, iteF ?_⟩⟩
    refine ⟨.str y, rfl, .str y, .ty "str", _, _, true, rfl, .ty _, .base (.str y), kit_ty (by decide +kernel), .str y, rfl, .str y, .ty "str", _, _, true, rfl, .ty _, .base (.str y), kit_ty (by decide +kernel), rfl, _, rfl, iteT ⟨.str y, rfl, .str y, rfl, rfl, ?_⟩⟩
    rw [decide_eq_true rfl]
    exact q _ (same_new np)
theorem ok_same (T : Tx K mg w) : ∀ n : Nat, FnOk P w K mg base CX0 (n + 1) T.f_same T.fd_same P_same (sp_same K n)
  | 0 => by
    refine T.F_same.ok sc_same (fun vs H Q E h => ?_) (fun cdv A outer s H vs Q E hr h => ?_)
    · obtain ⟨v, w, rfl, _⟩ := h
      rfl
    · obtain ⟨v, w, rfl, ⟨hf, rfl⟩, q⟩ := h
      exact same_flat T (k := 0) (n := 0) hf q
  | n + 1 => by
    have G_same : FnOk P w K mg base CX0 (n + 1) T.f_same T.fd_same P_same (sp_same K n) := ok_same T n
    refine T.F_same.ok sc_same (fun vs H Q E h => ?_) (fun cdv A outer s H vs Q E hr h => ?_)
    · obtain ⟨v, w, rfl, _⟩ := h
      rfl
    · obtain ⟨v, w, rfl, ⟨hf, rfl⟩ | ⟨a, c, xs, ys, rfl, rfl, h, hz, p'⟩, q⟩ := h
      · exact same_flat T (k := 0) (n := 0) hf q
      have pl : xs.length = ys.length := Paired.length p'
      rcases h with ⟨h1, h2⟩ | ⟨h1, h2⟩
      · -- two lists
        refine ⟨_, 
      (pss_cons (ps_if (pt_val (pe_callB call_isiT (by rfl) T.m_isinstance (by decide +kernel) (pa_cons (L2.pv 1) (pa_cons (pe_tup (pa_cons (pe_bltn (v := .ty "list") (by rfl) T.m_list (by decide +kernel) rfl) (pa_cons (pe_bltn (v := .ty "tuple") (by rfl) T.m_tuple (by decide +kernel) rfl) pa_nil))) pa_nil))))
        (pss_cons (ps_if (PW.pt (pw_or (pt_cmpR op_ne (pe_callB call_isi (by rfl) T.m_isinstance (by decide +kernel) (pa_cons (L2.pv 0) (pa_cons (pe_bltn (v := .ty "list") (by rfl) T.m_list (by decide +kernel) rfl) pa_nil))) (pe_callB call_isi (by rfl) T.m_isinstance (by decide +kernel) (pa_cons (L2.pv 1) (pa_cons (pe_bltn (v := .ty "list") (by rfl) T.m_list (by decide +kernel) rfl) pa_nil))) (nomark _)) (pw_or1 (pt_cmpR op_ne (pe_callB call_isi (by rfl) T.m_isinstance (by decide +kernel) (pa_cons (L2.pv 0) (pa_cons (pe_bltn (v := .ty "tuple") (by rfl) T.m_tuple (by decide +kernel) rfl) pa_nil))) (pe_callB call_isi (by rfl) T.m_isinstance (by decide +kernel) (pa_cons (L2.pv 1) (pa_cons (pe_bltn (v := .ty "tuple") (by rfl) T.m_tuple (by decide +kernel) rfl) pa_nil))) (nomark _)))))
          (pss_one (ps_ret pe_bl))
          pss_nil)
        (pss_one (ps_ret (pe_and (pe_cmpR op_eq (pe_callB call_len_seq (by rfl) T.m_len PySem.boot_len (pa_cons (L2.pv 0) pa_nil)) (pe_callB call_len_seq (by rfl) T.m_len PySem.boot_len (pa_cons (L2.pv 1) pa_nil)) (nomark _)) (pe_one (pe_callB (cr_all rfl) (by rfl) T.m_all (by decide +kernel) (pa_cons (pe_lc (own := [("_law_a", 2), ("_law_b", 3)]) (g := (gTup K 2 (gCons (gName 2) (gCons (gName 3) gNil)))) (tt := tYes) (by rfl) sc_same.nd (RZ.pi_zipA (by rfl) T.m_zip (pa_cons (L2.pv 0) (pa_cons (L2.pv 1) pa_nil))) (blkOk_by (own := [("_law_a", 2), ("_law_b", 3)]) (N := N_same) (sc := defScope s_same) (by decide +kernel)) (fun _ _ _ _ _ => (pg_tup (by rfl) (pgs_cons (pg_name (i := 2) sc_same.nd rfl (.inl rfl)) (pgs_cons (pg_name (i := 3) sc_same.nd rfl (.inl rfl)) pgs_nil)))) (fun _ _ _ _ _ => pts_nil) (fun _ _ _ _ _ => (pe_call G_same hr (by rfl) T.g_same T.F_same.kp T.b_same .nil pass0 (pa_cons (L2.pv 2) (pa_cons (L2.pv 3) pa_nil))))) pa_nil)))))))
        pss_nil)
      pss_never), ?_⟩
        refine ⟨.ref c, rfl, (by show 2 ≤ sizeLine; decide), fun p np => ?_⟩
        have s1 : Same H (upd H p (.tup [.ty "list", .ty "tuple"])) := same_new np
        have k1 := s1 _ _ h1
        have k2 := s1 _ _ h2
        refine ⟨.ref c, p, _, _, _, true, rfl, upd_same, .cons (.ty "list") (.cons (.ty "tuple") .nil), .base (.lst k2), kit_lst, true, rfl, iteT ?_⟩
        refine ⟨.ref a, rfl, .ref a, .ty "list", _, _, true, rfl, .ty _, .base (.lst k1), kit_ty (by decide +kernel), .ref c, rfl, .ref c, .ty "list", _, _, true, rfl, .ty _, .base (.lst k2), kit_ty (by decide +kernel), rfl, _, rfl, iteF ?_⟩
        refine ⟨.ref a, rfl, .ref a, .ty "tuple", _, _, false, rfl, .ty _, .base (.lst k1), kit_ty (by decide +kernel), .ref c, rfl, .ref c, .ty "tuple", _, _, false, rfl, .ty _, .base (.lst k2), kit_ty (by decide +kernel), rfl, _, rfl, iteF ?_⟩
        refine ⟨.ref a, rfl, a, xs, rfl, .inl (.of k1), .ref c, rfl, c, ys, rfl, .inl (.of k2), rfl, _, rfl, ?_⟩
        rw [← pl, decide_eq_true rfl]
        refine iteT ?_
        refine ⟨.ref a, rfl, .ref c, rfl, a, c, xs, ys, rfl, .inl ⟨.of k1, .of k2, fun D nD => ?_⟩⟩
        have nD0 : H D = none := s1.free nD
        refine lc_it (walk_zip (n := xs.length) (by rw [← pl, Nat.min_self])) (fun i H' => Same H H' ∧ H' D = some (.lst ((List.replicate i true).map V.bl)))
          ⟨same_mut s1 nD0, upd_same⟩ (fun i H' _ h => ⟨.of (h.1 _ _ h1), .of (h.1 _ _ h2)⟩) (fun i x H1 H' hi h y => ?_) (fun H' h => ?_)
        · obtain ⟨sm, eD⟩ := h
          obtain ⟨U, u, v, rfl, nU, rfl, gu, gv⟩ := y
          have sU : Same H (upd H1 U (.tup [u, v])) := sm.trans (same_new nU)
          refine ⟨U, [u, v], rfl, .of upd_same, rfl, u, [v], rfl, v, [], rfl, rfl, ?_⟩
          refine ⟨rfl, u, rfl, v, rfl, u, v, rfl, (paired_get p' gu gv).mono sU, fun H3 s3 => ?_⟩
          have eD3 : H3 D = some (.lst ((List.replicate i true).map V.bl)) := s3 _ _ (by rw [upd_ne (ne_of_none eD nU)]; exact eD)
          refine ⟨_, eD3, ?_, same_mut (sU.trans s3) nD0, ?_⟩
          · rw [List.length_map, List.length_replicate]
            exact Nat.lt_trans hi (Nat.lt_of_lt_of_le hz (by decide))
          · rw [upd_same, List.replicate_succ', List.map_append]
            rfl
        · obtain ⟨sm, eD⟩ := h
          refine ⟨D, _, rfl, .of eD, ?_⟩
          rw [show (List.replicate xs.length true).all id = true from by rw [List.all_replicate]; simp]
          exact q _ sm
      · -- two tuples
        refine ⟨_, 
      (pss_cons (ps_if (pt_val (pe_callB call_isiT (by rfl) T.m_isinstance (by decide +kernel) (pa_cons (L2.pv 1) (pa_cons (pe_tup (pa_cons (pe_bltn (v := .ty "list") (by rfl) T.m_list (by decide +kernel) rfl) (pa_cons (pe_bltn (v := .ty "tuple") (by rfl) T.m_tuple (by decide +kernel) rfl) pa_nil))) pa_nil))))
        (pss_cons (ps_if (PW.pt (pw_or (pt_cmpR op_ne (pe_callB call_isi (by rfl) T.m_isinstance (by decide +kernel) (pa_cons (L2.pv 0) (pa_cons (pe_bltn (v := .ty "list") (by rfl) T.m_list (by decide +kernel) rfl) pa_nil))) (pe_callB call_isi (by rfl) T.m_isinstance (by decide +kernel) (pa_cons (L2.pv 1) (pa_cons (pe_bltn (v := .ty "list") (by rfl) T.m_list (by decide +kernel) rfl) pa_nil))) (nomark _)) (pw_or1 (pt_cmpR op_ne (pe_callB call_isi (by rfl) T.m_isinstance (by decide +kernel) (pa_cons (L2.pv 0) (pa_cons (pe_bltn (v := .ty "tuple") (by rfl) T.m_tuple (by decide +kernel) rfl) pa_nil))) (pe_callB call_isi (by rfl) T.m_isinstance (by decide +kernel) (pa_cons (L2.pv 1) (pa_cons (pe_bltn (v := .ty "tuple") (by rfl) T.m_tuple (by decide +kernel) rfl) pa_nil))) (nomark _)))))
          (pss_one (ps_ret pe_bl))
          pss_nil)
        (pss_one (ps_ret (pe_and (pe_cmpR op_eq (pe_callB call_len_seq (by rfl) T.m_len PySem.boot_len (pa_cons (L2.pv 0) pa_nil)) (pe_callB call_len_seq (by rfl) T.m_len PySem.boot_len (pa_cons (L2.pv 1) pa_nil)) (nomark _)) (pe_one (pe_callB (cr_all rfl) (by rfl) T.m_all (by decide +kernel) (pa_cons (pe_lc (own := [("_law_a", 2), ("_law_b", 3)]) (g := (gTup K 2 (gCons (gName 2) (gCons (gName 3) gNil)))) (tt := tYes) (by rfl) sc_same.nd (RZ.pi_zipA (by rfl) T.m_zip (pa_cons (L2.pv 0) (pa_cons (L2.pv 1) pa_nil))) (blkOk_by (own := [("_law_a", 2), ("_law_b", 3)]) (N := N_same) (sc := defScope s_same) (by decide +kernel)) (fun _ _ _ _ _ => (pg_tup (by rfl) (pgs_cons (pg_name (i := 2) sc_same.nd rfl (.inl rfl)) (pgs_cons (pg_name (i := 3) sc_same.nd rfl (.inl rfl)) pgs_nil)))) (fun _ _ _ _ _ => pts_nil) (fun _ _ _ _ _ => (pe_call G_same hr (by rfl) T.g_same T.F_same.kp T.b_same .nil pass0 (pa_cons (L2.pv 2) (pa_cons (L2.pv 3) pa_nil))))) pa_nil)))))))
        pss_nil)
      pss_never), ?_⟩
        refine ⟨.ref c, rfl, (by show 2 ≤ sizeLine; decide), fun p np => ?_⟩
        have s1 : Same H (upd H p (.tup [.ty "list", .ty "tuple"])) := same_new np
        have k1 := s1 _ _ h1
        have k2 := s1 _ _ h2
        refine ⟨.ref c, p, _, _, _, true, rfl, upd_same, .cons (.ty "list") (.cons (.ty "tuple") .nil), .base (.tup k2), kit_tup, true, rfl, iteT ?_⟩
        refine ⟨.ref a, rfl, .ref a, .ty "list", _, _, false, rfl, .ty _, .base (.tup k1), kit_ty (by decide +kernel), .ref c, rfl, .ref c, .ty "list", _, _, false, rfl, .ty _, .base (.tup k2), kit_ty (by decide +kernel), rfl, _, rfl, iteF ?_⟩
        refine ⟨.ref a, rfl, .ref a, .ty "tuple", _, _, true, rfl, .ty _, .base (.tup k1), kit_ty (by decide +kernel), .ref c, rfl, .ref c, .ty "tuple", _, _, true, rfl, .ty _, .base (.tup k2), kit_ty (by decide +kernel), rfl, _, rfl, iteF ?_⟩
        refine ⟨.ref a, rfl, a, xs, rfl, .inr (.of k1), .ref c, rfl, c, ys, rfl, .inr (.of k2), rfl, _, rfl, ?_⟩
        rw [← pl, decide_eq_true rfl]
        refine iteT ?_
        refine ⟨.ref a, rfl, .ref c, rfl, a, c, xs, ys, rfl, .inr ⟨.of k1, .of k2, fun D nD => ?_⟩⟩
        have nD0 : H D = none := s1.free nD
        refine lc_it (walk_zipT (n := xs.length) (by rw [← pl, Nat.min_self])) (fun i H' => Same H H' ∧ H' D = some (.lst ((List.replicate i true).map V.bl)))
          ⟨same_mut s1 nD0, upd_same⟩ (fun i H' _ h => ⟨.of (h.1 _ _ h1), .of (h.1 _ _ h2)⟩) (fun i x H1 H' hi h y => ?_) (fun H' h => ?_)
        · obtain ⟨sm, eD⟩ := h
          obtain ⟨U, u, v, rfl, nU, rfl, gu, gv⟩ := y
          have sU : Same H (upd H1 U (.tup [u, v])) := sm.trans (same_new nU)
          refine ⟨U, [u, v], rfl, .of upd_same, rfl, u, [v], rfl, v, [], rfl, rfl, ?_⟩
          refine ⟨rfl, u, rfl, v, rfl, u, v, rfl, (paired_get p' gu gv).mono sU, fun H3 s3 => ?_⟩
          have eD3 : H3 D = some (.lst ((List.replicate i true).map V.bl)) := s3 _ _ (by rw [upd_ne (ne_of_none eD nU)]; exact eD)
          refine ⟨_, eD3, ?_, same_mut (sU.trans s3) nD0, ?_⟩
          · rw [List.length_map, List.length_replicate]
            exact Nat.lt_trans hi (Nat.lt_of_lt_of_le hz (by decide))
          · rw [upd_same, List.replicate_succ', List.map_append]
            rfl
        · obtain ⟨sm, eD⟩ := h
          refine ⟨D, _, rfl, .of eD, ?_⟩
          rw [show (List.replicate xs.length true).all id = true from by rw [List.all_replicate]; simp]
          exact q _ sm
variable {tb : List (Addr × Str)}
theorem ok_sameP (T : Tx K mg w) : FnP P w K mg base tb 10 T.f_same T.fd_same P_same (F_same 9) := (fn_any (ok_same T 9)).imp fun vs H Q E h => same_imp h
theorem xf_all (T : Tx K mg w) : ∀ C ∈ exCs T.ca, XF K T.C_LeakError C := List.forall_mem_cons.mpr ⟨⟨T.xc_BadName, T.em_BadName, T.kv_BadName, T.kl_BadName, T.no_BadName_word, T.no_BadName_at⟩, List.forall_mem_cons.mpr ⟨⟨T.xc_BadBody, T.em_BadBody, T.kv_BadBody, T.kl_BadBody, T.no_BadBody_word, T.no_BadBody_at⟩, fun _ h => (List.not_mem_nil h).elim⟩⟩
/-! #### is_word -/
set_option maxHeartbeats 0 in
theorem ok_p_is_word (T : Tx K mg w) : FnP P w K mg base tb 1 T.f_p_is_word T.fd_p_is_word P_p_is_word (F_p_is_word T.ca) := by
  exact FnP.of T.F_p_is_word sc_p_is_word fun cdv A outer s H E hr => ⟨_, (pss_one (ps_ret (pe_callB (cr_all rfl) (by rfl) T.m_all (by decide +kernel) (pa_cons (pe_lc (own := [("sign", 1)]) (g := (gName 1)) (tt := tYes) (by rfl) sc_p_is_word.nd (pi_str (L2.pv 0)) (blkOk_by (own := [("sign", 1)]) (N := N_p_is_word) (sc := defScope s_p_is_word) (by decide +kernel)) (fun _ _ _ _ _ => (pg_name (i := 1) sc_p_is_word.nd rfl (.inl rfl))) (fun _ _ _ _ _ => pts_nil) (fun _ _ _ _ _ => (pe_cmpR op_in_sign (L2.pv 1) (pe_glob (by rfl) T.c_LETTERS T.r_LETTERS) rfl))) pa_nil)))),
    (sm_ret (sm_gc (sm_B sb_all (sm_cons (sm_lc (sm_iS sm_var) sg_nm sm_yes (sm_op smr_inS sm_var (sm_c (cv_str (by decide +kernel)))) (by decide)) sm_nil))))⟩
/-! #### is_name -/
set_option maxHeartbeats 0 in
theorem ok_p_is_name (T : Tx K mg w) : FnP P w K mg base tb 2 T.f_p_is_name T.fd_p_is_name P_p_is_name (F_p_is_name T.ca) := by
  have G_p_is_word : FnP P w K mg base tb 1 T.f_p_is_word T.fd_p_is_word P_p_is_word (F_p_is_word T.ca) := ok_p_is_word T
  exact FnP.of T.F_p_is_name sc_p_is_name fun cdv A outer s H E hr => ⟨_, (pss_one (ps_ret (pe_and (pe_chain op_le op_le pe_int (pe_callB call_len_str (by rfl) T.m_len PySem.boot_len (pa_cons (L2.pv 0) pa_nil)) (pe_glob (by rfl) T.c_MOST_NAME T.r_MOST_NAME)) (pe_one (pe_call G_p_is_word (hr.mono (by decide)) (by rfl) T.g_p_is_word T.F_p_is_word.kp T.b_p_is_word .nil (passes_call (takes_of rfl rfl rfl rfl) (fun _ _ _ _ h => h)) (pa_cons (L2.pv 0) pa_nil)))))),
    (sm_ret (sm_andV (sm_chain (smr_I0 fun _ _ => cv_bl) (smr_I0 fun _ _ => cv_bl) (sm_c cv_int) (sm_B sb_lenS (sm_cons sm_var sm_nil)) (sm_c cv_int)) (sm_call cvs_nil (sm_cons sm_var sm_nil))))⟩
/-! #### is_letter -/
set_option maxHeartbeats 0 in
theorem ok_p_is_letter (T : Tx K mg w) : FnP P w K mg base tb 2 T.f_p_is_letter T.fd_p_is_letter P_p_is_letter (F_p_is_letter T.ca) := by
  have G_p_is_word : FnP P w K mg base tb 1 T.f_p_is_word T.fd_p_is_word P_p_is_word (F_p_is_word T.ca) := ok_p_is_word T
  exact FnP.of T.F_p_is_letter sc_p_is_letter fun cdv A outer s H E hr => ⟨_, (pss_one (ps_ret (pe_and (pe_cmpR op_eq (pe_callB call_len_str (by rfl) T.m_len PySem.boot_len (pa_cons (L2.pv 0) pa_nil)) pe_int (nomark _)) (pe_one (pe_call G_p_is_word (hr.mono (by decide)) (by rfl) T.g_p_is_word T.F_p_is_word.kp T.b_p_is_word .nil (passes_call (takes_of rfl rfl rfl rfl) (fun _ _ _ _ h => h)) (pa_cons (L2.pv 0) pa_nil)))))),
    (sm_ret (sm_andV (sm_op smr_eq (sm_B sb_lenS (sm_cons sm_var sm_nil)) (sm_c cv_int)) (sm_call cvs_nil (sm_cons sm_var sm_nil))))⟩
/-! #### inner -/
set_option maxHeartbeats 0 in
theorem ok_p_inner (T : Tx K mg w) : FnP P w K mg base tb 1 T.f_p_inner T.fd_p_inner P_p_inner (F_p_inner T.ca) := by
  exact FnP.of T.F_p_inner sc_p_inner fun cdv A outer s H E hr => ⟨_, (pss_one (ps_ret (pe_ifExp (pt_cmpR (r := rKIn K w false) op_inKD (pe_ix ix_tup (L2.pv 0) pe_int (fun _ _ => rfl)) (pe_glob (v := .ref T.d_INNER_COUNTS) (by rfl) T.c_INNER_COUNTS rfl) (by first | rfl | with_unfolding_all rfl)) (pe_slice sl_tupA (L2.pv 0) (po_some pe_int) po_none) (pe_tup pa_nil)))),
    (sm_ret (sm_if (sm_tB (sm_kin T.kd_INNER_COUNTS (lkv_cons T.ns_INNER_COUNTS_then (by decide +kernel) (lkv_cons T.ns_INNER_COUNTS_or (by decide +kernel) (lkv_cons T.ns_INNER_COUNTS_again (by decide +kernel) lkv_nil))) (lkn_cons (by decide +kernel) (lkn_cons (by decide +kernel) (lkn_cons (by decide +kernel) lkn_nil))) (sm_op smr_ixT sm_var (sm_c cv_int)))) (sm_sl sms_T sm_var (sm_part (sm_c cv_int)) sm_noPart) (sm_tup sm_nil)))⟩
/-! #### is_single -/
set_option maxHeartbeats 0 in
theorem ok_p_is_single (T : Tx K mg w) : FnP P w K mg base tb 3 T.f_p_is_single T.fd_p_is_single P_p_is_single (F_p_is_single T.ca) := by
  have G_p_is_name : FnP P w K mg base tb 2 T.f_p_is_name T.fd_p_is_name P_p_is_name (F_p_is_name T.ca) := ok_p_is_name T
  have G_p_is_letter : FnP P w K mg base tb 2 T.f_p_is_letter T.fd_p_is_letter P_p_is_letter (F_p_is_letter T.ca) := ok_p_is_letter T
  exact FnP.of T.F_p_is_single sc_p_is_single fun cdv A outer s H E hr => ⟨_, (pss_cons (ps_if (pt_not (pt_val (pe_callB (cr_all rfl) (by rfl) T.m_all (by decide +kernel) (pa_cons (pe_lc (own := [("one", 1)]) (g := (gName 1)) (tt := tYes) (by rfl) sc_p_is_single.nd (pi_tup (L2.pv 0)) (blkOk_by (own := [("one", 1)]) (N := N_p_is_single) (sc := defScope s_p_is_single) (by decide +kernel)) (fun _ _ _ _ _ => (pg_name (i := 1) sc_p_is_single.nd rfl (.inl rfl))) (fun _ _ _ _ _ => pts_nil) (fun _ _ _ _ _ => (pe_callB (r := rIsi K) call_isi (by rfl) T.m_isinstance (by decide +kernel) (pa_cons (L2.pv 1) (pa_cons (pe_bltn (v := .ty "str") (by rfl) T.m_str (by decide +kernel) rfl) pa_nil))))) pa_nil))))
        (pss_one (ps_ret pe_bl))
        pss_nil)
      (pss_cons (ps_if (pt_cmpR (op_eqD hr.units) (L2.pv 0) (pe_tup (pa_cons pe_str pa_nil)) (nomark _))
        (pss_one (ps_ret pe_bl))
        pss_nil)
      (pss_cons (ps_if (pt_cmpR op_eq (pe_ix ix_tup (L2.pv 0) pe_int (fun _ _ => rfl)) pe_str (nomark _))
        (pss_one (ps_ret (pe_and (pe_cmpR op_eq (pe_callB call_len_seq (by rfl) T.m_len PySem.boot_len (pa_cons (L2.pv 0) pa_nil)) pe_int (nomark _)) (pe_one (pe_call G_p_is_name (hr.mono (by decide)) (by rfl) T.g_p_is_name T.F_p_is_name.kp T.b_p_is_name .nil (passes_call (takes_of rfl rfl rfl rfl) (fun _ _ _ _ h => h)) (pa_cons (pe_ix ix_tup (L2.pv 0) pe_int (fun _ _ => rfl)) pa_nil))))))
        pss_nil)
      (pss_cons (ps_if (PW.pt (pw_or (pt_cmpR op_eq (pe_ix ix_tup (L2.pv 0) pe_int (fun _ _ => rfl)) pe_str (nomark _)) (pw_or1 (pt_cmpR op_eq (pe_ix ix_tup (L2.pv 0) pe_int (fun _ _ => rfl)) pe_str (nomark _)))))
        (pss_one (ps_ret (pe_and (pe_cmpR op_eq (pe_callB call_len_seq (by rfl) T.m_len PySem.boot_len (pa_cons (L2.pv 0) pa_nil)) pe_int (nomark _)) (pe_and (pe_call G_p_is_name (hr.mono (by decide)) (by rfl) T.g_p_is_name T.F_p_is_name.kp T.b_p_is_name .nil (passes_call (takes_of rfl rfl rfl rfl) (fun _ _ _ _ h => h)) (pa_cons (pe_ix ix_tup (L2.pv 0) pe_int (fun _ _ => rfl)) pa_nil)) (pe_one (pe_call G_p_is_letter (hr.mono (by decide)) (by rfl) T.g_p_is_letter T.F_p_is_letter.kp T.b_p_is_letter .nil (passes_call (takes_of rfl rfl rfl rfl) (fun _ _ _ _ h => h)) (pa_cons (pe_ix ix_tup (L2.pv 0) pe_int (fun _ _ => rfl)) pa_nil)))))))
        pss_nil)
      (pss_one (ps_ret pe_bl)))))),
    (sm_seq (sm_ifS (sm_not (sm_tB (sm_gc (sm_B sb_all (sm_cons (sm_lc (sm_iT sm_var) sg_nm sm_yes (sm_B sb_isi (sm_cons sm_var (sm_cons (sm_c cv_ty) sm_nil))) (by decide)) sm_nil))))) (sm_ret (sm_c cv_bl)) sm_next)
      (sm_seq (sm_ifS (sm_test (sm_op smr_eqD sm_var (sm_tup (sm_cons (sm_c (cv_str (by decide +kernel))) sm_nil)))) (sm_ret (sm_c cv_bl)) sm_next)
      (sm_seq (sm_ifS (sm_test (sm_op smr_eq (sm_op smr_ixT sm_var (sm_c cv_int)) (sm_c (cv_str (by decide +kernel))))) (sm_ret (sm_andV (sm_op smr_eq (sm_B sb_len (sm_cons sm_var sm_nil)) (sm_c cv_int)) (sm_call cvs_nil (sm_cons (sm_op smr_ixT sm_var (sm_c cv_int)) sm_nil)))) sm_next)
      (sm_seq (sm_ifS (sm_or (sm_test (sm_op smr_eq (sm_op smr_ixT sm_var (sm_c cv_int)) (sm_c (cv_str (by decide +kernel))))) (sm_test (sm_op smr_eq (sm_op smr_ixT sm_var (sm_c cv_int)) (sm_c (cv_str (by decide +kernel)))))) (sm_ret (sm_andV (sm_op smr_eq (sm_B sb_len (sm_cons sm_var sm_nil)) (sm_c cv_int)) (sm_andV (sm_call cvs_nil (sm_cons (sm_op smr_ixT sm_var (sm_c cv_int)) sm_nil)) (sm_call cvs_nil (sm_cons (sm_op smr_ixT sm_var (sm_c cv_int)) sm_nil))))) sm_next)
      (sm_ret (sm_c cv_bl))))))⟩
/-! #### is_built -/
set_option maxHeartbeats 0 in
theorem ok_p_is_built (T : Tx K mg w) : ∀ n : Nat, FnP P w K mg base tb (3 + n) T.f_p_is_built T.fd_p_is_built P_p_is_built (F_p_is_built T.ca n)
  | 0 => FnP.bad
  | n + 1 => by
    have G_p_is_built : FnP P w K mg base tb (3 + n) T.f_p_is_built T.fd_p_is_built P_p_is_built (F_p_is_built T.ca n) := ok_p_is_built T n
    have G_p_is_single : FnP P w K mg base tb 3 T.f_p_is_single T.fd_p_is_single P_p_is_single (F_p_is_single T.ca) := ok_p_is_single T
    have G_p_inner : FnP P w K mg base tb 1 T.f_p_inner T.fd_p_inner P_p_inner (F_p_inner T.ca) := ok_p_inner T
    exact FnP.of T.F_p_is_built sc_p_is_built fun cdv A outer s H E hr => ⟨_, (pss_cons (ps_if (PW.pt (pw_or (pt_not (pt_val (pe_callB call_isi (by rfl) T.m_isinstance (by decide +kernel) (pa_cons (L2.pv 0) (pa_cons (pe_bltn (v := .ty "tuple") (by rfl) T.m_tuple (by decide +kernel) rfl) pa_nil))))) (pw_or (pt_cmpR op_eq (pe_callB call_len_seq (by rfl) T.m_len PySem.boot_len (pa_cons (L2.pv 0) pa_nil)) pe_int (nomark _)) (pw_or1 (pt_cmpR op_eq (L2.pv 1) pe_int (nomark _))))))
        (pss_one (ps_ret pe_bl))
        pss_nil)
      (pss_cons (ps_if (pt_cmpR (r := rKIn K w true) op_notInKD (pe_ix ix_tup (L2.pv 0) pe_int (fun _ _ => rfl)) (pe_glob (v := .ref T.d_INNER_COUNTS) (by rfl) T.c_INNER_COUNTS rfl) (by first | rfl | with_unfolding_all rfl))
        (pss_one (ps_ret (pe_call G_p_is_single (hr.mono (Nat.le_trans (show 3 ≤ 3 from by decide) (Nat.le_add_right 3 n))) (by rfl) T.g_p_is_single T.F_p_is_single.kp T.b_p_is_single .nil (passes_call (takes_of rfl rfl rfl rfl) (fun _ _ _ _ h => h)) (pa_cons (L2.pv 0) pa_nil))))
        pss_nil)
      (pss_cons (ps_if (pt_cmpR op_ne (pe_callB call_len_seq (by rfl) T.m_len PySem.boot_len (pa_cons (L2.pv 0) pa_nil)) (pe_op op_add (pe_ix (r := rKItem K w) ix_itemKD (pe_glob (v := .ref T.d_INNER_COUNTS) (by rfl) T.c_INNER_COUNTS rfl) (pe_ix ix_tup (L2.pv 0) pe_int (fun _ _ => rfl)) (fun _ _ => rfl)) pe_int) (nomark _))
        (pss_one (ps_ret pe_bl))
        pss_nil)
      (pss_one (ps_ret (pe_callB (cr_all rfl) (by rfl) T.m_all (by decide +kernel) (pa_cons (pe_lc (own := [("one", 2)]) (g := (gName 2)) (tt := tYes) (by rfl) sc_p_is_built.nd (pi_tup (pe_call G_p_inner (hr.mono (Nat.le_trans (show 1 ≤ 3 from by decide) (Nat.le_add_right 3 n))) (by rfl) T.g_p_inner T.F_p_inner.kp T.b_p_inner .nil (passes_call (takes_of rfl rfl rfl rfl) (fun _ _ _ _ h => h)) (pa_cons (L2.pv 0) pa_nil))) (blkOk_by (own := [("one", 2)]) (N := N_p_is_built) (sc := defScope s_p_is_built) (by decide +kernel)) (fun _ _ _ _ _ => (pg_name (i := 2) sc_p_is_built.nd rfl (.inl rfl))) (fun _ _ _ _ _ => pts_nil) (fun _ _ _ _ _ => (pe_call G_p_is_built hr (by rfl) T.g_p_is_built T.F_p_is_built.kp T.b_p_is_built .nil passL (pa_cons (L2.pv 2) (pa_cons (pe_op op_sub (L2.pv 1) pe_int) pa_nil))))) pa_nil))))))),
      (sm_seq (sm_ifS (sm_or (sm_not (sm_tB (sm_B sb_isi (sm_cons sm_var (sm_cons (sm_c cv_ty) sm_nil))))) (sm_or (sm_test (sm_op smr_eq (sm_B sb_len (sm_cons sm_var sm_nil)) (sm_c cv_int))) (sm_test (sm_op smr_eq sm_var (sm_c cv_int))))) (sm_ret (sm_c cv_bl)) sm_next)
      (sm_seq (sm_ifS (sm_tB (sm_kin T.kd_INNER_COUNTS (lkv_cons T.ns_INNER_COUNTS_then (by decide +kernel) (lkv_cons T.ns_INNER_COUNTS_or (by decide +kernel) (lkv_cons T.ns_INNER_COUNTS_again (by decide +kernel) lkv_nil))) (lkn_cons (by decide +kernel) (lkn_cons (by decide +kernel) (lkn_cons (by decide +kernel) lkn_nil))) (sm_op smr_ixT sm_var (sm_c cv_int)))) (sm_ret (sm_call cvs_nil (sm_cons sm_var sm_nil))) sm_next)
      (sm_seq (sm_ifS (sm_test (sm_op smr_ne (sm_B sb_len (sm_cons sm_var sm_nil)) (sm_op (smr_I0 fun _ _ => cv_int) (sm_kitem T.kd_INNER_COUNTS (lkv_cons T.ns_INNER_COUNTS_then (by decide +kernel) (lkv_cons T.ns_INNER_COUNTS_or (by decide +kernel) (lkv_cons T.ns_INNER_COUNTS_again (by decide +kernel) lkv_nil))) (sm_op smr_ixT sm_var (sm_c cv_int))) (sm_c cv_int)))) (sm_ret (sm_c cv_bl)) sm_next)
      (sm_ret (sm_gc (sm_B sb_all (sm_cons (sm_lc (sm_iT (sm_call cvs_nil (sm_cons sm_var sm_nil))) sg_nm sm_yes (sm_callN cvs_nil (sm_cons sm_var (sm_cons (sm_op (smr_I0 fun _ _ => cv_int) sm_var (sm_c cv_int)) sm_nil))) (by decide)) sm_nil)))))))⟩
/-! #### all_parts -/
set_option maxHeartbeats 0 in
theorem ok_p_all_parts (T : Tx K mg w) : ∀ n : Nat, FnP P w K mg base tb (1 + n) T.f_p_all_parts T.fd_p_all_parts P_p_all_parts (F_p_all_parts T.ca n)
  | 0 => FnP.bad
  | n + 1 => by
    have G_p_all_parts : FnP P w K mg base tb (1 + n) T.f_p_all_parts T.fd_p_all_parts P_p_all_parts (F_p_all_parts T.ca n) := ok_p_all_parts T n
    have G_p_inner : FnP P w K mg base tb 1 T.f_p_inner T.fd_p_inner P_p_inner (F_p_inner T.ca) := ok_p_inner T
    exact FnP.of T.F_p_all_parts sc_p_all_parts fun cdv A outer s H E hr => ⟨_, (pss_cons (ps_set (i := 1) sc_p_all_parts.nd rfl (.inl rfl) (pe_lst (pa_cons (L2.pv 0) pa_nil)))
      (pss_cons (ps_for (passes_of rfl) rfl (pi_tup (pe_call G_p_inner (hr.mono (Nat.le_trans (show 1 ≤ 1 from by decide) (Nat.le_add_right 1 n))) (by rfl) T.g_p_inner T.F_p_inner.kp T.b_p_inner .nil (passes_call (takes_of rfl rfl rfl rfl) (fun _ _ _ _ h => h)) (pa_cons (L2.pv 0) pa_nil))) (pg_name (i := 2) sc_p_all_parts.nd rfl (.inl rfl))
        (pss_one (ps_expr (pe_bm PySem.F.plainAttrs_list PySem.F.slot_list_extend PySem.F.type_list_extend mt_extend (L2.pv 1) (pa_cons (pe_call G_p_all_parts hr (by rfl) T.g_p_all_parts T.F_p_all_parts.kp T.b_p_all_parts .nil (passes_call (takes_of rfl rfl rfl rfl) (fun _ _ _ _ h => h)) (pa_cons (L2.pv 2) pa_nil)) pa_nil)))))
      (pss_one (ps_ret (L2.pv 1))))),
      (sm_seq (sm_asg (sm_lst (sm_cons sm_var sm_nil)) sg_nm)
      (sm_seq (sm_for (sm_iT (sm_call cvs_nil (sm_cons sm_var sm_nil))) sg_nm (sm_drop (sm_BM mm_extend sm_var (sm_cons (sm_call cvs_nil (sm_cons sm_var sm_nil)) sm_nil))))
      (sm_ret sm_var)))⟩
/-! #### is_body -/
set_option maxHeartbeats 0 in
theorem ok_p_is_body (T : Tx K mg w) : FnP P w K mg base tb 13 T.f_p_is_body T.fd_p_is_body P_p_is_body (F_p_is_body T.ca) := by
  have G_p_is_built : FnP P w K mg base tb 12 T.f_p_is_built T.fd_p_is_built P_p_is_built (F_p_is_built T.ca 9) := ok_p_is_built T 9
  have G_p_all_parts : FnP P w K mg base tb 10 T.f_p_all_parts T.fd_p_all_parts P_p_all_parts (F_p_all_parts T.ca 9) := ok_p_all_parts T 9
  exact FnP.of T.F_p_is_body sc_p_is_body fun cdv A outer s H E hr => ⟨_, (pss_one (ps_ret (pe_and (pe_call G_p_is_built (hr.mono (by decide)) (by rfl) T.g_p_is_built T.F_p_is_built.kp T.b_p_is_built .nil (passes_call (takes_of rfl rfl rfl rfl) (fun _ _ _ _ h => h)) (pa_cons (L2.pv 0) (pa_cons (pe_glob (by rfl) T.c_MOST_LEVELS T.r_MOST_LEVELS) pa_nil))) (pe_one (pe_cmpR op_le (pe_callB call_len_seq (by rfl) T.m_len PySem.boot_len (pa_cons (pe_call G_p_all_parts (hr.mono (by decide)) (by rfl) T.g_p_all_parts T.F_p_all_parts.kp T.b_p_all_parts .nil (passes_call (takes_of rfl rfl rfl rfl) (fun _ _ _ _ h => h)) (pa_cons (L2.pv 0) pa_nil)) pa_nil)) (pe_glob (by rfl) T.c_MOST_PARTS T.r_MOST_PARTS) (nomark _)))))),
    (sm_ret (sm_andV (sm_call cvs_nil (sm_cons sm_var (sm_cons (sm_c cv_int) sm_nil))) (sm_op (smr_I0 fun _ _ => cv_bl) (sm_B sb_len (sm_cons (sm_call cvs_nil (sm_cons sm_var sm_nil)) sm_nil)) (sm_c cv_int))))⟩
/-! #### check_body -/
set_option maxHeartbeats 0 in
theorem ok_p_check_body (T : Tx K mg w) : FnP P w K mg base tb 14 T.f_p_check_body T.fd_p_check_body P_p_check_body (F_p_check_body T.ca) := by
  have G_p_is_body : FnP P w K mg base tb 13 T.f_p_is_body T.fd_p_is_body P_p_is_body (F_p_is_body T.ca) := ok_p_is_body T
  have G_BadBody_init : FnOk P w K mg base CX0 2 T.f_BadBody_init T.fd_BadBody_init P_BadBody_init (spErr K (Str.ofString "badbody")) := ok_BadBody_init T
  exact FnP.of T.F_p_check_body sc_p_check_body fun cdv A outer s H E hr => ⟨_, (pss_one (ps_if (pt_not (pt_val (pe_call G_p_is_body (hr.mono (by decide)) (by rfl) T.g_p_is_body T.F_p_is_body.kp T.b_p_is_body .nil (passes_call (takes_of rfl rfl rfl rfl) (fun _ _ _ _ h => h)) (pa_cons (L2.pv 0) pa_nil))))
        (pss_one (ps_raise rfl (takes_of rfl rfl rfl rfl) (LB.pmk_oex0 T.ox_BadBody T.iC_BadBody T.tI_BadBody G_BadBody_init (hr.mono (by decide)) T.b_BadBody_init_1 T.dv_BadBody_init_1 pass0 (by rfl) T.gC_BadBody)))
        pss_nil)),
    (sm_ifS (sm_not (sm_tB (sm_call cvs_nil (sm_cons sm_var sm_nil)))) (sm_raise T.ox_BadBody T.no_BadBody_word T.no_BadBody_at (cvs_cons cv_int cvs_nil) sm_nil) sm_next)⟩
/-! #### Plan.__init__ -/
set_option maxHeartbeats 0 in
theorem ok_Plan_init (T : Tx K mg w) : FnP P w K mg base tb 1 T.f_Plan_init T.fd_Plan_init P_Plan_init (F_Plan_init T.ca) := by
  exact FnP.of T.F_Plan_init sc_Plan_init fun cdv A outer s H E hr => ⟨_, (pss_cons (ps_fld (L2.pv 0) (L2.pv 1) rfl)
      (pss_cons (ps_fld (L2.pv 0) (L2.pv 2) rfl)
      (pss_cons (ps_fld (L2.pv 0) pe_int rfl)
      (pss_one (ps_fld (L2.pv 0) (pe_lst pa_nil) rfl))))),
    (sm_seq (sm_setF T.cl_Plan T.no_Plan_owner sm_var sm_var)
      (sm_seq (sm_setF T.cl_Plan T.no_Plan_stem sm_var sm_var)
      (sm_seq (sm_setF T.cl_Plan T.no_Plan_stand_count sm_var (sm_c cv_int))
      (sm_setF T.cl_Plan T.no_Plan_made sm_var (sm_lst sm_nil)))))⟩
/-! #### Plan.new_stand -/
set_option maxHeartbeats 0 in
theorem ok_Plan_new_stand (T : Tx K mg w) : FnP P w K mg base tb 1 T.f_Plan_new_stand T.fd_Plan_new_stand P_Plan_new_stand (F_Plan_new_stand T.ca) := by
  exact FnP.of T.F_Plan_new_stand sc_Plan_new_stand fun cdv A outer s H E hr => ⟨_, (pss_cons (ps_fldaug (L2.pv 0) pe_int in_add)
      (pss_one (ps_ret (pe_op op_add_str (pe_fld (L2.pv 0) rfl) (pe_ix ix_str (pe_glob (by rfl) T.c_LETTERS T.r_LETTERS) (pe_op op_sub (pe_fld (L2.pv 0) rfl) pe_int) (fun _ _ => rfl)))))),
    (sm_seq (sm_augF rAdd_of T.cl_Plan T.no_Plan_stand_count sm_var (sm_c cv_int))
      (sm_ret (sm_op smr_addS (sm_fld T.cl_Plan T.no_Plan_stem sm_var) (sm_op smr_ixS (sm_c (cv_str (by decide +kernel))) (sm_op (smr_I0 fun _ _ => cv_int) (sm_fld T.cl_Plan T.no_Plan_stand_count sm_var) (sm_c cv_int))))))⟩
/-! #### Plan.put -/
set_option maxHeartbeats 0 in
theorem ok_Plan_put (T : Tx K mg w) : FnP P w K mg base tb 1 T.f_Plan_put T.fd_Plan_put P_Plan_put (F_Plan_put T.ca) := by
  exact FnP.of T.F_Plan_put sc_Plan_put fun cdv A outer s H E hr => ⟨_, (pss_one (ps_expr (pe_bm PySem.F.plainAttrs_list PySem.F.slot_list_append PySem.F.type_list_append mt_append (pe_fld (L2.pv 0) rfl) (pa_cons (pe_tup (pa_cons (pe_fld (L2.pv 0) rfl) (pa_cons (L2.pv 1) (pa_cons (L2.pv 2) (pa_cons (L2.pv 3) pa_nil))))) pa_nil)))),
    (sm_drop (sm_BM mm_append (sm_fld T.cl_Plan T.no_Plan_made sm_var) (sm_cons (sm_tup (sm_cons (sm_fld T.cl_Plan T.no_Plan_owner sm_var) (sm_cons sm_var (sm_cons sm_var (sm_cons sm_var sm_nil))))) sm_nil)))⟩
/-! #### Plan.fill -/
set_option maxHeartbeats 0 in
theorem ok_Plan_fill (T : Tx K mg w) : ∀ n : Nat, FnP P w K mg base tb (1 + n) T.f_Plan_fill T.fd_Plan_fill P_Plan_fill (F_Plan_fill T.ca n)
  | 0 => FnP.bad
  | n + 1 => by
    have G_Plan_fill : FnP P w K mg base tb (1 + n) T.f_Plan_fill T.fd_Plan_fill P_Plan_fill (F_Plan_fill T.ca n) := ok_Plan_fill T n
    have G_Plan_new_stand : FnP P w K mg base tb 1 T.f_Plan_new_stand T.fd_Plan_new_stand P_Plan_new_stand (F_Plan_new_stand T.ca) := ok_Plan_new_stand T
    have G_Plan_put : FnP P w K mg base tb 1 T.f_Plan_put T.fd_Plan_put P_Plan_put (F_Plan_put T.ca) := ok_Plan_put T
    exact FnP.of T.F_Plan_fill sc_Plan_fill fun cdv A outer s H E hr => ⟨_, (pss_cons (ps_set (i := 4) sc_Plan_fill.nd rfl (.inl rfl) (pe_ix ix_tup (L2.pv 1) pe_int (fun _ _ => rfl)))
      (pss_one (ps_if (pt_cmpR op_eq (L2.pv 4) pe_str (nomark _))
        (pss_cons (ps_set (i := 5) sc_Plan_fill.nd rfl (.inl rfl) (pe_meth0 (L2.pv 0) T.cl_Plan T.me_Plan_new_stand G_Plan_new_stand (hr.mono (Nat.le_trans (show 1 ≤ 1 from by decide) (Nat.le_add_right 1 n))) T.b_Plan_new_stand .nil (passes_call (takes_of rfl rfl rfl rfl) (fun _ _ _ _ h => h))))
        (pss_cons (ps_expr (pe_meth (L2.pv 0) T.cl_Plan T.me_Plan_fill G_Plan_fill hr T.b_Plan_fill .nil (passes_call (takes_of rfl rfl rfl rfl) (fun _ _ _ _ h => h)) (pa_cons (pe_ix ix_tup (L2.pv 1) pe_int (fun _ _ => rfl)) (pa_cons (L2.pv 2) (pa_cons (L2.pv 5) pa_nil)))))
        (pss_one (ps_expr (pe_meth (L2.pv 0) T.cl_Plan T.me_Plan_fill G_Plan_fill hr T.b_Plan_fill .nil (passes_call (takes_of rfl rfl rfl rfl) (fun _ _ _ _ h => h)) (pa_cons (pe_ix ix_tup (L2.pv 1) pe_int (fun _ _ => rfl)) (pa_cons (L2.pv 5) (pa_cons (L2.pv 3) pa_nil))))))))
        (pss_one (ps_if (pt_cmpR op_eq (L2.pv 4) pe_str (nomark _))
          (pss_cons (ps_expr (pe_meth (L2.pv 0) T.cl_Plan T.me_Plan_fill G_Plan_fill hr T.b_Plan_fill .nil (passes_call (takes_of rfl rfl rfl rfl) (fun _ _ _ _ h => h)) (pa_cons (pe_ix ix_tup (L2.pv 1) pe_int (fun _ _ => rfl)) (pa_cons (L2.pv 2) (pa_cons (L2.pv 3) pa_nil)))))
          (pss_one (ps_expr (pe_meth (L2.pv 0) T.cl_Plan T.me_Plan_fill G_Plan_fill hr T.b_Plan_fill .nil (passes_call (takes_of rfl rfl rfl rfl) (fun _ _ _ _ h => h)) (pa_cons (pe_ix ix_tup (L2.pv 1) pe_int (fun _ _ => rfl)) (pa_cons (L2.pv 2) (pa_cons (L2.pv 3) pa_nil)))))))
          (pss_one (ps_if (pt_cmpR op_eq (L2.pv 4) pe_str (nomark _))
            (pss_cons (ps_set (i := 5) sc_Plan_fill.nd rfl (.inl rfl) (pe_meth0 (L2.pv 0) T.cl_Plan T.me_Plan_new_stand G_Plan_new_stand (hr.mono (Nat.le_trans (show 1 ≤ 1 from by decide) (Nat.le_add_right 1 n))) T.b_Plan_new_stand .nil (passes_call (takes_of rfl rfl rfl rfl) (fun _ _ _ _ h => h))))
            (pss_cons (ps_expr (pe_meth (L2.pv 0) T.cl_Plan T.me_Plan_put G_Plan_put (hr.mono (Nat.le_trans (show 1 ≤ 1 from by decide) (Nat.le_add_right 1 n))) T.b_Plan_put .nil (passes_call (takes_of rfl rfl rfl rfl) (fun _ _ _ _ h => h)) (pa_cons (L2.pv 2) (pa_cons (pe_tup (pa_cons pe_str pa_nil)) (pa_cons (L2.pv 5) pa_nil)))))
            (pss_cons (ps_expr (pe_meth (L2.pv 0) T.cl_Plan T.me_Plan_fill G_Plan_fill hr T.b_Plan_fill .nil (passes_call (takes_of rfl rfl rfl rfl) (fun _ _ _ _ h => h)) (pa_cons (pe_ix ix_tup (L2.pv 1) pe_int (fun _ _ => rfl)) (pa_cons (L2.pv 5) (pa_cons (L2.pv 5) pa_nil)))))
            (pss_one (ps_expr (pe_meth (L2.pv 0) T.cl_Plan T.me_Plan_put G_Plan_put (hr.mono (Nat.le_trans (show 1 ≤ 1 from by decide) (Nat.le_add_right 1 n))) T.b_Plan_put .nil (passes_call (takes_of rfl rfl rfl rfl) (fun _ _ _ _ h => h)) (pa_cons (L2.pv 5) (pa_cons (pe_tup (pa_cons pe_str pa_nil)) (pa_cons (L2.pv 3) pa_nil)))))))))
            (pss_one (ps_expr (pe_meth (L2.pv 0) T.cl_Plan T.me_Plan_put G_Plan_put (hr.mono (Nat.le_trans (show 1 ≤ 1 from by decide) (Nat.le_add_right 1 n))) T.b_Plan_put .nil (passes_call (takes_of rfl rfl rfl rfl) (fun _ _ _ _ h => h)) (pa_cons (L2.pv 2) (pa_cons (pe_ifExp (pt_cmpR op_eq (L2.pv 4) pe_str (nomark _)) (pe_tup (pa_cons pe_str pa_nil)) (L2.pv 1)) (pa_cons (L2.pv 3) pa_nil))))))))))))),
      (sm_seq (sm_asg (sm_op smr_ixT sm_var (sm_c cv_int)) sg_nm)
      (sm_ifS (sm_test (sm_op smr_eq sm_var (sm_c (cv_str (by decide +kernel))))) (sm_seq (sm_asg (sm_meth cvs_nil sm_var sm_nil) sg_nm)
      (sm_seq (sm_drop (sm_meth cvs_nil sm_var (sm_cons (sm_op smr_ixT sm_var (sm_c cv_int)) (sm_cons sm_var (sm_cons sm_var sm_nil)))))
      (sm_drop (sm_meth cvs_nil sm_var (sm_cons (sm_op smr_ixT sm_var (sm_c cv_int)) (sm_cons sm_var (sm_cons sm_var sm_nil))))))) (sm_ifS (sm_test (sm_op smr_eq sm_var (sm_c (cv_str (by decide +kernel))))) (sm_seq (sm_drop (sm_meth cvs_nil sm_var (sm_cons (sm_op smr_ixT sm_var (sm_c cv_int)) (sm_cons sm_var (sm_cons sm_var sm_nil)))))
      (sm_drop (sm_meth cvs_nil sm_var (sm_cons (sm_op smr_ixT sm_var (sm_c cv_int)) (sm_cons sm_var (sm_cons sm_var sm_nil)))))) (sm_ifS (sm_test (sm_op smr_eq sm_var (sm_c (cv_str (by decide +kernel))))) (sm_seq (sm_asg (sm_meth cvs_nil sm_var sm_nil) sg_nm)
      (sm_seq (sm_drop (sm_meth cvs_nil sm_var (sm_cons sm_var (sm_cons (sm_tup (sm_cons (sm_c (cv_str (by decide +kernel))) sm_nil)) (sm_cons sm_var sm_nil)))))
      (sm_seq (sm_drop (sm_meth cvs_nil sm_var (sm_cons (sm_op smr_ixT sm_var (sm_c cv_int)) (sm_cons sm_var (sm_cons sm_var sm_nil)))))
      (sm_drop (sm_meth cvs_nil sm_var (sm_cons sm_var (sm_cons (sm_tup (sm_cons (sm_c (cv_str (by decide +kernel))) sm_nil)) (sm_cons sm_var sm_nil)))))))) (sm_drop (sm_meth cvs_nil sm_var (sm_cons sm_var (sm_cons (sm_if (sm_test (sm_op smr_eq sm_var (sm_c (cv_str (by decide +kernel))))) (sm_tup (sm_cons (sm_c (cv_str (by decide +kernel))) sm_nil)) sm_var) (sm_cons sm_var sm_nil)))))))))⟩
/-! #### compiled -/
set_option maxHeartbeats 0 in
theorem ok_p_compiled (T : Tx K mg w) : FnP P w K mg base tb 15 T.f_p_compiled T.fd_p_compiled P_p_compiled (F_p_compiled T.ca) := by
  have G_Plan_new_stand : FnP P w K mg base tb 1 T.f_Plan_new_stand T.fd_Plan_new_stand P_Plan_new_stand (F_Plan_new_stand T.ca) := ok_Plan_new_stand T
  have G_Plan_fill : FnP P w K mg base tb 10 T.f_Plan_fill T.fd_Plan_fill P_Plan_fill (F_Plan_fill T.ca 9) := ok_Plan_fill T 9
  have G_p_check_body : FnP P w K mg base tb 14 T.f_p_check_body T.fd_p_check_body P_p_check_body (F_p_check_body T.ca) := ok_p_check_body T
  have G_Plan_init : FnP P w K mg base tb 1 T.f_Plan_init T.fd_Plan_init P_Plan_init (F_Plan_init T.ca) := ok_Plan_init T
  have G_BadName_init : FnOk P w K mg base CX0 2 T.f_BadName_init T.fd_BadName_init P_BadName_init (spErr K (Str.ofString "badname")) := ok_BadName_init T
  have G_p_is_name : FnP P w K mg base tb 2 T.f_p_is_name T.fd_p_is_name P_p_is_name (F_p_is_name T.ca) := ok_p_is_name T
  exact FnP.ofD T.F_p_compiled sc_p_compiled fun cdv A outer s H E hr => ⟨_, (pss_cons (ps_if (PW.pt (pw_or (pt_not (pt_val (pe_call G_p_is_name (hr.mono (by decide)) (by rfl) T.g_p_is_name T.F_p_is_name.kp T.b_p_is_name .nil (passes_call (takes_of rfl rfl rfl rfl) (fun _ _ _ _ h => h)) (pa_cons (L2.pv 0) pa_nil)))) (pw_or (pt_not (pt_val (pe_call G_p_is_name (hr.mono (by decide)) (by rfl) T.g_p_is_name T.F_p_is_name.kp T.b_p_is_name .nil (passes_call (takes_of rfl rfl rfl rfl) (fun _ _ _ _ h => h)) (pa_cons (L2.pv 2) pa_nil)))) (pw_or1 (pt_cmpR op_gt (pe_callB call_len_str (by rfl) T.m_len PySem.boot_len (pa_cons (L2.pv 2) pa_nil)) (pe_glob (by rfl) T.c_MOST_STEM T.r_MOST_STEM) (nomark _))))))
        (pss_one (ps_raise rfl (takes_of rfl rfl rfl rfl) (LB.pmk_oex0 T.ox_BadName T.iC_BadName T.tI_BadName G_BadName_init (hr.mono (by decide)) T.b_BadName_init_1 T.dv_BadName_init_1 pass0 (by rfl) T.gC_BadName)))
        pss_nil)
      (pss_cons (ps_expr (pe_call G_p_check_body (hr.mono (by decide)) (by rfl) T.g_p_check_body T.F_p_check_body.kp T.b_p_check_body .nil (passes_call (takes_of rfl rfl rfl rfl) (fun _ _ _ _ h => h)) (pa_cons (L2.pv 1) pa_nil)))
      (pss_cons (ps_set (i := 3) sc_p_compiled.nd rfl (.inl rfl) (pe_make T.mk_Plan G_Plan_init (hr.mono (by decide)) (by rfl) T.gC_Plan T.b_Plan_init .nil (passes_call (takes_of rfl rfl rfl rfl) (fun _ _ _ _ h => h)) (pa_cons (L2.pv 0) (pa_cons (L2.pv 2) pa_nil))))
      (pss_cons (ps_set (i := 4) sc_p_compiled.nd rfl (.inl rfl) (pe_meth0 (L2.pv 3) T.cl_Plan T.me_Plan_new_stand G_Plan_new_stand (hr.mono (by decide)) T.b_Plan_new_stand .nil (passes_call (takes_of rfl rfl rfl rfl) (fun _ _ _ _ h => h))))
      (pss_cons (ps_set (i := 5) sc_p_compiled.nd rfl (.inl rfl) (pe_meth0 (L2.pv 3) T.cl_Plan T.me_Plan_new_stand G_Plan_new_stand (hr.mono (by decide)) T.b_Plan_new_stand .nil (passes_call (takes_of rfl rfl rfl rfl) (fun _ _ _ _ h => h))))
      (pss_cons (ps_expr (pe_meth (L2.pv 3) T.cl_Plan T.me_Plan_fill G_Plan_fill (hr.mono (by decide)) T.b_Plan_fill .nil (passes_call (takes_of rfl rfl rfl rfl) (fun _ _ _ _ h => h)) (pa_cons (L2.pv 1) (pa_cons (L2.pv 4) (pa_cons (L2.pv 5) pa_nil)))))
      (pss_one (ps_ret (pe_tup (pa_cons (L2.pv 4) (pa_cons (pe_fld (L2.pv 3) rfl) (pa_cons (L2.pv 5) pa_nil)))))))))))),
    (sm_seq (sm_ifS (sm_or (sm_not (sm_tB (sm_call cvs_nil (sm_cons sm_var sm_nil)))) (sm_or (sm_not (sm_tB (sm_call cvs_nil (sm_cons sm_var sm_nil)))) (sm_test (sm_op (smr_I0 fun _ _ => cv_bl) (sm_B sb_lenS (sm_cons sm_var sm_nil)) (sm_c cv_int))))) (sm_raise T.ox_BadName T.no_BadName_word T.no_BadName_at (cvs_cons cv_int cvs_nil) sm_nil) sm_next)
      (sm_seq (sm_drop (sm_call cvs_nil (sm_cons sm_var sm_nil)))
      (sm_seq (sm_asg (sm_make cvs_nil (sm_cons sm_var (sm_cons sm_var sm_nil))) sg_nm)
      (sm_seq (sm_asg (sm_meth cvs_nil sm_var sm_nil) sg_nm)
      (sm_seq (sm_asg (sm_meth cvs_nil sm_var sm_nil) sg_nm)
      (sm_seq (sm_drop (sm_meth cvs_nil sm_var (sm_cons sm_var (sm_cons sm_var (sm_cons sm_var sm_nil)))))
      (sm_ret (sm_tup (sm_cons sm_var (sm_cons (sm_fld T.cl_Plan T.no_Plan_made sm_var) (sm_cons sm_var sm_nil)))))))))))⟩
/-! #### law: pull -/
set_option maxHeartbeats 0 in
theorem ok_pull (T : Tx K mg w) : FnP P w K mg base tb 1 T.f_pull T.fd_pull P_pull (F_pull T.ca) := by
  exact FnP.of T.F_pull sc_pull fun cdv A outer s H E hr => ⟨_, (pss_cons (ps_augS (L2.pv 0) pe_int LB.get_list pe_int ip_add set_list)
      (pss_cons (ps_if (pt_cmpR op_gt (pe_ix ix_list (L2.pv 0) pe_int (fun _ _ => rfl)) pe_int (nomark _))
        (pss_cons (ps_set (i := 2) sc_pull.nd rfl (.inl rfl) (pe_ix ix_list (L2.pv 0) pe_int (fun _ _ => rfl)))
        (pss_cons (ps_asg (pe_op op_fdiv (L2.pv 2) (L2.pv 1)) (pg_sub (L2.pv 0) pe_int set_list))
        (pss_one (ps_ret (pe_op op_mod (L2.pv 2) (L2.pv 1))))))
        pss_nil)
      (pss_cons (ps_set (i := 3) sc_pull.nd rfl (.inl rfl) (pe_ix ix_list (L2.pv 0) pe_int (fun _ _ => rfl)))
      (pss_cons (ps_if (pt_cmpR op_lt (pe_ix ix_list (L2.pv 0) pe_int (fun _ _ => rfl)) (pe_callB call_len_seq (by rfl) T.m_len PySem.boot_len (pa_cons (pe_ix ix_list (L2.pv 0) pe_int (fun _ _ => rfl)) pa_nil)) (nomark _))
        (pss_cons (ps_set (i := 3) sc_pull.nd rfl (.inl rfl) (pe_ix ix_list (pe_ix ix_list (L2.pv 0) pe_int (fun _ _ => rfl)) (pe_ix ix_list (L2.pv 0) pe_int (fun _ _ => rfl)) (fun _ _ => rfl)))
        (pss_one (ps_augS (L2.pv 0) pe_int LB.get_list pe_int ip_add set_list)))
        pss_nil)
      (pss_cons (ps_if (pt_cmpR op_ge (L2.pv 3) (pe_op op_pow pe_int pe_int) (nomark _))
        (pss_cons (ps_asg (pe_op op_fdiv (L2.pv 3) (L2.pv 1)) (pg_sub (L2.pv 0) pe_int set_list))
        (pss_one (ps_ret (pe_op op_mod (L2.pv 3) (L2.pv 1)))))
        pss_nil)
      (pss_cons (ps_set (i := 4) sc_pull.nd rfl (.inl rfl) (pe_op op_mod (pe_op op_add (pe_op op_add (pe_op op_add (pe_op op_mul (L2.pv 3) pe_int) (pe_op op_mul (pe_ix ix_list (L2.pv 0) pe_int (fun _ _ => rfl)) pe_int)) (pe_op op_mul (pe_ix ix_list (L2.pv 0) pe_int (fun _ _ => rfl)) pe_int)) pe_int) pe_int))
      (pss_cons (ps_set (i := 5) sc_pull.nd rfl (.inl rfl) (pe_op op_mod (pe_op op_add (pe_op op_add (pe_op op_mul (L2.pv 4) (pe_op op_add (pe_op op_mod (L2.pv 4) pe_int) pe_int)) (pe_op op_mul (pe_ix ix_list (L2.pv 0) pe_int (fun _ _ => rfl)) pe_int)) (pe_op op_mod (pe_ix ix_list (L2.pv 0) pe_int (fun _ _ => rfl)) pe_int)) pe_int))
      (pss_cons (ps_asg (pe_op op_mod (pe_op op_add (pe_op op_mul (pe_ix ix_list (L2.pv 0) pe_int (fun _ _ => rfl)) pe_int) (L2.pv 5)) pe_int) (pg_sub (L2.pv 0) pe_int set_list))
      (pss_one (ps_ret (pe_op op_mod (pe_op op_fdiv (L2.pv 5) pe_int) (L2.pv 1)))))))))))),
    (sm_seq (sm_augL sm_var (sm_c cv_int) (sm_c cv_int) smr_ip)
      (sm_seq (sm_ifS (sm_test (sm_op (smr_I0 fun _ _ => cv_bl) (sm_op smr_ixL sm_var (sm_c cv_int)) (sm_c cv_int))) (sm_seq (sm_asg (sm_op smr_ixL sm_var (sm_c cv_int)) sg_nm)
      (sm_seq (sm_asgL (sm_op (smr_I fun _ _ => cv_int) sm_var sm_var) sm_var (sm_c cv_int))
      (sm_ret (sm_op (smr_I fun _ _ => cv_int) sm_var sm_var)))) sm_next)
      (sm_seq (sm_asg (sm_op smr_ixL sm_var (sm_c cv_int)) sg_nm)
      (sm_seq (sm_ifS (sm_test (sm_op (smr_I0 fun _ _ => cv_bl) (sm_op smr_ixL sm_var (sm_c cv_int)) (sm_B sb_len (sm_cons (sm_op smr_ixL sm_var (sm_c cv_int)) sm_nil)))) (sm_seq (sm_asg (sm_op smr_ixL (sm_op smr_ixL sm_var (sm_c cv_int)) (sm_op smr_ixL sm_var (sm_c cv_int))) sg_nm)
      (sm_augL sm_var (sm_c cv_int) (sm_c cv_int) smr_ip)) sm_next)
      (sm_seq (sm_ifS (sm_test (sm_op (smr_I0 fun _ _ => cv_bl) sm_var (sm_op (smr_I fun _ _ => cv_int) (sm_c cv_int) (sm_c cv_int)))) (sm_seq (sm_asgL (sm_op (smr_I fun _ _ => cv_int) sm_var sm_var) sm_var (sm_c cv_int))
      (sm_ret (sm_op (smr_I fun _ _ => cv_int) sm_var sm_var))) sm_next)
      (sm_seq (sm_asg (sm_op (smr_I fun _ _ => cv_int) (sm_op (smr_I0 fun _ _ => cv_int) (sm_op (smr_I0 fun _ _ => cv_int) (sm_op (smr_I0 fun _ _ => cv_int) (sm_op (smr_I fun _ _ => cv_int) sm_var (sm_c cv_int)) (sm_op (smr_I fun _ _ => cv_int) (sm_op smr_ixL sm_var (sm_c cv_int)) (sm_c cv_int))) (sm_op (smr_I fun _ _ => cv_int) (sm_op smr_ixL sm_var (sm_c cv_int)) (sm_c cv_int))) (sm_c cv_int)) (sm_c cv_int)) sg_nm)
      (sm_seq (sm_asg (sm_op (smr_I fun _ _ => cv_int) (sm_op (smr_I0 fun _ _ => cv_int) (sm_op (smr_I0 fun _ _ => cv_int) (sm_op (smr_I fun _ _ => cv_int) sm_var (sm_op (smr_I0 fun _ _ => cv_int) (sm_op (smr_I fun _ _ => cv_int) sm_var (sm_c cv_int)) (sm_c cv_int))) (sm_op (smr_I fun _ _ => cv_int) (sm_op smr_ixL sm_var (sm_c cv_int)) (sm_c cv_int))) (sm_op (smr_I fun _ _ => cv_int) (sm_op smr_ixL sm_var (sm_c cv_int)) (sm_c cv_int))) (sm_c cv_int)) sg_nm)
      (sm_seq (sm_asgL (sm_op (smr_I fun _ _ => cv_int) (sm_op (smr_I0 fun _ _ => cv_int) (sm_op (smr_I fun _ _ => cv_int) (sm_op smr_ixL sm_var (sm_c cv_int)) (sm_c cv_int)) sm_var) (sm_c cv_int)) sm_var (sm_c cv_int))
      (sm_ret (sm_op (smr_I fun _ _ => cv_int) (sm_op (smr_I fun _ _ => cv_int) sm_var (sm_c cv_int)) sm_var))))))))))⟩
/-! #### law: of -/
set_option maxHeartbeats 0 in
theorem ok_of (T : Tx K mg w) : FnP P w K mg base tb 2 T.f_of T.fd_of P_of (F_of T.ca) := by
  have G_pull : FnP P w K mg base tb 1 T.f_pull T.fd_pull P_pull (F_pull T.ca) := ok_pull T
  exact FnP.of T.F_of sc_of fun cdv A outer s H E hr => ⟨_, (pss_one (ps_ret (pe_ix ix_seq (L2.pv 1) (pe_call G_pull (hr.mono (by decide)) (by rfl) T.g_pull T.F_pull.kp T.b_pull .nil (passes_call (takes_of rfl rfl rfl rfl) (fun _ _ _ _ h => h)) (pa_cons (L2.pv 0) (pa_cons (pe_callB (CallR.or call_len_seq call_len_str) (by rfl) T.m_len PySem.boot_len (pa_cons (L2.pv 1) pa_nil)) pa_nil))) (fun _ _ => rfl)))),
    (sm_ret (sm_op smr_ixQ sm_var (sm_call cvs_nil (sm_cons sm_var (sm_cons (sm_B sb_lenQ (sm_cons sm_var sm_nil)) sm_nil)))))⟩
/-! #### law: letters -/
set_option maxHeartbeats 0 in
theorem ok_letters (T : Tx K mg w) : FnP P w K mg base tb 3 T.f_letters T.fd_letters P_letters (F_letters T.ca) := by
  have G_pull : FnP P w K mg base tb 1 T.f_pull T.fd_pull P_pull (F_pull T.ca) := ok_pull T
  have G_of : FnP P w K mg base tb 2 T.f_of T.fd_of P_of (F_of T.ca) := ok_of T
  exact FnP.of T.F_letters sc_letters fun cdv A outer s H E hr => ⟨_, (pss_cons (ps_set (i := 1) sc_letters.nd rfl (.inr rfl) pe_str)
      (pss_cons (ps_set (i := 2) sc_letters.nd rfl (.inr rfl) (pe_call G_pull (hr.mono (by decide)) (by rfl) T.g_pull T.F_pull.kp T.b_pull .nil (passes_call (takes_of rfl rfl rfl rfl) (fun _ _ _ _ h => h)) (pa_cons (L2.pv 0) (pa_cons pe_int pa_nil))))
      (pss_cons (ps_set (i := 3) sc_letters.nd rfl (.inr rfl) (pe_call G_of (hr.mono (by decide)) (by rfl) T.g_of T.F_of.kp T.b_of .nil (passes_call (takes_of rfl rfl rfl rfl) (fun _ _ _ _ h => h)) (pa_cons (L2.pv 0) (pa_cons (pe_lst (pa_cons pe_int (pa_cons pe_int (pa_cons pe_int (pa_cons pe_int (pa_cons pe_int (pa_cons pe_int pa_nil))))))) pa_nil))))
      (pss_one (ps_ret (pe_lc (own := [("_law_k", 4)]) (g := (gName 4)) (tt := tYes) (by rfl) sc_letters.nd (pi_range1 (by rfl) T.m_range (pa_cons pe_int pa_nil)) (blkOk_by (own := [("_law_k", 4)]) (N := N_letters) (sc := defScope s_letters) (by decide +kernel)) (fun _ _ _ _ _ => (pg_name (i := 4) sc_letters.nd rfl (.inl rfl))) (fun _ _ _ _ _ => pts_nil) (fun _ _ _ _ _ => (pe_ix ix_str (L2.pv 1) (pe_op op_mod (pe_op op_add (L2.pv 2) (pe_op op_mul (L2.pv 3) (L2.pv 4))) pe_int) (fun _ _ => rfl))))))))),
    (sm_seq (sm_asg (sm_c (cv_str (by decide +kernel))) sg_nm)
      (sm_seq (sm_asg (sm_call cvs_nil (sm_cons sm_var (sm_cons (sm_c cv_int) sm_nil))) sg_nm)
      (sm_seq (sm_asg (sm_call cvs_nil (sm_cons sm_var (sm_cons (sm_lst (sm_cons (sm_c cv_int) (sm_cons (sm_c cv_int) (sm_cons (sm_c cv_int) (sm_cons (sm_c cv_int) (sm_cons (sm_c cv_int) (sm_cons (sm_c cv_int) sm_nil))))))) sm_nil))) sg_nm)
      (sm_ret (sm_lc (sm_iR1 (sm_cons (sm_c cv_int) sm_nil)) sg_nm sm_yes (sm_op smr_ixS sm_var (sm_op (smr_I fun _ _ => cv_int) (sm_op (smr_I0 fun _ _ => cv_int) sm_var (sm_op (smr_I fun _ _ => cv_int) sm_var sm_var)) (sm_c cv_int))) (by decide))))))⟩
/-! #### law: names -/
set_option maxHeartbeats 0 in
theorem ok_names (T : Tx K mg w) : FnP P w K mg base tb 3 T.f_names T.fd_names P_names (F_names T.ca) := by
  have G_pull : FnP P w K mg base tb 1 T.f_pull T.fd_pull P_pull (F_pull T.ca) := ok_pull T
  have G_of : FnP P w K mg base tb 2 T.f_of T.fd_of P_of (F_of T.ca) := ok_of T
  exact FnP.of T.F_names sc_names fun cdv A outer s H E hr => ⟨_, (pss_cons (ps_set (i := 2) sc_names.nd rfl (.inr rfl) pe_str)
      (pss_cons (ps_set (i := 3) sc_names.nd rfl (.inr rfl) (pe_join pe_str (pe_lc (own := [("_law_k", 7)]) (g := (gName 7)) (tt := tYes) (by rfl) sc_names.nd (pi_range1 (by rfl) T.m_range (pa_cons (pe_call G_pull (hr.mono (by decide)) (by rfl) T.g_pull T.F_pull.kp T.b_pull .nil (passes_call (takes_of rfl rfl rfl rfl) (fun _ _ _ _ h => h)) (pa_cons (L2.pv 0) (pa_cons pe_int pa_nil))) pa_nil)) (blkOk_by (own := [("_law_k", 7)]) (N := N_names) (sc := defScope s_names) (by decide +kernel)) (fun _ _ _ _ _ => (pg_name (i := 7) sc_names.nd rfl (.inl rfl))) (fun _ _ _ _ _ => pts_nil) (fun _ _ _ _ _ => (pe_call G_of (hr.mono (by decide)) (by rfl) T.g_of T.F_of.kp T.b_of .nil passL (pa_cons (L2.pv 0) (pa_cons (L2.pv 2) pa_nil)))))))
      (pss_cons (ps_set (i := 4) sc_names.nd rfl (.inr rfl) (pe_call G_pull (hr.mono (by decide)) (by rfl) T.g_pull T.F_pull.kp T.b_pull .nil (passes_call (takes_of rfl rfl rfl rfl) (fun _ _ _ _ h => h)) (pa_cons (L2.pv 0) (pa_cons (pe_op op_add (pe_callB call_len_str (by rfl) T.m_len PySem.boot_len (pa_cons (L2.pv 3) pa_nil)) pe_int) pa_nil))))
      (pss_cons (ps_set (i := 5) sc_names.nd rfl (.inr rfl) (pe_call G_pull (hr.mono (by decide)) (by rfl) T.g_pull T.F_pull.kp T.b_pull .nil (passes_call (takes_of rfl rfl rfl rfl) (fun _ _ _ _ h => h)) (pa_cons (L2.pv 0) (pa_cons pe_int pa_nil))))
      (pss_cons (ps_set (i := 6) sc_names.nd rfl (.inr rfl) (pe_call G_of (hr.mono (by decide)) (by rfl) T.g_of T.F_of.kp T.b_of .nil (passes_call (takes_of rfl rfl rfl rfl) (fun _ _ _ _ h => h)) (pa_cons (L2.pv 0) (pa_cons (pe_lst (pa_cons pe_int (pa_cons pe_int (pa_cons pe_int (pa_cons pe_int (pa_cons pe_int (pa_cons pe_int pa_nil))))))) pa_nil))))
      (pss_one (ps_ret (pe_lc (own := [("_law_k", 7)]) (g := (gName 7)) (tt := tYes) (by rfl) sc_names.nd (pi_range1 (by rfl) T.m_range (pa_cons (L2.pv 1) pa_nil)) (blkOk_by (own := [("_law_k", 7)]) (N := N_names) (sc := defScope s_names) (by decide +kernel)) (fun _ _ _ _ _ => (pg_name (i := 7) sc_names.nd rfl (.inl rfl))) (fun _ _ _ _ _ => pts_nil) (fun _ _ _ _ _ => (pe_op op_add_str (pe_op op_add_str (pe_slice sl_str (L2.pv 3) po_none (po_some (L2.pv 4))) (pe_ix ix_str (L2.pv 2) (pe_op op_mod (pe_op op_add (L2.pv 5) (pe_op op_mul (L2.pv 6) (L2.pv 7))) pe_int) (fun _ _ => rfl))) (pe_slice sl_str (L2.pv 3) (po_some (L2.pv 4)) po_none))))))))))),
    (sm_seq (sm_asg (sm_c (cv_str (by decide +kernel))) sg_nm)
      (sm_seq (sm_asg (sm_gc (sm_M1 mm_join (sm_c (cv_str (by decide +kernel))) (sm_lc (sm_iR1 (sm_cons (sm_call cvs_nil (sm_cons sm_var (sm_cons (sm_c cv_int) sm_nil))) sm_nil)) sg_nm sm_yes (sm_callN cvs_nil (sm_cons sm_var (sm_cons sm_var sm_nil))) (by decide)))) sg_nm)
      (sm_seq (sm_asg (sm_call cvs_nil (sm_cons sm_var (sm_cons (sm_op (smr_I0 fun _ _ => cv_int) (sm_B sb_lenS (sm_cons sm_var sm_nil)) (sm_c cv_int)) sm_nil))) sg_nm)
      (sm_seq (sm_asg (sm_call cvs_nil (sm_cons sm_var (sm_cons (sm_c cv_int) sm_nil))) sg_nm)
      (sm_seq (sm_asg (sm_call cvs_nil (sm_cons sm_var (sm_cons (sm_lst (sm_cons (sm_c cv_int) (sm_cons (sm_c cv_int) (sm_cons (sm_c cv_int) (sm_cons (sm_c cv_int) (sm_cons (sm_c cv_int) (sm_cons (sm_c cv_int) sm_nil))))))) sm_nil))) sg_nm)
      (sm_ret (sm_lc (sm_iR1 (sm_cons sm_var sm_nil)) sg_nm sm_yes (sm_op smr_addS (sm_op smr_addS (sm_sl sms_S sm_var sm_noPart (sm_part sm_var)) (sm_op smr_ixS sm_var (sm_op (smr_I fun _ _ => cv_int) (sm_op (smr_I0 fun _ _ => cv_int) sm_var (sm_op (smr_I fun _ _ => cv_int) sm_var sm_var)) (sm_c cv_int)))) (sm_sl sms_S sm_var (sm_part sm_var) sm_noPart)) (by decide))))))))⟩
/-! #### law: leaf -/
set_option maxHeartbeats 0 in
theorem ok_leaf (T : Tx K mg w) : FnP P w K mg base tb 3 T.f_leaf T.fd_leaf P_leaf (F_leaf T.ca) := by
  have G_of : FnP P w K mg base tb 2 T.f_of T.fd_of P_of (F_of T.ca) := ok_of T
  exact FnP.of T.F_leaf sc_leaf fun cdv A outer s H E hr => ⟨_, (pss_cons (ps_set (i := 3) sc_leaf.nd rfl (.inl rfl) (pe_call G_of (hr.mono (by decide)) (by rfl) T.g_of T.F_of.kp T.b_of .nil (passes_call (takes_of rfl rfl rfl rfl) (fun _ _ _ _ h => h)) (pa_cons (L2.pv 0) (pa_cons (pe_lst (pa_cons pe_str (pa_cons pe_str (pa_cons pe_str (pa_cons pe_str (pa_cons pe_str (pa_cons pe_str pa_nil))))))) pa_nil))))
      (pss_cons (ps_if (pt_cmpR op_eq (L2.pv 3) pe_str (nomark _))
        (pss_one (ps_ret (pe_tup (pa_cons pe_str pa_nil))))
        pss_nil)
      (pss_cons (ps_set (i := 4) sc_leaf.nd rfl (.inl rfl) (pe_call G_of (hr.mono (by decide)) (by rfl) T.g_of T.F_of.kp T.b_of .nil (passes_call (takes_of rfl rfl rfl rfl) (fun _ _ _ _ h => h)) (pa_cons (L2.pv 0) (pa_cons (L2.pv 1) pa_nil))))
      (pss_one (ps_ret (pe_ifExp (pt_cmpR op_eq (L2.pv 3) pe_str (nomark _)) (pe_tup (pa_cons pe_str (pa_cons (L2.pv 4) pa_nil))) (pe_tup (pa_cons (L2.pv 3) (pa_cons (L2.pv 4) (pa_cons (pe_call G_of (hr.mono (by decide)) (by rfl) T.g_of T.F_of.kp T.b_of .nil (passes_call (takes_of rfl rfl rfl rfl) (fun _ _ _ _ h => h)) (pa_cons (L2.pv 0) (pa_cons (L2.pv 2) pa_nil))) pa_nil)))))))))),
    (sm_seq (sm_asg (sm_call cvs_nil (sm_cons sm_var (sm_cons (sm_lst (sm_cons (sm_c (cv_str (by decide +kernel))) (sm_cons (sm_c (cv_str (by decide +kernel))) (sm_cons (sm_c (cv_str (by decide +kernel))) (sm_cons (sm_c (cv_str (by decide +kernel))) (sm_cons (sm_c (cv_str (by decide +kernel))) (sm_cons (sm_c (cv_str (by decide +kernel))) sm_nil))))))) sm_nil))) sg_nm)
      (sm_seq (sm_ifS (sm_test (sm_op smr_eq sm_var (sm_c (cv_str (by decide +kernel))))) (sm_ret (sm_tup (sm_cons (sm_c (cv_str (by decide +kernel))) sm_nil))) sm_next)
      (sm_seq (sm_asg (sm_call cvs_nil (sm_cons sm_var (sm_cons sm_var sm_nil))) sg_nm)
      (sm_ret (sm_if (sm_test (sm_op smr_eq sm_var (sm_c (cv_str (by decide +kernel))))) (sm_tup (sm_cons (sm_c (cv_str (by decide +kernel))) (sm_cons sm_var sm_nil))) (sm_tup (sm_cons sm_var (sm_cons sm_var (sm_cons (sm_call cvs_nil (sm_cons sm_var (sm_cons sm_var sm_nil))) sm_nil)))))))))⟩
/-! #### law: body -/
set_option maxHeartbeats 0 in
theorem ok_body (T : Tx K mg w) : ∀ n : Nat, FnP P w K mg base tb (3 + n) T.f_body T.fd_body P_body (F_body T.ca n)
  | 0 => FnP.bad
  | n + 1 => by
    have G_body : FnP P w K mg base tb (3 + n) T.f_body T.fd_body P_body (F_body T.ca n) := ok_body T n
    have G_pull : FnP P w K mg base tb 1 T.f_pull T.fd_pull P_pull (F_pull T.ca) := ok_pull T
    have G_leaf : FnP P w K mg base tb 3 T.f_leaf T.fd_leaf P_leaf (F_leaf T.ca) := ok_leaf T
    exact FnP.of T.F_body sc_body fun cdv A outer s H E hr => ⟨_, (pss_cons (ps_set (i := 4) sc_body.nd rfl (.inl rfl) (pe_call G_pull (hr.mono (Nat.le_trans (show 1 ≤ 3 from by decide) (Nat.le_add_right 3 n))) (by rfl) T.g_pull T.F_pull.kp T.b_pull .nil (passes_call (takes_of rfl rfl rfl rfl) (fun _ _ _ _ h => h)) (pa_cons (L2.pv 0) (pa_cons pe_int pa_nil))))
      (pss_cons (ps_if (PW.pt (pw_or (pt_cmpR op_lt (L2.pv 3) pe_int (nomark _)) (pw_or1 (pt_cmpR op_eq (L2.pv 4) pe_int (nomark _)))))
        (pss_one (ps_ret (pe_call G_leaf (hr.mono (Nat.le_trans (show 3 ≤ 3 from by decide) (Nat.le_add_right 3 n))) (by rfl) T.g_leaf T.F_leaf.kp T.b_leaf .nil (passes_call (takes_of rfl rfl rfl rfl) (fun _ _ _ _ h => h)) (pa_cons (L2.pv 0) (pa_cons (L2.pv 1) (pa_cons (L2.pv 2) pa_nil))))))
        pss_nil)
      (pss_cons (ps_if (pt_cmpR op_eq (L2.pv 4) pe_int (nomark _))
        (pss_one (ps_ret (pe_tup (pa_cons pe_str (pa_cons (pe_call G_body hr (by rfl) T.g_body T.F_body.kp T.b_body .nil (passes_call (takes_of rfl rfl rfl rfl) (fun _ _ _ _ h => h)) (pa_cons (L2.pv 0) (pa_cons (L2.pv 1) (pa_cons (L2.pv 2) (pa_cons (pe_op op_sub (L2.pv 3) pe_int) pa_nil))))) pa_nil)))))
        pss_nil)
      (pss_cons (ps_set (i := 5) sc_body.nd rfl (.inl rfl) (pe_ix ix_list (pe_lst (pa_cons pe_str (pa_cons pe_str pa_nil))) (pe_op op_mod (L2.pv 4) pe_int) (fun _ _ => rfl)))
      (pss_cons (ps_set (i := 6) sc_body.nd rfl (.inl rfl) (pe_call G_body hr (by rfl) T.g_body T.F_body.kp T.b_body .nil (passes_call (takes_of rfl rfl rfl rfl) (fun _ _ _ _ h => h)) (pa_cons (L2.pv 0) (pa_cons (L2.pv 1) (pa_cons (L2.pv 2) (pa_cons (pe_op op_sub (L2.pv 3) pe_int) pa_nil))))))
      (pss_one (ps_ret (pe_tup (pa_cons (L2.pv 5) (pa_cons (L2.pv 6) (pa_cons (pe_call G_body hr (by rfl) T.g_body T.F_body.kp T.b_body .nil (passes_call (takes_of rfl rfl rfl rfl) (fun _ _ _ _ h => h)) (pa_cons (L2.pv 0) (pa_cons (L2.pv 1) (pa_cons (L2.pv 2) (pa_cons (pe_op op_sub (pe_op op_sub (L2.pv 3) pe_int) (pe_call G_pull (hr.mono (Nat.le_trans (show 1 ≤ 3 from by decide) (Nat.le_add_right 3 n))) (by rfl) T.g_pull T.F_pull.kp T.b_pull .nil (passes_call (takes_of rfl rfl rfl rfl) (fun _ _ _ _ h => h)) (pa_cons (L2.pv 0) (pa_cons pe_int pa_nil)))) pa_nil))))) pa_nil))))))))))),
      (sm_seq (sm_asg (sm_call cvs_nil (sm_cons sm_var (sm_cons (sm_c cv_int) sm_nil))) sg_nm)
      (sm_seq (sm_ifS (sm_or (sm_test (sm_op (smr_I0 fun _ _ => cv_bl) sm_var (sm_c cv_int))) (sm_test (sm_op smr_eq sm_var (sm_c cv_int)))) (sm_ret (sm_call cvs_nil (sm_cons sm_var (sm_cons sm_var (sm_cons sm_var sm_nil))))) sm_next)
      (sm_seq (sm_ifS (sm_test (sm_op smr_eq sm_var (sm_c cv_int))) (sm_ret (sm_tup (sm_cons (sm_c (cv_str (by decide +kernel))) (sm_cons (sm_call cvs_nil (sm_cons sm_var (sm_cons sm_var (sm_cons sm_var (sm_cons (sm_op (smr_I0 fun _ _ => cv_int) sm_var (sm_c cv_int)) sm_nil))))) sm_nil)))) sm_next)
      (sm_seq (sm_asg (sm_op smr_ixL (sm_lst (sm_cons (sm_c (cv_str (by decide +kernel))) (sm_cons (sm_c (cv_str (by decide +kernel))) sm_nil))) (sm_op (smr_I fun _ _ => cv_int) sm_var (sm_c cv_int))) sg_nm)
      (sm_seq (sm_asg (sm_call cvs_nil (sm_cons sm_var (sm_cons sm_var (sm_cons sm_var (sm_cons (sm_op (smr_I0 fun _ _ => cv_int) sm_var (sm_c cv_int)) sm_nil))))) sg_nm)
      (sm_ret (sm_tup (sm_cons sm_var (sm_cons sm_var (sm_cons (sm_call cvs_nil (sm_cons sm_var (sm_cons sm_var (sm_cons sm_var (sm_cons (sm_op (smr_I0 fun _ _ => cv_int) (sm_op (smr_I0 fun _ _ => cv_int) sm_var (sm_c cv_int)) (sm_call cvs_nil (sm_cons sm_var (sm_cons (sm_c cv_int) sm_nil)))) sm_nil))))) sm_nil))))))))))⟩
/-! #### law: forms -/
set_option maxHeartbeats 0 in
theorem ok_forms (T : Tx K mg w) : FnP P w K mg base tb 1 T.f_forms T.fd_forms P_forms (F_forms T.ca) := by
  exact FnP.of T.F_forms sc_forms fun cdv A outer s H E hr => ⟨_, (pss_one (ps_ret (pe_disp (pps_cons pe_str pe_str (pps_cons pe_str pe_str (pps_cons pe_str pe_str (pps_cons pe_str pe_str (pps_cons pe_str pe_str (pps_cons pe_str pe_str (pps_cons pe_str pe_str pps_nil))))))) (by rfl) (by rfl) (fun z => by cases z) (by decide)))),
    (sm_ret (sm_disp (SmPs.cons (sm_c (cv_str (by decide +kernel))) (sm_c (cv_str (by decide +kernel))) (SmPs.cons (sm_c (cv_str (by decide +kernel))) (sm_c (cv_str (by decide +kernel))) (SmPs.cons (sm_c (cv_str (by decide +kernel))) (sm_c (cv_str (by decide +kernel))) (SmPs.cons (sm_c (cv_str (by decide +kernel))) (sm_c (cv_str (by decide +kernel))) (SmPs.cons (sm_c (cv_str (by decide +kernel))) (sm_c (cv_str (by decide +kernel))) (SmPs.cons (sm_c (cv_str (by decide +kernel))) (sm_c (cv_str (by decide +kernel))) (SmPs.cons (sm_c (cv_str (by decide +kernel))) (sm_c (cv_str (by decide +kernel))) SmPs.nil)))))))))⟩
/-! #### law: plain_text -/
set_option maxHeartbeats 0 in
theorem ok_plain_text (T : Tx K mg w) : FnP P w K mg base tb 1 T.f_plain_text T.fd_plain_text P_plain_text (F_plain_text T.ca) := by
  exact FnP.of T.F_plain_text sc_plain_text fun cdv A outer s H E hr => ⟨_, (pss_cons (ps_set (i := 3) sc_plain_text.nd rfl (.inr rfl) pe_str)
      (pss_cons (ps_set (i := 4) sc_plain_text.nd rfl (.inl rfl) (pe_and (pe_callB call_isi (by rfl) T.m_isinstance (by decide +kernel) (pa_cons (L2.pv 0) (pa_cons (pe_bltn (v := .ty "str") (by rfl) T.m_str (by decide +kernel) rfl) pa_nil))) (pe_one (pe_chain op_le op_le (L2.pv 1) (pe_callB call_len_str (by rfl) T.m_len PySem.boot_len (pa_cons (L2.pv 0) pa_nil)) (L2.pv 2)))))
      (pss_one (ps_ret (pe_and (L2.pv 4) (pe_one (pe_callB (cr_all rfl) (by rfl) T.m_all (by decide +kernel) (pa_cons (pe_lc (own := [("_law_sign", 5)]) (g := (gName 5)) (tt := tYes) (by rfl) sc_plain_text.nd (pi_str (L2.pv 0)) (blkOk_by (own := [("_law_sign", 5)]) (N := N_plain_text) (sc := defScope s_plain_text) (by decide +kernel)) (fun _ _ _ _ _ => (pg_name (i := 5) sc_plain_text.nd rfl (.inl rfl))) (fun _ _ _ _ _ => pts_nil) (fun _ _ _ _ _ => (pe_cmpR op_in_sign (L2.pv 5) (L2.pv 3) rfl))) pa_nil)))))))),
    (sm_seq (sm_asg (sm_c (cv_str (by decide +kernel))) sg_nm)
      (sm_seq (sm_asg (sm_andV (sm_B sb_isi (sm_cons sm_var (sm_cons (sm_c cv_ty) sm_nil))) (sm_chain (smr_I0 fun _ _ => cv_bl) (smr_I0 fun _ _ => cv_bl) sm_var (sm_B sb_lenS (sm_cons sm_var sm_nil)) sm_var)) sg_nm)
      (sm_ret (sm_andV sm_var (sm_gc (sm_B sb_all (sm_cons (sm_lc (sm_iS sm_var) sg_nm sm_yes (sm_op smr_inS sm_var sm_var) (by decide)) sm_nil)))))))⟩
/-! #### law: inner -/
set_option maxHeartbeats 0 in
theorem ok_inner (T : Tx K mg w) : FnP P w K mg base tb 1 T.f_inner T.fd_inner P_inner (F_inner T.ca) := by
  exact FnP.of T.F_inner sc_inner fun cdv A outer s H E hr => ⟨_, (pss_one (ps_ret (pe_ifExp (pt_cmpR op_in_seq (pe_ix ix_tup (L2.pv 0) pe_int (fun _ _ => rfl)) (pe_tup (pa_cons pe_str (pa_cons pe_str (pa_cons pe_str pa_nil)))) (by first | rfl | with_unfolding_all rfl)) (pe_callTy call_list_of (by rfl) T.m_list (by decide +kernel) (pa_cons (pe_slice sl_tupA (L2.pv 0) (po_some pe_int) po_none) pa_nil)) (pe_lst pa_nil)))),
    (sm_ret (sm_if (sm_test (sm_op smr_in (sm_op smr_ixT sm_var (sm_c cv_int)) (sm_tup (sm_cons (sm_c (cv_str (by decide +kernel))) (sm_cons (sm_c (cv_str (by decide +kernel))) (sm_cons (sm_c (cv_str (by decide +kernel))) sm_nil)))))) (sm_B sb_lst (sm_cons (sm_sl sms_T sm_var (sm_part (sm_c cv_int)) sm_noPart) sm_nil)) (sm_lst sm_nil)))⟩
/-! #### law: all_in -/
set_option maxHeartbeats 0 in
theorem ok_all_in (T : Tx K mg w) : ∀ n : Nat, FnP P w K mg base tb (1 + n) T.f_all_in T.fd_all_in P_all_in (F_all_in T.ca n)
  | 0 => FnP.bad
  | n + 1 => by
    have G_all_in : FnP P w K mg base tb (1 + n) T.f_all_in T.fd_all_in P_all_in (F_all_in T.ca n) := ok_all_in T n
    have G_inner : FnP P w K mg base tb 1 T.f_inner T.fd_inner P_inner (F_inner T.ca) := ok_inner T
    exact FnP.of T.F_all_in sc_all_in fun cdv A outer s H E hr => ⟨_, (pss_cons (ps_set (i := 1) sc_all_in.nd rfl (.inl rfl) (pe_lst (pa_cons (L2.pv 0) pa_nil)))
      (pss_cons (ps_for (passes_of rfl) rfl (pi_list (pe_call G_inner (hr.mono (Nat.le_trans (show 1 ≤ 1 from by decide) (Nat.le_add_right 1 n))) (by rfl) T.g_inner T.F_inner.kp T.b_inner .nil (passes_call (takes_of rfl rfl rfl rfl) (fun _ _ _ _ h => h)) (pa_cons (L2.pv 0) pa_nil))) (pg_name (i := 2) sc_all_in.nd rfl (.inl rfl))
        (pss_one (ps_set (i := 1) sc_all_in.nd rfl (.inl rfl) (pe_op op_cat (L2.pv 1) (pe_call G_all_in hr (by rfl) T.g_all_in T.F_all_in.kp T.b_all_in .nil (passes_call (takes_of rfl rfl rfl rfl) (fun _ _ _ _ h => h)) (pa_cons (L2.pv 2) pa_nil))))))
      (pss_one (ps_ret (L2.pv 1))))),
      (sm_seq (sm_asg (sm_lst (sm_cons sm_var sm_nil)) sg_nm)
      (sm_seq (sm_for (sm_iL (sm_call cvs_nil (sm_cons sm_var sm_nil))) sg_nm (sm_asg (sm_op smr_addL sm_var (sm_call cvs_nil (sm_cons sm_var sm_nil))) sg_nm))
      (sm_ret sm_var)))⟩
/-! #### law: form_ok -/
set_option maxHeartbeats 0 in
theorem ok_form_ok (T : Tx K mg w) : ∀ n : Nat, FnP P w K mg base tb (1 + n) T.f_form_ok T.fd_form_ok P_form_ok (F_form_ok T.ca n)
  | 0 => FnP.bad
  | n + 1 => by
    have G_form_ok : FnP P w K mg base tb (1 + n) T.f_form_ok T.fd_form_ok P_form_ok (F_form_ok T.ca n) := ok_form_ok T n
    have G_forms : FnP P w K mg base tb 1 T.f_forms T.fd_forms P_forms (F_forms T.ca) := ok_forms T
    have G_plain_text : FnP P w K mg base tb 1 T.f_plain_text T.fd_plain_text P_plain_text (F_plain_text T.ca) := ok_plain_text T
    exact FnP.of T.F_form_ok sc_form_ok fun cdv A outer s H E hr => ⟨_, (pss_cons (ps_if (PW.pt (pw_or (pt_not (pt_val (pe_callB call_isi (by rfl) T.m_isinstance (by decide +kernel) (pa_cons (L2.pv 0) (pa_cons (pe_bltn (v := .ty "tuple") (by rfl) T.m_tuple (by decide +kernel) rfl) pa_nil))))) (pw_or (pt_cmpR (op_eqD hr.units) (L2.pv 0) (pe_tup pa_nil) (nomark _)) (pw_or1 (pt_not (pt_val (pe_callB call_isi (by rfl) T.m_isinstance (by decide +kernel) (pa_cons (pe_ix ix_tup (L2.pv 0) pe_int (fun _ _ => rfl)) (pa_cons (pe_bltn (v := .ty "str") (by rfl) T.m_str (by decide +kernel) rfl) pa_nil)))))))))
        (pss_one (ps_ret pe_bl))
        pss_nil)
      (pss_cons (ps_set (i := 1) sc_form_ok.nd rfl (.inl rfl) (pe_dget1 (hu_of hr) (pe_call0 G_forms (hr.mono (Nat.le_trans (show 1 ≤ 1 from by decide) (Nat.le_add_right 1 n))) (by rfl) T.g_forms T.F_forms.kp T.b_forms .nil (passes_call (takes_of rfl rfl rfl rfl) (fun _ _ _ _ h => h))) (pe_ix ix_tup (L2.pv 0) pe_int (fun _ _ => rfl)) ⟨rfl, rfl, rfl, rfl⟩))
      (pss_cons (ps_if (PW.pt (pw_or (pt_cmpR op_isN (L2.pv 1) pe_non (nomark _)) (pw_or1 (pt_cmpR op_ne (pe_callB call_len_seq (by rfl) T.m_len PySem.boot_len (pa_cons (L2.pv 0) pa_nil)) (pe_op op_add pe_int (pe_callB call_len_str (by rfl) T.m_len PySem.boot_len (pa_cons (L2.pv 1) pa_nil))) (nomark _)))))
        (pss_one (ps_ret pe_bl))
        pss_nil)
      (pss_cons (ps_for (passes_of rfl) rfl (LB.pi_zipX (by rfl) T.m_zip (pa_cons (L2.pv 1) (pa_cons (pe_slice sl_tupA (L2.pv 0) (po_some pe_int) po_none) pa_nil))) (pg_tup (by rfl) (pgs_cons (pg_name (i := 2) sc_form_ok.nd rfl (.inl rfl)) (pgs_cons (pg_name (i := 3) sc_form_ok.nd rfl (.inl rfl)) pgs_nil)))
        (pss_cons (ps_if (PW.pt (pw_and (pt_cmpR op_eq (L2.pv 2) pe_str (nomark _)) (pw_and1 (pt_not (pt_val (pe_call G_form_ok hr (by rfl) T.g_form_ok T.F_form_ok.kp T.b_form_ok .nil (passes_call (takes_of rfl rfl rfl rfl) (fun _ _ _ _ h => h)) (pa_cons (L2.pv 3) pa_nil)))))))
          (pss_one (ps_ret pe_bl))
          pss_nil)
        (pss_one (ps_if (PW.pt (pw_and (pt_cmpR op_ne (L2.pv 2) pe_str (nomark _)) (pw_and1 (pt_not (pt_val (pe_call G_plain_text (hr.mono (Nat.le_trans (show 1 ≤ 1 from by decide) (Nat.le_add_right 1 n))) (by rfl) T.g_plain_text T.F_plain_text.kp T.b_plain_text .nil (passes_call (takes_of rfl rfl rfl rfl) (fun _ _ _ _ h => h)) (pa_cons (L2.pv 3) (pa_cons pe_int (pa_cons (pe_ix ix_list (pe_lst (pa_cons pe_int (pa_cons pe_int pa_nil))) (pe_callTy call_int1 (by rfl) T.m_int (by decide +kernel) (pa_cons (pe_cmpR op_eq (L2.pv 2) pe_str (nomark _)) pa_nil)) (fun _ _ => rfl)) pa_nil)))))))))
          (pss_one (ps_ret pe_bl))
          pss_nil))))
      (pss_one (ps_ret pe_bl)))))),
      (sm_seq (sm_ifS (sm_or (sm_not (sm_tB (sm_B sb_isi (sm_cons sm_var (sm_cons (sm_c cv_ty) sm_nil))))) (sm_or (sm_test (sm_op smr_eqD sm_var (sm_tup sm_nil))) (sm_not (sm_tB (sm_B sb_isi (sm_cons (sm_op smr_ixT sm_var (sm_c cv_int)) (sm_cons (sm_c cv_ty) sm_nil))))))) (sm_ret (sm_c cv_bl)) sm_next)
      (sm_seq (sm_asg (sm_dget1 (sm_call cvs_nil sm_nil) (sm_op smr_ixT sm_var (sm_c cv_int))) sg_nm)
      (sm_seq (sm_ifS (sm_or (sm_test (sm_op smr_isN sm_var (sm_c cv_non))) (sm_test (sm_op smr_ne (sm_B sb_len (sm_cons sm_var sm_nil)) (sm_op (smr_I0 fun _ _ => cv_int) (sm_c cv_int) (sm_B sb_lenS (sm_cons sm_var sm_nil)))))) (sm_ret (sm_c cv_bl)) sm_next)
      (sm_seq (sm_for (sm_iZX (sm_cons sm_var (sm_cons (sm_sl sms_T sm_var (sm_part (sm_c cv_int)) sm_noPart) sm_nil))) (sg_tup (sg_cons sg_nm (sg_cons sg_nm sg_nil)) (cnt_cons (cnt_cons cnt_nil))) (sm_seq (sm_ifS (sm_and (sm_test (sm_op smr_eq sm_var (sm_c (cv_str (by decide +kernel))))) (sm_not (sm_tB (sm_call cvs_nil (sm_cons sm_var sm_nil))))) (sm_ret (sm_c cv_bl)) sm_next)
      (sm_ifS (sm_and (sm_test (sm_op smr_ne sm_var (sm_c (cv_str (by decide +kernel))))) (sm_not (sm_tB (sm_call cvs_nil (sm_cons sm_var (sm_cons (sm_c cv_int) (sm_cons (sm_op smr_ixL (sm_lst (sm_cons (sm_c cv_int) (sm_cons (sm_c cv_int) sm_nil))) (sm_B sb_int (sm_cons (sm_op smr_eq sm_var (sm_c (cv_str (by decide +kernel)))) sm_nil))) sm_nil))))))) (sm_ret (sm_c cv_bl)) sm_next)))
      (sm_ret (sm_c cv_bl))))))⟩
/-! #### law: far_in -/
set_option maxHeartbeats 0 in
theorem ok_far_in (T : Tx K mg w) : ∀ n : Nat, FnP P w K mg base tb (1 + n) T.f_far_in T.fd_far_in P_far_in (F_far_in T.ca n)
  | 0 => FnP.bad
  | n + 1 => by
    have G_far_in : FnP P w K mg base tb (1 + n) T.f_far_in T.fd_far_in P_far_in (F_far_in T.ca n) := ok_far_in T n
    have G_inner : FnP P w K mg base tb 1 T.f_inner T.fd_inner P_inner (F_inner T.ca) := ok_inner T
    exact FnP.of T.F_far_in sc_far_in fun cdv A outer s H E hr => ⟨_, (pss_one (ps_ret (pe_op op_add pe_int (pe_callB (cr_max rfl) (by rfl) T.m_max (by decide +kernel) (pa_cons (pe_op op_cat (pe_lc (own := [("_law_part", 1)]) (g := (gName 1)) (tt := tYes) (by rfl) sc_far_in.nd (pi_list (pe_call G_inner (hr.mono (Nat.le_trans (show 1 ≤ 1 from by decide) (Nat.le_add_right 1 n))) (by rfl) T.g_inner T.F_inner.kp T.b_inner .nil (passes_call (takes_of rfl rfl rfl rfl) (fun _ _ _ _ h => h)) (pa_cons (L2.pv 0) pa_nil))) (blkOk_by (own := [("_law_part", 1)]) (N := N_far_in) (sc := defScope s_far_in) (by decide +kernel)) (fun _ _ _ _ _ => (pg_name (i := 1) sc_far_in.nd rfl (.inl rfl))) (fun _ _ _ _ _ => pts_nil) (fun _ _ _ _ _ => (pe_call G_far_in hr (by rfl) T.g_far_in T.F_far_in.kp T.b_far_in .nil passL (pa_cons (L2.pv 1) pa_nil)))) (pe_lst (pa_cons pe_int pa_nil))) pa_nil))))),
      (sm_ret (sm_op (smr_I0 fun _ _ => cv_int) (sm_c cv_int) (sm_B sb_maxL (sm_cons (sm_op smr_addL (sm_lc (sm_iL (sm_call cvs_nil (sm_cons sm_var sm_nil))) sg_nm sm_yes (sm_callN cvs_nil (sm_cons sm_var sm_nil)) (by decide)) (sm_lst (sm_cons (sm_c cv_int) sm_nil))) sm_nil))))⟩
/-! #### law: body_ok -/
set_option maxHeartbeats 0 in
theorem ok_body_ok (T : Tx K mg w) : FnP P w K mg base tb 11 T.f_body_ok T.fd_body_ok P_body_ok (F_body_ok T.ca) := by
  have G_form_ok : FnP P w K mg base tb 10 T.f_form_ok T.fd_form_ok P_form_ok (F_form_ok T.ca 9) := ok_form_ok T 9
  have G_far_in : FnP P w K mg base tb 10 T.f_far_in T.fd_far_in P_far_in (F_far_in T.ca 9) := ok_far_in T 9
  have G_all_in : FnP P w K mg base tb 10 T.f_all_in T.fd_all_in P_all_in (F_all_in T.ca 9) := ok_all_in T 9
  exact FnP.of T.F_body_ok sc_body_ok fun cdv A outer s H E hr => ⟨_, (pss_one (ps_ret (pe_and (pe_call G_form_ok (hr.mono (by decide)) (by rfl) T.g_form_ok T.F_form_ok.kp T.b_form_ok .nil (passes_call (takes_of rfl rfl rfl rfl) (fun _ _ _ _ h => h)) (pa_cons (L2.pv 0) pa_nil)) (pe_and (pe_cmpR op_le (pe_callB call_len_seq (by rfl) T.m_len PySem.boot_len (pa_cons (pe_call G_all_in (hr.mono (by decide)) (by rfl) T.g_all_in T.F_all_in.kp T.b_all_in .nil (passes_call (takes_of rfl rfl rfl rfl) (fun _ _ _ _ h => h)) (pa_cons (L2.pv 0) pa_nil)) pa_nil)) pe_int (nomark _)) (pe_one (pe_cmpR op_le (pe_call G_far_in (hr.mono (by decide)) (by rfl) T.g_far_in T.F_far_in.kp T.b_far_in .nil (passes_call (takes_of rfl rfl rfl rfl) (fun _ _ _ _ h => h)) (pa_cons (L2.pv 0) pa_nil)) pe_int (nomark _))))))),
    (sm_ret (sm_andV (sm_call cvs_nil (sm_cons sm_var sm_nil)) (sm_andV (sm_op (smr_I0 fun _ _ => cv_bl) (sm_B sb_len (sm_cons (sm_call cvs_nil (sm_cons sm_var sm_nil)) sm_nil)) (sm_c cv_int)) (sm_op (smr_I0 fun _ _ => cv_bl) (sm_call cvs_nil (sm_cons sm_var sm_nil)) (sm_c cv_int)))))⟩
abbrev lamQ : Str := (envOfC (Str.ofString "law") (defScope s_law) 0 0 .none).qual ++ "<lambda>"
def sp_law (K : PySem.W.Frag) (P1 : Addr) : Sp := fun vs H Q _ => ∃ (a : Addr) (ns : List Int), vs = [.ref a] ∧ SqL K H a (ns.map V.int) ∧ ns.length ≤ 63 ∧ H P1 = some (.tbl #[]) ∧ ∀ H', Q (.bl true) H'
set_option maxHeartbeats 0 in
theorem ok_law_at {P : Program} {w : World} {K : PySem.W.Frag} {mg : Str → Option Value} {base : Heap} {c1 P1 : Addr} (T : Tx K mg w) (TB : LamX.TabB base mg c1 P1) (hcode : T.fd_law.code = .ref c1) : FnOk P w K mg base CX0 19 T.f_law T.fd_law P_law (sp_law K P1) := by
  have G_bag : FnOk P w K mg base (L2.CX P w) 1 T.f_bag T.fd_bag P_bag (sp_bag K) := fn_any (ok_bag T)
  have G_letters : FnOk P w K mg base (L2.CX P w) 3 T.f_letters T.fd_letters P_letters (spF [(P1, lamQ)] (F_letters T.ca)) := ok_letters T
  have G_names : FnOk P w K mg base (L2.CX P w) 3 T.f_names T.fd_names P_names (spF [(P1, lamQ)] (F_names T.ca)) := ok_names T
  have G_body : FnOk P w K mg base (L2.CX P w) 12 T.f_body T.fd_body P_body (spF [(P1, lamQ)] (F_body T.ca 9)) := ok_body T 9
  have G_of : FnOk P w K mg base (L2.CX P w) 2 T.f_of T.fd_of P_of (spF [(P1, lamQ)] (F_of T.ca)) := ok_of T
  have G_plain_text : FnOk P w K mg base (L2.CX P w) 1 T.f_plain_text T.fd_plain_text P_plain_text (spF [(P1, lamQ)] (F_plain_text T.ca)) := ok_plain_text T
  have G_pull : FnOk P w K mg base (L2.CX P w) 1 T.f_pull T.fd_pull P_pull (spF [(P1, lamQ)] (F_pull T.ca)) := ok_pull T
  have G_body_ok : FnOk P w K mg base (L2.CX P w) 11 T.f_body_ok T.fd_body_ok P_body_ok (spF [(P1, lamQ)] (F_body_ok T.ca)) := ok_body_ok T
  have G_p_compiled : FnOk P w K mg base (L2.CX P w) 15 T.f_p_compiled T.fd_p_compiled P_p_compiled (spF [(P1, lamQ)] (F_p_compiled T.ca)) := ok_p_compiled T
  have G_all_in : FnOk P w K mg base (L2.CX P w) 10 T.f_all_in T.fd_all_in P_all_in (spF [(P1, lamQ)] (F_all_in T.ca 9)) := ok_all_in T 9
  have G_same : FnOk P w K mg base (L2.CX P w) 10 T.f_same T.fd_same P_same (spF [(P1, lamQ)] (F_same 9)) := ok_sameP T
  obtain ⟨oR, dR, kR, mR, pR, aR, cR, tR, sR, eR, lR, hR⟩ := T.F_refusal.ex
  have bR := T.b_refusal
  rw [eR] at lR bR
  refine okC T.F_law sc_law (fun vs H Q E h => ?_) (fun cdv hcd A outer s H vs Q E hr h => ?_)
  · obtain ⟨a, ns, rfl, _⟩ := h
    rfl
  · obtain ⟨a, ns, rfl, hS, hlen, hT0, q⟩ := h
    obtain rfl : cdv = .ref c1 := hcd.symm.trans hcode
    refine law_cut (tb := [(P1, lamQ)]) (E := E) (B := B_law T.ca) (ps_set (i := 1) sc_law.nd rfl (.inl rfl) (pe_call G_bag (hr.mono (by decide)) (by rfl) T.g_bag T.F_bag.kp T.b_bag .nil passL (pa_cons (L2.pv 0) pa_nil))) ?_ fun tr hsm => ?_
    · refine ⟨_, (pss_cons (ps_par (i := 2) (j := 3) (by rfl) sc_law.nd rfl rfl (by decide) rfl rfl (pa_cons (pe_call G_letters (hr.mono (by decide)) (by rfl) T.g_letters T.F_letters.kp T.b_letters .nil passL (pa_cons (L2.pv 1) pa_nil)) (pa_cons (pe_call G_names (hr.mono (by decide)) (by rfl) T.g_names T.F_names.kp T.b_names .nil passL (pa_cons (L2.pv 1) (pa_cons pe_int pa_nil))) pa_nil)) (by rfl))
      (pss_cons (ps_set (i := 4) sc_law.nd rfl (.inr rfl) pe_str)
      (pss_cons (ps_for PassesOwn.never rfl (pi_range1 (by rfl) T.m_range (pa_cons pe_int pa_nil)) (pg_name (i := 5) sc_law.nd rfl (.inl rfl))
        (pss_cons (ps_set (i := 13) sc_law.nd rfl (.inr rfl) (pe_call G_body (hr.mono (by decide)) (by rfl) T.g_body T.F_body.kp T.b_body .nil passL (pa_cons (L2.pv 1) (pa_cons (L2.pv 3) (pa_cons (L2.pv 2) (pa_cons (pe_op op_add pe_int (pe_call G_pull (hr.mono (by decide)) (by rfl) T.g_pull T.F_pull.kp T.b_pull .nil passL (pa_cons (L2.pv 1) (pa_cons pe_int pa_nil)))) pa_nil))))))
        (pss_cons (ps_set (i := 14) sc_law.nd rfl (.inr rfl) (pe_call G_of (hr.mono (by decide)) (by rfl) T.g_of T.F_of.kp T.b_of .nil passL (pa_cons (L2.pv 1) (pa_cons (pe_op op_cat (pe_call G_names (hr.mono (by decide)) (by rfl) T.g_names T.F_names.kp T.b_names .nil passL (pa_cons (L2.pv 1) (pa_cons pe_int pa_nil))) (pe_lst (pa_cons pe_str (pa_cons pe_str (pa_cons pe_str (pa_cons pe_str pa_nil)))))) pa_nil))))
        (pss_cons (ps_set (i := 15) sc_law.nd rfl (.inr rfl) (pe_call G_of (hr.mono (by decide)) (by rfl) T.g_of T.F_of.kp T.b_of .nil passL (pa_cons (L2.pv 1) (pa_cons (pe_op op_cat (pe_call G_names (hr.mono (by decide)) (by rfl) T.g_names T.F_names.kp T.b_names .nil passL (pa_cons (L2.pv 1) (pa_cons pe_int pa_nil))) (pe_lst (pa_cons pe_str (pa_cons pe_str (pa_cons pe_str (pa_cons pe_str pa_nil)))))) pa_nil))))
        (pss_cons (ps_set (i := 6) sc_law.nd rfl (.inl rfl) (pe_and (pe_call G_plain_text (hr.mono (by decide)) (by rfl) T.g_plain_text T.F_plain_text.kp T.b_plain_text .nil passL (pa_cons (L2.pv 14) (pa_cons pe_int (pa_cons pe_int pa_nil)))) (pe_one (pe_call G_plain_text (hr.mono (by decide)) (by rfl) T.g_plain_text T.F_plain_text.kp T.b_plain_text .nil passL (pa_cons (L2.pv 15) (pa_cons pe_int (pa_cons pe_int pa_nil)))))))
        (pss_one (ps_if (pt_not (pt_val (L2.pv 6)))
          (pss_one (ps_if (pt_cmpR (op_neD hr.units) (LamX.pe_lamcall (k := 15) (T := [(P1, _)]) (by rfl) T.g_refusal T.F_refusal.kp lR hR bR sc_refusal rfl (.inl rfl) (refusal_gives T.gC_LeakError T.m_isinstance T.m_ValueError T.m_LookupError) TB rfl List.mem_cons_self (fun p hp _ => by rw [List.mem_singleton.mp hp]) (hr.mono (by decide)) (LamX.lamS_by (by show LamX.lamSB (defScope s_law) _ = true; decide +kernel)) rfl (fun _ _ _ _ _ => rfl) (fun A2 o2 s2 H2 E2 f2 c2 hr2 => (pe_callK G_p_compiled (hr2.mono (by decide)) (by rfl) T.g_p_compiled T.F_p_compiled.kp T.kb_p_compiled_2_stem (passes_call (takes_of rfl rfl rfl rfl) (fun _ _ _ _ h => h)) (pa_cons (L2.pv 14) (pa_cons (pe_tup (pa_cons pe_str pa_nil)) pa_nil)) (pk_cons (L2.pv 15) pk_nil)))) (pe_tup (pa_cons pe_str (pa_cons (pe_un un_neg pe_int) pa_nil))) (nomark _))
            (pss_one (ps_ret pe_bl))
            pss_nil))
          (pss_one (ps_if (pt_not (pt_val (pe_call G_body_ok (hr.mono (by decide)) (by rfl) T.g_body_ok T.F_body_ok.kp T.b_body_ok .nil passL (pa_cons (L2.pv 13) pa_nil))))
            (pss_one (ps_if (pt_cmpR (op_neD hr.units) (LamX.pe_lamcall (k := 15) (T := [(P1, _)]) (by rfl) T.g_refusal T.F_refusal.kp lR hR bR sc_refusal rfl (.inl rfl) (refusal_gives T.gC_LeakError T.m_isinstance T.m_ValueError T.m_LookupError) TB rfl List.mem_cons_self (fun p hp _ => by rw [List.mem_singleton.mp hp]) (hr.mono (by decide)) (LamX.lamS_by (by show LamX.lamSB (defScope s_law) _ = true; decide +kernel)) rfl (fun _ _ _ _ _ => rfl) (fun A2 o2 s2 H2 E2 f2 c2 hr2 => (pe_callK G_p_compiled (hr2.mono (by decide)) (by rfl) T.g_p_compiled T.F_p_compiled.kp T.kb_p_compiled_2_stem (passes_call (takes_of rfl rfl rfl rfl) (fun _ _ _ _ h => h)) (pa_cons (L2.pv 14) (pa_cons (L2.pv 13) pa_nil)) (pk_cons (L2.pv 15) pk_nil)))) (pe_tup (pa_cons pe_str (pa_cons (pe_un un_neg pe_int) pa_nil))) (nomark _))
              (pss_one (ps_ret pe_bl))
              pss_nil))
            (pss_cons (ps_asg (pe_callK G_p_compiled (hr.mono (by decide)) (by rfl) T.g_p_compiled T.F_p_compiled.kp T.kb_p_compiled_2_stem passL (pa_cons (L2.pv 14) (pa_cons (L2.pv 13) pa_nil)) (pk_cons (L2.pv 15) pk_nil)) (pg_tup (by rfl) (pgs_cons (pg_name (i := 7) sc_law.nd rfl (.inl rfl)) (pgs_cons (pg_name (i := 8) sc_law.nd rfl (.inl rfl)) (pgs_cons (pg_name (i := 9) sc_law.nd rfl (.inl rfl)) pgs_nil)))))
            (pss_cons (ps_set (i := 10) sc_law.nd rfl (.inl rfl) (pe_callTy call_list_of (by rfl) T.m_list (by decide +kernel) (pa_cons (L2.pv 8) pa_nil)))
            (pss_cons (ps_set (i := 11) sc_law.nd rfl (.inl rfl) (pe_callB call_len_seq (by rfl) T.m_len PySem.boot_len (pa_cons (pe_call G_all_in (hr.mono (by decide)) (by rfl) T.g_all_in T.F_all_in.kp T.b_all_in .nil passL (pa_cons (L2.pv 13) pa_nil)) pa_nil)))
            (pss_cons (ps_set (i := 12) sc_law.nd rfl (.inl rfl) (pe_callB (LB.cr_sortX (by rfl)) (by rfl) T.m_sorted (by decide +kernel) (pa_cons (pe_callTy (LB.cr_setX (by rfl)) (by rfl) T.m_set (by decide +kernel) (pa_cons (pe_op op_cat (pe_op op_cat (pe_lst (pa_cons (L2.pv 7) (pa_cons (L2.pv 9) pa_nil))) (pe_lc (own := [("_law_move", 18)]) (g := (gName 18)) (tt := tYes) (by rfl) sc_law.nd (pi_list (L2.pv 8)) (blkOk_by (own := [("_law_move", 18)]) (N := N_law) (sc := defScope s_law) (by decide +kernel)) (fun _ _ _ _ _ => (pg_name (i := 18) sc_law.nd rfl (.inl rfl))) (fun _ _ _ _ _ => pts_nil) (fun _ _ _ _ _ => (pe_ix (r := rIxT K) ix_tup (L2.pv 18) pe_int (fun _ _ => rfl))))) (pe_lc (own := [("_law_move", 18)]) (g := (gName 18)) (tt := tYes) (by rfl) sc_law.nd (pi_list (L2.pv 8)) (blkOk_by (own := [("_law_move", 18)]) (N := N_law) (sc := defScope s_law) (by decide +kernel)) (fun _ _ _ _ _ => (pg_name (i := 18) sc_law.nd rfl (.inl rfl))) (fun _ _ _ _ _ => pts_nil) (fun _ _ _ _ _ => (pe_ix (r := rIxT K) ix_tup (L2.pv 18) pe_int (fun _ _ => rfl))))) pa_nil)) pa_nil)))
            (pss_cons (ps_if (PW.pt (pw_or (pt_cmpR op_gt (pe_callB call_len_seq (by rfl) T.m_len PySem.boot_len (pa_cons (L2.pv 8) pa_nil)) (pe_op op_add (pe_op op_mul pe_int (L2.pv 11)) pe_int) (nomark _)) (pw_or (pt_cmpR op_gt (pe_callB call_len_seq (by rfl) T.m_len PySem.boot_len (pa_cons (L2.pv 12) pa_nil)) (pe_op op_add (L2.pv 11) pe_int) (nomark _)) (pw_or1 (pt_not (pt_val (pe_callB call_isi (by rfl) T.m_isinstance (by decide +kernel) (pa_cons (L2.pv 8) (pa_cons (pe_bltn (v := .ty "list") (by rfl) T.m_list (by decide +kernel) rfl) pa_nil)))))))))
              (pss_one (ps_ret pe_bl))
              pss_nil)
            (pss_cons (ps_if (pt_not (pt_val (pe_callB (cr_all rfl) (by rfl) T.m_all (by decide +kernel) (pa_cons (pe_lc (own := [("_law_stand", 17)]) (g := (gName 17)) (tt := tYes) (by rfl) sc_law.nd (pi_list (L2.pv 12)) (blkOk_by (own := [("_law_stand", 17)]) (N := N_law) (sc := defScope s_law) (by decide +kernel)) (fun _ _ _ _ _ => (pg_name (i := 17) sc_law.nd rfl (.inl rfl))) (fun _ _ _ _ _ => pts_nil) (fun _ _ _ _ _ => (pe_and (pe_cmpR op_eq (pe_slice sl_str (L2.pv 17) po_none (po_some (pe_un un_neg pe_int))) (L2.pv 15) (nomark _)) (pe_one (pe_cmpR op_in_sign (pe_ix ix_str (L2.pv 17) (pe_un un_neg pe_int) (fun _ _ => rfl)) (L2.pv 4) rfl))))) pa_nil))))
              (pss_one (ps_ret pe_bl))
              pss_nil)
            (pss_cons (ps_if (pt_cmpR (op_neD hr.units) (pe_lc (own := [("_law_row", 16)]) (g := (gName 16)) (by rfl) sc_law.nd (pi_list (L2.pv 8)) (blkOk_by (own := [("_law_row", 16)]) (N := N_law) (sc := defScope s_law) (by decide +kernel)) (fun _ _ _ _ _ => (pg_name (i := 16) sc_law.nd rfl (.inl rfl))) (fun _ _ _ _ _ => (pts_one (PW.pt (pw_or (pt_cmpR op_ne (pe_ix (r := rIxT K) ix_tup (L2.pv 16) pe_int (fun _ _ => rfl)) (L2.pv 14) (nomark _)) (pw_or1 (pt_cmpR (r := rIn K true) op_notIn_seq (pe_ix (r := rIxT K) ix_tup (pe_ix (r := rIxT K) ix_tup (L2.pv 16) pe_int (fun _ _ => rfl)) pe_int (fun _ _ => rfl)) (pe_tup (pa_cons pe_str (pa_cons pe_str (pa_cons pe_str (pa_cons pe_str pa_nil))))) (by first | rfl | with_unfolding_all rfl))))))) (fun _ _ _ _ _ => (L2.pv 16))) (pe_lst pa_nil) (nomark _))
              (pss_one (ps_ret pe_bl))
              pss_nil)
            (pss_cons (ps_expr (pe_bm PySem.F.plainAttrs_list PySem.F.slot_list_append PySem.F.type_list_append mt_append (L2.pv 8) (pa_cons pe_int pa_nil)))
            (pss_one (ps_if (pt_not (pt_val (pe_call G_same (hr.mono (by decide)) (by rfl) T.g_same T.F_same.kp T.b_same .nil passL (pa_cons (pe_callK G_p_compiled (hr.mono (by decide)) (by rfl) T.g_p_compiled T.F_p_compiled.kp T.kb_p_compiled_2_stem passL (pa_cons (L2.pv 14) (pa_cons (L2.pv 13) pa_nil)) (pk_cons (L2.pv 15) pk_nil)) (pa_cons (pe_tup (pa_cons (L2.pv 7) (pa_cons (L2.pv 10) (pa_cons (L2.pv 9) pa_nil)))) pa_nil)))))
              (pss_one (ps_ret pe_bl))
              pss_nil)))))))))))))))))))
      (pss_one (ps_ret pe_bl))))), ?_⟩
      exact (sm_seq (sm_par (sm_cons (sm_callN cvs_nil (sm_cons sm_var sm_nil)) (sm_cons (sm_callN cvs_nil (sm_cons sm_var (sm_cons (sm_c cv_int) sm_nil))) sm_nil)))
      (sm_seq (sm_asg (sm_c (cv_str (by decide +kernel))) sg_nm)
      (sm_seq (sm_for (sm_iR1 (sm_cons (sm_c cv_int) sm_nil)) sg_nm (sm_seq (sm_asg (sm_callN cvs_nil (sm_cons sm_var (sm_cons sm_var (sm_cons sm_var (sm_cons (sm_op (smr_I0 fun _ _ => cv_int) (sm_c cv_int) (sm_callN cvs_nil (sm_cons sm_var (sm_cons (sm_c cv_int) sm_nil)))) sm_nil))))) sg_nm)
      (sm_seq (sm_asg (sm_callN cvs_nil (sm_cons sm_var (sm_cons (sm_op smr_addL (sm_callN cvs_nil (sm_cons sm_var (sm_cons (sm_c cv_int) sm_nil))) (sm_lst (sm_cons (sm_c (cv_str (by decide +kernel))) (sm_cons (sm_c (cv_str (by decide +kernel))) (sm_cons (sm_c (cv_str (by decide +kernel))) (sm_cons (sm_c (cv_str (by decide +kernel))) sm_nil)))))) sm_nil))) sg_nm)
      (sm_seq (sm_asg (sm_callN cvs_nil (sm_cons sm_var (sm_cons (sm_op smr_addL (sm_callN cvs_nil (sm_cons sm_var (sm_cons (sm_c cv_int) sm_nil))) (sm_lst (sm_cons (sm_c (cv_str (by decide +kernel))) (sm_cons (sm_c (cv_str (by decide +kernel))) (sm_cons (sm_c (cv_str (by decide +kernel))) (sm_cons (sm_c (cv_str (by decide +kernel))) sm_nil)))))) sm_nil))) sg_nm)
      (sm_seq (sm_asg (sm_andV (sm_callN cvs_nil (sm_cons sm_var (sm_cons (sm_c cv_int) (sm_cons (sm_c cv_int) sm_nil)))) (sm_callN cvs_nil (sm_cons sm_var (sm_cons (sm_c cv_int) (sm_cons (sm_c cv_int) sm_nil))))) sg_nm)
      (sm_ifS (sm_not (sm_tB sm_var)) (sm_ifS (sm_test (sm_op smr_neD (sm_ref (xf_all T) (fun _ => (sm_callK kgr_p_compiled_2_stem (sm_cons sm_var (sm_cons (sm_tup (sm_cons (sm_c (cv_str (by decide +kernel))) sm_nil)) sm_nil)) (sm_cons sm_var sm_nil)))) (sm_tup (sm_cons (sm_c (cv_str (by decide +kernel))) (sm_cons (sm_un (smu_U fun _ => cv_int) (sm_c cv_int)) sm_nil))))) (sm_ret (sm_c cv_bl)) sm_next) (sm_ifS (sm_not (sm_tB (sm_callN cvs_nil (sm_cons sm_var sm_nil)))) (sm_ifS (sm_test (sm_op smr_neD (sm_ref (xf_all T) (fun _ => (sm_callK kgr_p_compiled_2_stem (sm_cons sm_var (sm_cons sm_var sm_nil)) (sm_cons sm_var sm_nil)))) (sm_tup (sm_cons (sm_c (cv_str (by decide +kernel))) (sm_cons (sm_un (smu_U fun _ => cv_int) (sm_c cv_int)) sm_nil))))) (sm_ret (sm_c cv_bl)) sm_next) (sm_seq (sm_asg (sm_callKN kgr_p_compiled_2_stem (sm_cons sm_var (sm_cons sm_var sm_nil)) (sm_cons sm_var sm_nil)) (sg_tup (sg_cons sg_nm (sg_cons sg_nm (sg_cons sg_nm sg_nil))) (cnt_cons (cnt_cons (cnt_cons cnt_nil)))))
      (sm_seq (sm_asg (sm_B sb_lst (sm_cons sm_var sm_nil)) sg_nm)
      (sm_seq (sm_asg (sm_B sb_len (sm_cons (sm_callN cvs_nil (sm_cons sm_var sm_nil)) sm_nil)) sg_nm)
      (sm_seq (sm_asg (sm_sortset (sm_op smr_addL (sm_op smr_addL (sm_lst (sm_cons sm_var (sm_cons sm_var sm_nil))) (sm_lc (sm_iL sm_var) sg_nm sm_yes (sm_op smr_ixT sm_var (sm_c cv_int)) (by decide))) (sm_lc (sm_iL sm_var) sg_nm sm_yes (sm_op smr_ixT sm_var (sm_c cv_int)) (by decide)))) sg_nm)
      (sm_seq (sm_ifS (sm_or (sm_test (sm_op (smr_I0 fun _ _ => cv_bl) (sm_B sb_len (sm_cons sm_var sm_nil)) (sm_op (smr_I0 fun _ _ => cv_int) (sm_op (smr_I fun _ _ => cv_int) (sm_c cv_int) sm_var) (sm_c cv_int)))) (sm_or (sm_test (sm_op (smr_I0 fun _ _ => cv_bl) (sm_B sb_len (sm_cons sm_var sm_nil)) (sm_op (smr_I0 fun _ _ => cv_int) sm_var (sm_c cv_int)))) (sm_not (sm_tB (sm_B sb_isi (sm_cons sm_var (sm_cons (sm_c cv_ty) sm_nil))))))) (sm_ret (sm_c cv_bl)) sm_next)
      (sm_seq (sm_ifS (sm_not (sm_tB (sm_gc (sm_B sb_all (sm_cons (sm_lc (sm_iL sm_var) sg_nm sm_yes (sm_andV (sm_op smr_eq (sm_sl sms_S sm_var sm_noPart (sm_part (sm_un (smu_U fun _ => cv_int) (sm_c cv_int)))) sm_var) (sm_op smr_inS (sm_op smr_ixS sm_var (sm_un (smu_U fun _ => cv_int) (sm_c cv_int))) sm_var)) (by decide)) sm_nil))))) (sm_ret (sm_c cv_bl)) sm_next)
      (sm_seq (sm_ifS (sm_test (sm_op smr_neD (sm_lc (sm_iL sm_var) sg_nm (sm_or (sm_test (sm_op smr_ne (sm_op smr_ixT sm_var (sm_c cv_int)) sm_var)) (sm_test (sm_op smr_in (sm_op smr_ixT (sm_op smr_ixT sm_var (sm_c cv_int)) (sm_c cv_int)) (sm_tup (sm_cons (sm_c (cv_str (by decide +kernel))) (sm_cons (sm_c (cv_str (by decide +kernel))) (sm_cons (sm_c (cv_str (by decide +kernel))) (sm_cons (sm_c (cv_str (by decide +kernel))) sm_nil)))))))) sm_var (by decide)) (sm_lst sm_nil))) (sm_ret (sm_c cv_bl)) sm_next)
      (sm_seq (sm_drop (sm_BM mm_append sm_var (sm_cons (sm_c cv_int) sm_nil)))
      (sm_ifS (sm_not (sm_tB (sm_callN cvs_nil (sm_cons (sm_callKN kgr_p_compiled_2_stem (sm_cons sm_var (sm_cons sm_var sm_nil)) (sm_cons sm_var sm_nil)) (sm_cons (sm_tup (sm_cons sm_var (sm_cons sm_var (sm_cons sm_var sm_nil)))) sm_nil))))) (sm_ret (sm_c cv_bl)) sm_next))))))))))))))))
      (sm_ret (sm_c cv_bl)))))
    refine ⟨.ref a, rfl, a, ns, rfl, hS, hlen, fun H1 b cl s1 hB nb => ?_⟩
    have hT1 : LamX.Tabs [(P1, lamQ)] H1 := fun z hz => by
      rw [List.mem_singleton.mp hz]
      exact LamX.TabS.nil (s1 _ _ hT0)
    exact Pu.law_end (t := tr) (tb := [(P1, lamQ)]) (n := 17) (B := B_law T.ca) hsm hB hT1 (law_pure T.ca) q
end
set_option maxHeartbeats 0 in
theorem all_mk {l : PySem.W.OpenLaw} {w : World} {K : PySem.W.Frag} {h : Heap} {mg : Str → Option Value} {fa : Addr} (X : K.In h) (G : h.Ns mainGlobals mg) (hfa : mg "law" = some (.ref fa))
    {cC PC : Addr} {eC : Value} {dC : Option Addr} {vC : Array Value} {sC : Array (Option Value)}
    {f0 : Addr} {od0 an0 : Option Addr} {sl0 : Array (Option Value)} {oc0 kV0 dc0 pm0 cd0 ct0 : Value}
    {td0 : Addr} {ot0 : Value} {ht0 : Option Addr} {st0 : Array (Option Value)} {nt0 : Nat}
    {w0_0 : Tok}
    {w0_1 : Tok}
    {f1 : Addr} {od1 an1 : Option Addr} {sl1 : Array (Option Value)} {oc1 kV1 dc1 pm1 cd1 ct1 : Value}
    {td1 : Addr} {ot1 : Value} {ht1 : Option Addr} {st1 : Array (Option Value)} {nt1 : Nat}
    {w1_0 : Tok}
    {f2 : Addr} {od2 an2 : Option Addr} {sl2 : Array (Option Value)} {oc2 kV2 dc2 pm2 cd2 ct2 : Value}
    {td2 : Addr} {ot2 : Value} {ht2 : Option Addr} {st2 : Array (Option Value)} {nt2 : Nat}
    {w2_0 : Tok}
    {f3 : Addr} {od3 an3 : Option Addr} {sl3 : Array (Option Value)} {oc3 kV3 dc3 pm3 cd3 ct3 : Value}
    {f4 : Addr} {od4 an4 : Option Addr} {sl4 : Array (Option Value)} {oc4 kV4 dc4 pm4 cd4 ct4 : Value}
    {f5 : Addr} {od5 an5 : Option Addr} {sl5 : Array (Option Value)} {oc5 kV5 dc5 pm5 cd5 ct5 : Value}
    {f6 : Addr} {od6 an6 : Option Addr} {sl6 : Array (Option Value)} {oc6 kV6 dc6 pm6 cd6 ct6 : Value}
    {f7 : Addr} {od7 an7 : Option Addr} {sl7 : Array (Option Value)} {oc7 kV7 dc7 pm7 cd7 ct7 : Value}
    {f8 : Addr} {od8 an8 : Option Addr} {sl8 : Array (Option Value)} {oc8 kV8 dc8 pm8 cd8 ct8 : Value}
    {f9 : Addr} {od9 an9 : Option Addr} {sl9 : Array (Option Value)} {oc9 kV9 dc9 pm9 cd9 ct9 : Value}
    {f10 : Addr} {od10 an10 : Option Addr} {sl10 : Array (Option Value)} {oc10 kV10 dc10 pm10 cd10 ct10 : Value}
    {f11 : Addr} {od11 an11 : Option Addr} {sl11 : Array (Option Value)} {oc11 kV11 dc11 pm11 cd11 ct11 : Value}
    {f12 : Addr} {od12 an12 : Option Addr} {sl12 : Array (Option Value)} {oc12 kV12 dc12 pm12 cd12 ct12 : Value}
    {f13 : Addr} {od13 an13 : Option Addr} {sl13 : Array (Option Value)} {oc13 kV13 dc13 pm13 cd13 ct13 : Value}
    {f14 : Addr} {od14 an14 : Option Addr} {sl14 : Array (Option Value)} {oc14 kV14 dc14 pm14 cd14 ct14 : Value}
    {f15 : Addr} {od15 an15 : Option Addr} {sl15 : Array (Option Value)} {oc15 kV15 dc15 pm15 cd15 ct15 : Value}
    {f16 : Addr} {od16 an16 : Option Addr} {sl16 : Array (Option Value)} {oc16 dc16 pm16 cd16 ct16 : Value}
    {xk16 : Addr}
    {f17 : Addr} {od17 an17 : Option Addr} {sl17 : Array (Option Value)} {oc17 kV17 dc17 pm17 cd17 ct17 : Value}
    {f18 : Addr} {od18 an18 : Option Addr} {sl18 : Array (Option Value)} {oc18 kV18 dc18 pm18 cd18 ct18 : Value}
    {f19 : Addr} {od19 an19 : Option Addr} {sl19 : Array (Option Value)} {oc19 kV19 dc19 pm19 cd19 ct19 : Value}
    {f20 : Addr} {od20 an20 : Option Addr} {sl20 : Array (Option Value)} {oc20 kV20 dc20 pm20 cd20 ct20 : Value}
    {f21 : Addr} {od21 an21 : Option Addr} {sl21 : Array (Option Value)} {oc21 kV21 dc21 pm21 cd21 ct21 : Value}
    {f22 : Addr} {od22 an22 : Option Addr} {sl22 : Array (Option Value)} {oc22 kV22 dc22 pm22 cd22 ct22 : Value}
    {f23 : Addr} {od23 an23 : Option Addr} {sl23 : Array (Option Value)} {oc23 kV23 dc23 pm23 cd23 ct23 : Value}
    {f24 : Addr} {od24 an24 : Option Addr} {sl24 : Array (Option Value)} {oc24 kV24 dc24 pm24 cd24 ct24 : Value}
    {f25 : Addr} {od25 an25 : Option Addr} {sl25 : Array (Option Value)} {oc25 kV25 dc25 pm25 cd25 ct25 : Value}
    {f26 : Addr} {od26 an26 : Option Addr} {sl26 : Array (Option Value)} {oc26 kV26 dc26 pm26 cd26 ct26 : Value}
    {f27 : Addr} {od27 an27 : Option Addr} {sl27 : Array (Option Value)} {oc27 kV27 dc27 pm27 cd27 ct27 : Value}
    {f28 : Addr} {od28 an28 : Option Addr} {sl28 : Array (Option Value)} {oc28 kV28 dc28 pm28 cd28 ct28 : Value}
    {f29 : Addr} {od29 an29 : Option Addr} {sl29 : Array (Option Value)} {oc29 kV29 dc29 pm29 cd29 ct29 : Value}
    {f30 : Addr} {od30 an30 : Option Addr} {sl30 : Array (Option Value)} {oc30 kV30 dc30 pm30 cd30 ct30 : Value}
    {f31 : Addr} {od31 an31 : Option Addr} {sl31 : Array (Option Value)} {oc31 kV31 dc31 pm31 cd31 ct31 : Value}
    {f32 : Addr} {od32 an32 : Option Addr} {sl32 : Array (Option Value)} {oc32 kV32 dc32 pm32 cd32 ct32 : Value}
    {f33 : Addr} {od33 an33 : Option Addr} {sl33 : Array (Option Value)} {oc33 kV33 dc33 pm33 ct33 : Value}
    {q0 : Addr}
    {q1 : Addr}
    {q2 : Addr}
    {q3 : Addr}
    {q0nm q0qn : Str} {q0N : Addr} {q0bs q0sub : List Value} {q0sn : List Str} {q0ab : Bool} {q0col : Option Bool} {q0dd : Option Addr} {q0m0 q0m1 q0m2 q0m3 q0m5 : Option Value}
    {q1nm q1qn : Str} {q1N : Addr} {q1bs q1sub : List Value} {q1sn : List Str} {q1ab : Bool} {q1col : Option Bool} {q1dd : Option Addr} {q1m0 q1m1 q1m2 q1m3 q1m5 : Option Value}
    {q2nm q2qn : Str} {q2N : Addr} {q2bs q2sub : List Value} {q2sn : List Str} {q2ab : Bool} {q2col : Option Bool} {q2dd : Option Addr} {q2m0 q2m1 q2m2 q2m3 q2m5 : Option Value}
    (q0C : PySem.W.nsIn K mainGlobals "LeakError" = some (some (.ref q0)))
    (q0XX : K.lookup q0 = some (excClassObj q0nm q0qn q0 q0N q0bs [.type "ValueError", .type "Exception", .type "BaseException", .type "object"] true q0sn q0sub q0ab q0col q0dd q0m0 q0m1 q0m2 q0m3 q0m5 "ValueError.__new__"))
    (q0sa : PySem.W.findIn K (.ref q0) "__setattr__" = some (some (.builtin "object.__setattr__")))
    (q0ec : PySem.W.subIn K (.ref q0) (.type "BaseException") = some true)
    (q0ty : PySem.W.typeIn K (.ref q0) = some (.type "type"))
    (q0kc : PySem.W.keepIn K (.ref q0) = true)
    (q0rd : PySem.W.readsIn K q0 (.type "type") = true)
    (q0ga : PySem.W.specialIn K (.ref q0) "__getattribute__" = some (some (.builtin "type.__getattribute__")))
    (q0x1 : (PySem.W.clsIn K q0).isSome = true)
    (q0x2 : PySem.W.findIn K (.ref q0) "__getattribute__" = some (some (.builtin "BaseException.__getattribute__")))
    (q0x3 : PySem.W.findIn K (.ref q0) "__getattr__" = some none)
    (q0x5 : PySem.W.findIn K (.ref q0) "__class__" = some (some (.builtin "object.__class__")))
    (q0x6 : PySem.W.specialIn K (.builtin "object.__class__") "__get__" = some (some (.builtin "getset_descriptor.__get__")))
    (q0x7 : PySem.W.takesIn K (.builtin "object.__class__") = some true)
    (q0x8 : PySem.W.mroIn K q0 (.type "object") = some true)
    (q0x9 : PySem.W.hasDictIn K q0 = true)
    (q0nw : PySem.W.findIn K (.ref q0) "word" = some none)
    (q0na : PySem.W.findIn K (.ref q0) "at" = some none)
    (q0kv : PySem.W.kitOne K (.ref q0) (.type "ValueError") = some true)
    (q0kl : PySem.W.kitOne K (.ref q0) (.type "LookupError") = some false)
    (q1C : PySem.W.nsIn K mainGlobals "BadName" = some (some (.ref q1)))
    (q1XX : K.lookup q1 = some (excClassObj q1nm q1qn q1 q1N q1bs [.ref q0, .type "ValueError", .type "Exception", .type "BaseException", .type "object"] true q1sn q1sub q1ab q1col q1dd q1m0 q1m1 q1m2 q1m3 q1m5 "ValueError.__new__"))
    (q1sa : PySem.W.findIn K (.ref q1) "__setattr__" = some (some (.builtin "object.__setattr__")))
    (q1ec : PySem.W.subIn K (.ref q1) (.type "BaseException") = some true)
    (q1ty : PySem.W.typeIn K (.ref q1) = some (.type "type"))
    (q1kc : PySem.W.keepIn K (.ref q1) = true)
    (q1rd : PySem.W.readsIn K q1 (.type "type") = true)
    (q1ga : PySem.W.specialIn K (.ref q1) "__getattribute__" = some (some (.builtin "type.__getattribute__")))
    (q1x1 : (PySem.W.clsIn K q1).isSome = true)
    (q1x2 : PySem.W.findIn K (.ref q1) "__getattribute__" = some (some (.builtin "BaseException.__getattribute__")))
    (q1x3 : PySem.W.findIn K (.ref q1) "__getattr__" = some none)
    (q1x5 : PySem.W.findIn K (.ref q1) "__class__" = some (some (.builtin "object.__class__")))
    (q1x6 : PySem.W.specialIn K (.builtin "object.__class__") "__get__" = some (some (.builtin "getset_descriptor.__get__")))
    (q1x7 : PySem.W.takesIn K (.builtin "object.__class__") = some true)
    (q1x8 : PySem.W.mroIn K q1 (.type "object") = some true)
    (q1x9 : PySem.W.hasDictIn K q1 = true)
    (q1nw : PySem.W.findIn K (.ref q1) "word" = some none)
    (q1na : PySem.W.findIn K (.ref q1) "at" = some none)
    (q1kv : PySem.W.kitOne K (.ref q1) (.type "ValueError") = some true)
    (q1kl : PySem.W.kitOne K (.ref q1) (.type "LookupError") = some false)
    (q2C : PySem.W.nsIn K mainGlobals "BadBody" = some (some (.ref q2)))
    (q2XX : K.lookup q2 = some (excClassObj q2nm q2qn q2 q2N q2bs [.ref q0, .type "ValueError", .type "Exception", .type "BaseException", .type "object"] true q2sn q2sub q2ab q2col q2dd q2m0 q2m1 q2m2 q2m3 q2m5 "ValueError.__new__"))
    (q2sa : PySem.W.findIn K (.ref q2) "__setattr__" = some (some (.builtin "object.__setattr__")))
    (q2ec : PySem.W.subIn K (.ref q2) (.type "BaseException") = some true)
    (q2ty : PySem.W.typeIn K (.ref q2) = some (.type "type"))
    (q2kc : PySem.W.keepIn K (.ref q2) = true)
    (q2rd : PySem.W.readsIn K q2 (.type "type") = true)
    (q2ga : PySem.W.specialIn K (.ref q2) "__getattribute__" = some (some (.builtin "type.__getattribute__")))
    (q2x1 : (PySem.W.clsIn K q2).isSome = true)
    (q2x2 : PySem.W.findIn K (.ref q2) "__getattribute__" = some (some (.builtin "BaseException.__getattribute__")))
    (q2x3 : PySem.W.findIn K (.ref q2) "__getattr__" = some none)
    (q2x5 : PySem.W.findIn K (.ref q2) "__class__" = some (some (.builtin "object.__class__")))
    (q2x6 : PySem.W.specialIn K (.builtin "object.__class__") "__get__" = some (some (.builtin "getset_descriptor.__get__")))
    (q2x7 : PySem.W.takesIn K (.builtin "object.__class__") = some true)
    (q2x8 : PySem.W.mroIn K q2 (.type "object") = some true)
    (q2x9 : PySem.W.hasDictIn K q2 = true)
    (q2nw : PySem.W.findIn K (.ref q2) "word" = some none)
    (q2na : PySem.W.findIn K (.ref q2) "at" = some none)
    (q2kv : PySem.W.kitOne K (.ref q2) (.type "ValueError") = some true)
    (q2kl : PySem.W.kitOne K (.ref q2) (.type "LookupError") = some false)
    (q3C : PySem.W.nsIn K mainGlobals "Plan" = some (some (.ref q3)))
    (q3pg : PySem.W.plainGet K q3 Str.empty = true)
    (q3hd : PySem.W.hasDictIn K q3 = true)
    (q3po : PySem.W.plainOver K q3 = true)
    (q3sa : PySem.W.findIn K (.ref q3) "__setattr__" = some (some (.builtin "object.__setattr__")))
    (q3mk : PySem.W.makesIn K q3 = true)
    (q3kc : PySem.W.keepIn K (.ref q3) = true)
    (q3no_owner : PySem.W.findIn K (.ref q3) "owner" = some none)
    (q3no_stem : PySem.W.findIn K (.ref q3) "stem" = some none)
    (q3no_stand_count : PySem.W.findIn K (.ref q3) "stand_count" = some none)
    (q3no_made : PySem.W.findIn K (.ref q3) "made" = some none)
    (vV : PySem.W.findCls K (.type "ValueError") (.type "type") "__init__" = some (.val (.builtin "ValueError.__init__")))
    (a0 : PySem.W.findIn K (.ref q0) "__init__" = some (some (.ref f0)))
    (i0 : PySem.W.isFn K (.ref f0) = true)
    (l0 : K.lookup f0 = some ⟨oc0, od0, .func (PySem.W.fnOf "__init__" "LeakError.__init__" (defArgs s_LeakError_init) (defBody s_LeakError_init) (defScope s_LeakError_init) (.ref td0) kV0 dc0 pm0 an0 cd0 ct0), sl0⟩)
    (c0 : PySem.W.codeIn K cd0 "LeakError.__init__" = true)
    (k0 : PySem.W.keepIn K (.ref f0) = true)
    (t0 : K.lookup td0 = some ⟨ot0, ht0, .seq ([.int (-1) w0_0, .str (PySem.Str.ofString "leakerror") w0_1] : List Value).toArray nt0, st0⟩)
    (a1 : PySem.W.findIn K (.ref q1) "__init__" = some (some (.ref f1)))
    (i1 : PySem.W.isFn K (.ref f1) = true)
    (l1 : K.lookup f1 = some ⟨oc1, od1, .func (PySem.W.fnOf "__init__" "BadName.__init__" (defArgs s_BadName_init) (defBody s_BadName_init) (defScope s_BadName_init) (.ref td1) kV1 dc1 pm1 an1 cd1 ct1), sl1⟩)
    (c1 : PySem.W.codeIn K cd1 "BadName.__init__" = true)
    (k1 : PySem.W.keepIn K (.ref f1) = true)
    (t1 : K.lookup td1 = some ⟨ot1, ht1, .seq ([.int (-1) w1_0] : List Value).toArray nt1, st1⟩)
    (a2 : PySem.W.findIn K (.ref q2) "__init__" = some (some (.ref f2)))
    (i2 : PySem.W.isFn K (.ref f2) = true)
    (l2 : K.lookup f2 = some ⟨oc2, od2, .func (PySem.W.fnOf "__init__" "BadBody.__init__" (defArgs s_BadBody_init) (defBody s_BadBody_init) (defScope s_BadBody_init) (.ref td2) kV2 dc2 pm2 an2 cd2 ct2), sl2⟩)
    (c2 : PySem.W.codeIn K cd2 "BadBody.__init__" = true)
    (k2 : PySem.W.keepIn K (.ref f2) = true)
    (t2 : K.lookup td2 = some ⟨ot2, ht2, .seq ([.int (-1) w2_0] : List Value).toArray nt2, st2⟩)
    (a3 : PySem.W.nsIn K mainGlobals "is_word" = some (some (.ref f3)))
    (l3 : K.lookup f3 = some ⟨oc3, od3, .func (PySem.W.fnOf "is_word" "is_word" (defArgs s_p_is_word) (defBody s_p_is_word) (defScope s_p_is_word) .none kV3 dc3 pm3 an3 cd3 ct3), sl3⟩)
    (c3 : PySem.W.codeIn K cd3 "is_word" = true)
    (k3 : PySem.W.keepIn K (.ref f3) = true)
    (a4 : PySem.W.nsIn K mainGlobals "is_name" = some (some (.ref f4)))
    (l4 : K.lookup f4 = some ⟨oc4, od4, .func (PySem.W.fnOf "is_name" "is_name" (defArgs s_p_is_name) (defBody s_p_is_name) (defScope s_p_is_name) .none kV4 dc4 pm4 an4 cd4 ct4), sl4⟩)
    (c4 : PySem.W.codeIn K cd4 "is_name" = true)
    (k4 : PySem.W.keepIn K (.ref f4) = true)
    (a5 : PySem.W.nsIn K mainGlobals "is_letter" = some (some (.ref f5)))
    (l5 : K.lookup f5 = some ⟨oc5, od5, .func (PySem.W.fnOf "is_letter" "is_letter" (defArgs s_p_is_letter) (defBody s_p_is_letter) (defScope s_p_is_letter) .none kV5 dc5 pm5 an5 cd5 ct5), sl5⟩)
    (c5 : PySem.W.codeIn K cd5 "is_letter" = true)
    (k5 : PySem.W.keepIn K (.ref f5) = true)
    (a6 : PySem.W.nsIn K mainGlobals "inner" = some (some (.ref f6)))
    (l6 : K.lookup f6 = some ⟨oc6, od6, .func (PySem.W.fnOf "inner" "inner" (defArgs s_p_inner) (defBody s_p_inner) (defScope s_p_inner) .none kV6 dc6 pm6 an6 cd6 ct6), sl6⟩)
    (c6 : PySem.W.codeIn K cd6 "inner" = true)
    (k6 : PySem.W.keepIn K (.ref f6) = true)
    (a7 : PySem.W.nsIn K mainGlobals "is_single" = some (some (.ref f7)))
    (l7 : K.lookup f7 = some ⟨oc7, od7, .func (PySem.W.fnOf "is_single" "is_single" (defArgs s_p_is_single) (defBody s_p_is_single) (defScope s_p_is_single) .none kV7 dc7 pm7 an7 cd7 ct7), sl7⟩)
    (c7 : PySem.W.codeIn K cd7 "is_single" = true)
    (k7 : PySem.W.keepIn K (.ref f7) = true)
    (a8 : PySem.W.nsIn K mainGlobals "is_built" = some (some (.ref f8)))
    (l8 : K.lookup f8 = some ⟨oc8, od8, .func (PySem.W.fnOf "is_built" "is_built" (defArgs s_p_is_built) (defBody s_p_is_built) (defScope s_p_is_built) .none kV8 dc8 pm8 an8 cd8 ct8), sl8⟩)
    (c8 : PySem.W.codeIn K cd8 "is_built" = true)
    (k8 : PySem.W.keepIn K (.ref f8) = true)
    (a9 : PySem.W.nsIn K mainGlobals "all_parts" = some (some (.ref f9)))
    (l9 : K.lookup f9 = some ⟨oc9, od9, .func (PySem.W.fnOf "all_parts" "all_parts" (defArgs s_p_all_parts) (defBody s_p_all_parts) (defScope s_p_all_parts) .none kV9 dc9 pm9 an9 cd9 ct9), sl9⟩)
    (c9 : PySem.W.codeIn K cd9 "all_parts" = true)
    (k9 : PySem.W.keepIn K (.ref f9) = true)
    (a10 : PySem.W.nsIn K mainGlobals "is_body" = some (some (.ref f10)))
    (l10 : K.lookup f10 = some ⟨oc10, od10, .func (PySem.W.fnOf "is_body" "is_body" (defArgs s_p_is_body) (defBody s_p_is_body) (defScope s_p_is_body) .none kV10 dc10 pm10 an10 cd10 ct10), sl10⟩)
    (c10 : PySem.W.codeIn K cd10 "is_body" = true)
    (k10 : PySem.W.keepIn K (.ref f10) = true)
    (a11 : PySem.W.nsIn K mainGlobals "check_body" = some (some (.ref f11)))
    (l11 : K.lookup f11 = some ⟨oc11, od11, .func (PySem.W.fnOf "check_body" "check_body" (defArgs s_p_check_body) (defBody s_p_check_body) (defScope s_p_check_body) .none kV11 dc11 pm11 an11 cd11 ct11), sl11⟩)
    (c11 : PySem.W.codeIn K cd11 "check_body" = true)
    (k11 : PySem.W.keepIn K (.ref f11) = true)
    (a12 : PySem.W.findIn K (.ref q3) "__init__" = some (some (.ref f12)))
    (i12 : PySem.W.isFn K (.ref f12) = true)
    (l12 : K.lookup f12 = some ⟨oc12, od12, .func (PySem.W.fnOf "__init__" "Plan.__init__" (defArgs s_Plan_init) (defBody s_Plan_init) (defScope s_Plan_init) .none kV12 dc12 pm12 an12 cd12 ct12), sl12⟩)
    (c12 : PySem.W.codeIn K cd12 "Plan.__init__" = true)
    (k12 : PySem.W.keepIn K (.ref f12) = true)
    (a13 : PySem.W.findIn K (.ref q3) "new_stand" = some (some (.ref f13)))
    (i13 : PySem.W.isFn K (.ref f13) = true)
    (l13 : K.lookup f13 = some ⟨oc13, od13, .func (PySem.W.fnOf "new_stand" "Plan.new_stand" (defArgs s_Plan_new_stand) (defBody s_Plan_new_stand) (defScope s_Plan_new_stand) .none kV13 dc13 pm13 an13 cd13 ct13), sl13⟩)
    (c13 : PySem.W.codeIn K cd13 "Plan.new_stand" = true)
    (k13 : PySem.W.keepIn K (.ref f13) = true)
    (a14 : PySem.W.findIn K (.ref q3) "put" = some (some (.ref f14)))
    (i14 : PySem.W.isFn K (.ref f14) = true)
    (l14 : K.lookup f14 = some ⟨oc14, od14, .func (PySem.W.fnOf "put" "Plan.put" (defArgs s_Plan_put) (defBody s_Plan_put) (defScope s_Plan_put) .none kV14 dc14 pm14 an14 cd14 ct14), sl14⟩)
    (c14 : PySem.W.codeIn K cd14 "Plan.put" = true)
    (k14 : PySem.W.keepIn K (.ref f14) = true)
    (a15 : PySem.W.findIn K (.ref q3) "fill" = some (some (.ref f15)))
    (i15 : PySem.W.isFn K (.ref f15) = true)
    (l15 : K.lookup f15 = some ⟨oc15, od15, .func (PySem.W.fnOf "fill" "Plan.fill" (defArgs s_Plan_fill) (defBody s_Plan_fill) (defScope s_Plan_fill) .none kV15 dc15 pm15 an15 cd15 ct15), sl15⟩)
    (c15 : PySem.W.codeIn K cd15 "Plan.fill" = true)
    (k15 : PySem.W.keepIn K (.ref f15) = true)
    (a16 : PySem.W.nsIn K mainGlobals "compiled" = some (some (.ref f16)))
    (l16 : K.lookup f16 = some ⟨oc16, od16, .func (PySem.W.fnOf "compiled" "compiled" (defArgs s_p_compiled) (defBody s_p_compiled) (defScope s_p_compiled) .none (.ref xk16) dc16 pm16 an16 cd16 ct16), sl16⟩)
    (c16 : PySem.W.codeIn K cd16 "compiled" = true)
    (k16 : PySem.W.keepIn K (.ref f16) = true)
    (y16_0 : ∃ t, PySem.W.nsIn K xk16 "stem" = some (some (.str (PySem.Str.ofString "s") t)))
    (a17 : PySem.W.nsIn K mainGlobals "_law_bag" = some (some (.ref f17)))
    (l17 : K.lookup f17 = some ⟨oc17, od17, .func (PySem.W.fnOf "_law_bag" "_law_bag" (defArgs s_bag) (defBody s_bag) (defScope s_bag) .none kV17 dc17 pm17 an17 cd17 ct17), sl17⟩)
    (c17 : PySem.W.codeIn K cd17 "_law_bag" = true)
    (k17 : PySem.W.keepIn K (.ref f17) = true)
    (a18 : PySem.W.nsIn K mainGlobals "_law_pull" = some (some (.ref f18)))
    (l18 : K.lookup f18 = some ⟨oc18, od18, .func (PySem.W.fnOf "_law_pull" "_law_pull" (defArgs s_pull) (defBody s_pull) (defScope s_pull) .none kV18 dc18 pm18 an18 cd18 ct18), sl18⟩)
    (c18 : PySem.W.codeIn K cd18 "_law_pull" = true)
    (k18 : PySem.W.keepIn K (.ref f18) = true)
    (a19 : PySem.W.nsIn K mainGlobals "_law_of" = some (some (.ref f19)))
    (l19 : K.lookup f19 = some ⟨oc19, od19, .func (PySem.W.fnOf "_law_of" "_law_of" (defArgs s_of) (defBody s_of) (defScope s_of) .none kV19 dc19 pm19 an19 cd19 ct19), sl19⟩)
    (c19 : PySem.W.codeIn K cd19 "_law_of" = true)
    (k19 : PySem.W.keepIn K (.ref f19) = true)
    (a20 : PySem.W.nsIn K mainGlobals "_law_same" = some (some (.ref f20)))
    (l20 : K.lookup f20 = some ⟨oc20, od20, .func (PySem.W.fnOf "_law_same" "_law_same" (defArgs s_same) (defBody s_same) (defScope s_same) .none kV20 dc20 pm20 an20 cd20 ct20), sl20⟩)
    (c20 : PySem.W.codeIn K cd20 "_law_same" = true)
    (k20 : PySem.W.keepIn K (.ref f20) = true)
    (a21 : PySem.W.nsIn K mainGlobals "_law_letters" = some (some (.ref f21)))
    (l21 : K.lookup f21 = some ⟨oc21, od21, .func (PySem.W.fnOf "_law_letters" "_law_letters" (defArgs s_letters) (defBody s_letters) (defScope s_letters) .none kV21 dc21 pm21 an21 cd21 ct21), sl21⟩)
    (c21 : PySem.W.codeIn K cd21 "_law_letters" = true)
    (k21 : PySem.W.keepIn K (.ref f21) = true)
    (a22 : PySem.W.nsIn K mainGlobals "_law_names" = some (some (.ref f22)))
    (l22 : K.lookup f22 = some ⟨oc22, od22, .func (PySem.W.fnOf "_law_names" "_law_names" (defArgs s_names) (defBody s_names) (defScope s_names) .none kV22 dc22 pm22 an22 cd22 ct22), sl22⟩)
    (c22 : PySem.W.codeIn K cd22 "_law_names" = true)
    (k22 : PySem.W.keepIn K (.ref f22) = true)
    (a23 : PySem.W.nsIn K mainGlobals "_law_refusal" = some (some (.ref f23)))
    (l23 : K.lookup f23 = some ⟨oc23, od23, .func (PySem.W.fnOf "_law_refusal" "_law_refusal" (defArgs s_refusal) (defBody s_refusal) (defScope s_refusal) .none kV23 dc23 pm23 an23 cd23 ct23), sl23⟩)
    (c23 : PySem.W.codeIn K cd23 "_law_refusal" = true)
    (k23 : PySem.W.keepIn K (.ref f23) = true)
    (a24 : PySem.W.nsIn K mainGlobals "_law_leaf" = some (some (.ref f24)))
    (l24 : K.lookup f24 = some ⟨oc24, od24, .func (PySem.W.fnOf "_law_leaf" "_law_leaf" (defArgs s_leaf) (defBody s_leaf) (defScope s_leaf) .none kV24 dc24 pm24 an24 cd24 ct24), sl24⟩)
    (c24 : PySem.W.codeIn K cd24 "_law_leaf" = true)
    (k24 : PySem.W.keepIn K (.ref f24) = true)
    (a25 : PySem.W.nsIn K mainGlobals "_law_body" = some (some (.ref f25)))
    (l25 : K.lookup f25 = some ⟨oc25, od25, .func (PySem.W.fnOf "_law_body" "_law_body" (defArgs s_body) (defBody s_body) (defScope s_body) .none kV25 dc25 pm25 an25 cd25 ct25), sl25⟩)
    (c25 : PySem.W.codeIn K cd25 "_law_body" = true)
    (k25 : PySem.W.keepIn K (.ref f25) = true)
    (a26 : PySem.W.nsIn K mainGlobals "_law_forms" = some (some (.ref f26)))
    (l26 : K.lookup f26 = some ⟨oc26, od26, .func (PySem.W.fnOf "_law_forms" "_law_forms" (defArgs s_forms) (defBody s_forms) (defScope s_forms) .none kV26 dc26 pm26 an26 cd26 ct26), sl26⟩)
    (c26 : PySem.W.codeIn K cd26 "_law_forms" = true)
    (k26 : PySem.W.keepIn K (.ref f26) = true)
    (a27 : PySem.W.nsIn K mainGlobals "_law_plain_text" = some (some (.ref f27)))
    (l27 : K.lookup f27 = some ⟨oc27, od27, .func (PySem.W.fnOf "_law_plain_text" "_law_plain_text" (defArgs s_plain_text) (defBody s_plain_text) (defScope s_plain_text) .none kV27 dc27 pm27 an27 cd27 ct27), sl27⟩)
    (c27 : PySem.W.codeIn K cd27 "_law_plain_text" = true)
    (k27 : PySem.W.keepIn K (.ref f27) = true)
    (a28 : PySem.W.nsIn K mainGlobals "_law_inner" = some (some (.ref f28)))
    (l28 : K.lookup f28 = some ⟨oc28, od28, .func (PySem.W.fnOf "_law_inner" "_law_inner" (defArgs s_inner) (defBody s_inner) (defScope s_inner) .none kV28 dc28 pm28 an28 cd28 ct28), sl28⟩)
    (c28 : PySem.W.codeIn K cd28 "_law_inner" = true)
    (k28 : PySem.W.keepIn K (.ref f28) = true)
    (a29 : PySem.W.nsIn K mainGlobals "_law_all_in" = some (some (.ref f29)))
    (l29 : K.lookup f29 = some ⟨oc29, od29, .func (PySem.W.fnOf "_law_all_in" "_law_all_in" (defArgs s_all_in) (defBody s_all_in) (defScope s_all_in) .none kV29 dc29 pm29 an29 cd29 ct29), sl29⟩)
    (c29 : PySem.W.codeIn K cd29 "_law_all_in" = true)
    (k29 : PySem.W.keepIn K (.ref f29) = true)
    (a30 : PySem.W.nsIn K mainGlobals "_law_form_ok" = some (some (.ref f30)))
    (l30 : K.lookup f30 = some ⟨oc30, od30, .func (PySem.W.fnOf "_law_form_ok" "_law_form_ok" (defArgs s_form_ok) (defBody s_form_ok) (defScope s_form_ok) .none kV30 dc30 pm30 an30 cd30 ct30), sl30⟩)
    (c30 : PySem.W.codeIn K cd30 "_law_form_ok" = true)
    (k30 : PySem.W.keepIn K (.ref f30) = true)
    (a31 : PySem.W.nsIn K mainGlobals "_law_far_in" = some (some (.ref f31)))
    (l31 : K.lookup f31 = some ⟨oc31, od31, .func (PySem.W.fnOf "_law_far_in" "_law_far_in" (defArgs s_far_in) (defBody s_far_in) (defScope s_far_in) .none kV31 dc31 pm31 an31 cd31 ct31), sl31⟩)
    (c31 : PySem.W.codeIn K cd31 "_law_far_in" = true)
    (k31 : PySem.W.keepIn K (.ref f31) = true)
    (a32 : PySem.W.nsIn K mainGlobals "_law_body_ok" = some (some (.ref f32)))
    (l32 : K.lookup f32 = some ⟨oc32, od32, .func (PySem.W.fnOf "_law_body_ok" "_law_body_ok" (defArgs s_body_ok) (defBody s_body_ok) (defScope s_body_ok) .none kV32 dc32 pm32 an32 cd32 ct32), sl32⟩)
    (c32 : PySem.W.codeIn K cd32 "_law_body_ok" = true)
    (k32 : PySem.W.keepIn K (.ref f32) = true)
    (a33 : PySem.W.nsIn K mainGlobals "law" = some (some (.ref f33)))
    (l33 : K.lookup f33 = some ⟨oc33, od33, .func (PySem.W.fnOf "law" "law" (defArgs s_law) (defBody s_law) (defScope s_law) .none kV33 dc33 pm33 an33 (.ref cC) ct33), sl33⟩)
    (c33 : PySem.W.codeIn K (.ref cC) "law" = true)
    (k33 : PySem.W.keepIn K (.ref f33) = true)
    (q0ti : PySem.W.typeIn K (.ref f0) = some (.type "function"))
    (q0fn : PySem.W.findCls K (.ref q0) (.type "type") "__init__" = some (.val (.ref f0)))
    (q0em : PySem.W.exmOne K (.ref q0) (.ref q0) = some true)
    (q1ti : PySem.W.typeIn K (.ref f1) = some (.type "function"))
    (q1fn : PySem.W.findCls K (.ref q1) (.type "type") "__init__" = some (.val (.ref f1)))
    (q1em : PySem.W.exmOne K (.ref q1) (.ref q0) = some true)
    (q2ti : PySem.W.typeIn K (.ref f2) = some (.type "function"))
    (q2fn : PySem.W.findCls K (.ref q2) (.type "type") "__init__" = some (.val (.ref f2)))
    (q2em : PySem.W.exmOne K (.ref q2) (.ref q0) = some true)
    (z0 : PySem.W.nsIn K mainGlobals "LookupError" = some none)
    (z1 : PySem.W.nsIn K mainGlobals "ValueError" = some none)
    (z2 : PySem.W.nsIn K mainGlobals "all" = some none)
    (z3 : PySem.W.nsIn K mainGlobals "bool" = some none)
    (z4 : PySem.W.nsIn K mainGlobals "int" = some none)
    (z5 : PySem.W.nsIn K mainGlobals "isinstance" = some none)
    (z6 : PySem.W.nsIn K mainGlobals "len" = some none)
    (z7 : PySem.W.nsIn K mainGlobals "list" = some none)
    (z8 : PySem.W.nsIn K mainGlobals "max" = some none)
    (z9 : PySem.W.nsIn K mainGlobals "range" = some none)
    (z10 : PySem.W.nsIn K mainGlobals "set" = some none)
    (z11 : PySem.W.nsIn K mainGlobals "sorted" = some none)
    (z12 : PySem.W.nsIn K mainGlobals "str" = some none)
    (z13 : PySem.W.nsIn K mainGlobals "tuple" = some none)
    (z14 : PySem.W.nsIn K mainGlobals "zip" = some none)
    {u0 : Value}
    (d0 : PySem.W.nsIn K mainGlobals "LETTERS" = some (some u0))
    (e0 : RelV (V.str (PySem.Str.ofString "abcdefghijklmnopqrstuvwxyz")) u0)
    {u1 : Value}
    (d1 : PySem.W.nsIn K mainGlobals "MOST_NAME" = some (some u1))
    (e1 : RelV (V.int 8) u1)
    {u2 : Value}
    (d2 : PySem.W.nsIn K mainGlobals "MOST_PARTS" = some (some u2))
    (e2 : RelV (V.int 24) u2)
    {u3 : Value}
    (d3 : PySem.W.nsIn K mainGlobals "MOST_LEVELS" = some (some u3))
    (e3 : RelV (V.int 6) u3)
    {uD4 : Addr}
    (d4 : PySem.W.nsIn K mainGlobals "INNER_COUNTS" = some (some (.ref uD4)))
    (kd4 : He.dicW K uD4 = some (He.keysIn w.params ["then", "or", "again"]))
    (kn4_0 : ∃ t, PySem.W.nsIn K uD4 "then" = some (some (.int 2 t)))
    (kn4_1 : ∃ t, PySem.W.nsIn K uD4 "or" = some (some (.int 2 t)))
    (kn4_2 : ∃ t, PySem.W.nsIn K uD4 "again" = some (some (.int 1 t)))
    {u5 : Value}
    (d5 : PySem.W.nsIn K mainGlobals "MOST_STEM" = some (some u5))
    (e5 : RelV (V.int 7) u5)
    (kc1 : K.lookup cC = some ⟨eC, dC, .fields vC, sC⟩) (kc2 : vC[11]? = some (.ref PC)) (kc3 : K.lookup PC = none) (kc4 : PySem.W.codeHdIn K cC PC = true)
    (own : LamX.OwnTab K fa h) : LamX.LawAtS l w K CX0 19 63 "_law_script" mg fa h := by
  have e := hfa.symm.trans (PySem.W.mg_of X G a33)
  cases e
  have F0 : FunD K "__init__" "LeakError.__init__" (defArgs s_LeakError_init) (defBody s_LeakError_init) (defScope s_LeakError_init) [V.int (-1), V.str (PySem.Str.ofString "leakerror")] [] f0 _ := ⟨⟨oc0, od0, .ref td0, kV0, dc0, pm0, an0, cd0, ct0, sl0, rfl, l0, c0, .inr ⟨by simp, td0, _, _, nt0, rfl, t0, rfl, (.cons ⟨_, rfl⟩ (.cons ⟨_, rfl⟩ .nil))⟩, .inl rfl⟩, k0⟩
  obtain ⟨ds0_1, dv0_1, b0_1⟩ := F0.binds1 (ps := P_LeakError_init) 1 0 (by simp) rfl (fun _ _ _ _ _ _ _ us its h1 h2 => match us, its, h1, h2 with | [_], [_, _], _, _ => ⟨_, rfl, rfl⟩)
  obtain ⟨ds0_2, dv0_2, b0_2⟩ := F0.binds1 (ps := P_LeakError_init) 2 1 (by simp) rfl (fun _ _ _ _ _ _ _ us its h1 h2 => match us, its, h1, h2 with | [_, _], [_, _], _, _ => ⟨_, rfl, rfl⟩)
  obtain ⟨ds0_3, dv0_3, b0_3⟩ := F0.binds1 (ps := P_LeakError_init) 3 2 (by simp) rfl (fun _ _ _ _ _ _ _ us its h1 h2 => match us, its, h1, h2 with | [_, _, _], [_, _], _, _ => ⟨_, rfl, rfl⟩)
  have F1 : FunD K "__init__" "BadName.__init__" (defArgs s_BadName_init) (defBody s_BadName_init) (defScope s_BadName_init) [V.int (-1)] [] f1 _ := ⟨⟨oc1, od1, .ref td1, kV1, dc1, pm1, an1, cd1, ct1, sl1, rfl, l1, c1, .inr ⟨by simp, td1, _, _, nt1, rfl, t1, rfl, (.cons ⟨_, rfl⟩ .nil)⟩, .inl rfl⟩, k1⟩
  obtain ⟨ds1_1, dv1_1, b1_1⟩ := F1.binds1 (ps := P_BadName_init) 1 0 (by simp) rfl (fun _ _ _ _ _ _ _ us its h1 h2 => match us, its, h1, h2 with | [_], [_], _, _ => ⟨_, rfl, rfl⟩)
  obtain ⟨ds1_2, dv1_2, b1_2⟩ := F1.binds1 (ps := P_BadName_init) 2 1 (by simp) rfl (fun _ _ _ _ _ _ _ us its h1 h2 => match us, its, h1, h2 with | [_, _], [_], _, _ => ⟨_, rfl, rfl⟩)
  have F2 : FunD K "__init__" "BadBody.__init__" (defArgs s_BadBody_init) (defBody s_BadBody_init) (defScope s_BadBody_init) [V.int (-1)] [] f2 _ := ⟨⟨oc2, od2, .ref td2, kV2, dc2, pm2, an2, cd2, ct2, sl2, rfl, l2, c2, .inr ⟨by simp, td2, _, _, nt2, rfl, t2, rfl, (.cons ⟨_, rfl⟩ .nil)⟩, .inl rfl⟩, k2⟩
  obtain ⟨ds2_1, dv2_1, b2_1⟩ := F2.binds1 (ps := P_BadBody_init) 1 0 (by simp) rfl (fun _ _ _ _ _ _ _ us its h1 h2 => match us, its, h1, h2 with | [_], [_], _, _ => ⟨_, rfl, rfl⟩)
  obtain ⟨ds2_2, dv2_2, b2_2⟩ := F2.binds1 (ps := P_BadBody_init) 2 1 (by simp) rfl (fun _ _ _ _ _ _ _ us its h1 h2 => match us, its, h1, h2 with | [_, _], [_], _, _ => ⟨_, rfl, rfl⟩)
  have F3 := fun_mk (st := s_p_is_word) l3 c3 k3
  have b3 := F3.binds (ps := P_p_is_word) fun _ _ _ _ _ _ us hl => match us, hl with | [_], _ => rfl
  have F4 := fun_mk (st := s_p_is_name) l4 c4 k4
  have b4 := F4.binds (ps := P_p_is_name) fun _ _ _ _ _ _ us hl => match us, hl with | [_], _ => rfl
  have F5 := fun_mk (st := s_p_is_letter) l5 c5 k5
  have b5 := F5.binds (ps := P_p_is_letter) fun _ _ _ _ _ _ us hl => match us, hl with | [_], _ => rfl
  have F6 := fun_mk (st := s_p_inner) l6 c6 k6
  have b6 := F6.binds (ps := P_p_inner) fun _ _ _ _ _ _ us hl => match us, hl with | [_], _ => rfl
  have F7 := fun_mk (st := s_p_is_single) l7 c7 k7
  have b7 := F7.binds (ps := P_p_is_single) fun _ _ _ _ _ _ us hl => match us, hl with | [_], _ => rfl
  have F8 := fun_mk (st := s_p_is_built) l8 c8 k8
  have b8 := F8.binds (ps := P_p_is_built) fun _ _ _ _ _ _ us hl => match us, hl with | [_, _], _ => rfl
  have F9 := fun_mk (st := s_p_all_parts) l9 c9 k9
  have b9 := F9.binds (ps := P_p_all_parts) fun _ _ _ _ _ _ us hl => match us, hl with | [_], _ => rfl
  have F10 := fun_mk (st := s_p_is_body) l10 c10 k10
  have b10 := F10.binds (ps := P_p_is_body) fun _ _ _ _ _ _ us hl => match us, hl with | [_], _ => rfl
  have F11 := fun_mk (st := s_p_check_body) l11 c11 k11
  have b11 := F11.binds (ps := P_p_check_body) fun _ _ _ _ _ _ us hl => match us, hl with | [_], _ => rfl
  have F12 := fun_mk (st := s_Plan_init) l12 c12 k12
  have b12 := F12.binds (ps := P_Plan_init) fun _ _ _ _ _ _ us hl => match us, hl with | [_, _, _], _ => rfl
  have F13 := fun_mk (st := s_Plan_new_stand) l13 c13 k13
  have b13 := F13.binds (ps := P_Plan_new_stand) fun _ _ _ _ _ _ us hl => match us, hl with | [_], _ => rfl
  have F14 := fun_mk (st := s_Plan_put) l14 c14 k14
  have b14 := F14.binds (ps := P_Plan_put) fun _ _ _ _ _ _ us hl => match us, hl with | [_, _, _, _], _ => rfl
  have F15 := fun_mk (st := s_Plan_fill) l15 c15 k15
  have b15 := F15.binds (ps := P_Plan_fill) fun _ _ _ _ _ _ us hl => match us, hl with | [_, _, _, _], _ => rfl
  have F16 : FunD K "compiled" "compiled" (defArgs s_p_compiled) (defBody s_p_compiled) (defScope s_p_compiled) [] [("stem", V.str (PySem.Str.ofString "s"))] f16 _ := ⟨⟨oc16, od16, .none, .ref xk16, dc16, pm16, an16, cd16, ct16, sl16, rfl, l16, c16, .inl ⟨rfl, rfl⟩, .inr ⟨xk16, rfl, (List.forall_mem_cons.mpr ⟨⟨_, y16_0.choose_spec, _, rfl⟩, (fun _ h => (List.not_mem_nil h).elim)⟩)⟩⟩, k16⟩
  obtain ⟨ds16_2, dv16_2, b16_2⟩ := F16.binds0 (ps := P_p_compiled) 2 (by simp) rfl (fun _ _ _ _ _ _ us ks h1 h2 => match us, ks, h1, h2 with | [_, _], [_], _, _ => ⟨_, _, _, _, _, _, rfl, rfl, rfl⟩)
  have F17 := fun_mk (st := s_bag) l17 c17 k17
  have b17 := F17.binds (ps := P_bag) fun _ _ _ _ _ _ us hl => match us, hl with | [_], _ => rfl
  have F18 := fun_mk (st := s_pull) l18 c18 k18
  have b18 := F18.binds (ps := P_pull) fun _ _ _ _ _ _ us hl => match us, hl with | [_, _], _ => rfl
  have F19 := fun_mk (st := s_of) l19 c19 k19
  have b19 := F19.binds (ps := P_of) fun _ _ _ _ _ _ us hl => match us, hl with | [_, _], _ => rfl
  have F20 := fun_mk (st := s_same) l20 c20 k20
  have b20 := F20.binds (ps := P_same) fun _ _ _ _ _ _ us hl => match us, hl with | [_, _], _ => rfl
  have F21 := fun_mk (st := s_letters) l21 c21 k21
  have b21 := F21.binds (ps := P_letters) fun _ _ _ _ _ _ us hl => match us, hl with | [_], _ => rfl
  have F22 := fun_mk (st := s_names) l22 c22 k22
  have b22 := F22.binds (ps := P_names) fun _ _ _ _ _ _ us hl => match us, hl with | [_, _], _ => rfl
  have F23 := fun_mk (st := s_refusal) l23 c23 k23
  have b23 := F23.binds (ps := P_refusal) fun _ _ _ _ _ _ us hl => match us, hl with | [_], _ => rfl
  have F24 := fun_mk (st := s_leaf) l24 c24 k24
  have b24 := F24.binds (ps := P_leaf) fun _ _ _ _ _ _ us hl => match us, hl with | [_, _, _], _ => rfl
  have F25 := fun_mk (st := s_body) l25 c25 k25
  have b25 := F25.binds (ps := P_body) fun _ _ _ _ _ _ us hl => match us, hl with | [_, _, _, _], _ => rfl
  have F26 := fun_mk (st := s_forms) l26 c26 k26
  have b26 := F26.binds (ps := P_forms) fun _ _ _ _ _ _ us hl => match us, hl with | [], _ => rfl
  have F27 := fun_mk (st := s_plain_text) l27 c27 k27
  have b27 := F27.binds (ps := P_plain_text) fun _ _ _ _ _ _ us hl => match us, hl with | [_, _, _], _ => rfl
  have F28 := fun_mk (st := s_inner) l28 c28 k28
  have b28 := F28.binds (ps := P_inner) fun _ _ _ _ _ _ us hl => match us, hl with | [_], _ => rfl
  have F29 := fun_mk (st := s_all_in) l29 c29 k29
  have b29 := F29.binds (ps := P_all_in) fun _ _ _ _ _ _ us hl => match us, hl with | [_], _ => rfl
  have F30 := fun_mk (st := s_form_ok) l30 c30 k30
  have b30 := F30.binds (ps := P_form_ok) fun _ _ _ _ _ _ us hl => match us, hl with | [_], _ => rfl
  have F31 := fun_mk (st := s_far_in) l31 c31 k31
  have b31 := F31.binds (ps := P_far_in) fun _ _ _ _ _ _ us hl => match us, hl with | [_], _ => rfl
  have F32 := fun_mk (st := s_body_ok) l32 c32 k32
  have b32 := F32.binds (ps := P_body_ok) fun _ _ _ _ _ _ us hl => match us, hl with | [_], _ => rfl
  have F33 := fun_mk (st := s_law) l33 c33 k33
  have b33 := F33.binds (ps := P_law) fun _ _ _ _ _ _ us hl => match us, hl with | [_], _ => rfl
  have kb_p_compiled_2_stem := kbp_p_compiled_2_stem F16
  have hTab := own cC PC _ _ _ _ _ _ l33 rfl rfl kc1 kc2
  refine ⟨PySem.W.fnOf "law" "law" (defArgs s_law) (defBody s_law) (defScope s_law) .none kV33 dc33 pm33 an33 (.ref cC) ct33, [(cC, PC)], sp_law K PC, ?_, ?_, ?_, fun s v => .of_eq rfl, ?_, fun base _ _ TB => ok_law_at ⟨q0, PySem.W.mg_of X G q0C, q1, PySem.W.mg_of X G q1C, q2, PySem.W.mg_of X G q2C, q3, PySem.W.mg_of X G q3C, _, _, F0, ds0_1, dv0_1, b0_1, ds0_2, dv0_2, b0_2, ds0_3, dv0_3, b0_3, _, _, F1, ds1_1, dv1_1, b1_1, ds1_2, dv1_2, b1_2, _, _, F2, ds2_1, dv2_1, b2_1, ds2_2, dv2_2, b2_2, _, _, F3, b3, PySem.W.mg_of X G a3, _, _, F4, b4, PySem.W.mg_of X G a4, _, _, F5, b5, PySem.W.mg_of X G a5, _, _, F6, b6, PySem.W.mg_of X G a6, _, _, F7, b7, PySem.W.mg_of X G a7, _, _, F8, b8, PySem.W.mg_of X G a8, _, _, F9, b9, PySem.W.mg_of X G a9, _, _, F10, b10, PySem.W.mg_of X G a10, _, _, F11, b11, PySem.W.mg_of X G a11, _, _, F12, b12, _, _, F13, b13, ⟨a13, i13, k13⟩, _, _, F14, b14, ⟨a14, i14, k14⟩, _, _, F15, b15, ⟨a15, i15, k15⟩, _, _, F16, ds16_2, dv16_2, b16_2, PySem.W.mg_of X G a16, _, _, F17, b17, PySem.W.mg_of X G a17, _, _, F18, b18, PySem.W.mg_of X G a18, _, _, F19, b19, PySem.W.mg_of X G a19, _, _, F20, b20, PySem.W.mg_of X G a20, _, _, F21, b21, PySem.W.mg_of X G a21, _, _, F22, b22, PySem.W.mg_of X G a22, _, _, F23, b23, PySem.W.mg_of X G a23, _, _, F24, b24, PySem.W.mg_of X G a24, _, _, F25, b25, PySem.W.mg_of X G a25, _, _, F26, b26, PySem.W.mg_of X G a26, _, _, F27, b27, PySem.W.mg_of X G a27, _, _, F28, b28, PySem.W.mg_of X G a28, _, _, F29, b29, PySem.W.mg_of X G a29, _, _, F30, b30, PySem.W.mg_of X G a30, _, _, F31, b31, PySem.W.mg_of X G a31, _, _, F32, b32, PySem.W.mg_of X G a32, _, _, F33, b33, PySem.W.mg_of X G a33, ⟨⟨_, _, _, _, _, _, _, _, _, _, _, _, _, _, _, q0XX, rfl⟩, q0sa, q0ec, q0ty, q0kc⟩, a0, q0ti, ⟨q0rd, q0ga, q0fn, k0⟩, ⟨q0x1, q0x2, q0x3, q0ec, q0x5, q0x6, q0x7, q0x8, q0x9⟩, q0nw, q0na, q0em, q0kv, q0kl, ⟨⟨_, _, _, _, _, _, _, _, _, _, _, _, _, _, _, q1XX, rfl⟩, q1sa, q1ec, q1ty, q1kc⟩, a1, q1ti, ⟨q1rd, q1ga, q1fn, k1⟩, ⟨q1x1, q1x2, q1x3, q1ec, q1x5, q1x6, q1x7, q1x8, q1x9⟩, q1nw, q1na, q1em, q1kv, q1kl, ⟨⟨_, _, _, _, _, _, _, _, _, _, _, _, _, _, _, q2XX, rfl⟩, q2sa, q2ec, q2ty, q2kc⟩, a2, q2ti, ⟨q2rd, q2ga, q2fn, k2⟩, ⟨q2x1, q2x2, q2x3, q2ec, q2x5, q2x6, q2x7, q2x8, q2x9⟩, q2nw, q2na, q2em, q2kv, q2kl, ⟨q3pg, q3hd, q3po, q3sa⟩, ⟨q3mk, a12, i12, q3kc⟩, q3no_owner, q3no_stem, q3no_stand_count, q3no_made, vV, kb_p_compiled_2_stem, PySem.W.mg_none_of X G z0, PySem.W.mg_none_of X G z1, PySem.W.mg_none_of X G z2, PySem.W.mg_none_of X G z3, PySem.W.mg_none_of X G z4, PySem.W.mg_none_of X G z5, PySem.W.mg_none_of X G z6, PySem.W.mg_none_of X G z7, PySem.W.mg_none_of X G z8, PySem.W.mg_none_of X G z9, PySem.W.mg_none_of X G z10, PySem.W.mg_none_of X G z11, PySem.W.mg_none_of X G z12, PySem.W.mg_none_of X G z13, PySem.W.mg_none_of X G z14, _, PySem.W.mg_of X G d0, e0, _, PySem.W.mg_of X G d1, e1, _, PySem.W.mg_of X G d2, e2, _, PySem.W.mg_of X G d3, e3, _, PySem.W.mg_of X G d4, kd4, kn4_0, kn4_1, kn4_2, _, PySem.W.mg_of X G d5, e5⟩ (TB _ List.mem_cons_self) rfl⟩
  · intro p hp; rw [List.mem_singleton.mp hp]; exact hTab
  · intro p hp; rw [List.mem_singleton.mp hp]; exact kc3
  · intro p hp; rw [List.mem_singleton.mp hp]; exact PySem.W.codeHd_of_K X kc4
  · intro H a ns hl _ hT hS; exact ⟨a, ns, rfl, hS, hl, hT (cC, PC) List.mem_cons_self, fun _ => rfl⟩
end K48
theorem PySem.Challenge.cw_leakpost_k48_compiled_moves_holds : PySem.Challenge.rw_leakpost_k48_compiled_moves.Holds :=
  fin_of @K48.all_mk
