import PyProof.Rows.All
import Wide.All
import OpenK.AllK
import Wide.FinOn
import KE.OsRunLaw
import HandS.Head2
import HandS.ForMost
import HandS.Walk
import HandS.Zip
import HandS.IsInst
import HandS.StrMore
import HandS.Evl
import HandS.Codes
import HandS.Defaults
import HandS.Dict
import HandS.DictComp
import HandS.DictTup
import HandS.EndOwn
import HandS.ExcField
import HandS.ExcInit
import HandS.ExcIs
import HandS.Flow
import HandS.HeadHook3
import HandS.Iter
import HandS.Lambda
import HandS.More
import HandS.Replace
import HandS.Sort
import HandS.SortInts
import HandS.SortKw
import HandS.SortOrd
import HandS.TupLe
import KE.KDictKeyed
import KE.KSortKey
import KE.KSortKeySt
import KE.KSortTupG
import HandS.Set
import HandS.SetFor
import HandS.SetTxt0
import HandS.Style
import HandS.TupAny
import HandS.TupSets
import HandS.WordsExc
import HandS.MakeKwOnly
import HandS.TryOnly
import KE.KDictWalk
import KE.KExcIs
import KE.KRevSl
import KE.GoesEnum
import PyProof.ListStr
import PyProof.Rows.SortShellAny
import HandS.FStr
import HandS.Deep
import HandS.Text
import KE.KDictPairs
import HandS.IsInst
import HandS.OwnEq
import KE.KeyNested
import PyProof.StrWalks
import PySem.Challenge.RW_leakpost_k29_which_are_products
set_option Elab.async false
set_option linter.all false
set_option maxRecDepth 100000
namespace K29
open PySem PySem.Spec PyProof.Rows L2
def topS (i : Nat) : Stmt := PySem.Challenge.pw_leakpost_k29_which_are_products.main.body.getD i (.Pass ⟨0, 0, 0, 0⟩)
def clsS (i j : Nat) : Stmt := (C8.clsBody (topS i)).getD j (.Pass ⟨0, 0, 0, 0⟩)
abbrev s_LeakError_init : Stmt := clsS 1 0
abbrev N_LeakError_init : List Str := ["self", "at", "word"]
abbrev P_LeakError_init : List Str := ["self", "at", "word"]
theorem sc_LeakError_init : FnScope N_LeakError_init P_LeakError_init (defScope s_LeakError_init) := ⟨rfl, rfl, rfl, by decide +kernel, rfl, by decide +kernel, by decide +kernel⟩
abbrev s_BadWord_init : Stmt := clsS 2 0
abbrev N_BadWord_init : List Str := ["self", "at"]
abbrev P_BadWord_init : List Str := ["self", "at"]
theorem sc_BadWord_init : FnScope N_BadWord_init P_BadWord_init (defScope s_BadWord_init) := ⟨rfl, rfl, rfl, by decide +kernel, rfl, by decide +kernel, by decide +kernel⟩
abbrev s_BadAtom_init : Stmt := clsS 3 0
abbrev N_BadAtom_init : List Str := ["self", "at"]
abbrev P_BadAtom_init : List Str := ["self", "at"]
theorem sc_BadAtom_init : FnScope N_BadAtom_init P_BadAtom_init (defScope s_BadAtom_init) := ⟨rfl, rfl, rfl, by decide +kernel, rfl, by decide +kernel, by decide +kernel⟩
abbrev s_p_is_word : Stmt := topS 6
abbrev N_p_is_word : List Str := ["text", "sign"]
abbrev P_p_is_word : List Str := ["text"]
theorem sc_p_is_word : FnScope N_p_is_word P_p_is_word (defScope s_p_is_word) := ⟨rfl, rfl, rfl, by decide +kernel, rfl, by decide +kernel, by decide +kernel⟩
abbrev s_p_is_letter : Stmt := topS 7
abbrev N_p_is_letter : List Str := ["text"]
abbrev P_p_is_letter : List Str := ["text"]
theorem sc_p_is_letter : FnScope N_p_is_letter P_p_is_letter (defScope s_p_is_letter) := ⟨rfl, rfl, rfl, by decide +kernel, rfl, by decide +kernel, by decide +kernel⟩
abbrev s_p_is_rising : Stmt := topS 9
abbrev N_p_is_rising : List Str := ["text", "low", "high"]
abbrev P_p_is_rising : List Str := ["text"]
theorem sc_p_is_rising : FnScope N_p_is_rising P_p_is_rising (defScope s_p_is_rising) := ⟨rfl, rfl, rfl, by decide +kernel, rfl, by decide +kernel, by decide +kernel⟩
abbrev s_p_is_atom : Stmt := topS 10
abbrev N_p_is_atom : List Str := ["letters", "many"]
abbrev P_p_is_atom : List Str := ["letters", "many"]
theorem sc_p_is_atom : FnScope N_p_is_atom P_p_is_atom (defScope s_p_is_atom) := ⟨rfl, rfl, rfl, by decide +kernel, rfl, by decide +kernel, by decide +kernel⟩
abbrev s_p_is_product : Stmt := topS 11
abbrev N_p_is_product : List Str := ["thing", "letters", "many"]
abbrev P_p_is_product : List Str := ["thing"]
theorem sc_p_is_product : FnScope N_p_is_product P_p_is_product (defScope s_p_is_product) := ⟨rfl, rfl, rfl, by decide +kernel, rfl, by decide +kernel, by decide +kernel⟩
abbrev s_p_check_product : Stmt := topS 12
abbrev N_p_check_product : List Str := ["product"]
abbrev P_p_check_product : List Str := ["product"]
theorem sc_p_check_product : FnScope N_p_check_product P_p_check_product (defScope s_p_check_product) := ⟨rfl, rfl, rfl, by decide +kernel, rfl, by decide +kernel, by decide +kernel⟩
abbrev s_p_check_letter : Stmt := topS 13
abbrev N_p_check_letter : List Str := ["letter"]
abbrev P_p_check_letter : List Str := ["letter"]
theorem sc_p_check_letter : FnScope N_p_check_letter P_p_check_letter (defScope s_p_check_letter) := ⟨rfl, rfl, rfl, by decide +kernel, rfl, by decide +kernel, by decide +kernel⟩
abbrev s_p_takes_in : Stmt := topS 14
abbrev N_p_takes_in : List Str := ["great", "small", "letter"]
abbrev P_p_takes_in : List Str := ["great", "small"]
theorem sc_p_takes_in : FnScope N_p_takes_in P_p_takes_in (defScope s_p_takes_in) := ⟨rfl, rfl, rfl, by decide +kernel, rfl, by decide +kernel, by decide +kernel⟩
abbrev s_p_has_word : Stmt := topS 15
abbrev N_p_has_word : List Str := ["product", "word", "at", "letters", "many"]
abbrev P_p_has_word : List Str := ["product", "word"]
theorem sc_p_has_word : FnScope N_p_has_word P_p_has_word (defScope s_p_has_word) := ⟨rfl, rfl, rfl, by decide +kernel, rfl, by decide +kernel, by decide +kernel⟩
abbrev s_p_holds : Stmt := topS 16
abbrev N_p_holds : List Str := ["product", "word"]
abbrev P_p_holds : List Str := ["product", "word"]
theorem sc_p_holds : FnScope N_p_holds P_p_holds (defScope s_p_holds) := ⟨rfl, rfl, rfl, by decide +kernel, rfl, by decide +kernel, by decide +kernel⟩
abbrev s_p_lies_inside : Stmt := topS 17
abbrev N_p_lies_inside : List Str := ["one", "other", "size", "at", "atom"]
abbrev P_p_lies_inside : List Str := ["one", "other"]
theorem sc_p_lies_inside : FnScope N_p_lies_inside P_p_lies_inside (defScope s_p_lies_inside) := ⟨rfl, rfl, rfl, by decide +kernel, rfl, by decide +kernel, by decide +kernel⟩
abbrev s_p_inside : Stmt := topS 18
abbrev N_p_inside : List Str := ["one", "other"]
abbrev P_p_inside : List Str := ["one", "other"]
theorem sc_p_inside : FnScope N_p_inside P_p_inside (defScope s_p_inside) := ⟨rfl, rfl, rfl, by decide +kernel, rfl, by decide +kernel, by decide +kernel⟩
abbrev s_p_made_plain : Stmt := topS 19
abbrev N_p_made_plain : List Str := ["atoms", "kept", "atom"]
abbrev P_p_made_plain : List Str := ["atoms"]
theorem sc_p_made_plain : FnScope N_p_made_plain P_p_made_plain (defScope s_p_made_plain) := ⟨rfl, rfl, rfl, by decide +kernel, rfl, by decide +kernel, by decide +kernel⟩
abbrev s_p_plain : Stmt := topS 20
abbrev N_p_plain : List Str := ["product"]
abbrev P_p_plain : List Str := ["product"]
theorem sc_p_plain : FnScope N_p_plain P_p_plain (defScope s_p_plain) := ⟨rfl, rfl, rfl, by decide +kernel, rfl, by decide +kernel, by decide +kernel⟩
abbrev s_p_with_letter : Stmt := topS 21
abbrev N_p_with_letter : List Str := ["product", "letter"]
abbrev P_p_with_letter : List Str := ["product", "letter"]
theorem sc_p_with_letter : FnScope N_p_with_letter P_p_with_letter (defScope s_p_with_letter) := ⟨rfl, rfl, rfl, by decide +kernel, rfl, by decide +kernel, by decide +kernel⟩
abbrev s_p_sent : Stmt := topS 22
abbrev N_p_sent : List Str := ["product", "letter"]
abbrev P_p_sent : List Str := ["product", "letter"]
theorem sc_p_sent : FnScope N_p_sent P_p_sent (defScope s_p_sent) := ⟨rfl, rfl, rfl, by decide +kernel, rfl, by decide +kernel, by decide +kernel⟩
abbrev s_p_left_behind : Stmt := topS 23
abbrev N_p_left_behind : List Str := ["product", "letter", "at", "letters", "many"]
abbrev P_p_left_behind : List Str := ["product", "letter"]
theorem sc_p_left_behind : FnScope N_p_left_behind P_p_left_behind (defScope s_p_left_behind) := ⟨rfl, rfl, rfl, by decide +kernel, rfl, by decide +kernel, by decide +kernel⟩
abbrev s_p_taken : Stmt := topS 24
abbrev N_p_taken : List Str := ["product", "letter"]
abbrev P_p_taken : List Str := ["product", "letter"]
theorem sc_p_taken : FnScope N_p_taken P_p_taken (defScope s_p_taken) := ⟨rfl, rfl, rfl, by decide +kernel, rfl, by decide +kernel, by decide +kernel⟩
abbrev s_p_with_any : Stmt := topS 25
abbrev N_p_with_any : List Str := ["product", "letters"]
abbrev P_p_with_any : List Str := ["product", "letters"]
theorem sc_p_with_any : FnScope N_p_with_any P_p_with_any (defScope s_p_with_any) := ⟨rfl, rfl, rfl, by decide +kernel, rfl, by decide +kernel, by decide +kernel⟩
abbrev s_p_swollen : Stmt := topS 26
abbrev N_p_swollen : List Str := ["product", "letters"]
abbrev P_p_swollen : List Str := ["product", "letters"]
theorem sc_p_swollen : FnScope N_p_swollen P_p_swollen (defScope s_p_swollen) := ⟨rfl, rfl, rfl, by decide +kernel, rfl, by decide +kernel, by decide +kernel⟩
abbrev s_p_product_of : Stmt := topS 27
abbrev N_p_product_of : List Str := ["word", "letter"]
abbrev P_p_product_of : List Str := ["word"]
theorem sc_p_product_of : FnScope N_p_product_of P_p_product_of (defScope s_p_product_of) := ⟨rfl, rfl, rfl, by decide +kernel, rfl, by decide +kernel, by decide +kernel⟩
abbrev s_p_product_text : Stmt := topS 28
abbrev N_p_product_text : List Str := ["product", "letters", "many"]
abbrev P_p_product_text : List Str := ["product"]
theorem sc_p_product_text : FnScope N_p_product_text P_p_product_text (defScope s_p_product_text) := ⟨rfl, rfl, rfl, by decide +kernel, rfl, by decide +kernel, by decide +kernel⟩
abbrev s_bag : Stmt := topS 30
abbrev N_bag : List Str := ["_law_script", "_law_seed", "_law_cell"]
abbrev P_bag : List Str := ["_law_script"]
theorem sc_bag : FnScope N_bag P_bag (defScope s_bag) := ⟨rfl, rfl, rfl, by decide +kernel, rfl, by decide +kernel, by decide +kernel⟩
abbrev s_pull : Stmt := topS 31
abbrev N_pull : List Str := ["_law_bag_here", "_law_many", "_law_rest", "_law_cell", "_law_one", "_law_two"]
abbrev P_pull : List Str := ["_law_bag_here", "_law_many"]
theorem sc_pull : FnScope N_pull P_pull (defScope s_pull) := ⟨rfl, rfl, rfl, by decide +kernel, rfl, by decide +kernel, by decide +kernel⟩
abbrev s_of : Stmt := topS 32
abbrev N_of : List Str := ["_law_bag_here", "_law_some"]
abbrev P_of : List Str := ["_law_bag_here", "_law_some"]
theorem sc_of : FnScope N_of P_of (defScope s_of) := ⟨rfl, rfl, rfl, by decide +kernel, rfl, by decide +kernel, by decide +kernel⟩
abbrev s_same : Stmt := topS 33
abbrev N_same : List Str := ["_law_found", "_law_due", "_law_a", "_law_b"]
abbrev P_same : List Str := ["_law_found", "_law_due"]
theorem sc_same : FnScope N_same P_same (defScope s_same) := ⟨rfl, rfl, rfl, by decide +kernel, rfl, by decide +kernel, by decide +kernel⟩
abbrev s_letters : Stmt := topS 34
abbrev N_letters : List Str := ["_law_bag_here", "_law_alphabet", "_law_first", "_law_by", "_law_k"]
abbrev P_letters : List Str := ["_law_bag_here"]
theorem sc_letters : FnScope N_letters P_letters (defScope s_letters) := ⟨rfl, rfl, rfl, by decide +kernel, rfl, by decide +kernel, by decide +kernel⟩
abbrev s_refusal : Stmt := topS 35
abbrev N_refusal : List Str := ["_law_ask", "_law_found", "e"]
abbrev P_refusal : List Str := ["_law_ask"]
theorem sc_refusal : FnScope N_refusal P_refusal (defScope s_refusal) := ⟨rfl, rfl, rfl, by decide +kernel, rfl, by decide +kernel, by decide +kernel⟩
abbrev s_product : Stmt := topS 36
abbrev N_product : List Str := ["_law_bag_here", "_law_letters_here", "_law_top", "_law_found", "_law_k", "_law_some", "_law_many", "_law_letter"]
abbrev P_product : List Str := ["_law_bag_here", "_law_letters_here", "_law_top"]
theorem sc_product : FnScope N_product P_product (defScope s_product) := ⟨rfl, rfl, rfl, by decide +kernel, rfl, by decide +kernel, by decide +kernel⟩
abbrev s_bent_product : Stmt := topS 37
abbrev N_bent_product : List Str := ["_law_bag_here", "_law_product_here", "_law_at", "_law_odd"]
abbrev P_bent_product : List Str := ["_law_bag_here", "_law_product_here"]
theorem sc_bent_product : FnScope N_bent_product P_bent_product (defScope s_bent_product) := ⟨rfl, rfl, rfl, by decide +kernel, rfl, by decide +kernel, by decide +kernel⟩
abbrev s_atoms_good : Stmt := topS 38
abbrev N_atoms_good : List Str := ["_law_product_here", "_law_letters_here", "_law_many", "_law_letter"]
abbrev P_atoms_good : List Str := ["_law_product_here"]
theorem sc_atoms_good : FnScope N_atoms_good P_atoms_good (defScope s_atoms_good) := ⟨rfl, rfl, rfl, by decide +kernel, rfl, by decide +kernel, by decide +kernel⟩
abbrev s_law : Stmt := topS 39
abbrev N_law : List Str := ["_law_script", "_law_bag_here", "_law_letters_here", "_law_turn", "_law_thing", "_law_asks", "_law_bad", "_law_good", "_law_odd", "_law_ask"]
abbrev P_law : List Str := ["_law_script"]
theorem sc_law : FnScope N_law P_law (defScope s_law) := ⟨rfl, rfl, rfl, by decide +kernel, rfl, by decide +kernel, by decide +kernel⟩
def AllMk : Prop := ∀ {l : PySem.W.OpenLaw} {w : World} {K : PySem.W.Frag} {h : Heap} {mg : Str → Option Value} {fa : Addr} (X : K.In h) (G : h.Ns mainGlobals mg) (hfa : mg "law" = some (.ref fa))
    {cC PC : Addr} {eC : Value} {dC : Option Addr} {vC : Array Value} {sC : Array (Option Value)}
    {f0 : Addr} {od0 an0 : Option Addr} {sl0 : Array (Option Value)} {oc0 kV0 dc0 pm0 cd0 ct0 : Value}
    {td0 : Addr} {ot0 : Value} {ht0 : Option Addr} {st0 : Array (Option Value)} {nt0 : Nat}
    {w0_0 : Tok}
    {w0_1 : Tok}
    {f1 : Addr} {od1 an1 : Option Addr} {sl1 : Array (Option Value)} {oc1 kV1 dc1 pm1 cd1 ct1 : Value}
    {td1 : Addr} {ot1 : Value} {ht1 : Option Addr} {st1 : Array (Option Value)} {nt1 : Nat}
    {w1_0 : Tok}
    {f2 : Addr} {od2 an2 : Option Addr} {sl2 : Array (Option Value)} {oc2 kV2 dc2 pm2 cd2 ct2 : Value}
    {td2 : Addr} {ot2 : Value} {ht2 : Option Addr} {st2 : Array (Option Value)} {nt2 : Nat}
    {w2_0 : Tok}
    {f3 : Addr} {od3 an3 : Option Addr} {sl3 : Array (Option Value)} {oc3 kV3 dc3 pm3 cd3 ct3 : Value}
    {f4 : Addr} {od4 an4 : Option Addr} {sl4 : Array (Option Value)} {oc4 kV4 dc4 pm4 cd4 ct4 : Value}
    {f5 : Addr} {od5 an5 : Option Addr} {sl5 : Array (Option Value)} {oc5 kV5 dc5 pm5 cd5 ct5 : Value}
    {f6 : Addr} {od6 an6 : Option Addr} {sl6 : Array (Option Value)} {oc6 kV6 dc6 pm6 cd6 ct6 : Value}
    {f7 : Addr} {od7 an7 : Option Addr} {sl7 : Array (Option Value)} {oc7 kV7 dc7 pm7 cd7 ct7 : Value}
    {f8 : Addr} {od8 an8 : Option Addr} {sl8 : Array (Option Value)} {oc8 kV8 dc8 pm8 cd8 ct8 : Value}
    {f9 : Addr} {od9 an9 : Option Addr} {sl9 : Array (Option Value)} {oc9 kV9 dc9 pm9 cd9 ct9 : Value}
    {f10 : Addr} {od10 an10 : Option Addr} {sl10 : Array (Option Value)} {oc10 kV10 dc10 pm10 cd10 ct10 : Value}
    {f11 : Addr} {od11 an11 : Option Addr} {sl11 : Array (Option Value)} {oc11 kV11 dc11 pm11 cd11 ct11 : Value}
    {f12 : Addr} {od12 an12 : Option Addr} {sl12 : Array (Option Value)} {oc12 kV12 dc12 pm12 cd12 ct12 : Value}
    {f13 : Addr} {od13 an13 : Option Addr} {sl13 : Array (Option Value)} {oc13 kV13 dc13 pm13 cd13 ct13 : Value}
    {f14 : Addr} {od14 an14 : Option Addr} {sl14 : Array (Option Value)} {oc14 kV14 dc14 pm14 cd14 ct14 : Value}
    {f15 : Addr} {od15 an15 : Option Addr} {sl15 : Array (Option Value)} {oc15 kV15 dc15 pm15 cd15 ct15 : Value}
    {f16 : Addr} {od16 an16 : Option Addr} {sl16 : Array (Option Value)} {oc16 kV16 dc16 pm16 cd16 ct16 : Value}
    {f17 : Addr} {od17 an17 : Option Addr} {sl17 : Array (Option Value)} {oc17 kV17 dc17 pm17 cd17 ct17 : Value}
    {f18 : Addr} {od18 an18 : Option Addr} {sl18 : Array (Option Value)} {oc18 kV18 dc18 pm18 cd18 ct18 : Value}
    {f19 : Addr} {od19 an19 : Option Addr} {sl19 : Array (Option Value)} {oc19 kV19 dc19 pm19 cd19 ct19 : Value}
    {f20 : Addr} {od20 an20 : Option Addr} {sl20 : Array (Option Value)} {oc20 kV20 dc20 pm20 cd20 ct20 : Value}
    {f21 : Addr} {od21 an21 : Option Addr} {sl21 : Array (Option Value)} {oc21 kV21 dc21 pm21 cd21 ct21 : Value}
    {f22 : Addr} {od22 an22 : Option Addr} {sl22 : Array (Option Value)} {oc22 kV22 dc22 pm22 cd22 ct22 : Value}
    {f23 : Addr} {od23 an23 : Option Addr} {sl23 : Array (Option Value)} {oc23 kV23 dc23 pm23 cd23 ct23 : Value}
    {f24 : Addr} {od24 an24 : Option Addr} {sl24 : Array (Option Value)} {oc24 kV24 dc24 pm24 cd24 ct24 : Value}
    {f25 : Addr} {od25 an25 : Option Addr} {sl25 : Array (Option Value)} {oc25 kV25 dc25 pm25 cd25 ct25 : Value}
    {f26 : Addr} {od26 an26 : Option Addr} {sl26 : Array (Option Value)} {oc26 kV26 dc26 pm26 cd26 ct26 : Value}
    {f27 : Addr} {od27 an27 : Option Addr} {sl27 : Array (Option Value)} {oc27 kV27 dc27 pm27 cd27 ct27 : Value}
    {f28 : Addr} {od28 an28 : Option Addr} {sl28 : Array (Option Value)} {oc28 kV28 dc28 pm28 cd28 ct28 : Value}
    {f29 : Addr} {od29 an29 : Option Addr} {sl29 : Array (Option Value)} {oc29 kV29 dc29 pm29 cd29 ct29 : Value}
    {f30 : Addr} {od30 an30 : Option Addr} {sl30 : Array (Option Value)} {oc30 kV30 dc30 pm30 cd30 ct30 : Value}
    {f31 : Addr} {od31 an31 : Option Addr} {sl31 : Array (Option Value)} {oc31 kV31 dc31 pm31 cd31 ct31 : Value}
    {f32 : Addr} {od32 an32 : Option Addr} {sl32 : Array (Option Value)} {oc32 kV32 dc32 pm32 cd32 ct32 : Value}
    {f33 : Addr} {od33 an33 : Option Addr} {sl33 : Array (Option Value)} {oc33 kV33 dc33 pm33 cd33 ct33 : Value}
    {f34 : Addr} {od34 an34 : Option Addr} {sl34 : Array (Option Value)} {oc34 kV34 dc34 pm34 ct34 : Value}
    {q0 : Addr}
    {q1 : Addr}
    {q2 : Addr}
    {q0nm q0qn : Str} {q0N : Addr} {q0bs q0sub : List Value} {q0sn : List Str} {q0ab : Bool} {q0col : Option Bool} {q0dd : Option Addr} {q0m0 q0m1 q0m2 q0m3 q0m5 : Option Value}
    {q1nm q1qn : Str} {q1N : Addr} {q1bs q1sub : List Value} {q1sn : List Str} {q1ab : Bool} {q1col : Option Bool} {q1dd : Option Addr} {q1m0 q1m1 q1m2 q1m3 q1m5 : Option Value}
    {q2nm q2qn : Str} {q2N : Addr} {q2bs q2sub : List Value} {q2sn : List Str} {q2ab : Bool} {q2col : Option Bool} {q2dd : Option Addr} {q2m0 q2m1 q2m2 q2m3 q2m5 : Option Value}
    (q0C : PySem.W.nsIn K mainGlobals "LeakError" = some (some (.ref q0)))
    (q0XX : K.lookup q0 = some (excClassObj q0nm q0qn q0 q0N q0bs [.type "ValueError", .type "Exception", .type "BaseException", .type "object"] true q0sn q0sub q0ab q0col q0dd q0m0 q0m1 q0m2 q0m3 q0m5 "ValueError.__new__"))
    (q0sa : PySem.W.findIn K (.ref q0) "__setattr__" = some (some (.builtin "object.__setattr__")))
    (q0ec : PySem.W.subIn K (.ref q0) (.type "BaseException") = some true)
    (q0ty : PySem.W.typeIn K (.ref q0) = some (.type "type"))
    (q0kc : PySem.W.keepIn K (.ref q0) = true)
    (q0rd : PySem.W.readsIn K q0 (.type "type") = true)
    (q0ga : PySem.W.specialIn K (.ref q0) "__getattribute__" = some (some (.builtin "type.__getattribute__")))
    (q0x1 : (PySem.W.clsIn K q0).isSome = true)
    (q0x2 : PySem.W.findIn K (.ref q0) "__getattribute__" = some (some (.builtin "BaseException.__getattribute__")))
    (q0x3 : PySem.W.findIn K (.ref q0) "__getattr__" = some none)
    (q0x5 : PySem.W.findIn K (.ref q0) "__class__" = some (some (.builtin "object.__class__")))
    (q0x6 : PySem.W.specialIn K (.builtin "object.__class__") "__get__" = some (some (.builtin "getset_descriptor.__get__")))
    (q0x7 : PySem.W.takesIn K (.builtin "object.__class__") = some true)
    (q0x8 : PySem.W.mroIn K q0 (.type "object") = some true)
    (q0x9 : PySem.W.hasDictIn K q0 = true)
    (q0nw : PySem.W.findIn K (.ref q0) "word" = some none)
    (q0na : PySem.W.findIn K (.ref q0) "at" = some none)
    (q0kv : PySem.W.kitOne K (.ref q0) (.type "ValueError") = some true)
    (q0kl : PySem.W.kitOne K (.ref q0) (.type "LookupError") = some false)
    (q1C : PySem.W.nsIn K mainGlobals "BadWord" = some (some (.ref q1)))
    (q1XX : K.lookup q1 = some (excClassObj q1nm q1qn q1 q1N q1bs [.ref q0, .type "ValueError", .type "Exception", .type "BaseException", .type "object"] true q1sn q1sub q1ab q1col q1dd q1m0 q1m1 q1m2 q1m3 q1m5 "ValueError.__new__"))
    (q1sa : PySem.W.findIn K (.ref q1) "__setattr__" = some (some (.builtin "object.__setattr__")))
    (q1ec : PySem.W.subIn K (.ref q1) (.type "BaseException") = some true)
    (q1ty : PySem.W.typeIn K (.ref q1) = some (.type "type"))
    (q1kc : PySem.W.keepIn K (.ref q1) = true)
    (q1rd : PySem.W.readsIn K q1 (.type "type") = true)
    (q1ga : PySem.W.specialIn K (.ref q1) "__getattribute__" = some (some (.builtin "type.__getattribute__")))
    (q1x1 : (PySem.W.clsIn K q1).isSome = true)
    (q1x2 : PySem.W.findIn K (.ref q1) "__getattribute__" = some (some (.builtin "BaseException.__getattribute__")))
    (q1x3 : PySem.W.findIn K (.ref q1) "__getattr__" = some none)
    (q1x5 : PySem.W.findIn K (.ref q1) "__class__" = some (some (.builtin "object.__class__")))
    (q1x6 : PySem.W.specialIn K (.builtin "object.__class__") "__get__" = some (some (.builtin "getset_descriptor.__get__")))
    (q1x7 : PySem.W.takesIn K (.builtin "object.__class__") = some true)
    (q1x8 : PySem.W.mroIn K q1 (.type "object") = some true)
    (q1x9 : PySem.W.hasDictIn K q1 = true)
    (q1nw : PySem.W.findIn K (.ref q1) "word" = some none)
    (q1na : PySem.W.findIn K (.ref q1) "at" = some none)
    (q1kv : PySem.W.kitOne K (.ref q1) (.type "ValueError") = some true)
    (q1kl : PySem.W.kitOne K (.ref q1) (.type "LookupError") = some false)
    (q2C : PySem.W.nsIn K mainGlobals "BadAtom" = some (some (.ref q2)))
    (q2XX : K.lookup q2 = some (excClassObj q2nm q2qn q2 q2N q2bs [.ref q0, .type "ValueError", .type "Exception", .type "BaseException", .type "object"] true q2sn q2sub q2ab q2col q2dd q2m0 q2m1 q2m2 q2m3 q2m5 "ValueError.__new__"))
    (q2sa : PySem.W.findIn K (.ref q2) "__setattr__" = some (some (.builtin "object.__setattr__")))
    (q2ec : PySem.W.subIn K (.ref q2) (.type "BaseException") = some true)
    (q2ty : PySem.W.typeIn K (.ref q2) = some (.type "type"))
    (q2kc : PySem.W.keepIn K (.ref q2) = true)
    (q2rd : PySem.W.readsIn K q2 (.type "type") = true)
    (q2ga : PySem.W.specialIn K (.ref q2) "__getattribute__" = some (some (.builtin "type.__getattribute__")))
    (q2x1 : (PySem.W.clsIn K q2).isSome = true)
    (q2x2 : PySem.W.findIn K (.ref q2) "__getattribute__" = some (some (.builtin "BaseException.__getattribute__")))
    (q2x3 : PySem.W.findIn K (.ref q2) "__getattr__" = some none)
    (q2x5 : PySem.W.findIn K (.ref q2) "__class__" = some (some (.builtin "object.__class__")))
    (q2x6 : PySem.W.specialIn K (.builtin "object.__class__") "__get__" = some (some (.builtin "getset_descriptor.__get__")))
    (q2x7 : PySem.W.takesIn K (.builtin "object.__class__") = some true)
    (q2x8 : PySem.W.mroIn K q2 (.type "object") = some true)
    (q2x9 : PySem.W.hasDictIn K q2 = true)
    (q2nw : PySem.W.findIn K (.ref q2) "word" = some none)
    (q2na : PySem.W.findIn K (.ref q2) "at" = some none)
    (q2kv : PySem.W.kitOne K (.ref q2) (.type "ValueError") = some true)
    (q2kl : PySem.W.kitOne K (.ref q2) (.type "LookupError") = some false)
    (vV : PySem.W.findCls K (.type "ValueError") (.type "type") "__init__" = some (.val (.builtin "ValueError.__init__")))
    (a0 : PySem.W.findIn K (.ref q0) "__init__" = some (some (.ref f0)))
    (i0 : PySem.W.isFn K (.ref f0) = true)
    (l0 : K.lookup f0 = some ⟨oc0, od0, .func (PySem.W.fnOf "__init__" "LeakError.__init__" (defArgs s_LeakError_init) (defBody s_LeakError_init) (defScope s_LeakError_init) (.ref td0) kV0 dc0 pm0 an0 cd0 ct0), sl0⟩)
    (c0 : PySem.W.codeIn K cd0 "LeakError.__init__" = true)
    (k0 : PySem.W.keepIn K (.ref f0) = true)
    (t0 : K.lookup td0 = some ⟨ot0, ht0, .seq ([.int (-1) w0_0, .str (PySem.Str.ofString "leakerror") w0_1] : List Value).toArray nt0, st0⟩)
    (a1 : PySem.W.findIn K (.ref q1) "__init__" = some (some (.ref f1)))
    (i1 : PySem.W.isFn K (.ref f1) = true)
    (l1 : K.lookup f1 = some ⟨oc1, od1, .func (PySem.W.fnOf "__init__" "BadWord.__init__" (defArgs s_BadWord_init) (defBody s_BadWord_init) (defScope s_BadWord_init) (.ref td1) kV1 dc1 pm1 an1 cd1 ct1), sl1⟩)
    (c1 : PySem.W.codeIn K cd1 "BadWord.__init__" = true)
    (k1 : PySem.W.keepIn K (.ref f1) = true)
    (t1 : K.lookup td1 = some ⟨ot1, ht1, .seq ([.int (-1) w1_0] : List Value).toArray nt1, st1⟩)
    (a2 : PySem.W.findIn K (.ref q2) "__init__" = some (some (.ref f2)))
    (i2 : PySem.W.isFn K (.ref f2) = true)
    (l2 : K.lookup f2 = some ⟨oc2, od2, .func (PySem.W.fnOf "__init__" "BadAtom.__init__" (defArgs s_BadAtom_init) (defBody s_BadAtom_init) (defScope s_BadAtom_init) (.ref td2) kV2 dc2 pm2 an2 cd2 ct2), sl2⟩)
    (c2 : PySem.W.codeIn K cd2 "BadAtom.__init__" = true)
    (k2 : PySem.W.keepIn K (.ref f2) = true)
    (t2 : K.lookup td2 = some ⟨ot2, ht2, .seq ([.int (-1) w2_0] : List Value).toArray nt2, st2⟩)
    (a3 : PySem.W.nsIn K mainGlobals "is_word" = some (some (.ref f3)))
    (l3 : K.lookup f3 = some ⟨oc3, od3, .func (PySem.W.fnOf "is_word" "is_word" (defArgs s_p_is_word) (defBody s_p_is_word) (defScope s_p_is_word) .none kV3 dc3 pm3 an3 cd3 ct3), sl3⟩)
    (c3 : PySem.W.codeIn K cd3 "is_word" = true)
    (k3 : PySem.W.keepIn K (.ref f3) = true)
    (a4 : PySem.W.nsIn K mainGlobals "is_letter" = some (some (.ref f4)))
    (l4 : K.lookup f4 = some ⟨oc4, od4, .func (PySem.W.fnOf "is_letter" "is_letter" (defArgs s_p_is_letter) (defBody s_p_is_letter) (defScope s_p_is_letter) .none kV4 dc4 pm4 an4 cd4 ct4), sl4⟩)
    (c4 : PySem.W.codeIn K cd4 "is_letter" = true)
    (k4 : PySem.W.keepIn K (.ref f4) = true)
    (a5 : PySem.W.nsIn K mainGlobals "is_rising" = some (some (.ref f5)))
    (l5 : K.lookup f5 = some ⟨oc5, od5, .func (PySem.W.fnOf "is_rising" "is_rising" (defArgs s_p_is_rising) (defBody s_p_is_rising) (defScope s_p_is_rising) .none kV5 dc5 pm5 an5 cd5 ct5), sl5⟩)
    (c5 : PySem.W.codeIn K cd5 "is_rising" = true)
    (k5 : PySem.W.keepIn K (.ref f5) = true)
    (a6 : PySem.W.nsIn K mainGlobals "is_atom" = some (some (.ref f6)))
    (l6 : K.lookup f6 = some ⟨oc6, od6, .func (PySem.W.fnOf "is_atom" "is_atom" (defArgs s_p_is_atom) (defBody s_p_is_atom) (defScope s_p_is_atom) .none kV6 dc6 pm6 an6 cd6 ct6), sl6⟩)
    (c6 : PySem.W.codeIn K cd6 "is_atom" = true)
    (k6 : PySem.W.keepIn K (.ref f6) = true)
    (a7 : PySem.W.nsIn K mainGlobals "is_product" = some (some (.ref f7)))
    (l7 : K.lookup f7 = some ⟨oc7, od7, .func (PySem.W.fnOf "is_product" "is_product" (defArgs s_p_is_product) (defBody s_p_is_product) (defScope s_p_is_product) .none kV7 dc7 pm7 an7 cd7 ct7), sl7⟩)
    (c7 : PySem.W.codeIn K cd7 "is_product" = true)
    (k7 : PySem.W.keepIn K (.ref f7) = true)
    (a8 : PySem.W.nsIn K mainGlobals "check_product" = some (some (.ref f8)))
    (l8 : K.lookup f8 = some ⟨oc8, od8, .func (PySem.W.fnOf "check_product" "check_product" (defArgs s_p_check_product) (defBody s_p_check_product) (defScope s_p_check_product) .none kV8 dc8 pm8 an8 cd8 ct8), sl8⟩)
    (c8 : PySem.W.codeIn K cd8 "check_product" = true)
    (k8 : PySem.W.keepIn K (.ref f8) = true)
    (a9 : PySem.W.nsIn K mainGlobals "check_letter" = some (some (.ref f9)))
    (l9 : K.lookup f9 = some ⟨oc9, od9, .func (PySem.W.fnOf "check_letter" "check_letter" (defArgs s_p_check_letter) (defBody s_p_check_letter) (defScope s_p_check_letter) .none kV9 dc9 pm9 an9 cd9 ct9), sl9⟩)
    (c9 : PySem.W.codeIn K cd9 "check_letter" = true)
    (k9 : PySem.W.keepIn K (.ref f9) = true)
    (a10 : PySem.W.nsIn K mainGlobals "takes_in" = some (some (.ref f10)))
    (l10 : K.lookup f10 = some ⟨oc10, od10, .func (PySem.W.fnOf "takes_in" "takes_in" (defArgs s_p_takes_in) (defBody s_p_takes_in) (defScope s_p_takes_in) .none kV10 dc10 pm10 an10 cd10 ct10), sl10⟩)
    (c10 : PySem.W.codeIn K cd10 "takes_in" = true)
    (k10 : PySem.W.keepIn K (.ref f10) = true)
    (a11 : PySem.W.nsIn K mainGlobals "has_word" = some (some (.ref f11)))
    (l11 : K.lookup f11 = some ⟨oc11, od11, .func (PySem.W.fnOf "has_word" "has_word" (defArgs s_p_has_word) (defBody s_p_has_word) (defScope s_p_has_word) .none kV11 dc11 pm11 an11 cd11 ct11), sl11⟩)
    (c11 : PySem.W.codeIn K cd11 "has_word" = true)
    (k11 : PySem.W.keepIn K (.ref f11) = true)
    (a12 : PySem.W.nsIn K mainGlobals "holds" = some (some (.ref f12)))
    (l12 : K.lookup f12 = some ⟨oc12, od12, .func (PySem.W.fnOf "holds" "holds" (defArgs s_p_holds) (defBody s_p_holds) (defScope s_p_holds) .none kV12 dc12 pm12 an12 cd12 ct12), sl12⟩)
    (c12 : PySem.W.codeIn K cd12 "holds" = true)
    (k12 : PySem.W.keepIn K (.ref f12) = true)
    (a13 : PySem.W.nsIn K mainGlobals "lies_inside" = some (some (.ref f13)))
    (l13 : K.lookup f13 = some ⟨oc13, od13, .func (PySem.W.fnOf "lies_inside" "lies_inside" (defArgs s_p_lies_inside) (defBody s_p_lies_inside) (defScope s_p_lies_inside) .none kV13 dc13 pm13 an13 cd13 ct13), sl13⟩)
    (c13 : PySem.W.codeIn K cd13 "lies_inside" = true)
    (k13 : PySem.W.keepIn K (.ref f13) = true)
    (a14 : PySem.W.nsIn K mainGlobals "inside" = some (some (.ref f14)))
    (l14 : K.lookup f14 = some ⟨oc14, od14, .func (PySem.W.fnOf "inside" "inside" (defArgs s_p_inside) (defBody s_p_inside) (defScope s_p_inside) .none kV14 dc14 pm14 an14 cd14 ct14), sl14⟩)
    (c14 : PySem.W.codeIn K cd14 "inside" = true)
    (k14 : PySem.W.keepIn K (.ref f14) = true)
    (a15 : PySem.W.nsIn K mainGlobals "made_plain" = some (some (.ref f15)))
    (l15 : K.lookup f15 = some ⟨oc15, od15, .func (PySem.W.fnOf "made_plain" "made_plain" (defArgs s_p_made_plain) (defBody s_p_made_plain) (defScope s_p_made_plain) .none kV15 dc15 pm15 an15 cd15 ct15), sl15⟩)
    (c15 : PySem.W.codeIn K cd15 "made_plain" = true)
    (k15 : PySem.W.keepIn K (.ref f15) = true)
    (a16 : PySem.W.nsIn K mainGlobals "plain" = some (some (.ref f16)))
    (l16 : K.lookup f16 = some ⟨oc16, od16, .func (PySem.W.fnOf "plain" "plain" (defArgs s_p_plain) (defBody s_p_plain) (defScope s_p_plain) .none kV16 dc16 pm16 an16 cd16 ct16), sl16⟩)
    (c16 : PySem.W.codeIn K cd16 "plain" = true)
    (k16 : PySem.W.keepIn K (.ref f16) = true)
    (a17 : PySem.W.nsIn K mainGlobals "with_letter" = some (some (.ref f17)))
    (l17 : K.lookup f17 = some ⟨oc17, od17, .func (PySem.W.fnOf "with_letter" "with_letter" (defArgs s_p_with_letter) (defBody s_p_with_letter) (defScope s_p_with_letter) .none kV17 dc17 pm17 an17 cd17 ct17), sl17⟩)
    (c17 : PySem.W.codeIn K cd17 "with_letter" = true)
    (k17 : PySem.W.keepIn K (.ref f17) = true)
    (a18 : PySem.W.nsIn K mainGlobals "sent" = some (some (.ref f18)))
    (l18 : K.lookup f18 = some ⟨oc18, od18, .func (PySem.W.fnOf "sent" "sent" (defArgs s_p_sent) (defBody s_p_sent) (defScope s_p_sent) .none kV18 dc18 pm18 an18 cd18 ct18), sl18⟩)
    (c18 : PySem.W.codeIn K cd18 "sent" = true)
    (k18 : PySem.W.keepIn K (.ref f18) = true)
    (a19 : PySem.W.nsIn K mainGlobals "left_behind" = some (some (.ref f19)))
    (l19 : K.lookup f19 = some ⟨oc19, od19, .func (PySem.W.fnOf "left_behind" "left_behind" (defArgs s_p_left_behind) (defBody s_p_left_behind) (defScope s_p_left_behind) .none kV19 dc19 pm19 an19 cd19 ct19), sl19⟩)
    (c19 : PySem.W.codeIn K cd19 "left_behind" = true)
    (k19 : PySem.W.keepIn K (.ref f19) = true)
    (a20 : PySem.W.nsIn K mainGlobals "taken" = some (some (.ref f20)))
    (l20 : K.lookup f20 = some ⟨oc20, od20, .func (PySem.W.fnOf "taken" "taken" (defArgs s_p_taken) (defBody s_p_taken) (defScope s_p_taken) .none kV20 dc20 pm20 an20 cd20 ct20), sl20⟩)
    (c20 : PySem.W.codeIn K cd20 "taken" = true)
    (k20 : PySem.W.keepIn K (.ref f20) = true)
    (a21 : PySem.W.nsIn K mainGlobals "with_any" = some (some (.ref f21)))
    (l21 : K.lookup f21 = some ⟨oc21, od21, .func (PySem.W.fnOf "with_any" "with_any" (defArgs s_p_with_any) (defBody s_p_with_any) (defScope s_p_with_any) .none kV21 dc21 pm21 an21 cd21 ct21), sl21⟩)
    (c21 : PySem.W.codeIn K cd21 "with_any" = true)
    (k21 : PySem.W.keepIn K (.ref f21) = true)
    (a22 : PySem.W.nsIn K mainGlobals "swollen" = some (some (.ref f22)))
    (l22 : K.lookup f22 = some ⟨oc22, od22, .func (PySem.W.fnOf "swollen" "swollen" (defArgs s_p_swollen) (defBody s_p_swollen) (defScope s_p_swollen) .none kV22 dc22 pm22 an22 cd22 ct22), sl22⟩)
    (c22 : PySem.W.codeIn K cd22 "swollen" = true)
    (k22 : PySem.W.keepIn K (.ref f22) = true)
    (a23 : PySem.W.nsIn K mainGlobals "product_of" = some (some (.ref f23)))
    (l23 : K.lookup f23 = some ⟨oc23, od23, .func (PySem.W.fnOf "product_of" "product_of" (defArgs s_p_product_of) (defBody s_p_product_of) (defScope s_p_product_of) .none kV23 dc23 pm23 an23 cd23 ct23), sl23⟩)
    (c23 : PySem.W.codeIn K cd23 "product_of" = true)
    (k23 : PySem.W.keepIn K (.ref f23) = true)
    (a24 : PySem.W.nsIn K mainGlobals "product_text" = some (some (.ref f24)))
    (l24 : K.lookup f24 = some ⟨oc24, od24, .func (PySem.W.fnOf "product_text" "product_text" (defArgs s_p_product_text) (defBody s_p_product_text) (defScope s_p_product_text) .none kV24 dc24 pm24 an24 cd24 ct24), sl24⟩)
    (c24 : PySem.W.codeIn K cd24 "product_text" = true)
    (k24 : PySem.W.keepIn K (.ref f24) = true)
    (a25 : PySem.W.nsIn K mainGlobals "_law_bag" = some (some (.ref f25)))
    (l25 : K.lookup f25 = some ⟨oc25, od25, .func (PySem.W.fnOf "_law_bag" "_law_bag" (defArgs s_bag) (defBody s_bag) (defScope s_bag) .none kV25 dc25 pm25 an25 cd25 ct25), sl25⟩)
    (c25 : PySem.W.codeIn K cd25 "_law_bag" = true)
    (k25 : PySem.W.keepIn K (.ref f25) = true)
    (a26 : PySem.W.nsIn K mainGlobals "_law_pull" = some (some (.ref f26)))
    (l26 : K.lookup f26 = some ⟨oc26, od26, .func (PySem.W.fnOf "_law_pull" "_law_pull" (defArgs s_pull) (defBody s_pull) (defScope s_pull) .none kV26 dc26 pm26 an26 cd26 ct26), sl26⟩)
    (c26 : PySem.W.codeIn K cd26 "_law_pull" = true)
    (k26 : PySem.W.keepIn K (.ref f26) = true)
    (a27 : PySem.W.nsIn K mainGlobals "_law_of" = some (some (.ref f27)))
    (l27 : K.lookup f27 = some ⟨oc27, od27, .func (PySem.W.fnOf "_law_of" "_law_of" (defArgs s_of) (defBody s_of) (defScope s_of) .none kV27 dc27 pm27 an27 cd27 ct27), sl27⟩)
    (c27 : PySem.W.codeIn K cd27 "_law_of" = true)
    (k27 : PySem.W.keepIn K (.ref f27) = true)
    (a28 : PySem.W.nsIn K mainGlobals "_law_same" = some (some (.ref f28)))
    (l28 : K.lookup f28 = some ⟨oc28, od28, .func (PySem.W.fnOf "_law_same" "_law_same" (defArgs s_same) (defBody s_same) (defScope s_same) .none kV28 dc28 pm28 an28 cd28 ct28), sl28⟩)
    (c28 : PySem.W.codeIn K cd28 "_law_same" = true)
    (k28 : PySem.W.keepIn K (.ref f28) = true)
    (a29 : PySem.W.nsIn K mainGlobals "_law_letters" = some (some (.ref f29)))
    (l29 : K.lookup f29 = some ⟨oc29, od29, .func (PySem.W.fnOf "_law_letters" "_law_letters" (defArgs s_letters) (defBody s_letters) (defScope s_letters) .none kV29 dc29 pm29 an29 cd29 ct29), sl29⟩)
    (c29 : PySem.W.codeIn K cd29 "_law_letters" = true)
    (k29 : PySem.W.keepIn K (.ref f29) = true)
    (a30 : PySem.W.nsIn K mainGlobals "_law_refusal" = some (some (.ref f30)))
    (l30 : K.lookup f30 = some ⟨oc30, od30, .func (PySem.W.fnOf "_law_refusal" "_law_refusal" (defArgs s_refusal) (defBody s_refusal) (defScope s_refusal) .none kV30 dc30 pm30 an30 cd30 ct30), sl30⟩)
    (c30 : PySem.W.codeIn K cd30 "_law_refusal" = true)
    (k30 : PySem.W.keepIn K (.ref f30) = true)
    (a31 : PySem.W.nsIn K mainGlobals "_law_product" = some (some (.ref f31)))
    (l31 : K.lookup f31 = some ⟨oc31, od31, .func (PySem.W.fnOf "_law_product" "_law_product" (defArgs s_product) (defBody s_product) (defScope s_product) .none kV31 dc31 pm31 an31 cd31 ct31), sl31⟩)
    (c31 : PySem.W.codeIn K cd31 "_law_product" = true)
    (k31 : PySem.W.keepIn K (.ref f31) = true)
    (a32 : PySem.W.nsIn K mainGlobals "_law_bent_product" = some (some (.ref f32)))
    (l32 : K.lookup f32 = some ⟨oc32, od32, .func (PySem.W.fnOf "_law_bent_product" "_law_bent_product" (defArgs s_bent_product) (defBody s_bent_product) (defScope s_bent_product) .none kV32 dc32 pm32 an32 cd32 ct32), sl32⟩)
    (c32 : PySem.W.codeIn K cd32 "_law_bent_product" = true)
    (k32 : PySem.W.keepIn K (.ref f32) = true)
    (a33 : PySem.W.nsIn K mainGlobals "_law_atoms_good" = some (some (.ref f33)))
    (l33 : K.lookup f33 = some ⟨oc33, od33, .func (PySem.W.fnOf "_law_atoms_good" "_law_atoms_good" (defArgs s_atoms_good) (defBody s_atoms_good) (defScope s_atoms_good) .none kV33 dc33 pm33 an33 cd33 ct33), sl33⟩)
    (c33 : PySem.W.codeIn K cd33 "_law_atoms_good" = true)
    (k33 : PySem.W.keepIn K (.ref f33) = true)
    (a34 : PySem.W.nsIn K mainGlobals "law" = some (some (.ref f34)))
    (l34 : K.lookup f34 = some ⟨oc34, od34, .func (PySem.W.fnOf "law" "law" (defArgs s_law) (defBody s_law) (defScope s_law) .none kV34 dc34 pm34 an34 (.ref cC) ct34), sl34⟩)
    (c34 : PySem.W.codeIn K (.ref cC) "law" = true)
    (k34 : PySem.W.keepIn K (.ref f34) = true)
    (q0ti : PySem.W.typeIn K (.ref f0) = some (.type "function"))
    (q0fn : PySem.W.findCls K (.ref q0) (.type "type") "__init__" = some (.val (.ref f0)))
    (q0em : PySem.W.exmOne K (.ref q0) (.ref q0) = some true)
    (q1ti : PySem.W.typeIn K (.ref f1) = some (.type "function"))
    (q1fn : PySem.W.findCls K (.ref q1) (.type "type") "__init__" = some (.val (.ref f1)))
    (q1em : PySem.W.exmOne K (.ref q1) (.ref q0) = some true)
    (q2ti : PySem.W.typeIn K (.ref f2) = some (.type "function"))
    (q2fn : PySem.W.findCls K (.ref q2) (.type "type") "__init__" = some (.val (.ref f2)))
    (q2em : PySem.W.exmOne K (.ref q2) (.ref q0) = some true)
    (z0 : PySem.W.nsIn K mainGlobals "LookupError" = some none)
    (z1 : PySem.W.nsIn K mainGlobals "ValueError" = some none)
    (z2 : PySem.W.nsIn K mainGlobals "all" = some none)
    (z3 : PySem.W.nsIn K mainGlobals "bool" = some none)
    (z4 : PySem.W.nsIn K mainGlobals "enumerate" = some none)
    (z5 : PySem.W.nsIn K mainGlobals "int" = some none)
    (z6 : PySem.W.nsIn K mainGlobals "isinstance" = some none)
    (z7 : PySem.W.nsIn K mainGlobals "len" = some none)
    (z8 : PySem.W.nsIn K mainGlobals "list" = some none)
    (z9 : PySem.W.nsIn K mainGlobals "range" = some none)
    (z10 : PySem.W.nsIn K mainGlobals "set" = some none)
    (z11 : PySem.W.nsIn K mainGlobals "sorted" = some none)
    (z12 : PySem.W.nsIn K mainGlobals "str" = some none)
    (z13 : PySem.W.nsIn K mainGlobals "tuple" = some none)
    (z14 : PySem.W.nsIn K mainGlobals "zip" = some none)
    {u0 : Value}
    (d0 : PySem.W.nsIn K mainGlobals "LETTERS" = some (some u0))
    (e0 : RelV (V.str (PySem.Str.ofString "abcdefghijklmnopqrstuvwxyz")) u0)
    (kc1 : K.lookup cC = some ⟨eC, dC, .fields vC, sC⟩) (kc2 : vC[11]? = some (.ref PC)) (kc3 : K.lookup PC = none) (kc4 : PySem.W.codeHdIn K cC PC = true)
    (own : LamX.OwnTab K fa h), LamX.LawAtS l w K CX0 13 63 "_law_script" mg fa h
end K29
section
namespace Hd
open PySem PySem.W PySem.Calls PyProof.Rows
abbrev R : OpenRow := OpenLaw.row PySem.Challenge.rw_leakpost_k29_which_are_products
abbrev qv : Program := view R.prog [39]
def names0 : List PySem.Str := ["LeakError", "BadWord", "BadAtom", "LETTERS", "is_word", "is_letter", "is_rising", "is_atom", "is_product", "check_product", "check_letter", "takes_in", "has_word", "holds", "lies_inside", "inside"]
def names1 : List PySem.Str := ["made_plain", "plain", "with_letter", "sent", "left_behind", "taken", "with_any", "swollen", "product_of", "product_text", "_law_bag", "_law_pull", "_law_of", "_law_same", "_law_letters", "_law_refusal"]
def names2 : List PySem.Str := ["_law_product", "_law_bent_product", "_law_atoms_good"]
def names : List PySem.Str := names0 ++ names1 ++ names2
theorem left_km {p q : Program} {loose : List PySem.Str} {Xt : Shared → Bool} {K : Params → Frag} {as : List Addr} {ek : ∀ P, as = (K P).map (·.1)} {ts : List Addr} {N M : Nat}
    (e : opening p = plainProg p.main.scope.names) (hN : Nat.ble 600 N = true) (f : ∀ s, fenceModules? p s = some s) (le : Nat.ble M N = true)
    (run : ∀ (w : World) (os : OsState), (HandSHeadRun.endF (HandSHeadRun.stepQ (HandSHeadRun.denQ HandSHeadRun.tabQ) p w) M p w os).map (fun s => (HandSHeadRun.looksF p (boot_heap w.params) s.abs, HandSHeadRun.seenQ q loose (importedModules p.main.body) Xt s.abs, (as.map (HandSHeadRun.getT s), ts.map (HandSHeadRun.getT s)))) = some (true, openGood q loose, ((K w.params).map fun x => some x.2, ts.map fun _ => some (tabObj #[])))) :
    LeftO p q loose Xt (Hook.obs (kmHook K as ek ts)) (Hook.val (kmHook K as ek ts)) N true :=
  HandSHeadRun.left_one (M := M) e hN f le fun w os => by
    have z := run w os
    have eg : ∀ s : SharedT, HandSHeadRun.getT s = s.abs.heap.get? := fun s => funext fun a => HandSHeadRun.getT_eq s a
    simp only [eg] at z
    simp only [HandSHeadRun.endQ_eq, HandSHeadRun.seenQ_eq]
    exact z
end Hd
open PySem PySem.W PySem.Calls PyProof.Rows
local macro_rules | `(tactic| o_head $H) => do let hw := Lean.mkIdent `hw; let hc := Lean.mkIdent `hc; `(tactic| (
  refine PySem.W.holds_open (r := Hd.R) (q := Hd.qv) (loose := Hd.names) (Xt := fun s => xlAt Hd.qv [] s && recOk Hd.R.toRowW.records s) (XP := XL Hd.qv []) (Yf := Hook.obs $H) (Ya := Hook.val $H) (YP := Hook.says $H) (d := HandSHeadRun.topDef Hd.R.prog 39) (kwd := []) (N := 40600) ?_ (Hook.of $H) (Hook.keeps $H) (fun s e => xl_of s (Bool.and_eq_true_iff.mp e).1) XL.keeps (by kernel_rfl) (by kernel_rfl) (by kernel_rfl) (fun s e => recFacts_of (Bool.and_eq_true_iff.mp e).2) (by rfl) (by first | assumption | decide +kernel) (by decide +kernel) ⟨rfl, rfl, rfl, rfl, rfl, by decide +kernel⟩ ?$hw ?$hc
  · refine Hd.left_km (M := 40000) (by kernel_rfl) (by rfl) (fun s => by kernel_rfl) (by rfl) ?_
    refine byRow2 "special-get-raises" (fun w os => ?_) (fun w os => ?_)
    · kernel_rfl
    · kernel_rfl))
set_option maxHeartbeats 0 in
open_top Hd.top for PySem.Challenge.rw_leakpost_k29_which_are_products
set_option maxHeartbeats 0 in
theorem fin_of (H : K29.AllMk) : PySem.Challenge.rw_leakpost_k29_which_are_products.Holds := by
  refine Hd.top ?_
  k_fill
  refine LamX.walk_ofOwn (l := PySem.Challenge.rw_leakpost_k29_which_are_products) (n := 63) (k := 13) (x := "_law_script") (CX := fun _ => L2.CX0) rfl (by decide) rfl ⟨rfl, by decide, by decide⟩ (by decide +kernel) (fun w h Y => PySem.W.km_in_of Y) ?F (fun _ _ _ _ _ h => h)
  case F =>
    intro w mg fa h Y KX G hmg own
    refine' H KX G hmg ?q0C ?q0XX ?q0sa ?q0ec ?q0ty ?q0kc ?q0rd ?q0ga ?q0x1 ?q0x2 ?q0x3 ?q0x5 ?q0x6 ?q0x7 ?q0x8 ?q0x9 ?q0nw ?q0na ?q0kv ?q0kl ?q1C ?q1XX ?q1sa ?q1ec ?q1ty ?q1kc ?q1rd ?q1ga ?q1x1 ?q1x2 ?q1x3 ?q1x5 ?q1x6 ?q1x7 ?q1x8 ?q1x9 ?q1nw ?q1na ?q1kv ?q1kl ?q2C ?q2XX ?q2sa ?q2ec ?q2ty ?q2kc ?q2rd ?q2ga ?q2x1 ?q2x2 ?q2x3 ?q2x5 ?q2x6 ?q2x7 ?q2x8 ?q2x9 ?q2nw ?q2na ?q2kv ?q2kl ?vV ?a0 ?i0 ?l0 ?c0 ?k0 ?t0 ?a1 ?i1 ?l1 ?c1 ?k1 ?t1 ?a2 ?i2 ?l2 ?c2 ?k2 ?t2 ?a3 ?l3 ?c3 ?k3 ?a4 ?l4 ?c4 ?k4 ?a5 ?l5 ?c5 ?k5 ?a6 ?l6 ?c6 ?k6 ?a7 ?l7 ?c7 ?k7 ?a8 ?l8 ?c8 ?k8 ?a9 ?l9 ?c9 ?k9 ?a10 ?l10 ?c10 ?k10 ?a11 ?l11 ?c11 ?k11 ?a12 ?l12 ?c12 ?k12 ?a13 ?l13 ?c13 ?k13 ?a14 ?l14 ?c14 ?k14 ?a15 ?l15 ?c15 ?k15 ?a16 ?l16 ?c16 ?k16 ?a17 ?l17 ?c17 ?k17 ?a18 ?l18 ?c18 ?k18 ?a19 ?l19 ?c19 ?k19 ?a20 ?l20 ?c20 ?k20 ?a21 ?l21 ?c21 ?k21 ?a22 ?l22 ?c22 ?k22 ?a23 ?l23 ?c23 ?k23 ?a24 ?l24 ?c24 ?k24 ?a25 ?l25 ?c25 ?k25 ?a26 ?l26 ?c26 ?k26 ?a27 ?l27 ?c27 ?k27 ?a28 ?l28 ?c28 ?k28 ?a29 ?l29 ?c29 ?k29 ?a30 ?l30 ?c30 ?k30 ?a31 ?l31 ?c31 ?k31 ?a32 ?l32 ?c32 ?k32 ?a33 ?l33 ?c33 ?k33 ?a34 ?l34 ?c34 ?k34 ?q0ti ?q0fn ?q0em ?q1ti ?q1fn ?q1em ?q2ti ?q2fn ?q2em ?z0 ?z1 ?z2 ?z3 ?z4 ?z5 ?z6 ?z7 ?z8 ?z9 ?z10 ?z11 ?z12 ?z13 ?z14 ?d0 ?e0 ?kc1 ?kc2 ?kc3 ?kc4 own
    (case q0C => k_is)
    (case q0XX => k_is)
    (case q0sa => k_is)
    (case q0ec => k_is)
    (case q0ty => k_is)
    (case q0kc => k_is)
    (case q0rd => k_is)
    (case q0ga => k_is)
    (case q0x1 => first | rfl | decide +kernel | k_is)
    (case q0x2 => k_is)
    (case q0x3 => k_is)
    (case q0x5 => k_is)
    (case q0x6 => k_is)
    (case q0x7 => k_is)
    (case q0x8 => k_is)
    (case q0x9 => k_is)
    (case q0nw => k_is)
    (case q0na => k_is)
    (case q0kv => first | rfl | decide +kernel | k_is)
    (case q0kl => first | rfl | decide +kernel | k_is)
    (case q1C => k_is)
    (case q1XX => k_is)
    (case q1sa => k_is)
    (case q1ec => k_is)
    (case q1ty => k_is)
    (case q1kc => k_is)
    (case q1rd => k_is)
    (case q1ga => k_is)
    (case q1x1 => first | rfl | decide +kernel | k_is)
    (case q1x2 => k_is)
    (case q1x3 => k_is)
    (case q1x5 => k_is)
    (case q1x6 => k_is)
    (case q1x7 => k_is)
    (case q1x8 => k_is)
    (case q1x9 => k_is)
    (case q1nw => k_is)
    (case q1na => k_is)
    (case q1kv => first | rfl | decide +kernel | k_is)
    (case q1kl => first | rfl | decide +kernel | k_is)
    (case q2C => k_is)
    (case q2XX => k_is)
    (case q2sa => k_is)
    (case q2ec => k_is)
    (case q2ty => k_is)
    (case q2kc => k_is)
    (case q2rd => k_is)
    (case q2ga => k_is)
    (case q2x1 => first | rfl | decide +kernel | k_is)
    (case q2x2 => k_is)
    (case q2x3 => k_is)
    (case q2x5 => k_is)
    (case q2x6 => k_is)
    (case q2x7 => k_is)
    (case q2x8 => k_is)
    (case q2x9 => k_is)
    (case q2nw => k_is)
    (case q2na => k_is)
    (case q2kv => first | rfl | decide +kernel | k_is)
    (case q2kl => first | rfl | decide +kernel | k_is)
    (case vV => k_is)
    (case a0 => k_is)
    (case i0 => k_is)
    (case l0 => k_is)
    (case c0 => k_is)
    (case k0 => k_is)
    (case t0 => k_is)
    (case a1 => k_is)
    (case i1 => k_is)
    (case l1 => k_is)
    (case c1 => k_is)
    (case k1 => k_is)
    (case t1 => k_is)
    (case a2 => k_is)
    (case i2 => k_is)
    (case l2 => k_is)
    (case c2 => k_is)
    (case k2 => k_is)
    (case t2 => k_is)
    (case a3 => k_is)
    (case l3 => k_is)
    (case c3 => k_is)
    (case k3 => k_is)
    (case a4 => k_is)
    (case l4 => k_is)
    (case c4 => k_is)
    (case k4 => k_is)
    (case a5 => k_is)
    (case l5 => k_is)
    (case c5 => k_is)
    (case k5 => k_is)
    (case a6 => k_is)
    (case l6 => k_is)
    (case c6 => k_is)
    (case k6 => k_is)
    (case a7 => k_is)
    (case l7 => k_is)
    (case c7 => k_is)
    (case k7 => k_is)
    (case a8 => k_is)
    (case l8 => k_is)
    (case c8 => k_is)
    (case k8 => k_is)
    (case a9 => k_is)
    (case l9 => k_is)
    (case c9 => k_is)
    (case k9 => k_is)
    (case a10 => k_is)
    (case l10 => k_is)
    (case c10 => k_is)
    (case k10 => k_is)
    (case a11 => k_is)
    (case l11 => k_is)
    (case c11 => k_is)
    (case k11 => k_is)
    (case a12 => k_is)
    (case l12 => k_is)
    (case c12 => k_is)
    (case k12 => k_is)
    (case a13 => k_is)
    (case l13 => k_is)
    (case c13 => k_is)
    (case k13 => k_is)
    (case a14 => k_is)
    (case l14 => k_is)
    (case c14 => k_is)
    (case k14 => k_is)
    (case a15 => k_is)
    (case l15 => k_is)
    (case c15 => k_is)
    (case k15 => k_is)
    (case a16 => k_is)
    (case l16 => k_is)
    (case c16 => k_is)
    (case k16 => k_is)
    (case a17 => k_is)
    (case l17 => k_is)
    (case c17 => k_is)
    (case k17 => k_is)
    (case a18 => k_is)
    (case l18 => k_is)
    (case c18 => k_is)
    (case k18 => k_is)
    (case a19 => k_is)
    (case l19 => k_is)
    (case c19 => k_is)
    (case k19 => k_is)
    (case a20 => k_is)
    (case l20 => k_is)
    (case c20 => k_is)
    (case k20 => k_is)
    (case a21 => k_is)
    (case l21 => k_is)
    (case c21 => k_is)
    (case k21 => k_is)
    (case a22 => k_is)
    (case l22 => k_is)
    (case c22 => k_is)
    (case k22 => k_is)
    (case a23 => k_is)
    (case l23 => k_is)
    (case c23 => k_is)
    (case k23 => k_is)
    (case a24 => k_is)
    (case l24 => k_is)
    (case c24 => k_is)
    (case k24 => k_is)
    (case a25 => k_is)
    (case l25 => k_is)
    (case c25 => k_is)
    (case k25 => k_is)
    (case a26 => k_is)
    (case l26 => k_is)
    (case c26 => k_is)
    (case k26 => k_is)
    (case a27 => k_is)
    (case l27 => k_is)
    (case c27 => k_is)
    (case k27 => k_is)
    (case a28 => k_is)
    (case l28 => k_is)
    (case c28 => k_is)
    (case k28 => k_is)
    (case a29 => k_is)
    (case l29 => k_is)
    (case c29 => k_is)
    (case k29 => k_is)
    (case a30 => k_is)
    (case l30 => k_is)
    (case c30 => k_is)
    (case k30 => k_is)
    (case a31 => k_is)
    (case l31 => k_is)
    (case c31 => k_is)
    (case k31 => k_is)
    (case a32 => k_is)
    (case l32 => k_is)
    (case c32 => k_is)
    (case k32 => k_is)
    (case a33 => k_is)
    (case l33 => k_is)
    (case c33 => k_is)
    (case k33 => k_is)
    (case a34 => k_is)
    (case l34 => k_is)
    (case c34 => k_is)
    (case k34 => k_is)
    (case q0ti => k_is)
    (case q0fn => k_is)
    (case q0em => first | rfl | decide +kernel | k_is)
    (case q1ti => k_is)
    (case q1fn => k_is)
    (case q1em => first | rfl | decide +kernel | k_is)
    (case q2ti => k_is)
    (case q2fn => k_is)
    (case q2em => first | rfl | decide +kernel | k_is)
    (case z0 => k_is)
    (case z1 => k_is)
    (case z2 => k_is)
    (case z3 => k_is)
    (case z4 => k_is)
    (case z5 => k_is)
    (case z6 => k_is)
    (case z7 => k_is)
    (case z8 => k_is)
    (case z9 => k_is)
    (case z10 => k_is)
    (case z11 => k_is)
    (case z12 => k_is)
    (case z13 => k_is)
    (case z14 => k_is)
    (case d0 => k_is)
    (case e0 => exact ⟨_, rfl⟩)
    (case kc1 => k_is)
    (case kc2 => first | rfl | decide +kernel | k_is)
    (case kc3 => first | rfl | decide +kernel | k_is)
    (case kc4 => first | rfl | decide +kernel | k_is)
end
namespace LB
open PySem PySem.Spec PyProof.Rows L2
/-! ### the bag of draws: a list of five at b, its cells at s -/
def bagL (s : Addr) (i r sd c : Int) : HO := .lst [.ref s, .int i, .int r, .int sd, .int c]
def Bag (b s : Addr) (H : Hp) : Prop := s ≠ b ∧ ∃ (ns : List Int) (i r sd c : Int), H b = some (bagL s i r sd c) ∧ H s = some (.lst (ns.map V.int)) ∧ ns.length ≤ 63 ∧ 0 ≤ i
/-- all but the bag is as it was -/
structure BX (b s : Addr) (H H' : Hp) : Prop where
  bag : Bag b s H'
  keep : ∀ a o, a ≠ b → H a = some o → H' a = some o
section
variable {b s p a : Addr} {H H' H'' : Hp} {o : HO} {K : PySem.W.Frag}
theorem Bag.nb (h : Bag b s H) (n : H p = none) : p ≠ b := by
  obtain ⟨_, ns, i, r, sd, c, e, _⟩ := h
  exact (ne_of_none e n).symm
theorem Bag.ns (h : Bag b s H) (n : H p = none) : p ≠ s := by
  obtain ⟨_, ns, i, r, sd, c, _, e, _⟩ := h
  exact (ne_of_none e n).symm
theorem BX.refl (h : Bag b s H) : BX b s H H := ⟨h, fun _ _ _ e => e⟩
theorem BX.trans (x : BX b s H H') (y : BX b s H' H'') : BX b s H H'' := ⟨y.bag, fun a o n e => y.keep a o n (x.keep a o n e)⟩
theorem Bag.same (h : Bag b s H) (x : Same H H') : Bag b s H' := by
  obtain ⟨n, ns, i, r, sd, c, e1, e2, l⟩ := h
  exact ⟨n, ns, i, r, sd, c, x _ _ e1, x _ _ e2, l⟩
theorem BX.same (h : Bag b s H) (x : Same H H') : BX b s H H' := ⟨h.same x, fun a o _ e => x a o e⟩
theorem same_new (h : H p = none) : Same H (upd H p o) := fun c x e => by
  rw [upd_ne (ne_of_none e h)]
  exact e
theorem BX.new (h : Bag b s H) (n : H p = none) : BX b s H (upd H p o) := .same h (same_new n)
theorem BX.back (x : BX b s H H') (n : H' p = none) : H p = none := by
  cases e : H p with
  | none => rfl
  | some o =>
    by_cases hb : p = b
    · exact absurd hb (x.bag.nb n)
    · rw [x.keep p o hb e] at n
      cases n
theorem same_mut (x : Same H H') (n : H p = none) : Same H (upd H' p o) := fun a u e => by
  rw [upd_ne (ne_of_none e n)]
  exact x a u e
/-- an object that is not the bag -/
def At (b : Addr) (H : Hp) (a : Addr) (o : HO) : Prop := a ≠ b ∧ H a = some o
theorem At.new (h : Bag b s H) (n : H p = none) : At b (upd H p o) p o := ⟨h.nb n, upd_same⟩
theorem At.l {xs : List V} (h : At b H a (.lst xs)) : SqL K H a xs := .of h.2
theorem At.t {xs : List V} (h : At b H a (.tup xs)) : SqT K H a xs := .of h.2
/-- xs[i] of a list, by values: for xs[i] op= e -/
theorem get_list {X : Cx} : PGet X (rIxL X.K) := by
  intro pins s σ H o i ov iv Q I ro ri h
  obtain ⟨p, xs, k, z, rfl, rfl, hq, he, q⟩ := h
  cases ro
  obtain ⟨t, rfl⟩ := ri
  obtain ⟨its, r, pl, hz⟩ := I.list hq
  obtain ⟨j, h1, h2, h3, h4, h5⟩ := atI_get he
  obtain ⟨w, ew, rw'⟩ := r.get h2
  have hl := r.length
  have hn := line63
  have fin : EP X pins σ Q w s := ⟨z, H, I, rw', q⟩
  by_cases h0 : 0 ≤ k
  · have hj : k.toNat = j := by
      rw [seqIndex_of h0 h5] at h1
      exact Option.some.inj h1
    exact wpAny_getItem_list pl.isList h0 (by omega) (by rw [hj]; simpa using ew) fin
  · have hj : (k + (its.toArray.size : Int)).toNat = j := by
      rw [seqIndex_neg (by omega) h4] at h1
      rw [List.size_toArray, ← hl]
      exact Option.some.inj h1
    exact wpAny_getItem_list_neg pl.isList (by omega) (by rw [List.size_toArray] <;> omega) (by omega) (by rw [hj]; simpa using ew) fin
end
theorem cut_take (xs : List V) (k : Nat) : cutV xs none (some (k : Int)) = xs.take k := by
  unfold cutV
  rw [HT.sIx_none, HT.sIx_nat]
  show (xs.drop 0).take (min k xs.length - 0) = xs.take k
  rw [List.drop_zero, Nat.sub_zero]
  by_cases h : k ≤ xs.length
  · rw [Nat.min_eq_left h]
  · rw [Nat.min_eq_right (by omega), List.take_length, List.take_of_length_le (by omega)]
/-! ### texts by their signs -/
abbrev sg (c : Nat) : Str := ⟨#[c]⟩
abbrev tx (l : List Nat) : Str := ⟨l.toArray⟩
theorem tx_app (a b : List Nat) : tx a ++ tx b = tx (a ++ b) := by
  show (⟨a.toArray ++ b.toArray⟩ : Str) = _
  rw [List.append_toArray]
theorem tx_len (a : List Nat) : (tx a).length = a.length := by
  show a.toArray.size = _
  rw [List.size_toArray]
theorem tx_of (z : Str) : z = tx z.cps.toList := by
  cases z
  rfl
theorem join_tx (ls : List (List Nat)) : Txt.join (Str.ofString "") (ls.map tx) = tx ls.flatten := by
  show Builtin.Str.glued _ _ = _
  rw [StrLaws.glued_eq_join, show Str.ofString "" = (tx [] : Str) from by decide +kernel]
  induction ls with
  | nil => rfl
  | cons c r ih =>
    cases r with
    | nil => simp [Str.join]
    | cons d t =>
      show tx c ++ tx [] ++ Str.join (tx []) ((d :: t).map tx) = _
      rw [ih, tx_app, tx_app]
      simp
/-- the k-th of the letters drawn by (first, step) -/
def lett (f b : Int) (k : Nat) : Nat := ((f + b * (k : Int)) % 26).toNat + 97
/-! ### the same data, up to a depth -/
def flat1 : V → Bool
  | .non => true
  | .bl _ => true
  | .int _ => true
  | .str _ => true
  | _ => false
def Sam (K : PySem.W.Frag) (H : Hp) : Nat → V → V → Prop
  | 0, v, w => flat1 v = true ∧ v = w
  | n + 1, v, w => (flat1 v = true ∧ v = w) ∨ ∃ a c xs ys, v = .ref a ∧ w = .ref c ∧ ((H a = some (.lst xs) ∧ H c = some (.lst ys)) ∨ (H a = some (.tup xs) ∧ H c = some (.tup ys))) ∧ xs.length < 100000 ∧ Paired (Sam K H n) xs ys
theorem Sam.mono {K : PySem.W.Frag} {H H' : Hp} (x : Same H H') : ∀ {n : Nat} {v w : V}, Sam K H n v w → Sam K H' n v w
  | 0, _, _, h => h
  | n + 1, _, _, h => by
    rcases h with h | ⟨a, c, xs, ys, e1, e2, h, hz, p⟩
    · exact .inl h
    · refine .inr ⟨a, c, xs, ys, e1, e2, ?_, hz, Paired.mapP p fun _ _ q => Sam.mono x q⟩
      rcases h with ⟨h1, h2⟩ | ⟨h1, h2⟩
      · exact .inl ⟨x _ _ h1, x _ _ h2⟩
      · exact .inr ⟨x _ _ h1, x _ _ h2⟩
theorem paired_get {α β : Type} {F : α → β → Prop} : ∀ {xs : List α} {ys : List β} {i : Nat} {x : α} {y : β}, Paired F xs ys → xs[i]? = some x → ys[i]? = some y → F x y
  | _, _, _, _, _, .nil, h, _ => by simp at h
  | _, _, 0, _, _, .cons r _, h, h' => by
    simp at h h'
    subst h h'
    exact r
  | _, _, i + 1, _, _, .cons _ t, h, h' => paired_get (i := i) t (by simpa using h) (by simpa using h')
theorem kit_seq {K : PySem.W.Frag} {t : String} (h1 : kitB t "list" = some false) (h2 : kitB t "tuple" = some false) : PySem.W.kitAny K (.type t) [.type "list", .type "tuple"] = some false :=
  kitAny_cons (b := false) (kit_ty h1) (fun _ => kitAny_cons (b := false) (kit_ty h2) (fun _ => kitAny_nil) (fun z => nomatch z)) (fun z => nomatch z)
theorem kit_lst {K : PySem.W.Frag} : PySem.W.kitAny K (.type "list") [.type "list", .type "tuple"] = some true :=
  kitAny_cons (b := true) (kit_ty (by decide +kernel)) (fun z => nomatch z) (fun _ => rfl)
theorem kit_tup {K : PySem.W.Frag} : PySem.W.kitAny K (.type "tuple") [.type "list", .type "tuple"] = some true :=
  kitAny_cons (b := false) (kit_ty (by decide +kernel)) (fun _ => kitAny_cons (b := true) (kit_ty (by decide +kernel)) (fun z => nomatch z) (fun _ => rfl)) (fun z => nomatch z)
theorem walk_zipT {K : PySem.W.Frag} {a b : Addr} {xs ys : List V} {n : Nat} (hn : n = min xs.length ys.length) : Walk (RZ.ItzT K a b) n (fun H => SqT K H a xs ∧ SqT K H b ys) (YPair (fun i => xs[i]?) (fun i => ys[i]?)) := by
  subst hn
  refine ⟨fun i _ hi q => ?_, fun _ q => ⟨xs, ys, q.1, q.2, by omega⟩, fun i H v H' _ q y => ?_⟩
  · have u1 : i < xs.length := Nat.lt_of_lt_of_le hi (Nat.min_le_left _ _)
    have u2 : i < ys.length := Nat.lt_of_lt_of_le hi (Nat.min_le_right _ _)
    exact ⟨xs, ys, xs[i], ys[i], q.1, q.2, List.getElem?_eq_getElem u1, List.getElem?_eq_getElem u2⟩
  · obtain ⟨T, x, z, g1, g2, g3, g4, g5⟩ := y
    exact ⟨T, x, z, g1, g2, g3, g4 xs q.1, g5 ys q.2⟩
/-! ### f(k = v, ..): keywords alone -/
/-! ### lists of texts as data: for == and != -/
theorem strOk_tx {l : List Nat} (h : ∀ c ∈ l, c < 128) : PyData.strOk (tx l) = true := by
  unfold PyData.strOk
  rw [Array.all_eq_true_iff_forall_mem]
  intro c hc
  have := h c (by simpa using hc)
  exact decide_eq_true (by omega)
/-! ### sep.join(xs) within a comprehension -/
def rJoin (K : PySem.W.Frag) : V → List V → Hp → VK → Prop := fun x vs H Q => ∃ sep lst, ∃ ts : List Str, x = .str sep ∧ vs = [.ref lst] ∧ (SqL K H lst (ts.map V.str) ∨ SqT K H lst (ts.map V.str)) ∧
  (ts.map (·.length)).sum + ts.length * sep.length ≤ 16777216 ∧ Q (.str (Txt.join sep ts)) H
end LB
namespace LB
open PySem PySem.Spec PyProof.Rows L2
/-! ### enumerate(text): a new pair of place and sign at each turn -/
theorem drawsS {prog : Program} {w : World} {A : Around} (hh : A.handled = none) (it : Addr) (x : Str) (t : Tok) :
    Draws prog w A it [it] x.cps.size (fun i v => ∃ c u, x.cps[i]? = some c ∧ v = .str ⟨#[c]⟩ u) (fun i h => h.IsStrIter it (strIterType x) x t i) := by
  unfold strIterType
  cases ha : x.cps.all (· < 128)
  · simpa using Draws.strWide hh it x t
  · simpa using Draws.strAscii hh it x t
end LB
namespace LB
open PySem PySem.Spec PyProof.Rows L2
/-! ### enumerate(tuple): a new pair of place and item at each turn -/
def Itet (K : PySem.W.Frag) (a : Addr) : It :=
  ⟨fun i H => ∃ (xs : List V) (x : V), SqT K H a xs ∧ xs[i]? = some x, fun i H v H' => ∃ U x, v = .ref U ∧ H U = none ∧ H' = upd H U (.tup [.int (i : Nat), x]) ∧ ∀ xs, SqT K H a xs → xs[i]? = some x, fun i H => ∃ xs : List V, SqT K H a xs ∧ xs.length = i⟩
theorem drawsT {prog : Program} {w : World} {A : Around} (hh : A.handled = none) (it l : Addr) (hne : l ≠ it) (items : Array Value) :
    Draws prog w A it [it, l] items.size (fun i v => items[i]? = some v) (fun i h => h.IsTupleIter it l i ∧ h.IsTuple l items) where
  live := fun i h st => by
    obtain ⟨⟨ob, hob, _⟩, _⟩ := st
    exact ⟨ob, hob⟩
  frame := fun i h h' st hk => ⟨st.1.at fun o z => hk it (by simp) o z, by
    obtain ⟨ob, hob, r⟩ := st.2
    exact ⟨ob, hk l (by simp) ob hob, r⟩⟩
  item := fun i s Q E hi st hQ => by
    refine RZ.nextOf_tuple_item st.1 st.2 (x := items[i]) (by simp [hi]) fun g hit sb => hQ _ g s.toks (by simp [hi]) ⟨hit, st.2.extBut sb.extBut hne⟩ sb
  done := fun s Q E st hE => RZ.nextOf_tuple_end hh st.1 st.2 (by simp) hE
theorem apartT {h : Heap} {a it i l : Addr} {items : Array Value} (h1 : h.IsTupleIter it l i) (h2 : h.IsTuple a items) : a ≠ it := fun z => by
  subst z
  obtain ⟨o1, e1, c1, _⟩ := h1
  obtain ⟨o2, e2, c2, _⟩ := h2
  rw [e1] at e2
  cases e2
  rw [c1] at c2
  simp at c2
theorem apartE {h : Heap} {a en it : Addr} {k : Int} {old : Value} {items : Array Value} (h1 : IsEnum h en it k old) (h2 : h.IsTuple a items) : en ≠ a := fun z => by
  subst z
  obtain ⟨o2, e2, c2, _⟩ := h2
  rw [show h.get? en = some _ from h1] at e2
  cases e2
  simp at c2
theorem turn_enumT {P : Program} {w : World} {K : PySem.W.Frag} {elts : List Expr} {kk : Nat} {tpos : Pos} (a en it : Addr) :
    Turn P w K (.Tuple elts kk tpos) (Itet K a) [en, it] en (fun i h => (∃ old, IsEnum h en it ((i : Nat) : Int) old) ∧ h.IsTupleIter it a i ∧ en ≠ it) where
  mem := by simp
  obj := fun i h st b hb => by
    obtain ⟨⟨old, hE⟩, ⟨ob, hob, hcl, hdt⟩, _⟩ := st
    have hbb : b = en ∨ b = it := by simpa using hb
    rcases hbb with rfl | rfl
    · exact ⟨_, hE, fun v z => nomatch z⟩
    · exact ⟨ob, hob, fun v z => by rw [hdt] at z; cases z⟩
  keep := fun i h h' st k => by
    obtain ⟨⟨old, hE⟩, hit, ne⟩ := st
    exact ⟨⟨old, k en (by simp) _ hE⟩, hit.at fun o z => k it (by simp) o z, ne⟩
  item := by
    intro X eP eW eK hc i pins s σ H E I hf st hg
    subst eP eW eK
    obtain ⟨⟨old, hE⟩, hit, ne⟩ := st
    obtain ⟨xs, x, hq, hx⟩ := hg
    obtain ⟨ws, rv, ht, _⟩ := I.tuple hq
    obtain ⟨u, hu, ru⟩ := rv.get hx
    have len : en < s.heap.objs.size := Heap.lt_size hE
    have lit : it < s.heap.objs.size := by
      obtain ⟨ob, hob, _⟩ := hit
      exact Heap.lt_size hob
    have nai : a ≠ it := apartT hit ht
    have nea : en ≠ a := apartE hE ht
    have li : i < ws.toArray.size := by
      have := (List.getElem?_eq_some_iff.mp hu).1
      simpa using this
    refine wpAny_pyNext_enum_itemD (drawsT (A := X.A.in1) (I.ok.hd hc) it a nai ws.toArray) hE ⟨hit, ht⟩ li ne (by simp [ne, nea]) fun y h' tk hy hout hit' hT hsz hk => ?_
    have ey : y = u := by
      have hy' : ws.toArray[i]? = some y := hy
      rw [List.getElem?_toArray, hu] at hy'
      exact (Option.some.inj hy').symm
    subst ey
    refine ⟨_, rfl, wpAny_letOwnedTupleGo_enum (s := { s with heap := h', toks := tk + 1 }) hout fun h2 hE2 sb => ?_⟩
    have hT2 : h2.get? s.heap.objs.size = some { cls := .type "tuple", data := .seq #[.int i tk, y] } := (sb.2 _ (Nat.ne_of_gt len)).trans hT
    have okT : ObjOk X.prog X.w (upd H s.heap.objs.size (.tup [.int (i : Nat), x])) h2 s.heap.objs.size (.tup [.int (i : Nat), x]) :=
      ⟨(by show 2 ≤ sizeLine; decide), [.int i tk, y], .cons ⟨_, rfl⟩ (.cons ru .nil), ⟨_, hT2, rfl, _, rfl⟩⟩
    have I1 : Inv X pins σ (upd H s.heap.objs.size (.tup [.int (i : Nat), x])) { s with heap := h2, toks := tk + 1 } :=
      I.turnedNew (ch := [en, it]) (fun b ob hb z => (sb.2 b (fun z' => hb (by rw [z']; simp))).trans (hk b ob (fun z' => hb (by rw [z']; simp)) (fun z' => hb (by rw [z']; simp)) z)) hf (Nat.le_refl _) okT
    refine ⟨.ref s.heap.objs.size, _, I1, rfl, ⟨_, x, rfl, I.hok.fresh (Nat.le_refl _), rfl, fun ys hy => by rw [I.tuple_inj hy hq]; exact hx⟩, ⟨⟨y, ?_⟩, ?_, ne⟩, fun b hb => ?_⟩
    · rw [show ((i + 1 : Nat) : Int) = (i : Int) + 1 by omega]
      exact hE2
    · exact hit'.1.at fun o z => (sb.2 it ne.symm).trans z
    · have hbb : b = en ∨ b = it := by simpa using hb
      have hlt : b < s.heap.objs.size := by
        rcases hbb with rfl | rfl
        · exact len
        · exact lit
      rw [upd_ne (Nat.ne_of_lt hlt)]
      exact (hf b hb).1
  done := by
    intro X eP eW eK hc i pins s σ H E I hf st hg
    subst eP eW eK
    obtain ⟨⟨old, hE⟩, hit, ne⟩ := st
    obtain ⟨xs, hq, hx⟩ := hg
    obtain ⟨ws, rv, ht, _⟩ := I.tuple hq
    have nai : a ≠ it := apartT hit ht
    have li : ws.toArray.size = i := by
      have := rv.length
      rw [List.size_toArray]
      omega
    subst li
    obtain ⟨g0, g1, g2, g3, g4, g5⟩ := hf it (by simp)
    exact wpAny_pyNext_enum_endD (drawsT (A := X.A.in1) (I.ok.hd hc) it a nai ws.toArray) hE ⟨hit, ht⟩ fun h' eb => ⟨rfl, I.turned (t' := s.toks) (fun b ob hb z => eb b ob hb z) g0 g1 g3 g4 g5⟩
  self := fun A i s Q E st h => by
    obtain ⟨⟨old, hE⟩, _⟩ := st
    exact wpAny_pyIter_enum hE h
abbrev et1 (h : Heap) (l : Addr) : Heap := h.push { cls := .type "tuple_iterator", data := .fields #[.ref l, .int 0 0] }
abbrev et2 (h : Heap) (l : Addr) : Heap := (et1 h l).push { cls := .type "enumerate", data := .fields #[.none, .bool false, .ref h.objs.size, rawInt 0, .none, .none] }
set_option maxHeartbeats 2000000 in
theorem meets_enumT (l : Addr) (items : Array Value) :
    Meets (Builtin.«enumerate.__new__» ⟨[.type "enumerate", .ref l], []⟩) (fun _ R s => s.heap.IsTuple l items ∧ R (.ok (.ret (.ref (et1 s.heap l).objs.size))) { s with heap := et2 s.heap l }) :=
  .of_wp fun prog w A R s h => by
    obtain ⟨h0, g0, d0, t0, o0⟩ := s
    obtain ⟨hl, h⟩ := h
    have sub := sub_enumerate
    have hL : Heap.IsTuple (Shared.heap ⟨h0, g0, d0, t0, o0⟩) l items := hl
    wp_walk
    refine wpAny_stack_any fun st => wpAny_pure ?_
    split
    · rename_i c _ _ _ _ _
      cases (c == Value.type "enumerate")
      · wp_walk using wpAny_pyIter_tuple hL
        exact ⟨_, rfl, h⟩
      · wp_walk using wpAny_pyIter_tuple hL
        exact ⟨_, rfl, h⟩
    · wp_walk using wpAny_pyIter_tuple hL
      exact ⟨_, rfl, h⟩
section
variable {prog : Program} {w : World} {A : Around} {E : Value → Shared → Prop} {s : Shared}
theorem call_enumT {l : Addr} {items : Array Value} {Q : Value → Shared → Prop} (hl : s.heap.IsTuple l items)
    (h : ∀ g, IsEnum g (s.heap.objs.size + 1) s.heap.objs.size 0 .none → g.IsTupleIter s.heap.objs.size l 0 → (∀ b o, s.heap.get? b = some o → g.get? b = some o) → Q (.ref (s.heap.objs.size + 1)) { s with heap := g }) :
    wpAny (model prog w) A (call (.type "enumerate") [.ref l]) Q E s := by
  refine callType_new F.called_enumerate (by decide) (F.typeCall_enumerate_1 _) (F.newCall_enumerate_1 _) (fun ob => F.args_object_init_2 ob _) F.entry_enumerate_new (meets_enumT l items) ⟨hl, ?_⟩
  have z1 : (et1 s.heap l).objs.size = s.heap.objs.size + 1 := Heap.size_push ..
  have k2 : (et2 s.heap l).get? (et1 s.heap l).objs.size = some _ := Heap.get?_push_size _ rfl
  have k1 : (et2 s.heap l).get? s.heap.objs.size = some _ := Heap.get?_push_of_some _ (Heap.get?_push_size _ rfl)
  show _ ∧ _
  rw [z1] at k2 ⊢
  exact ⟨⟨_, k2, rfl⟩, h _ k2 ⟨_, k1, rfl, rfl⟩ fun b o z => Heap.get?_push_of_some _ (Heap.get?_push_of_some _ z)⟩
end
def iEnumT (K : PySem.W.Frag) (ta : TA) : TI := fun σ H R => ta σ H fun vs H1 => ∃ a xs, vs = [.ref a] ∧ SqT K H1 a xs ∧ R (Itet K a) H1
theorem pi_enumT {X : Cx} {e : Expr} {ta : TA} {p pos tpos : Pos} {elts : List Expr} {kk : Nat} (hg : Gl X "enumerate") (hm : X.mg "enumerate" = none) (ha : PA X [e] ta) (one : starEach [e] X.env = [(false, eval e X.env)] := by rfl) :
    PI X (.Tuple elts kk tpos) (.Call (.Name "enumerate" p) [e] [] pos) (iEnumT X.K ta) := by
  refine ⟨fun pins s σ H R I h => ?_⟩
  refine Call_ (ld_blt I hg hm boot_enumerate (PyProof.Rows.callWith_type1 (thn (ha.run pos pins s σ H _ I h) fun us s1 ⟨vs, H1, I1, rr, qq⟩ => ?_) one rfl))
  obtain ⟨a, xs, rfl, hq, q⟩ := qq
  rcases rr with _ | ⟨r, rr⟩
  cases rr
  cases r
  obtain ⟨ws, rv, ht, _⟩ := I1.tuple hq
  refine call_enumT (show s1.heap.IsTuple a ws.toArray from ht) fun g hE hit hk => wpAny_pyIter_enum hE ?_
  have I2 : Inv X pins σ H1 { s1 with heap := g } := I1.kept (t' := s1.toks) hk
  refine ⟨s1.heap.objs.size + 1, [s1.heap.objs.size + 1, s1.heap.objs.size], _, _, H1, rfl, I2, turn_enumT a (s1.heap.objs.size + 1) s1.heap.objs.size, ⟨⟨.none, hE⟩, hit, Nat.succ_ne_self _⟩, fun b hb => ?_, q⟩
  have hbb : b = s1.heap.objs.size + 1 ∨ b = s1.heap.objs.size := by simpa using hb
  have hle : s1.heap.objs.size ≤ b := by
    rcases hbb with rfl | rfl
    · exact Nat.le_succ _
    · exact Nat.le_refl _
  exact I1.fpOk hle (I1.hok.fresh hle)
end LB
namespace LB
open PySem PySem.Spec PyProof.Rows L2
/-! ### list(text), text[::-1] -/
end LB
namespace LB
open PySem PySem.Spec PyProof.Rows L2
abbrev freshSet (w : World) : Obj := { cls := .type "set", dict := none, data := .set #[] 0 (.fresh 0 0 (!w.params.followText "set-order")) }
section
variable {P : Program} {w : World} {A : Around} {E : Value → Shared → Prop} {s : Shared}
/-! ### set.update's loop, by what is kept of the set at Z -/
theorem upd_loop {it Z : Addr} {fp wr : List Addr} {G : Array GenState → Array GenState → Prop} {n : Nat} {Pv : Nat → Value → Prop} {St : Nat → Shared → Prop} {R : Result → Shared → Prop}
    (W : WalksS P w A.in1 it fp wr G n Pv St) (zf : Z ∉ fp) (g0 : Heap) (z0 : g0.get? Z = none) (w0 : ∀ b ∈ wr, g0.get? b = none) (Iv : Nat → Heap → Prop)
    (stay : ∀ i h h', Iv i h → (∀ o, h.get? Z = some o → h'.get? Z = some o) → (∀ b o, g0.get? b = some o → h'.get? b = some o) → Iv i h')
    (add : ∀ i v (s1 : Shared) (Q : Bool → Shared → Prop) (E' : Value → Shared → Prop), i < n → Pv i v → (∀ b o, g0.get? b = some o → s1.heap.get? b = some o) → Iv i s1.heap →
      (∀ b h' tk, s1.toks ≤ tk → Heap.SameBut Z s1.heap h' → Iv (i + 1) h' → Q b { s1 with heap := h', toks := tk }) → wpAny (model P w) A.in1 (setAdd Z v) Q E' s1) :
    ∀ (k i : Nat) (s : Shared), n - i = k → i ≤ n → St i s → (∀ b o, g0.get? b = some o → s.heap.get? b = some o) → Iv i s.heap →
      (∀ s', Moved (Z :: wr) G s s' → Iv n s'.heap → (∀ b o, g0.get? b = some o → s'.heap.get? b = some o) → R (.ok (.ret .none)) s') →
      codeAny (model P w) A (.builtin "set.update.loop" ⟨[.ref Z, .ref it], []⟩) R s := by
  have zw : Z ∉ wr := fun q => zf (W.sub _ q)
  have wz : ∀ b ∈ wr, b ∈ Z :: wr := fun b q => List.mem_cons_of_mem _ q
  have on : ∀ {s s' : Shared}, Moved wr G s s' → (∀ b o, g0.get? b = some o → s.heap.get? b = some o) → ∀ b o, g0.get? b = some o → s'.heap.get? b = some o := fun mv kp b o e =>
    mv.heap b o (fun q => by rw [w0 b q] at e; cases e) (kp b o e)
  intro k
  induction k with
  | zero =>
    intro i s ek ei st kp iv fin
    obtain rfl : i = n := by omega
    refine codeAny_builtin F.entry_set_update_loop ?_; rw [Around.under_plainId F.plain_set_update_loop _]
    show wpAny _ A.in1 (pyNext (.ref it) >>= _) _ _ s
    refine wpAny_bind (W.done s _ _ st fun s' mv => ?_)
    have kp' := on mv kp
    exact wpAny_pure (fin s' (mv.mono wz) (stay _ _ _ iv (fun o e => mv.heap Z o zw e) kp') kp')
  | succ k ih =>
    intro i s ek ei st kp iv fin
    have lt : i < n := by omega
    refine codeAny_builtin F.entry_set_update_loop ?_; rw [Around.under_plainId F.plain_set_update_loop _]
    show wpAny _ A.in1 (pyNext (.ref it) >>= _) _ _ s
    refine wpAny_bind (W.item i s _ _ lt st fun v s' pv st' mv => ?_)
    have kp' := on mv kp
    show wpAny _ A.in1 (holding [v] (setAdd Z v) >>= _) _ _ s'
    refine wpAny_bind (wpAny_holding (add i v s' _ _ lt pv kp' (stay _ _ _ iv (fun o e => mv.heap Z o zw e) kp') fun b h' tk lk sb iv' => ?_))
    have kp2 : ∀ b o, g0.get? b = some o → h'.get? b = some o := fun b o e => (sb.2 b (fun q => by rw [q, z0] at e; cases e)).trans (kp' b o e)
    refine wpAny_pure ⟨plainId_quiet F.plain_set_update_loop _, ih (i + 1) _ (by omega) lt (W.frame _ s' _ _ st' lk fun b q o e => ?_) kp2 iv' fun s2 mv2 iv2 kp3 => ?_⟩
    · rw [sb.2 b (fun q' : b = Z => zf (by rw [← q']; exact q))]; exact e
    · refine fin s2 (Moved.trans W.gtrans ((mv.mono wz).then_heap lk fun b o q e => ?_) mv2) iv2 kp3
      rw [sb.2 b (fun q' : b = Z => q (by rw [q']; exact List.mem_cons_self))]; exact e
end
end LB
namespace LB
open PySem PySem.Spec PyProof.Rows L2
/-! ### sets of texts: made of a list, sorted -/
def kx (e : Int × Value) : Str := PyProof.Rows.strOf e.2
structure SetX (P : Program) (w : World) (h : Heap) (a : Addr) (ks : List Str) : Prop where
  ex : ∃ D : Froz.SD, h.get? a = some (Froz.sObj "set" D) ∧ Froz.TxOk P w D ks ∧ Ris D.2.2.place.toList ∧ (w.params.followText "set-order" = true ∨ D.2.2.led = true) ∧ (D.1.toList.map kx).Perm ks ∧ ∀ e ∈ D.1.toList, ∃ x t, e.2 = Value.str x t
  nd : ks.Nodup
theorem tail_ris {ep : Nat} {es : Array (Int × Value)} {t : SetTable} {wd : Bool} (r : Ris t.place.toList) : Ris (Froz.tailTx ep es t wd).2.2.place.toList := by
  unfold Froz.tailTx
  split
  · exact relayAll_ris _ _ _
  · exact r
theorem tail_led {ep : Nat} {es : Array (Int × Value)} {t : SetTable} {wd : Bool} : (Froz.tailTx ep es t wd).2.2.led = t.led := by
  unfold Froz.tailTx
  split
  · exact relayAll_led _ _ _
  · rfl
theorem tail_perm {ep : Nat} {es : Array (Int × Value)} {t : SetTable} {wd : Bool} : (Froz.tailTx ep es t wd).1.toList.Perm es.toList := by
  unfold Froz.tailTx
  split
  · exact relayAll_perm _ _ _
  · exact .refl _
theorem add_ris {D : Froz.SD} {h : Int} {v : Value} (r : Ris D.2.2.place.toList) : Ris (Froz.addTx h v D).2.2.place.toList := by
  unfold Froz.addTx
  refine tail_ris ?_
  by_cases c : (layNew D.2.2 D.1 h v).2.1.plain = true
  · rw [if_pos c]
    exact layNew_ris _ _ _ _ r
  · rw [if_neg c]
    exact layNew_ris _ _ _ _ r
theorem add_led {D : Froz.SD} {h : Int} {v : Value} : (Froz.addTx h v D).2.2.led = D.2.2.led := by
  unfold Froz.addTx
  rw [tail_led]
  by_cases c : (layNew D.2.2 D.1 h v).2.1.plain = true
  · rw [if_pos c]
    exact layNew_led _ _ _ _
  · rw [if_neg c]
    exact layNew_led _ _ _ _
theorem add_perm {D : Froz.SD} {h : Int} {v : Value} : (Froz.addTx h v D).1.toList.Perm ((h, v) :: D.1.toList) := by
  have p := layNew_perm D.2.2 D.1 h v
  rw [Array.toList_push] at p
  exact tail_perm.trans (p.trans (List.perm_append_singleton _ _))
section
variable {P : Program} {w : World} {A : Around} {E : Value → Shared → Prop} {s : Shared}
theorem add_tx {a : Addr} {D : Froz.SD} {l : List Str} {k : Str} {u : Tok} {Q : Bool → Shared → Prop} (ho : s.heap.get? a = some (Froz.sObj "set" D)) (F : Froz.TxOk P w D l) (hb : l.length + 1 < scanBound)
    (q1 : k ∈ l → Q false { s with toks := s.toks + 1 }) (q2 : k ∉ l → Q true { s with heap := s.heap.update a (fun _ => Froz.sObj "set" (Froz.addTx (hashStr w k) (.str k u) D)), toks := s.toks + 1 }) :
    wpAny (model P w) A (setAdd a (.str k u)) Q E s := by
  have ky : (PySem.strKind P w).is k (.str k u) = true := Froz.is_str k u
  unfold setAdd
  refine wpAny_holding (wpAny_bind ((PySem.strKind P w).pyHash ky ?_))
  by_cases hk : k ∈ l
  · obtain ⟨es, ep, t⟩ := D
    have sz : es.size = l.length := F.sz
    obtain ⟨e, he, pe⟩ := (F.mem k).mp hk
    obtain ⟨j, hj⟩ : ∃ j, List.findIdx? (fun e => (PySem.strKind P w).is k e.2) es.toList = some j := by
      cases q : List.findIdx? (fun e => (PySem.strKind P w).is k e.2) es.toList with
      | some j => exact ⟨j, rfl⟩
      | none =>
        have := List.findIdx?_eq_none_iff.mp q e he
        rw [pe] at this
        cases this
    show wpAny (model P w) A (setAddHashed a (.str k u) ((PySem.strKind P w).hash k)) _ _ _
    unfold setAddHashed setAddHashedIn
    refine wpAny_holding (wpAny_bind (wpAny_setState_of (s := { s with toks := s.toks + 1 }) ho rfl F.fit ?_))
    dsimp only
    rw [byScan_of rfl (by show es.size < scanBound; omega) F.el]
    simp only [↓reduceIte]
    unfold setAddByScan
    refine wpAny_bind (wpAny_bind (wpAny_rule (wpAny_bind (wpAny_setScan_of (knd := PySem.strKind P w) (k := k) (s := { s with toks := s.toks + 1 }) ky ho rfl F.fit F.el ?_))))
    rw [hj]
    exact wpAny_pure (wpAny_pure (q1 hk))
  · exact Froz.add_x (s := { s with toks := s.toks + 1 }) ho F hk hb (q2 hk)
theorem setX_fresh {h : Heap} {a : Addr} (e : h.get? a = some (freshSet w)) : SetX P w h a [] :=
  ⟨⟨(#[], 0, .fresh 0 0 (!w.params.followText "set-order")), e, .nil rfl, List.Pairwise.nil, by
    show _ ∨ (!w.params.followText "set-order") = true
    cases w.params.followText "set-order"
    · exact .inr rfl
    · exact .inl rfl, .nil, fun e he => by cases he⟩, .nil⟩
theorem SetX.keep {h h' : Heap} {a : Addr} {ks : List Str} (R : SetX P w h a ks) (k : ∀ o, h.get? a = some o → h'.get? a = some o) : SetX P w h' a ks := by
  obtain ⟨⟨D, e, r⟩, n⟩ := R
  exact ⟨⟨D, k _ e, r⟩, n⟩
theorem strs_of : ∀ (l : List Value), (∀ v ∈ l, ∃ x t, v = Value.str x t) → StrsAre l (l.map PyProof.Rows.strOf)
  | [], _ => .nil
  | v :: l, h => by
    obtain ⟨x, t, rfl⟩ := h v List.mem_cons_self
    exact .cons x t (strs_of l fun u hu => h u (List.mem_cons_of_mem _ hu))
/-- sorted(a set of texts) -/
theorem sorted_setX {a : Addr} {ks : List Str} {Q : Value → Shared → Prop} (R : SetX P w s.heap a ks) (calm : A.handled = none) (few : ks.length < 4000)
    (q : ∀ s' p (o : Array Value) (c : Nat) (ys : List Str), (∀ b u, s.heap.get? b = some u → s'.heap.get? b = some u) → s'.gens = s.gens → s'.os = s.os → s.heap.objs.size ≤ p →
      s'.heap.get? p = some (seqObj "list" o c) → StrsAre o.toList ys → ys.Perm ks → sortedS ys = true → Q (.ref p) s') :
    wpAny (model P w) A (call (.builtin "sorted") [.ref a]) Q E s := by
  obtain ⟨⟨⟨es, ep, t⟩, e, F, r, ld, pm, els⟩, nd⟩ := R
  have sz : es.size = ks.length := F.sz
  have fw : es.size < scanBound := Nat.lt_of_lt_of_le (by omega : es.size < 4000) (by decide)
  refine Calls.call_function_entry kind_sorted plain_sorted entry_sorted (args_sorted1 _) ?_
  unfold Builtin.«sorted»
  refine wpAny_bind (m := checkCount "sorted" 1 1 _) (wpAny_pure (wpAny_bind (collect_set (A := A.in1) calm ⟨_, e, rfl, rfl⟩ F.fit fw r ld fun s1 vs k1 z1 g1 o1 pv => ?_)))
  have vl : vs.length = ks.length := by rw [pv.length_eq, List.length_map, Array.length_toList]; exact sz
  have hS : StrsAre vs (vs.map PyProof.Rows.strOf) := strs_of vs fun v hv => by
    obtain ⟨e', he', rfl⟩ := List.mem_map.mp (pv.mem_iff.mp hv)
    exact els e' he'
  have pk : (vs.map PyProof.Rows.strOf).Perm ks := by
    have := pv.map PyProof.Rows.strOf
    rw [List.map_map] at this
    exact this.trans pm
  refine wpAny_bind (wpAny_newList ?_ (by rw [vl, sizeLine_eq]; omega))
  have hL : (s1.heap.push (seqObj "list" vs.toArray 0)).get? s1.heap.objs.size = some (seqObj "list" vs.toArray 0) := Heap.get?_push_size _ rfl
  refine wpAny_bind (wpAny_holding (wpAny_call_entry slot_list_sort ⟨_, hL, rfl⟩ entry_list_sort (list_sort_treeKAny strKind_oneLt hL hS.keysOf (fun v₁ v₂ rest z => keyKind_strs (by rw [← z]; exact hS)) (by rw [vl, sizeLine_eq]; omega) fun st' a1 a2 => ⟨_, rfl, ?_⟩) (args_list_sort _)))
  obtain ⟨ys, y1, y2, y3⟩ := sorted_out_str hS a1 a2
  obtain ⟨c, hc⟩ := sortedHeap_at (vs := vs) (out := (arrOf st').map (·.2)) hL
  refine wpAny_pure ⟨_, rfl, q _ s1.heap.objs.size _ c ys (fun b u eb => ?_) g1 o1 z1 hc y1 (y2.trans pk) y3⟩
  have eb1 := k1 b u eb
  have lt := Heap.lt_size eb1
  show (sortedHeap (s1.heap.push (seqObj "list" vs.toArray 0)) s1.heap.objs.size vs _).get? b = some u
  rw [sortedHeap_old (Nat.ne_of_lt lt) (by rw [size_push']; exact Nat.lt_succ_of_lt lt)]
  exact Heap.get?_push_of_some _ eb1
end
/-! ### over the layer -/
def SetXO (P : Program) (w : World) (a : Addr) (ks : List Str) : HO := .ext fun h => SetX P w h a ks
section
variable {X : Cx}
def rSortX (P : Program) (w : World) : List V → Hp → VK → Prop := fun vs H Q => ∃ (a : Addr) (ks : List Str), vs = [V.ref a] ∧ H a = some (SetXO P w a ks) ∧ ks.length < 2000 ∧
  ∀ ys p, ys.Perm ks → sortedS ys = true → H p = none → Q (.ref p) (upd H p (.lst (ys.map V.str)))
theorem cr_sortX (hc : X.calm = true) : CallR X (.builtin "sorted") (rSortX X.prog X.w) := by
  intro pins s σ H vs us Q I r h
  obtain ⟨a, ks, rfl, ha, few, q⟩ := h
  have R : SetX X.prog X.w s.heap a ks := (I.hok a _ ha).1
  rw [Vals.ref1 r]
  refine sorted_setX R (I.ok.hd hc) (by omega) fun s' p o c ys k g os hp hg hS pm srt => ?_
  have hlen : (ys.map V.str).length ≤ sizeLine := by rw [List.length_map, pm.length_eq, sizeLine_eq]; omega
  have hn : H p = none := I.hok.fresh hp
  have J : Inv X pins σ (upd H p (.lst (ys.map V.str))) { s with heap := s'.heap, gens := s'.gens, drawn := s'.drawn, toks := s'.toks } :=
    I.call (ch := []) (Un.laid k hp hn) (I.hok.laid k hp ⟨hlen, o.toList, c, vals_of_strs hS, hg⟩) (by rw [g]; exact I.bare) (fun _ z => nomatch z)
  have e : s' = { s with heap := s'.heap, gens := s'.gens, drawn := s'.drawn, toks := s'.toks } := by
    cases s'; cases s; cases os; rfl
  rw [e]
  exact ⟨.ref p, _, J, rfl, q ys p pm srt hn⟩
end
end LB
namespace LB
open PySem PySem.Spec PyProof.Rows L2
/-! ### dicts whose keys are tuples: setdefault, values -/
/-! ### two fors in a list: the inner one, the outer one -/
end LB
namespace LB
open PySem PySem.Spec PyProof.Rows L2
/-! ### d.get(z), d a dict of the module with text keys -/
end LB
namespace LB
open PySem PySem.Spec PyProof.Rows L2
/-! ### the first place of a sign from a place on -/
/-! ### where the letters of the small word stand in the great one, each as early as can be -/
def gs : List Nat → List Nat → Nat → Option (List Nat)
  | [], _, _ => some []
  | _ :: _, [], _ => none
  | s :: ss, g :: gg, k => if g = s then (gs ss gg (k + 1)).map (k :: ·) else gs (s :: ss) gg (k + 1)
theorem gs_nil (g : List Nat) (k : Nat) : gs [] g k = some [] := by cases g <;> rfl
theorem gs_len : ∀ {a g : List Nat} {k : Nat} {ps : List Nat}, gs a g k = some ps → ps.length = a.length ∧ a.length ≤ g.length
  | [], g, k, ps, h => by
    rw [gs_nil] at h
    cases h
    exact ⟨rfl, Nat.zero_le _⟩
  | _ :: _, [], _, _, h => by cases h
  | s :: ss, x :: r, k, ps, h => by
    unfold gs at h
    by_cases e : x = s
    · rw [if_pos e] at h
      cases h2 : gs ss r (k + 1) with
      | none => rw [h2] at h; cases h
      | some qs =>
        rw [h2] at h
        cases h
        have := gs_len h2
        simp
        omega
    · rw [if_neg e] at h
      have := gs_len h
      simp at this ⊢
      omega
end LB
namespace LB
open PySem PySem.Spec PyProof.Rows L2
/-! ### data in the heap, up to a depth, apart from some addresses -/
inductive D where
  | non | bl (b : Bool) | int (i : Int) | str (l : List Nat) | lst (ds : List D) | tup (ds : List D)
abbrev ascii (l : List Nat) : Prop := ∀ c ∈ l, c < 128
def flatR : V → D → Prop
  | .non, .non => True
  | .bl a, .bl b => a = b
  | .int i, .int j => i = j
  | .str x, .str l => x = tx l ∧ ascii l
  | _, _ => False
def Rp (av : Addr → Prop) (H : Hp) : Nat → V → D → Prop
  | 0, v, d => flatR v d
  | n + 1, v, d => flatR v d ∨ (∃ a xs ds, v = .ref a ∧ d = .lst ds ∧ ¬ av a ∧ H a = some (.lst xs) ∧ xs.length < 100000 ∧ Paired (Rp av H n) xs ds) ∨
      (∃ a xs ds, v = .ref a ∧ d = .tup ds ∧ ¬ av a ∧ H a = some (.tup xs) ∧ xs.length < 100000 ∧ Paired (Rp av H n) xs ds)
def Kp (av : Addr → Prop) (H H' : Hp) : Prop := ∀ a o, ¬ av a → H a = some o → H' a = some o
section
variable {av av' : Addr → Prop} {H H' H'' : Hp} {b s a p : Addr} {o : HO} {n : Nat} {v w : V} {d : D} {ds : List D} {K : PySem.W.Frag}
theorem Kp.refl : Kp av H H := fun _ _ _ e => e
theorem Kp.trans (x : Kp av H H') (y : Kp av H' H'') : Kp av H H'' := fun a o n e => y a o n (x a o n e)
theorem Kp.weak (x : Kp av' H H') (h : ∀ a, av' a → av a) : Kp av H H' := fun a o n e => x a o (fun z => n (h a z)) e
theorem Same.kp (x : Same H H') : Kp av H H' := fun a o _ e => x a o e
theorem BX.kp (x : BX b s H H') (h : av b) : Kp av H H' := fun a o n e => x.keep a o (fun z => n (z ▸ h)) e
theorem Kp.new (h : H p = none) : Kp av H (upd H p o) := Same.kp (same_new h)
theorem Rp.weak : ∀ {n : Nat} {v : V} {d : D}, (∀ a, av' a → av a) → Rp av H n v d → Rp av' H n v d
  | 0, _, _, _, h => h
  | n + 1, _, _, k, h => by
    rcases h with h | ⟨a, xs, ds, e1, e2, na, ha, hl, p⟩ | ⟨a, xs, ds, e1, e2, na, ha, hl, p⟩
    · exact .inl h
    · exact .inr (.inl ⟨a, xs, ds, e1, e2, fun z => na (k a z), ha, hl, Paired.mapP p fun _ _ q => Rp.weak k q⟩)
    · exact .inr (.inr ⟨a, xs, ds, e1, e2, fun z => na (k a z), ha, hl, Paired.mapP p fun _ _ q => Rp.weak k q⟩)
theorem Rp.tup (h : Rp av H (n + 1) v (.tup ds)) : ∃ a xs, v = .ref a ∧ ¬ av a ∧ H a = some (.tup xs) ∧ xs.length < 100000 ∧ Paired (Rp av H n) xs ds := by
  rcases h with h | ⟨a, xs, es, e1, e2, na, ha, hl, p⟩ | ⟨a, xs, es, e1, e2, na, ha, hl, p⟩
  · cases v <;> cases h
  · cases e2
  · cases e2
    exact ⟨a, xs, e1, na, ha, hl, p⟩
theorem Rp.lst (h : Rp av H (n + 1) v (.lst ds)) : ∃ a xs, v = .ref a ∧ ¬ av a ∧ H a = some (.lst xs) ∧ xs.length < 100000 ∧ Paired (Rp av H n) xs ds := by
  rcases h with h | ⟨a, xs, es, e1, e2, na, ha, hl, p⟩ | ⟨a, xs, es, e1, e2, na, ha, hl, p⟩
  · cases v <;> cases h
  · cases e2
    exact ⟨a, xs, e1, na, ha, hl, p⟩
  · cases e2
theorem Rp.str {l : List Nat} (h : Rp av H n v (.str l)) : v = .str (tx l) ∧ ascii l := by
  have go : flatR v (.str l) → v = .str (tx l) ∧ ascii l := fun h => by
    cases v with
    | str x => exact ⟨by rw [h.1], h.2⟩
    | non => cases h
    | bl _ => cases h
    | int _ => cases h
    | byt _ => cases h
    | flt _ => cases h
    | ref _ => cases h
    | ty _ => cases h
  cases n with
  | zero => exact go h
  | succ n =>
    rcases h with h | ⟨_, _, _, _, e, _⟩ | ⟨_, _, _, _, e, _⟩
    · exact go h
    · cases e
    · cases e
theorem paired_app {α β : Type} {F : α → β → Prop} {xs : List α} {ys : List β} {x : α} {y : β} (p : Paired F xs ys) (r : F x y) : Paired F (xs ++ [x]) (ys ++ [y]) := by
  induction p with
  | nil => exact .cons r .nil
  | cons q _ ih => exact .cons q ih
/-- a tuple of texts -/
def tupS (ls : List (List Nat)) : D := .tup (ls.map D.str)
end
/-! ### names -/
def isNm (x : List Nat) : Prop := 0 < x.length ∧ x.length ≤ 8 ∧ ∀ c ∈ x, 97 ≤ c ∧ c < 123
structure NameL (ns : List (List Nat)) : Prop where
  nd : ns.Nodup
  ok : ∀ x ∈ ns, isNm x
theorem NameL.take {ns : List (List Nat)} (h : NameL ns) (k : Nat) : NameL (ns.take k) := ⟨h.nd.sublist (List.take_sublist k ns), fun x hx => h.ok x (List.mem_of_mem_take hx)⟩
theorem lett_bd (f b : Int) (k : Nat) : 97 ≤ lett f b k ∧ lett f b k < 123 := by
  unfold lett
  omega
theorem lett_inj {f b : Int} (hb : b ∈ [(1 : Int), 3, 5, 7, 9, 11]) {j k : Nat} (hj : j < 26) (hk : k < 26) (h : lett f b j = lett f b k) : j = k := by
  unfold lett at h
  simp only [List.mem_cons, List.not_mem_nil, or_false] at hb
  rcases hb with rfl | rfl | rfl | rfl | rfl | rfl <;> omega
/-! ### data as the library's own, for == and != -/
/-! ### a drawn plan -/
structure PD where
  letters : List Nat
  machines : List (List Nat × List Nat)
  rows : List (List Nat × List Nat)
  moves : List (List Nat × List Nat × List (List Nat) × List Nat)
  stands : List (List (List Nat))
def pairD (x : List Nat × List Nat) : D := .tup [.str x.1, .str x.2]
def mvD (x : List Nat × List Nat × List (List Nat) × List Nat) : D := .tup [.str x.1, .str x.2.1, tupS x.2.2.1, .str x.2.2.2]
def standD (ss : List (List Nat)) : D := .lst (ss.map D.str)
def letD (c : Nat) : D := .str [c]
def kLetters : Str := Str.ofString "letters"
def kMachines : Str := Str.ofString "machines"
def kRows : Str := Str.ofString "rows"
def kMoves : Str := Str.ofString "moves"
def kStands : Str := Str.ofString "stands"
def planK (l m r v t : Addr) : List (Key × V) := [(.inr kLetters, .ref l), (.inr kMachines, .ref m), (.inr kRows, .ref r), (.inr kMoves, .ref v), (.inr kStands, .ref t)]
theorem planK_letters {l m r v t : Addr} : valV (planK l m r v t) (.inr kLetters) = some (.ref l) := by rfl
structure PlanAt (av : Addr → Prop) (H : Hp) (d l m r v t : Addr) (p : PD) : Prop where
  nd : ¬ av d
  d : H d = some (.dK (planK l m r v t))
  l : Rp av H 1 (.ref l) (.lst (p.letters.map letD))
  m : Rp av H 2 (.ref m) (.lst (p.machines.map pairD))
  r : Rp av H 2 (.ref r) (.lst (p.rows.map pairD))
  v : Rp av H 3 (.ref v) (.lst (p.moves.map mvD))
  t : Rp av H 2 (.ref t) (.lst (p.stands.map standD))
section
variable {av av' : Addr → Prop} {H H' : Hp} {d l m r v t : Addr} {p : PD}
theorem PlanAt.weak (h : PlanAt av H d l m r v t p) (k : ∀ a, av' a → av a) : PlanAt av' H d l m r v t p := ⟨fun z => h.nd (k d z), h.d, h.l.weak k, h.m.weak k, h.r.weak k, h.v.weak k, h.t.weak k⟩
theorem PlanAt.gl (h : PlanAt av H d l m r v t p) : DGet H d (.str kLetters) (some (.ref l)) := by have := DGet.k (k := .inr kLetters) h.d; rw [planK_letters] at this; exact this
end
def Plan (av : Addr → Prop) (H : Hp) (d : Addr) (p : PD) : Prop := ∃ l m r v t, PlanAt av H d l m r v t p
theorem Plan.weak {av av' : Addr → Prop} {H : Hp} {d : Addr} {p : PD} (h : Plan av H d p) (k : ∀ a, av' a → av a) : Plan av' H d p := by
  obtain ⟨l, m, r, v, t, h⟩ := h
  exact ⟨l, m, r, v, t, h.weak k⟩
/-- all that is told in H -/
def Old (H : Hp) : Addr → Prop := fun a => H a ≠ none
theorem Old.new {H : Hp} {a : Addr} (h : H a = none) : ¬ Old H a := fun z => z h
theorem Old.of {H : Hp} {a : Addr} {o : HO} (h : H a = some o) : Old H a := fun z => by rw [h] at z; cases z
def wIdle : List Nat := [105, 100, 108, 101]
def wBare : List Nat := [98, 97, 114, 101]
def wSend : List Nat := [115, 101, 110, 100]
def wTake : List Nat := [116, 97, 107, 101]
inductive ActOk (p : PD) : List (List Nat) → Prop
  | idle : ActOk p [wIdle]
  | bare {x : List Nat × List Nat} (h : x ∈ p.rows) : ActOk p [wBare, x.1]
  | send {x : List Nat × List Nat} {c : Nat} (h : x ∈ p.rows) (hc : c ∈ p.letters) : ActOk p [wSend, x.1, [c]]
  | take {x : List Nat × List Nat} {c : Nat} (h : x ∈ p.rows) (hc : c ∈ p.letters) : ActOk p [wTake, x.1, [c]]
theorem ActOk.of {p q : PD} (hr : p.rows = q.rows) (hl : p.letters = q.letters) {a : List (List Nat)} (h : ActOk p a) : ActOk q a := by
  cases h with
  | idle => exact .idle
  | bare h => exact .bare (hr ▸ h)
  | send h hc => exact .send (hr ▸ h) (hl ▸ hc)
  | take h hc => exact .take (hr ▸ h) (hl ▸ hc)
/-! ### a plan while it is made -/
structure PB (b cl : Addr) (H0 H : Hp) (d l nm m r v t : Addr) (cs : List Nat) (ns : List (List Nat)) (xm xr xv xt : List V) : Prop where
  bx : BX b cl H0 H
  d : H d = some (.dK (planK l m r v t))
  l : H l = some (.lst (cs.map fun c => V.str (sg c)))
  nm : H nm = some (.lst (ns.map fun l => V.str (tx l)))
  m : H m = some (.lst xm)
  r : H r = some (.lst xr)
  v : H v = some (.lst xv)
  t : H t = some (.lst xt)
section
variable {b cl : Addr} {H0 H H' : Hp} {d l nm m r v t : Addr} {cs : List Nat} {ns : List (List Nat)} {xm xr xv xt : List V}
theorem PB.gl (h : PB b cl H0 H d l nm m r v t cs ns xm xr xv xt) : DGet H d (.str kLetters) (some (.ref l)) := by have := DGet.k (k := .inr kLetters) h.d; rw [planK_letters] at this; exact this
end
/-! ### the stands of a machine; scenes -/
def foundIn (name : List Nat) (ms : List (List Nat × List Nat × List (List Nat) × List Nat)) : List (List Nat) := ms.flatMap fun x => if x.1 = name then [x.2.1, x.2.2.2] else []
end LB
set_option maxHeartbeats 1000000
namespace LB
open PySem PySem.Spec PyProof.Rows L2
/-! ### an own exception with fields, in an except suite: isinstance, its fields -/
/-- what the class D says, for isinstance and for fields -/
structure XC (K : PySem.W.Frag) (D : Addr) : Prop where
  cl : (PySem.W.clsIn K D).isSome = true
  ga : PySem.W.findIn K (.ref D) "__getattribute__" = some (some (.builtin "BaseException.__getattribute__"))
  gg : PySem.W.findIn K (.ref D) "__getattr__" = some none
  ex : PySem.W.subIn K (.ref D) (.type "BaseException") = some true
  ca : PySem.W.findIn K (.ref D) "__class__" = some (some (.builtin "object.__class__"))
  cg : PySem.W.specialIn K (.builtin "object.__class__") "__get__" = some (some (.builtin "getset_descriptor.__get__"))
  ct : PySem.W.takesIn K (.builtin "object.__class__") = some true
  mo : PySem.W.mroIn K D (.type "object") = some true
  hd : PySem.W.hasDictIn K D = true
def rIsX (K : PySem.W.Frag) (cls : Value) (d : Option Addr) (a : Addr) : List V → Hp → VK → Prop := fun xs H Q => ∃ (D dd : Addr) (fs : List (Str × V)) (c : V) (cv : Value) (b : Bool), cls = .ref D ∧ XC K D ∧ d = some dd ∧ H dd = some (.xd fs) ∧ xs = [.ref a, c] ∧ (∀ u, L2.RelV c u → u = cv) ∧ PySem.W.kitOne K (.ref D) cv = some b ∧ Q (.bl b) H
section
variable {X : Cx} {a : Addr} {oe : Obj} {cls : Value} {d : Option Addr} {pn : List (Addr × Obj)}
theorem suite_inst {pins : List (Addr × Obj)} {σ : L2.St} {H : Hp} {s : Shared} {D dd : Addr} {fs : List (Str × V)} (I : Inv (X.suite a ((a, oe) :: pn)) pins σ H s) (hz : Zc (.ref D) (some dd) oe) (hf : ∃ vs, oe.data = .fields vs) (hdd : H dd = some (.xd fs)) :
    ∃ od mA, PySem.W.InstAt s.heap a oe D (some od) ∧ s.heap.get? dd = some od ∧ s.heap.Ns1 dd mA ∧ ∀ f, RelO (fs.lookup f) (mA f) := by
  obtain ⟨ha, _⟩ := I.pin (a, oe) (List.mem_append_left _ List.mem_cons_self)
  obtain ⟨vs, hd⟩ := hf
  obtain ⟨mA, hns, hr⟩ := (show ObjOk X.prog X.w H s.heap dd (.xd fs) from I.hok dd _ hdd)
  obtain ⟨od, ho, hl⟩ := lookIn_ns hns
  exact ⟨od, mA, ⟨ha, hz.1, by unfold PySem.W.notCls; rw [hd] <;> rfl, by rw [hz.2]; exact ho⟩, ho, hns, hr⟩
theorem call_isX (hz : Zc cls d oe) (hf : ∃ vs, oe.data = .fields vs) : CallR (X.suite a ((a, oe) :: pn)) (.builtin "isinstance") (rIsX X.K cls d a) := by
  intro pins s σ H xs us Q I r h
  obtain ⟨D, dd, fs, c, cv, b, rfl, C, rfl, hdd, rfl, hcv, e, q⟩ := h
  obtain ⟨u1, u2, rfl, r1, r2⟩ := vals2 r
  cases r1
  obtain rfl := hcv _ r2
  obtain ⟨od, mA, J, _⟩ := suite_inst I hz hf hdd
  exact PySem.W.kia_one (PySem.W.kitx_exc C.cl C.ga C.gg C.ex C.ca C.cg C.ct C.mo) I.kIn J e (fun z => nomatch z) fun tk => ⟨.bl b, H, I.kept (t' := tk) fun _ _ z => z, rfl, q⟩
def tXfX (K : PySem.W.Frag) (a : Addr) (cls : Value) (d : Option Addr) (n : Str) (te : TE) : TE := fun σ H Q => te σ H fun x H1 => x = .ref a ∧ ∃ (D dd : Addr) (fs : List (Str × V)) (v : V), cls = .ref D ∧ XC K D ∧ PySem.W.findIn K (.ref D) n = some none ∧ d = some dd ∧ H1 dd = some (.xd fs) ∧ fs.lookup n = some v ∧ Q v H1
theorem pe_xfX {e : Expr} {te : TE} {pos : Pos} {n : Str} (hz : Zc cls d oe) (hf : ∃ vs, oe.data = .fields vs) (he : PE (X.suite a ((a, oe) :: pn)) e te) (hb : attributeBase e n X.env (eval e X.env) = eval e X.env := by rfl) :
    PE (X.suite a ((a, oe) :: pn)) (.Attribute e n pos) (tXfX X.K a cls d n te) := by
  refine ⟨fun pins s σ H Q I h => ?_⟩
  refine attr_of hb (thn (he.run pins s σ H _ I h) fun u s1 ⟨x, H1, I1, rx, ex, D, dd, fs, v, ec, C, hno, ed, hdd, l, q⟩ => ?_)
  subst ex ec ed
  obtain rfl : u = Value.ref a := rx
  obtain ⟨od, mA, J, ho, hns, hr⟩ := suite_inst I1 hz hf hdd
  obtain ⟨od', ho', hl⟩ := lookIn_ns hns
  obtain rfl : od = od' := Option.some.inj (ho.symm.trans ho')
  obtain ⟨w, hw, rw'⟩ := RelO.some_of (v := v) (o := mA n) (by rw [← l]; exact hr n)
  exact HandSPX.exc_get I1.kIn J C.ga C.gg C.ex (PySem.W.findObj_own C.hd hno rfl (by rw [hl, hw])) (handed_of rw') ⟨v, H1, I1.tok _, rw', q⟩
end
/-! ### C.m(self, ..): a def of an own class, called by the class's name -/
structure CFn (K : PySem.W.Frag) (C : Addr) (n : Str) (f : Addr) : Prop where
  rd : PySem.W.readsIn K C (.type "type") = true
  ga : PySem.W.specialIn K (.ref C) "__getattribute__" = some (some (.builtin "type.__getattribute__"))
  fn : PySem.W.findCls K (.ref C) (.type "type") n = some (.val (.ref f))
  kp : PySem.W.keepIn K (.ref f) = true
section
variable {X : Cx} {CX : CXT} {k : Nat} {f C : Addr} {fd : FuncData} {ps : List Str} {sp : Sp} {dvs : List V} {ds : List Value} {E : XK} {x n : Str} {p1 p2 pos : Pos} {e : Expr} {es : List Expr} {t : TA}
theorem pe_cfn {pl : Sem Bool} (c : CFn X.K C n f) (F : FnOk X.prog X.w X.K X.mg X.base CX k f fd ps sp) (hr : Room k X.A) (hg : Gl X x) (hm : X.mg x = some (.ref C)) (hb : L2.Binds X.K fd ps ds) (hd : Vals dvs ds) (hx : Passes CX X E) (ha : PA X (e :: es) t)
    (hdb : (x == ("__debug__" : Str)) = false := by decide)
    (hc : eval (.Call (.Attribute (.Name x p1) n p2) (e :: es) [] pos) X.env = (do
      let ov ← eval (.Name x p1) X.env
      standAt p2.atName
      let (f, first) ← holding [ov] (getMethod ov n pl)
      callWith pos f first (backTo pos (starEach (e :: es) X.env)) (backToKw pos (keywordEach [] X.env))) := by rfl)
    (he : starEach (e :: es) X.env = (false, eval e X.env) :: starEach es X.env := by rfl) (hpl : (backTo pos (starEach es X.env)).any (·.1) = false := by rfl) :
    PE X (.Call (.Attribute (.Name x p1) n p2) (e :: es) [] pos) (tCall sp dvs E t) := by
  refine ⟨fun pins s σ H Q I h => ?_⟩
  refine PySem.W.methodCall_KW (ld_glob I hg hm ?_ hdb) hc
  refine PySem.W.method_cls I.kIn c.ga (PySem.W.cls_value I.kIn c.rd c.fn rfl ?_)
  show wpAny _ _ (callWith pos (.ref f) [] (backTo pos (starEach (e :: es) X.env)) []) _ _ _
  refine PySem.W.callWith_K (h₀ := X.base) I.ok.mod.kin c.kp (thn (ha.run pos pins _ σ H _ (I.tok _) h) fun us s1 ⟨vs, H1, I1, r, q⟩ => ⟨I1.kIn, ?_⟩) he hpl
  exact run_fn F hr hb hd hx I1 r q
end
/-! ### C(), C an own exception class whose __init__ takes what is left out -/
section
variable {X : Cx} {p pos : Pos}
theorem pmk_oex0 {CX : CXT} {x : Str} {C fI : Addr} {k : Nat} {fd : FuncData} {ps : List Str} {sp : Sp} {ds : List Value} {dvs : List V} (T : OexC X.K C) (iC : PySem.W.findIn X.K (.ref C) "__init__" = some (some (.ref fI))) (tI : PySem.W.typeIn X.K (.ref fI) = some (.type "function"))
    (F1 : FnOk X.prog X.w X.K X.mg X.base CX k fI fd ps sp) (hr : Room (k + 1) X.A) (hb : L2.Binds X.K fd ps ds) (hd : Vals dvs ds) (hx : Passes CX X (fun _ _ _ => False)) (hg : Gl X x) (hm : X.mg x = some (.ref C)) (hdb : (x == ("__debug__" : Str)) = false := by decide) :
    PMk X (.Call (.Name x p) [] [] pos) (tMkO C sp dvs tNil) := by
  intro pins s σ H Q I h
  obtain ⟨nm, q, N, bs, bm, sn, sub, ab, col, dd, k0, k1, k2, k3, k5, hC, hbm⟩ := T.cls
  refine wpAny_Call_Name_kw (ld_glob I hg hm ?_ hdb)
  refine PySem.W.callWith_K0 I.kIn T.kC ?_
  show wpAny _ _ (call (.ref C) []) _ _ _
  obtain ⟨hp, g, dr, tk, os⟩ := s
  obtain ⟨_, q1⟩ := h
  have sz : hp.objs.size ≤ hp.objs.size + 1 := Nat.le_succ _
  have asked := q1 (hp.objs.size + 1) (I.hok.fresh sz)
  have kk : ∀ b o, hp.get? b = some o → ((hp.push (PySem.W.kdv_tup [])).push (PySem.HandSPX.excO C hp.objs.size)).get? b = some o := fun b o e => Heap.get?_push_of_some _ (Heap.get?_push_of_some _ e)
  have at_ : ((hp.push (PySem.W.kdv_tup [])).push (PySem.HandSPX.excO C hp.objs.size)).get? (hp.objs.size + 1) = some (PySem.HandSPX.excO C hp.objs.size) := by heap_get
  have I2 : Inv X pins σ (upd H (hp.objs.size + 1) (exo (hp.objs.size + 1) C none)) ⟨(hp.push (PySem.W.kdv_tup [])).push (PySem.HandSPX.excO C hp.objs.size), g, dr, tk, os⟩ :=
    I.laid (t' := tk) (a := hp.objs.size + 1) (o := exo (hp.objs.size + 1) C none) (h' := (hp.push (PySem.W.kdv_tup [])).push (PySem.HandSPX.excO C hp.objs.size)) kk sz (exo_ok at_)
  have r2 : Vals (V.ref (hp.objs.size + 1) :: ([] ++ dvs)) ([Value.ref (hp.objs.size + 1)] ++ ds) := .cons rfl hd
  have hl : ([Value.ref (hp.objs.size + 1)] ++ ds).length = ps.length := by
    have e := r2.length
    rw [F1.len _ _ _ _ asked] at e
    exact e.symm
  refine wpAny_call (PySem.HandSPX.call_own PySem.F.excBase_ValueError (fun Y => PySem.HandSPX.refsVE_contains Y bm hbm) (I.kIn _ _ hC) (PySem.W.looks_findIn I.kIn iC) (fun self => PySem.W.bind_fn I.kIn self tI) (Nat.zero_le _)
    (codeAny_mono (F1.run _ X.stack _ _ ⟨[Value.ref (hp.objs.size + 1)], []⟩ ([Value.ref (hp.objs.size + 1)] ++ ds) _ _ (fun _ _ _ => False) (hr.make C [] []) (I2.env0.make C [] []) (hb _ [Value.ref (hp.objs.size + 1)] I2.kIn hl) r2 asked) fun r s' hq' => ?_))
  cases r with
  | error er => exact hx pins σ _ _ er s' I2 hq'
  | ok fl =>
    cases fl with
    | ret u =>
      obtain ⟨v, H2, os2, bare2, un2, hok2, rv, ev, d, fs, ea, ed, hd1, q2⟩ := hq'
      subst ev
      obtain ⟨h2, g2, d2, t2, os'⟩ := s'
      exact ⟨rv, mk_end (raises_own T.exC T.tyC) I sz kk un2 hok2 os2 bare2 ea ed hd1 q2⟩
    | next => exact False.elim hq'
    | brk => exact False.elim hq'
    | cont => exact False.elim hq'
end
end LB
namespace LB
open PySem PySem.Spec PyProof.Rows L2
/-! ### a def that holds lambdas: its own code object is told -/
theorem okC {P : Program} {w : World} {K : PySem.W.Frag} {mg : Str → Option Value} {base : Heap} {x qual : Str} {st : Stmt} {f : Addr} {fd : FuncData} {N ps : List Str} {k : Nat} {sp : Sp} (F : Fun K x qual st f fd) (S : FnScope N ps (defScope st))
    (len : ∀ vs H Q E, sp vs H Q E → vs.length = ps.length)
    (hbody : ∀ (cdv : Value), fd.code = cdv → ∀ (A : Around) (outer : List Env) (s : Shared) (H : Hp) (vs : List V) (Q : VK) (E : XK), Room k (A.deeper (envOfC qual (defScope st) s.heap.objs.size f cdv)) → sp vs H Q E →
      ∃ t, PSs (cxOf CX0 P w K mg base N qual (defScope st) f cdv A outer s H E).nox (defBody st) t ∧ t { nx := fun _ H' => Q .non H', rt := Q } (start N vs) H) : FnOk P w K mg base CX0 (k + 1) f fd ps sp := by
  obtain ⟨oc, od, kV, doc, pm, an, cdv, ct, osl, rfl, lk, hcd⟩ := F.ex
  refine fn_of lk hcd S len fun A outer s H vs Q E room hsp => ?_
  obtain ⟨t, h, q⟩ := hbody cdv rfl A outer s H vs Q E room hsp
  exact ⟨t, h.nox, q⟩
end LB
set_option maxHeartbeats 200000
/-! Pure runs: values without a heap of tuples, a store of what changes; a run of a def as a function; how it speaks of the hand layer's readings. -/
namespace Pu
open PySem PySem.Spec PyProof.Rows L2 LB
/-! ### values, objects, results -/
inductive PV where
  | non | bl (b : Bool) | int (i : Int) | str (s : List Nat) | ty (n : String) | adr (a : Addr) | ref (n : Nat) | tup (xs : List PV) | tpb (xs : List PV)
mutual
def PV.wf (n : Nat) : PV → Prop
  | .non => True
  | .bl _ => True
  | .int _ => True
  | .str _ => True
  | .ty _ => True
  | .adr _ => True
  | .ref k => k < n
  | .tup xs => PV.wfs n xs
  | .tpb xs => PV.wfs n xs
def PV.wfs (n : Nat) : List PV → Prop
  | [] => True
  | x :: xs => PV.wf n x ∧ PV.wfs n xs
end
/-! a value as a nested key -/
mutual
def nkP : PV → NestedKey
  | .str s => .text (tx s)
  | .tup xs => .tup (nkPs xs)
  | .non => .none
  | .bl _ => .none
  | .int _ => .none
  | .ty _ => .none
  | .adr _ => .none
  | .ref _ => .none
  | .tpb _ => .none
def nkPs : List PV → List NestedKey
  | [] => []
  | x :: xs => nkP x :: nkPs xs
end
inductive PO where
  | lst (xs : List PV)
  | dct (kvs : List (PV × PV))
  | dtt (kvs : List (PV × PV))
  | lck (kvs : List (PV × PV))
  | lct (kvs : List (PV × PV))
  | ins (C : Addr) (fs : List (String × PV))
  | nd (f : List (Addr × NestedKey) → Addr → HO) (ks : List PV)
abbrev PM := List PO
def kvwf (n : Nat) (kvs : List (PV × PV)) : Prop := ∀ p ∈ kvs, p.1.wf n ∧ p.2.wf n
def PO.wf (n : Nat) : PO → Prop
  | .lst xs => PV.wfs n xs
  | .dct kvs => kvwf n kvs
  | .dtt kvs => kvwf n kvs
  | .lck kvs => kvwf n kvs
  | .lct kvs => kvwf n kvs
  | .ins _ fs => ∀ p ∈ fs, p.2.wf n
  | .nd _ ks => PV.wfs n ks
structure Xc where
  C : Addr
  w : Str
  n : Int
inductive Res (α : Type) where
  | ok (a : α) (M : PM)
  | exc (x : Xc) (M : PM)
  | bad
def Res.bnd {α β : Type} (r : Res α) (k : α → PM → Res β) : Res β := match r with
  | .ok a M => k a M
  | .exc x M => .exc x M
  | .bad => .bad
/-- what leaves counts for nothing -/
def Res.nox {α : Type} (r : Res α) : Res α := match r with
  | .ok a M => .ok a M
  | _ => .bad
abbrev PS := List (Option PV)
abbrev FE := PS → PM → Res PV
abbrev FT := PS → PM → Res Bool
abbrev FA := PS → PM → Res (List PV)
abbrev FO := PS → PM → Res (Option Int)
inductive SR where
  | nx (σ : PS) (M : PM)
  | rt (p : PV) (M : PM)
  | bk (σ : PS) (M : PM)
  | ct (σ : PS) (M : PM)
  | exc (x : Xc) (M : PM)
  | bad
abbrev FS := PS → PM → SR
@[simp] theorem bnd_ok {α β : Type} (a : α) (M : PM) (k : α → PM → Res β) : (Res.ok a M).bnd k = k a M := id rfl
@[simp] theorem bnd_exc {α β : Type} (x : Xc) (M : PM) (k : α → PM → Res β) : (Res.exc x M).bnd k = .exc x M := id rfl
@[simp] theorem bnd_bad {α β : Type} (k : α → PM → Res β) : Res.bad.bnd k = .bad := id rfl
@[simp] theorem nox_ok {α : Type} (a : α) (M : PM) : (Res.ok a M).nox = .ok a M := id rfl
/-! ### what stands for what -/
section
variable (ι : Nat → Addr) (N : Nat) (H : Hp)
mutual
def Rv : PV → V → Prop
  | .non, v => v = .non
  | .bl b, v => v = .bl b
  | .int i, v => v = .int i
  | .str s, v => v = .str (tx s)
  | .ty n, v => v = .ty n
  | .adr a, v => v = .ref a
  | .ref k, v => k < N ∧ v = .ref (ι k)
  | .tup ps, v => ∃ a vs, v = .ref a ∧ H a = some (.tup vs) ∧ Rvs ps vs
  | .tpb ps, v => ∃ a vs o, v = .ref a ∧ H a = some (.frz o (.tup vs)) ∧ o.dict = none ∧ Rvs ps vs
def Rvs : List PV → List V → Prop
  | [], vs => vs = []
  | p :: ps, vs => ∃ v r, vs = v :: r ∧ Rv p v ∧ Rvs ps r
end
end
structure Ex (ι ι' : Nat → Addr) (n : Nat) (H H' : Hp) : Prop where
  i : ∀ j, j < n → ι' j = ι j
  t : ∀ a vs, H a = some (.tup vs) → H' a = some (.tup vs)
  z : ∀ a o u, H a = some (.frz o u) → H' a = some (.frz o u)
  c : ∀ a q, H a = some (LamX.CodeO a q) → H' a = some (LamX.CodeO a q)
section
variable {ι ι' ι'' : Nat → Addr} {n n' N N' : Nat} {H H' H'' : Hp}
theorem Ex.refl : Ex ι ι n H H := ⟨fun _ _ => rfl, fun _ _ e => e, fun _ _ _ e => e, fun _ _ e => e⟩
theorem Ex.trans (a : Ex ι ι' n H H') (b : Ex ι' ι'' n' H' H'') (h : n ≤ n') : Ex ι ι'' n H H'' :=
  ⟨fun j hj => (b.i j (Nat.lt_of_lt_of_le hj h)).trans (a.i j hj), fun x vs e => b.t x vs (a.t x vs e), fun x o u e => b.z x o u (a.z x o u e), fun x q e => b.c x q (a.c x q e)⟩
mutual
theorem Rv.mono (e : Ex ι ι' N H H') (h : N ≤ N') : ∀ {p : PV} {v : V}, Rv ι N H p v → Rv ι' N' H' p v
  | .non, _, q => q
  | .bl _, _, q => q
  | .int _, _, q => q
  | .str _, _, q => q
  | .ty _, _, q => q
  | .adr _, _, q => q
  | .ref k, _, q => by
    unfold Rv at q ⊢
    exact ⟨Nat.lt_of_lt_of_le q.1 h, by rw [e.i k q.1]; exact q.2⟩
  | .tup ps, _, q => by
    unfold Rv at q ⊢
    obtain ⟨a, vs, e1, e2, r⟩ := q
    exact ⟨a, vs, e1, e.t _ _ e2, Rvs.mono e h r⟩
  | .tpb ps, _, q => by
    unfold Rv at q ⊢
    obtain ⟨a, vs, o, e1, e2, e3, r⟩ := q
    exact ⟨a, vs, o, e1, e.z _ _ _ e2, e3, Rvs.mono e h r⟩
theorem Rvs.mono (e : Ex ι ι' N H H') (h : N ≤ N') : ∀ {ps : List PV} {vs : List V}, Rvs ι N H ps vs → Rvs ι' N' H' ps vs
  | [], _, q => q
  | p :: ps, _, q => by
    unfold Rvs at q ⊢
    obtain ⟨v, r, e1, q1, q2⟩ := q
    exact ⟨v, r, e1, Rv.mono e h q1, Rvs.mono e h q2⟩
end
mutual
theorem Rv.wf : ∀ {p : PV} {v : V}, Rv ι N H p v → p.wf N
  | .non, _, _ => by unfold PV.wf; trivial
  | .bl _, _, _ => by unfold PV.wf; trivial
  | .int _, _, _ => by unfold PV.wf; trivial
  | .str _, _, _ => by unfold PV.wf; trivial
  | .ty _, _, _ => by unfold PV.wf; trivial
  | .adr _, _, _ => by unfold PV.wf; trivial
  | .ref k, _, q => by unfold Rv at q; unfold PV.wf; exact q.1
  | .tup ps, _, q => by
    unfold Rv at q
    unfold PV.wf
    obtain ⟨a, vs, e1, e2, r⟩ := q
    exact Rvs.wf r
  | .tpb ps, _, q => by
    unfold Rv at q
    unfold PV.wf
    obtain ⟨a, vs, o, e1, e2, e3, r⟩ := q
    exact Rvs.wf r
theorem Rvs.wf : ∀ {ps : List PV} {vs : List V}, Rvs ι N H ps vs → PV.wfs N ps
  | [], _, _ => by unfold PV.wfs; trivial
  | p :: ps, _, q => by
    unfold Rvs at q
    unfold PV.wfs
    obtain ⟨v, r, e1, q1, q2⟩ := q
    exact ⟨Rv.wf q1, Rvs.wf q2⟩
end
mutual
theorem Rv.cut : ∀ {p : PV} {v : V}, Rv ι N' H p v → p.wf N → Rv ι N H p v
  | .non, _, q, _ => q
  | .bl _, _, q, _ => q
  | .int _, _, q, _ => q
  | .str _, _, q, _ => q
  | .ty _, _, q, _ => q
  | .adr _, _, q, _ => q
  | .ref k, _, q, w => by
    unfold Rv at q ⊢
    unfold PV.wf at w
    exact ⟨w, q.2⟩
  | .tup ps, _, q, w => by
    unfold Rv at q ⊢
    unfold PV.wf at w
    obtain ⟨a, vs, e1, e2, r⟩ := q
    exact ⟨a, vs, e1, e2, Rvs.cut r w⟩
  | .tpb ps, _, q, w => by
    unfold Rv at q ⊢
    unfold PV.wf at w
    obtain ⟨a, vs, o, e1, e2, e3, r⟩ := q
    exact ⟨a, vs, o, e1, e2, e3, Rvs.cut r w⟩
theorem Rvs.cut : ∀ {ps : List PV} {vs : List V}, Rvs ι N' H ps vs → PV.wfs N ps → Rvs ι N H ps vs
  | [], _, q, _ => q
  | p :: ps, _, q, w => by
    unfold Rvs at q ⊢
    unfold PV.wfs at w
    obtain ⟨v, r, e1, q1, q2⟩ := q
    exact ⟨v, r, e1, Rv.cut q1 w.1, Rvs.cut q2 w.2⟩
end
theorem Rvs.pr : ∀ {ps : List PV} {vs : List V}, Rvs ι N H ps vs → Paired (Rv ι N H) ps vs
  | [], _, q => by unfold Rvs at q; subst q; exact .nil
  | p :: ps, _, q => by
    unfold Rvs at q
    obtain ⟨v, r, rfl, q1, q2⟩ := q
    exact .cons q1 q2.pr
theorem Rvs.of : ∀ {ps : List PV} {vs : List V}, Paired (Rv ι N H) ps vs → Rvs ι N H ps vs
  | _, _, .nil => by unfold Rvs; rfl
  | _, _, .cons a b => by unfold Rvs; exact ⟨_, _, rfl, a, Rvs.of b⟩
theorem Rvs.nil : Rvs ι N H [] [] := by unfold Rvs; rfl
theorem Rvs.cons {p : PV} {ps : List PV} {v : V} {vs : List V} (a : Rv ι N H p v) (b : Rvs ι N H ps vs) : Rvs ι N H (p :: ps) (v :: vs) := by unfold Rvs; exact ⟨_, _, rfl, a, b⟩
theorem Rvs.len {ps : List PV} {vs : List V} (h : Rvs ι N H ps vs) : ps.length = vs.length := Paired.length h.pr
theorem Rvs.get {ps : List PV} {vs : List V} (h : Rvs ι N H ps vs) {i : Nat} {p : PV} (e : ps[i]? = some p) : ∃ v, vs[i]? = some v ∧ Rv ι N H p v := by
  have l := h.len
  have li := (List.getElem?_eq_some_iff.mp e).1
  have e2 : vs[i]? = some vs[i] := List.getElem?_eq_getElem (by omega)
  exact ⟨_, e2, paired_get h.pr e e2⟩
theorem Rvs.app : ∀ {ps qs : List PV} {vs ws : List V}, Rvs ι N H ps vs → Rvs ι N H qs ws → Rvs ι N H (ps ++ qs) (vs ++ ws)
  | [], _, _, _, a, b => by unfold Rvs at a; subst a; exact b
  | p :: ps, _, _, _, a, b => by
    unfold Rvs at a
    obtain ⟨v, r, rfl, q1, q2⟩ := a
    exact Rvs.cons q1 (Rvs.app q2 b)
theorem Rvs.take : ∀ {ps : List PV} {vs : List V} (k : Nat), Rvs ι N H ps vs → Rvs ι N H (ps.take k) (vs.take k)
  | _, _, 0, _ => Rvs.nil
  | [], _, k + 1, a => by unfold Rvs at a; subst a; exact Rvs.nil
  | p :: ps, _, k + 1, a => by
    unfold Rvs at a
    obtain ⟨v, r, rfl, q1, q2⟩ := a
    exact Rvs.cons q1 (Rvs.take k q2)
theorem Rvs.drop : ∀ {ps : List PV} {vs : List V} (k : Nat), Rvs ι N H ps vs → Rvs ι N H (ps.drop k) (vs.drop k)
  | _, _, 0, a => a
  | [], _, k + 1, a => by unfold Rvs at a; subst a; exact Rvs.nil
  | p :: ps, _, k + 1, a => by
    unfold Rvs at a
    obtain ⟨v, r, rfl, q1, q2⟩ := a
    exact Rvs.drop k q2
theorem Rvs.set {p : PV} {v : V} (h : Rv ι N H p v) : ∀ {ps : List PV} {vs : List V} (k : Nat), Rvs ι N H ps vs → Rvs ι N H (ps.set k p) (vs.set k v)
  | [], _, _, a => by unfold Rvs at a; subst a; exact Rvs.nil
  | q :: ps, _, 0, a => by
    unfold Rvs at a
    obtain ⟨v, r, rfl, q1, q2⟩ := a
    exact Rvs.cons h q2
  | q :: ps, _, k + 1, a => by
    unfold Rvs at a
    obtain ⟨v, r, rfl, q1, q2⟩ := a
    exact Rvs.cons q1 (Rvs.set h k q2)
theorem Rv.tup_at {ps : List PV} {v : V} (h : Rv ι N H (.tup ps) v) : ∃ a vs, v = .ref a ∧ H a = some (.tup vs) ∧ Rvs ι N H ps vs := by unfold Rv at h; exact h
theorem Rv.mk_tup {ps : List PV} {a : Addr} {vs : List V} (h : H a = some (.tup vs)) (r : Rvs ι N H ps vs) : Rv ι N H (.tup ps) (.ref a) := by unfold Rv; exact ⟨a, vs, rfl, h, r⟩
theorem Rv.tpb_at {ps : List PV} {v : V} (h : Rv ι N H (.tpb ps) v) : ∃ a vs o, v = .ref a ∧ H a = some (.frz o (.tup vs)) ∧ o.dict = none ∧ Rvs ι N H ps vs := by unfold Rv at h; exact h
theorem Rv.ref_at {k : Nat} {v : V} (h : Rv ι N H (.ref k) v) : k < N ∧ v = .ref (ι k) := by unfold Rv at h; exact h
theorem Rv.mk_ref {k : Nat} (h : k < N) : Rv ι N H (.ref k) (.ref (ι k)) := by unfold Rv; exact ⟨h, rfl⟩
theorem Rv.int {i : Int} {v : V} (h : Rv ι N H (.int i) v) : v = .int i := by unfold Rv at h; exact h
theorem Rv.bl {i : Bool} {v : V} (h : Rv ι N H (.bl i) v) : v = .bl i := by unfold Rv at h; exact h
theorem Rv.str {i : List Nat} {v : V} (h : Rv ι N H (.str i) v) : v = .str (tx i) := by unfold Rv at h; exact h
theorem Rv.non {v : V} (h : Rv ι N H .non v) : v = .non := by unfold Rv at h; exact h
theorem Rv.mk_int {i : Int} : Rv ι N H (.int i) (.int i) := by unfold Rv; rfl
theorem Rv.mk_bl {i : Bool} : Rv ι N H (.bl i) (.bl i) := by unfold Rv; rfl
theorem Rv.mk_str {i : List Nat} : Rv ι N H (.str i) (.str (tx i)) := by unfold Rv; rfl
theorem Rv.mk_non : Rv ι N H .non .non := by unfold Rv; rfl
end
/-- keys of dicts -/
def keyOf : PV → Option Key
  | .int i => some (.inl i)
  | .str s => some (.inr (tx s))
  | _ => none
def keysOf : PV → Option (List Key)
  | .tup xs => xs.mapM keyOf
  | _ => none
def Rk {κ α : Type} (F : κ → α → Prop) (ι : Nat → Addr) (N : Nat) (H : Hp) : κ × PV → α × V → Prop := fun p q => F p.1 q.1 ∧ Rv ι N H p.2 q.2
def fK : PV → Key → Prop := fun p k => keyOf p = some k
def fT : PV → List Key → Prop := fun p k => keysOf p = some k
def fF : String → Str → Prop := fun p k => Str.ofString p = k
def xdF (x : Xc) : List (Str × V) := [(Str.ofString "at", .int x.n), (Str.ofString "word", .str x.w)]
def Ro (ι : Nat → Addr) (N : Nat) (H : Hp) (a : Addr) : PO → Prop
  | .lst xs => ∃ vs, H a = some (.lst vs) ∧ Rvs ι N H xs vs
  | .dct kvs => ∃ kws, H a = some (.dK kws) ∧ Paired (Rk fK ι N H) kvs kws
  | .lck kvs => ∃ o kws, H a = some (.frz o (.dK kws)) ∧ Paired (Rk fK ι N H) kvs kws
  | .dtt kvs => ∃ kws, H a = some (.dT kws) ∧ Paired (Rk fT ι N H) kvs kws
  | .lct kvs => ∃ o kws, H a = some (.frz o (.dT kws)) ∧ Paired (Rk fT ι N H) kvs kws
  | .ins C fs => ∃ dx fw, H a = some (.ins C dx fw) ∧ Paired (Rk fF ι N H) fs fw
  | .nd f ks => ∃ (as : List Addr) (φ : Heap → Prop), H a = some (.ext φ) ∧ HO.ext φ = f (as.zip (nkPs ks)) a ∧ (∀ q, HO.ext φ ≠ LamX.CodeO a q) ∧ Rvs ι N H ks (as.map V.ref)
structure RM (tb : List (Addr × Str)) (ι : Nat → Addr) (M : PM) (H : Hp) : Prop where
  inj : ∀ i j, i < M.length → j < M.length → ι i = ι j → i = j
  obj : ∀ i o, M[i]? = some o → Ro ι M.length H (ι i) o
  tab : LamX.Tabs tb H
def Rs (ι : Nat → Addr) (N : Nat) (H : Hp) (σp : PS) (σ : L2.St) : Prop := σp.length = σ.length ∧ ∀ (i : Nat) (p : PV), σp[i]? = some (some p) → ∃ v, σ[i]? = some (some v) ∧ Rv ι N H p v
section
variable {tb : List (Addr × Str)} {ι ι' ι'' : Nat → Addr} {n n' N N' : Nat} {H H' H'' : Hp} {M M' : PM} {a : Addr} {o : PO}
theorem Ro.mono (e : Ex ι ι' N H H') (h : N ≤ N') (ha : H' a = H a) (r : Ro ι N H a o) : Ro ι' N' H' a o := by
  cases o with
  | lst xs =>
    obtain ⟨vs, e1, r⟩ := r
    exact ⟨vs, ha.trans e1, r.mono e h⟩
  | dct kvs =>
    obtain ⟨vs, e1, r⟩ := r
    exact ⟨vs, ha.trans e1, Paired.mapP r fun _ _ q => ⟨q.1, q.2.mono e h⟩⟩
  | dtt kvs =>
    obtain ⟨vs, e1, r⟩ := r
    exact ⟨vs, ha.trans e1, Paired.mapP r fun _ _ q => ⟨q.1, q.2.mono e h⟩⟩
  | lck kvs =>
    obtain ⟨o, vs, e1, r⟩ := r
    exact ⟨o, vs, ha.trans e1, Paired.mapP r fun _ _ q => ⟨q.1, q.2.mono e h⟩⟩
  | lct kvs =>
    obtain ⟨o, vs, e1, r⟩ := r
    exact ⟨o, vs, ha.trans e1, Paired.mapP r fun _ _ q => ⟨q.1, q.2.mono e h⟩⟩
  | ins C fs =>
    obtain ⟨dx, vs, e1, r⟩ := r
    exact ⟨dx, vs, ha.trans e1, Paired.mapP r fun _ _ q => ⟨q.1, q.2.mono e h⟩⟩
  | nd f ks =>
    obtain ⟨as, φ, e1, e2, e3, r⟩ := r
    exact ⟨as, φ, ha.trans e1, e2, e3, r.mono e h⟩
theorem paired_wf {κ α : Type} {F : κ → α → Prop} : ∀ {kvs : List (κ × PV)} {kws : List (α × V)}, Paired (Rk F ι N H) kvs kws → ∀ p ∈ kvs, p.2.wf N
  | _, _, .nil, p, h => by cases h
  | _, _, .cons a b, p, h => by
    rcases List.mem_cons.mp h with rfl | h
    · exact a.2.wf
    · exact paired_wf b p h
theorem paired_fst {κ α : Type} {F : κ → α → Prop} {G : κ → Prop} (g : ∀ k a, F k a → G k) : ∀ {kvs : List (κ × PV)} {kws : List (α × V)}, Paired (Rk F ι N H) kvs kws → ∀ p ∈ kvs, G p.1
  | _, _, .nil, p, h => by cases h
  | _, _, .cons a b, p, h => by
    rcases List.mem_cons.mp h with rfl | h
    · exact g _ _ a.1
    · exact paired_fst g b p h
theorem keyOf_wf {k : PV} {q : Key} (h : keyOf k = some q) : k.wf n := by
  cases k <;> first | (cases h; done) | (unfold PV.wf; trivial)
theorem keysOf_wf {k : PV} {q : List Key} (h : keysOf k = some q) : k.wf n := by
  cases k <;> first | (cases h; done) | skip
  rename_i xs
  unfold PV.wf
  have h : xs.mapM keyOf = some q := h
  induction xs generalizing q with
  | nil => unfold PV.wfs; trivial
  | cons x xs ih =>
    unfold PV.wfs
    rw [List.mapM_cons] at h
    cases e : keyOf x with
    | none => rw [e] at h; cases h
    | some a =>
      rw [e] at h
      cases e2 : xs.mapM keyOf with
      | none => rw [e2] at h; cases h
      | some b => exact ⟨keyOf_wf e, ih e2 e2⟩
theorem Ro.wf (r : Ro ι N H a o) : o.wf N := by
  cases o with
  | lst xs =>
    obtain ⟨vs, e1, r⟩ := r
    exact r.wf
  | dct kvs =>
    obtain ⟨vs, e1, r⟩ := r
    exact fun p hp => ⟨paired_fst (G := fun k => k.wf N) (fun k a h => keyOf_wf h) r p hp, paired_wf r p hp⟩
  | dtt kvs =>
    obtain ⟨vs, e1, r⟩ := r
    exact fun p hp => ⟨paired_fst (G := fun k => k.wf N) (fun k a h => keysOf_wf h) r p hp, paired_wf r p hp⟩
  | lck kvs =>
    obtain ⟨o, vs, e1, r⟩ := r
    exact fun p hp => ⟨paired_fst (G := fun k => k.wf N) (fun k a h => keyOf_wf h) r p hp, paired_wf r p hp⟩
  | lct kvs =>
    obtain ⟨o, vs, e1, r⟩ := r
    exact fun p hp => ⟨paired_fst (G := fun k => k.wf N) (fun k a h => keysOf_wf h) r p hp, paired_wf r p hp⟩
  | ins C fs =>
    obtain ⟨dx, vs, e1, r⟩ := r
    exact fun p hp => paired_wf r p hp
  | nd f ks =>
    obtain ⟨as, φ, e1, e2, e3, r⟩ := r
    exact r.wf
theorem paired_cut {κ α : Type} {F : κ → α → Prop} : ∀ {kvs : List (κ × PV)} {kws : List (α × V)}, Paired (Rk F ι N' H) kvs kws → (∀ p ∈ kvs, p.2.wf N) → Paired (Rk F ι N H) kvs kws
  | _, _, .nil, _ => .nil
  | _, _, .cons a b, h => .cons ⟨a.1, a.2.cut (h _ List.mem_cons_self)⟩ (paired_cut b fun p hp => h p (List.mem_cons_of_mem _ hp))
theorem Ro.cut (r : Ro ι N' H a o) (w : o.wf N) : Ro ι N H a o := by
  cases o with
  | lst xs =>
    obtain ⟨vs, e1, r⟩ := r
    exact ⟨vs, e1, r.cut w⟩
  | dct kvs =>
    obtain ⟨vs, e1, r⟩ := r
    exact ⟨vs, e1, paired_cut r fun p hp => (w p hp).2⟩
  | dtt kvs =>
    obtain ⟨vs, e1, r⟩ := r
    exact ⟨vs, e1, paired_cut r fun p hp => (w p hp).2⟩
  | lck kvs =>
    obtain ⟨o, vs, e1, r⟩ := r
    exact ⟨o, vs, e1, paired_cut r fun p hp => (w p hp).2⟩
  | lct kvs =>
    obtain ⟨o, vs, e1, r⟩ := r
    exact ⟨o, vs, e1, paired_cut r fun p hp => (w p hp).2⟩
  | ins C fs =>
    obtain ⟨dx, vs, e1, r⟩ := r
    exact ⟨dx, vs, e1, paired_cut r w⟩
  | nd f ks =>
    obtain ⟨as, φ, e1, e2, e3, r⟩ := r
    exact ⟨as, φ, e1, e2, e3, r.cut w⟩
theorem Ro.some (r : Ro ι N H a o) : ∃ x, H a = some x ∧ (∀ vs, x ≠ .tup vs) ∧ (∀ ps, x ≠ .tbl ps) := by
  cases o with
  | lst xs => obtain ⟨vs, e1, r⟩ := r; exact ⟨_, e1, fun _ z => (nomatch z), fun _ z => (nomatch z)⟩
  | dct kvs => obtain ⟨vs, e1, r⟩ := r; exact ⟨_, e1, fun _ z => (nomatch z), fun _ z => (nomatch z)⟩
  | dtt kvs => obtain ⟨vs, e1, r⟩ := r; exact ⟨_, e1, fun _ z => (nomatch z), fun _ z => (nomatch z)⟩
  | lck kvs => obtain ⟨o, vs, e1, r⟩ := r; exact ⟨_, e1, fun _ z => (nomatch z), fun _ z => (nomatch z)⟩
  | lct kvs => obtain ⟨o, vs, e1, r⟩ := r; exact ⟨_, e1, fun _ z => (nomatch z), fun _ z => (nomatch z)⟩
  | ins C fs => obtain ⟨dx, vs, e1, r⟩ := r; exact ⟨_, e1, fun _ z => (nomatch z), fun _ z => (nomatch z)⟩
  | nd f ks => obtain ⟨as, φ, e1, e2, e3, r⟩ := r; exact ⟨_, e1, fun _ z => (nomatch z), fun _ z => (nomatch z)⟩
theorem RM.wf (r : RM tb ι M H) {i : Nat} (h : M[i]? = some o) : o.wf M.length := (r.obj i o h).wf
theorem RM.at (r : RM tb ι M H) {i : Nat} (h : i < M.length) : ∃ x, H (ι i) = some x ∧ (∀ vs, x ≠ .tup vs) ∧ (∀ ps, x ≠ .tbl ps) := (r.obj i _ (List.getElem?_eq_getElem h)).some
theorem RM.ne (r : RM tb ι M H) {i : Nat} (h : i < M.length) {p : Addr} (n : H p = none) : ι i ≠ p := by
  obtain ⟨x, e, _⟩ := r.at h
  exact ne_of_none e n
theorem RM.neT (r : RM tb ι M H) {i : Nat} (h : i < M.length) {p : Addr} {vs : List V} (n : H p = some (.tup vs)) : p ≠ ι i := by
  obtain ⟨x, e, t, _⟩ := r.at h
  intro z
  rw [z, e] at n
  exact t vs (Option.some.inj n)
theorem RM.neC (r : RM tb ι M H) {i : Nat} (h : i < M.length) {p : Addr} {q : Str} (n : H p = some (LamX.CodeO p q)) : p ≠ ι i := by
  intro z
  have o2 := r.obj i _ (List.getElem?_eq_getElem h)
  subst z
  generalize M[i] = oo at o2
  have no : ∀ {u : HO}, H (ι i) = some u → u = LamX.CodeO (ι i) q := fun e => (Option.some.inj (n.symm.trans e)).symm
  cases oo with
  | lst xs => obtain ⟨vs, e, _⟩ := o2; exact nomatch no e
  | dct xs => obtain ⟨vs, e, _⟩ := o2; exact nomatch no e
  | dtt xs => obtain ⟨vs, e, _⟩ := o2; exact nomatch no e
  | lck xs => obtain ⟨_, vs, e, _⟩ := o2; exact nomatch no e
  | lct xs => obtain ⟨_, vs, e, _⟩ := o2; exact nomatch no e
  | ins C fs => obtain ⟨_, vs, e, _⟩ := o2; exact nomatch no e
  | nd f ks => obtain ⟨as, φ, e, _, e3, _⟩ := o2; exact e3 q (no e)
theorem ex_new {p : Addr} {x : HO} (n : H p = none) : Ex ι ι N H (upd H p x) := ⟨fun _ _ => rfl, fun a vs e => (upd_ne (ne_of_none e n)).trans e, fun a o u e => (upd_ne (ne_of_none e n)).trans e, fun a q e => (upd_ne (ne_of_none e n)).trans e⟩
theorem tabs_new {p : Addr} {x : HO} (n : H p = none) (t : LamX.Tabs tb H) : LamX.Tabs tb (upd H p x) := t.ext (same_new n)
/-- something new beside the store -/
theorem RM.new (r : RM tb ι M H) {p : Addr} {x : HO} (n : H p = none) : RM tb ι M (upd H p x) :=
  ⟨r.inj, fun i o h => (r.obj i o h).mono (ex_new n) (Nat.le_refl _) (upd_ne (r.ne (List.getElem?_eq_some_iff.mp h).1 n)), tabs_new n r.tab⟩
/-- a new object of the store -/
def ext (ι : Nat → Addr) (n : Nat) (p : Addr) : Nat → Addr := fun j => if j = n then p else ι j
theorem ext_same {p : Addr} : ext ι n p n = p := by unfold ext; rw [if_pos rfl]
theorem ext_lt {p : Addr} {j : Nat} (h : j < n) : ext ι n p j = ι j := by unfold ext; rw [if_neg (Nat.ne_of_lt h)]
theorem ex_ext {p : Addr} {x : HO} (n : H p = none) : Ex ι (ext ι N p) N H (upd H p x) := ⟨fun _ h => ext_lt h, fun a vs e => (upd_ne (ne_of_none e n)).trans e, fun a o u e => (upd_ne (ne_of_none e n)).trans e, fun a q e => (upd_ne (ne_of_none e n)).trans e⟩
theorem RM.push (r : RM tb ι M H) {p : Addr} {x : HO} (n : H p = none) (h : Ro (ext ι M.length p) (M.length + 1) (upd H p x) p o) : RM tb (ext ι M.length p) (M ++ [o]) (upd H p x) := by
  have hl : (M ++ [o]).length = M.length + 1 := by simp
  refine ⟨fun i j hi hj e => ?_, fun i o' e => ?_, tabs_new n r.tab⟩
  · rw [hl] at hi hj
    rcases Nat.lt_or_ge i M.length with a | a <;> rcases Nat.lt_or_ge j M.length with b | b
    · rw [ext_lt a, ext_lt b] at e
      exact r.inj i j a b e
    · have : j = M.length := by omega
      subst this
      rw [ext_lt a, ext_same] at e
      exact absurd e (r.ne a n)
    · have : i = M.length := by omega
      subst this
      rw [ext_lt b, ext_same] at e
      exact absurd e.symm (r.ne b n)
    · omega
  · rw [hl]
    rcases Nat.lt_or_ge i M.length with a | a
    · rw [List.getElem?_append_left a] at e
      rw [ext_lt a]
      exact (r.obj i o' e).mono (ex_ext n) (by omega) (upd_ne (r.ne a n))
    · have li := (List.getElem?_eq_some_iff.mp e).1
      rw [hl] at li
      have : i = M.length := by omega
      subst this
      rw [List.getElem?_append_right (Nat.le_refl _), Nat.sub_self] at e
      cases e
      rw [ext_same]
      exact h
/-- an object of the store is changed -/
theorem ex_chg (r : RM tb ι M H) {k : Nat} (hk : k < M.length) {x : HO} (hz : ∀ o u, H (ι k) ≠ some (.frz o u)) : Ex ι ι N H (upd H (ι k) x) := ⟨fun _ _ => rfl, fun a vs e => (upd_ne (r.neT hk e)).trans e, fun a o u e => (upd_ne fun z => hz o u (by rw [← z]; exact e)).trans e, fun a q e => (upd_ne (r.neC hk e)).trans e⟩
theorem RM.chg (r : RM tb ι M H) {k : Nat} (hk : k < M.length) {x : HO} (hz : ∀ o u, H (ι k) ≠ some (.frz o u)) (h : Ro ι M.length (upd H (ι k) x) (ι k) o) : RM tb ι (M.set k o) (upd H (ι k) x) := by
  have ex : ∀ n, Ex ι ι n H (upd H (ι k) x) := fun n => ex_chg r hk hz
  refine ⟨fun i j hi hj e => r.inj i j (by simpa using hi) (by simpa using hj) e, fun i o' e => ?_, ?_⟩
  · rw [List.length_set]
    by_cases hi : i = k
    · subst hi
      rw [List.getElem?_set_self hk] at e
      cases e
      exact h
    · rw [List.getElem?_set_ne (Ne.symm hi)] at e
      have li := (List.getElem?_eq_some_iff.mp e).1
      exact (r.obj i o' e).mono (ex _) (Nat.le_refl _) (upd_ne fun z => hi (r.inj i k li hk z))
  · intro p hp
    obtain ⟨ps, e1, e2, e3⟩ := r.tab p hp
    obtain ⟨y, e, t, tt⟩ := r.at hk
    refine ⟨ps, (upd_ne fun z => ?_).trans e1, e2, fun pos cv hc => ?_⟩
    · rw [z, e] at e1
      exact tt ps (Option.some.inj e1)
    · obtain ⟨c, e4, e5⟩ := e3 pos cv hc
      refine ⟨c, e4, (upd_ne fun z => ?_).trans e5⟩
      rw [z, e] at e5
      have := Option.some.inj e5
      exact absurd e5 (by
        have o2 := (r.obj k _ (List.getElem?_eq_getElem hk))
        revert o2
        generalize M[k] = oo
        intro o2 z2
        cases oo with
        | lst xs => obtain ⟨vs, q, _⟩ := o2; rw [e] at q; rw [Option.some.inj q] at z2; cases z2
        | dct xs => obtain ⟨vs, q, _⟩ := o2; rw [e] at q; rw [Option.some.inj q] at z2; cases z2
        | dtt xs => obtain ⟨vs, q, _⟩ := o2; rw [e] at q; rw [Option.some.inj q] at z2; cases z2
        | lck xs => obtain ⟨_, vs, q, _⟩ := o2; rw [e] at q; rw [Option.some.inj q] at z2; cases z2
        | lct xs => obtain ⟨_, vs, q, _⟩ := o2; rw [e] at q; rw [Option.some.inj q] at z2; cases z2
        | ins C xs => obtain ⟨_, vs, q, _⟩ := o2; rw [e] at q; rw [Option.some.inj q] at z2; cases z2
        | nd f xs => obtain ⟨_, φ, q, _, nc, _⟩ := o2; rw [e] at q; rw [Option.some.inj q] at z2; exact nc _ (Option.some.inj z2))
theorem Rs.mono {σp : PS} {σ : L2.St} (e : Ex ι ι' N H H') (h : N ≤ N') (r : Rs ι N H σp σ) : Rs ι' N' H' σp σ :=
  ⟨r.1, fun i p q => by
    obtain ⟨v, e1, e2⟩ := r.2 i p q
    exact ⟨v, e1, e2.mono e h⟩⟩
theorem Rs.set {σp : PS} {σ : L2.St} {p : PV} {v : V} (r : Rs ι N H σp σ) (h : Rv ι N H p v) (i : Nat) : Rs ι N H (σp.set i (some p)) (σ.set i (some v)) := by
  refine ⟨by simpa using r.1, fun j q e => ?_⟩
  by_cases hj : j = i
  · subst hj
    have lj : j < (σp.set j (some p)).length := (List.getElem?_eq_some_iff.mp e).1
    rw [List.length_set] at lj
    rw [List.getElem?_set_self lj] at e
    cases e
    exact ⟨v, List.getElem?_set_self (by rw [← r.1]; exact lj), h⟩
  · rw [List.getElem?_set_ne (Ne.symm hj)] at e
    rw [List.getElem?_set_ne (Ne.symm hj)]
    exact r.2 j q e
theorem Rs.non {σp : PS} {σ : L2.St} (r : Rs ι N H σp σ) (i : Nat) : Rs ι N H (σp.set i none) (σ.set i none) := by
  refine ⟨by simpa using r.1, fun j q e => ?_⟩
  by_cases hj : j = i
  · subst hj
    have lj : j < (σp.set j none).length := (List.getElem?_eq_some_iff.mp e).1
    rw [List.length_set] at lj
    rw [List.getElem?_set_self lj] at e
    cases e
  · rw [List.getElem?_set_ne (Ne.symm hj)] at e
    rw [List.getElem?_set_ne (Ne.symm hj)]
    exact r.2 j q e
def wipeP (σ : PS) : List Nat → PS
  | [] => σ
  | v :: vs => (wipeP σ vs).set v none
theorem Rs.wipe {σp : PS} {σ : L2.St} (r : Rs ι N H σp σ) : ∀ vs : List Nat, Rs ι N H (wipeP σp vs) (wipe σ vs)
  | [] => r
  | v :: vs => (Rs.wipe r vs).non v
end
/-! ### what is wanted of a result -/
section
variable (tb : List (Addr × Str))
def Wp {α β : Type} (rel : (Nat → Addr) → Nat → Hp → α → β → Prop) (ι : Nat → Addr) (n : Nat) (H : Hp) (r : Res α) (Q : β → Hp → Prop) (E : XK) : Prop := match r with
  | .ok p M => ∀ ι' H' v, Ex ι ι' n H H' → n ≤ M.length → RM tb ι' M H' → rel ι' M.length H' p v → Q v H'
  | .exc x M => ∀ ι' H' d, Ex ι ι' n H H' → n ≤ M.length → RM tb ι' M H' → H' d = some (.xd (xdF x)) → E (.ref x.C) (some d) H'
  | .bad => False
abbrev rB : (Nat → Addr) → Nat → Hp → Bool → Bool → Prop := fun _ _ _ a b => a = b
abbrev rO : (Nat → Addr) → Nat → Hp → Option Int → Option Int → Prop := fun _ _ _ a b => a = b
def WpS (ι : Nat → Addr) (n : Nat) (H : Hp) (r : SR) (D : Ends) (E : XK) : Prop := match r with
  | .nx s M => ∀ ι' H' σ, Ex ι ι' n H H' → n ≤ M.length → RM tb ι' M H' → Rs ι' M.length H' s σ → D.nx σ H'
  | .rt p M => ∀ ι' H' v, Ex ι ι' n H H' → n ≤ M.length → RM tb ι' M H' → Rv ι' M.length H' p v → D.rt v H'
  | .bk s M => ∀ ι' H' σ, Ex ι ι' n H H' → n ≤ M.length → RM tb ι' M H' → Rs ι' M.length H' s σ → D.bk σ H'
  | .ct s M => ∀ ι' H' σ, Ex ι ι' n H H' → n ≤ M.length → RM tb ι' M H' → Rs ι' M.length H' s σ → D.ct σ H'
  | .exc x M => ∀ ι' H' d, Ex ι ι' n H H' → n ≤ M.length → RM tb ι' M H' → H' d = some (.xd (xdF x)) → E (.ref x.C) (some d) H'
  | .bad => False
variable (E : XK)
def SmE (t : TE) (f : FE) : Prop := ∀ ι M H σp σ Q, RM tb ι M H → Rs ι M.length H σp σ → Wp tb Rv ι M.length H (f σp M) Q E → t σ H Q
def SmT (t : TT) (f : FT) : Prop := ∀ ι M H σp σ Q, RM tb ι M H → Rs ι M.length H σp σ → Wp tb rB ι M.length H (f σp M) Q E → t σ H Q
def SmA (t : TA) (f : FA) : Prop := ∀ ι M H σp σ Q, RM tb ι M H → Rs ι M.length H σp σ → Wp tb Rvs ι M.length H (f σp M) Q E → t σ H Q
def SmO (t : TO) (f : FO) : Prop := ∀ ι M H σp σ Q, RM tb ι M H → Rs ι M.length H σp σ → Wp tb rO ι M.length H (f σp M) Q E → t σ H Q
def SmS (t : TS) (f : FS) : Prop := ∀ ι M H σp σ D, RM tb ι M H → Rs ι M.length H σp σ → WpS tb ι M.length H (f σp M) D E → t D σ H
/-- two values, a heap -/
def SmR (r : R2) (g : PV → PV → PM → Res PV) : Prop := ∀ ι M H p q x y Q, RM tb ι M H → Rv ι M.length H p x → Rv ι M.length H q y → Wp tb Rv ι M.length H (g p q M) Q E → r x y H Q
def SmU (r : V → Hp → VK → Prop) (g : PV → PM → Res PV) : Prop := ∀ ι M H p x Q, RM tb ι M H → Rv ι M.length H p x → Wp tb Rv ι M.length H (g p M) Q E → r x H Q
def SmL (r : List V → Hp → VK → Prop) (g : List PV → PM → Res PV) : Prop := ∀ ι M H ps xs Q, RM tb ι M H → Rvs ι M.length H ps xs → Wp tb Rv ι M.length H (g ps M) Q E → r xs H Q
end
section
variable {tb : List (Addr × Str)} {E : XK} {α β γ δ : Type} {rel : (Nat → Addr) → Nat → Hp → α → β → Prop} {rel2 : (Nat → Addr) → Nat → Hp → γ → δ → Prop} {ι ι' : Nat → Addr} {n n' : Nat} {H H' : Hp} {M : PM}
theorem Wp.back {r : Res α} {Q : β → Hp → Prop} (h : Wp tb rel ι n H r Q E) (e : Ex ι ι' n H H') (l : n ≤ n') : Wp tb rel ι' n' H' r Q E := by
  cases r with
  | ok p M => exact fun ι2 H2 v e2 l2 r2 v2 => h ι2 H2 v (e.trans e2 l) (Nat.le_trans l l2) r2 v2
  | exc x M => exact fun ι2 H2 d e2 l2 r2 d2 => h ι2 H2 d (e.trans e2 l) (Nat.le_trans l l2) r2 d2
  | bad => exact h
theorem WpS.back {r : SR} {D : Ends} (h : WpS tb ι n H r D E) (e : Ex ι ι' n H H') (l : n ≤ n') : WpS tb ι' n' H' r D E := by
  cases r with
  | nx p M => exact fun ι2 H2 v e2 l2 r2 v2 => h ι2 H2 v (e.trans e2 l) (Nat.le_trans l l2) r2 v2
  | rt p M => exact fun ι2 H2 v e2 l2 r2 v2 => h ι2 H2 v (e.trans e2 l) (Nat.le_trans l l2) r2 v2
  | bk p M => exact fun ι2 H2 v e2 l2 r2 v2 => h ι2 H2 v (e.trans e2 l) (Nat.le_trans l l2) r2 v2
  | ct p M => exact fun ι2 H2 v e2 l2 r2 v2 => h ι2 H2 v (e.trans e2 l) (Nat.le_trans l l2) r2 v2
  | exc x M => exact fun ι2 H2 d e2 l2 r2 d2 => h ι2 H2 d (e.trans e2 l) (Nat.le_trans l l2) r2 d2
  | bad => exact h
/-- a run goes on -/
structure On (tb : List (Addr × Str)) (ι : Nat → Addr) (n : Nat) (H : Hp) (ι' : Nat → Addr) (M' : PM) (H' : Hp) : Prop where
  e : Ex ι ι' n H H'
  l : n ≤ M'.length
  r : RM tb ι' M' H'
theorem Wp.bnd {r : Res α} {k : α → PM → Res γ} {Q : δ → Hp → Prop} (h : Wp tb rel2 ι n H (r.bnd k) Q E) : Wp tb rel ι n H r (fun v H' => ∃ ι' M' p, On tb ι n H ι' M' H' ∧ rel ι' M'.length H' p v ∧ Wp tb rel2 ι' M'.length H' (k p M') Q E) E := by
  cases r with
  | ok p M => exact fun ι' H' v e l r v' => ⟨ι', M, p, ⟨e, l, r⟩, v', Wp.back h e l⟩
  | exc x M => exact h
  | bad => exact h
/-- behind a result a statement -/
def Res.go (r : Res α) (k : α → PM → SR) : SR := match r with
  | .ok a M => k a M
  | .exc x M => .exc x M
  | .bad => .bad
@[simp] theorem go_ok (a : α) (M : PM) (k : α → PM → SR) : (Res.ok a M).go k = k a M := id rfl
@[simp] theorem go_exc (x : Xc) (M : PM) (k : α → PM → SR) : (Res.exc x M : Res α).go k = .exc x M := id rfl
@[simp] theorem go_bad (k : α → PM → SR) : (Res.bad : Res α).go k = .bad := id rfl
theorem Wp.go {r : Res α} {k : α → PM → SR} {D : Ends} (h : WpS tb ι n H (r.go k) D E) : Wp tb rel ι n H r (fun v H' => ∃ ι' M' p, On tb ι n H ι' M' H' ∧ rel ι' M'.length H' p v ∧ WpS tb ι' M'.length H' (k p M') D E) E := by
  cases r with
  | ok p M => exact fun ι' H' v e l r v' => ⟨ι', M, p, ⟨e, l, r⟩, v', WpS.back h e l⟩
  | exc x M => exact h
  | bad => exact h
theorem Wp.okNow {Q : β → Hp → Prop} {p : α} {v : β} (h : Wp tb rel ι M.length H (.ok p M) Q E) (r : RM tb ι M H) (q : rel ι M.length H p v) : Q v H := h ι H v .refl (Nat.le_refl _) r q
end
end Pu
namespace Pu
open PySem PySem.Spec PyProof.Rows L2 LB
open Classical
section
variable {tb : List (Addr × Str)} {E : XK} {α β γ δ : Type} {rel : (Nat → Addr) → Nat → Hp → α → β → Prop} {rel2 : (Nat → Addr) → Nat → Hp → γ → δ → Prop} {ι : Nat → Addr} {n : Nat} {H : Hp} {M : PM} {σp : PS} {σ : L2.St}
theorem Wp.mono {r : Res α} {Q Q' : β → Hp → Prop} (h : Wp tb rel ι n H r Q E) (f : ∀ v H', Q v H' → Q' v H') : Wp tb rel ι n H r Q' E := by
  cases r with
  | ok p M => exact fun ι' H' v e l r q => f _ _ (h ι' H' v e l r q)
  | exc x M => exact h
  | bad => exact h
theorem SmE.to {t : TE} {f : FE} (s : SmE tb E t f) (R : RM tb ι M H) (S : Rs ι M.length H σp σ) {k : PV → PM → Res γ} {Q : δ → Hp → Prop} {Q' : VK} (h : Wp tb rel2 ι M.length H ((f σp M).bnd k) Q E)
    (c : ∀ ι1 M1 H1 p v, On tb ι M.length H ι1 M1 H1 → Rs ι1 M1.length H1 σp σ → Rv ι1 M1.length H1 p v → Wp tb rel2 ι1 M1.length H1 (k p M1) Q E → Q' v H1) : t σ H Q' :=
  s ι M H σp σ Q' R S (Wp.mono (Wp.bnd h) fun v H1 ⟨ι1, M1, p, o, rv, w⟩ => c ι1 M1 H1 p v o (S.mono o.e o.l) rv w)
theorem SmE.go {t : TE} {f : FE} (s : SmE tb E t f) (R : RM tb ι M H) (S : Rs ι M.length H σp σ) {k : PV → PM → SR} {D : Ends} {Q' : VK} (h : WpS tb ι M.length H ((f σp M).go k) D E)
    (c : ∀ ι1 M1 H1 p v, On tb ι M.length H ι1 M1 H1 → Rs ι1 M1.length H1 σp σ → Rv ι1 M1.length H1 p v → WpS tb ι1 M1.length H1 (k p M1) D E → Q' v H1) : t σ H Q' :=
  s ι M H σp σ Q' R S (Wp.mono (Wp.go h) fun v H1 ⟨ι1, M1, p, o, rv, w⟩ => c ι1 M1 H1 p v o (S.mono o.e o.l) rv w)
theorem SmT.to {t : TT} {f : FT} (s : SmT tb E t f) (R : RM tb ι M H) (S : Rs ι M.length H σp σ) {k : Bool → PM → Res γ} {Q : δ → Hp → Prop} {Q' : Bool → Hp → Prop} (h : Wp tb rel2 ι M.length H ((f σp M).bnd k) Q E)
    (c : ∀ ι1 M1 H1 p, On tb ι M.length H ι1 M1 H1 → Rs ι1 M1.length H1 σp σ → Wp tb rel2 ι1 M1.length H1 (k p M1) Q E → Q' p H1) : t σ H Q' :=
  s ι M H σp σ Q' R S (Wp.mono (Wp.bnd h) fun v H1 ⟨ι1, M1, p, o, rv, w⟩ => by have e : p = v := rv; subst e; exact c ι1 M1 H1 p o (S.mono o.e o.l) w)
theorem SmT.go {t : TT} {f : FT} (s : SmT tb E t f) (R : RM tb ι M H) (S : Rs ι M.length H σp σ) {k : Bool → PM → SR} {D : Ends} {Q' : Bool → Hp → Prop} (h : WpS tb ι M.length H ((f σp M).go k) D E)
    (c : ∀ ι1 M1 H1 p, On tb ι M.length H ι1 M1 H1 → Rs ι1 M1.length H1 σp σ → WpS tb ι1 M1.length H1 (k p M1) D E → Q' p H1) : t σ H Q' :=
  s ι M H σp σ Q' R S (Wp.mono (Wp.go h) fun v H1 ⟨ι1, M1, p, o, rv, w⟩ => by have e : p = v := rv; subst e; exact c ι1 M1 H1 p o (S.mono o.e o.l) w)
theorem SmA.to {t : TA} {f : FA} (s : SmA tb E t f) (R : RM tb ι M H) (S : Rs ι M.length H σp σ) {k : List PV → PM → Res γ} {Q : δ → Hp → Prop} {Q' : List V → Hp → Prop} (h : Wp tb rel2 ι M.length H ((f σp M).bnd k) Q E)
    (c : ∀ ι1 M1 H1 p v, On tb ι M.length H ι1 M1 H1 → Rs ι1 M1.length H1 σp σ → Rvs ι1 M1.length H1 p v → Wp tb rel2 ι1 M1.length H1 (k p M1) Q E → Q' v H1) : t σ H Q' :=
  s ι M H σp σ Q' R S (Wp.mono (Wp.bnd h) fun v H1 ⟨ι1, M1, p, o, rv, w⟩ => c ι1 M1 H1 p v o (S.mono o.e o.l) rv w)
theorem SmO.to {t : TO} {f : FO} (s : SmO tb E t f) (R : RM tb ι M H) (S : Rs ι M.length H σp σ) {k : Option Int → PM → Res γ} {Q : δ → Hp → Prop} {Q' : Option Int → Hp → Prop} (h : Wp tb rel2 ι M.length H ((f σp M).bnd k) Q E)
    (c : ∀ ι1 M1 H1 p, On tb ι M.length H ι1 M1 H1 → Rs ι1 M1.length H1 σp σ → Wp tb rel2 ι1 M1.length H1 (k p M1) Q E → Q' p H1) : t σ H Q' :=
  s ι M H σp σ Q' R S (Wp.mono (Wp.bnd h) fun v H1 ⟨ι1, M1, p, o, rv, w⟩ => by have e : p = v := rv; subst e; exact c ι1 M1 H1 p o (S.mono o.e o.l) w)
end
/-! ### names, constants -/
def fVar (i : Nat) : FE := fun σ M => match σ[i]? with
  | some (some p) => .ok p M
  | _ => .bad
def fC (p : PV) : FE := fun _ M => .ok p M
def CV (p : PV) (v : V) : Prop := ∀ ι N H, Rv ι N H p v
theorem cv_int {i : Int} : CV (.int i) (.int i) := fun _ _ _ => .mk_int
theorem cv_bl {i : Bool} : CV (.bl i) (.bl i) := fun _ _ _ => .mk_bl
theorem cv_non : CV .non .non := fun _ _ _ => .mk_non
theorem cv_str {x : Str} {s : List Nat} (h : x = tx s) : CV (.str s) (.str x) := fun _ _ _ => by rw [h]; exact .mk_str
/-! ### operators -/
def fOp (g : PV → PV → PM → Res PV) (fa fb : FE) : FE := fun σ M => (fa σ M).bnd fun p M1 => (fb σ M1).bnd fun q M2 => g p q M2
def fUn (g : PV → PM → Res PV) (fa : FE) : FE := fun σ M => (fa σ M).bnd g
noncomputable def pI (C : Int → Int → Prop) (g : Int → Int → PV) (p q : PV) (M : PM) : Res PV := match p, q with
  | .int i, .int j => if C i j then .ok (g i j) M else .bad
  | _, _ => .bad
def pI0 (g : Int → Int → PV) (p q : PV) (M : PM) : Res PV := match p, q with
  | .int i, .int j => .ok (g i j) M
  | _, _ => .bad
def pU (g : Int → PV) (p : PV) (M : PM) : Res PV := match p with
  | .int i => .ok (g i) M
  | _ => .bad
def eqS : PV → PV → Option Bool
  | .non, .non => some true
  | .non, .int _ => some false
  | .int _, .non => some false
  | .non, .bl _ => some false
  | .bl _, .non => some false
  | .non, .str _ => some false
  | .str _, .non => some false
  | .int i, .int j => some (decide (i = j))
  | .bl a, .bl b => some (decide (a = b))
  | .str x, .str y => some (decide (x = y))
  | .int _, .str _ => some false
  | .str _, .int _ => some false
  | .bl _, .str _ => some false
  | .str _, .bl _ => some false
  | _, _ => none
def pEq (p q : PV) (M : PM) : Res PV := match eqS p q with
  | some b => .ok (.bl b) M
  | none => .bad
def pNe (p q : PV) (M : PM) : Res PV := match eqS p q with
  | some b => .ok (.bl (!b)) M
  | none => .bad
def isNon : PV → Bool
  | .non => true
  | _ => false
def pIsN (p q : PV) (M : PM) : Res PV := match q with
  | .non => .ok (.bl (isNon p)) M
  | _ => .bad
def pNotN (p q : PV) (M : PM) : Res PV := match q with
  | .non => .ok (.bl (!isNon p)) M
  | _ => .bad
def pIsB (p q : PV) (M : PM) : Res PV := match p, q with
  | .bl a, .bl b => .ok (.bl (decide (a = b))) M
  | _, _ => .bad
def lim : Nat := 1000000
theorem lim_le {n : Nat} (h : n ≤ lim) : n ≤ sizeLine := by rw [sizeLine_eq]; unfold lim at h; omega
theorem lim_lt {n : Nat} (h : n < lim) : n < sizeLine := by rw [sizeLine_eq]; unfold lim at h; omega
def pAddS (p q : PV) (M : PM) : Res PV := match p, q with
  | .str a, .str b => if a.length + b.length ≤ lim then .ok (.str (a ++ b)) M else .bad
  | _, _ => .bad
def pLtS (p q : PV) (M : PM) : Res PV := match p, q with
  | .str a, .str b => .ok (.bl (decide (a < b))) M
  | _, _ => .bad
/-- a sign in a text -/
def pInS (p q : PV) (M : PM) : Res PV := match p, q with
  | .str [c], .str z => .ok (.bl (decide (c ∈ z))) M
  | _, _ => .bad
def pNotInS (p q : PV) (M : PM) : Res PV := match p, q with
  | .str [c], .str z => .ok (.bl (!decide (c ∈ z))) M
  | _, _ => .bad
def pAddT (p q : PV) (M : PM) : Res PV := match p, q with
  | .tup a, .tup b => if a.length + b.length ≤ lim then .ok (.tup (a ++ b)) M else .bad
  | _, _ => .bad
def lstAt (M : PM) (p : PV) : Option (List PV) := match p with
  | .ref k => match M[k]? with
    | some (.lst xs) => some xs
    | _ => none
  | _ => none
/-! ### items -/
def pIxL (p q : PV) (M : PM) : Res PV := match lstAt M p, q with
  | some xs, .int i => match atI xs i with
    | some x => .ok x M
    | none => .bad
  | _, _ => .bad
def pIxT (p q : PV) (M : PM) : Res PV := match p, q with
  | .tup xs, .int i => match atI xs i with
    | some x => .ok x M
    | none => .bad
  | _, _ => .bad
def pIxS (p q : PV) (M : PM) : Res PV := match p, q with
  | .str xs, .int i => if xs.length ≤ lim then match atI xs i with
    | some c => .ok (.str [c]) M
    | none => .bad else .bad
  | _, _ => .bad
/-! ### tests -/
def asB (p : PV) (M : PM) : Res Bool := match p with
  | .bl b => .ok b M
  | _ => .bad
def tru (M : PM) : PV → Option Bool
  | .non => some false
  | .bl b => some b
  | .int i => some (i != 0)
  | .str s => if s.length ≤ lim then some (!s.isEmpty) else none
  | .tup xs => some (!xs.isEmpty)
  | .ref k => match M[k]? with
    | some (.lst xs) => some (!xs.isEmpty)
    | some (.dct xs) => some (!xs.isEmpty)
    | _ => none
  | _ => none
def asT (p : PV) (M : PM) : Res Bool := match tru M p with
  | some b => .ok b M
  | none => .bad
def fTest (f : FE) : FT := fun σ M => (f σ M).bnd asB
def fTru (f : FE) : FT := fun σ M => (f σ M).bnd asT
def fNotT (f : FE) : FE := fun σ M => (f σ M).bnd fun p M1 => (asT p M1).bnd fun b M2 => .ok (.bl (!b)) M2
def fAnd (f g : FT) : FT := fun σ M => (f σ M).bnd fun b M1 => if b = true then g σ M1 else .ok false M1
def fOr (f g : FT) : FT := fun σ M => (f σ M).bnd fun b M1 => if b = true then .ok true M1 else g σ M1
def fNot (f : FT) : FT := fun σ M => (f σ M).bnd fun b M1 => .ok (!b) M1
def fYes : FT := fun _ M => .ok true M
def fAndV (f g : FE) : FE := fun σ M => (f σ M).bnd fun p M1 => (asB p M1).bnd fun b M2 => if b = true then g σ M2 else .ok (.bl false) M2
def fOrV (f g : FE) : FE := fun σ M => (f σ M).bnd fun p M1 => (asB p M1).bnd fun b M2 => if b = true then .ok (.bl true) M2 else g σ M2
def fNotV (f : FE) : FE := fun σ M => (f σ M).bnd fun p M1 => (asB p M1).bnd fun b M2 => .ok (.bl (!b)) M2
def fIf (c : FT) (f g : FE) : FE := fun σ M => (c σ M).bnd fun b M1 => if b = true then f σ M1 else g σ M1
def fChain (g g' : PV → PV → PM → Res PV) (fa fb fc : FE) : FE := fun σ M => (fa σ M).bnd fun x M1 => (fb σ M1).bnd fun y M2 => (g x y M2).bnd fun z M3 => (asB z M3).bnd fun k M4 => if k = true then (fc σ M4).bnd fun w M5 => g' y w M5 else .ok (.bl false) M4
/-! ### arguments, displays -/
def fNil : FA := fun _ M => .ok [] M
def fCons (f : FE) (g : FA) : FA := fun σ M => (f σ M).bnd fun p M1 => (g σ M1).bnd fun ps M2 => .ok (p :: ps) M2
def fTup (f : FA) : FE := fun σ M => (f σ M).bnd fun ps M1 => if ps.length ≤ lim then .ok (.tup ps) M1 else .bad
def fLst (f : FA) : FE := fun σ M => (f σ M).bnd fun ps M1 => if ps.length ≤ lim then .ok (.ref M1.length) (M1 ++ [.lst ps]) else .bad
/-! ### slices -/
def cut {α : Type} (xs : List α) (lo hi : Option Int) : List α := (xs.drop (HT.sIx xs.length 0 lo)).take (HT.sIx xs.length xs.length hi - HT.sIx xs.length 0 lo)
def fNoPart : FO := fun _ M => .ok none M
def fPart (f : FE) : FO := fun σ M => (f σ M).bnd fun p M1 => match p with
  | .int i => .ok (some i) M1
  | _ => .bad
def fSl (g : PV → Option Int → Option Int → PM → Res PV) (f : FE) (l h : FO) : FE := fun σ M => (f σ M).bnd fun p M1 => (l σ M1).bnd fun lo M2 => (h σ M2).bnd fun hi M3 => g p lo hi M3
def pSlS (p : PV) (lo hi : Option Int) (M : PM) : Res PV := match p with
  | .str xs => if xs.length ≤ lim then .ok (.str (cut xs lo hi)) M else .bad
  | _ => .bad
def pSlT (p : PV) (lo hi : Option Int) (M : PM) : Res PV := match p with
  | .tup xs => .ok (.tup (cut xs lo hi)) M
  | _ => .bad
section
variable {tb : List (Addr × Str)} {E : XK} {ta tb' tc : TE} {fa fb fc : FE} {r r' : R2} {g g' : PV → PV → PM → Res PV} {K : PySem.W.Frag} {ι : Nat → Addr} {N : Nat} {H : Hp} {M : PM}
theorem sm_var {i : Nat} : SmE tb E (tVar i) (fVar i) := by
  intro ι M H σp σ Q R S h
  unfold fVar at h
  split at h
  · rename_i p e
    obtain ⟨v, e1, r⟩ := S.2 i p e
    exact ⟨v, e1, h.okNow R r⟩
  · exact h.elim
theorem sm_c {p : PV} {v : V} (c : CV p v) : SmE tb E (tC v) (fC p) := fun ι M H σp σ Q R S h => Wp.okNow h R (c _ _ _)
theorem sm_op (hr : SmR tb E r g) (ha : SmE tb E ta fa) (hb : SmE tb E tb' fb) : SmE tb E (tOp r ta tb') (fOp g fa fb) := fun ι M H σp σ Q R S h =>
  ha.to R S h fun ι1 M1 H1 p v o1 S1 rv w1 => hb.to o1.r S1 w1 fun ι2 M2 H2 q u o2 S2 ru w2 => hr ι2 M2 H2 p q v u Q o2.r (rv.mono o2.e o2.l) ru w2
theorem sm_un {ru : V → Hp → VK → Prop} {gu : PV → PM → Res PV} (hr : SmU tb E ru gu) (ha : SmE tb E ta fa) : SmE tb E (tUn ru ta) (fUn gu fa) := fun ι M H σp σ Q R S h =>
  ha.to R S h fun ι1 M1 H1 p v o1 S1 rv w1 => hr ι1 M1 H1 p v Q o1.r rv w1
theorem smr_I0 {gi : Int → Int → PV} {gv : Int → Int → V} (c : ∀ i j, CV (gi i j) (gv i j)) : SmR tb E (rI0 gv) (pI0 gi) := by
  intro ι M H p q x y Q R rp rq h
  unfold pI0 at h
  split at h
  · exact ⟨_, _, rp.int, rq.int, h.okNow R (c _ _ _ _ _)⟩
  · exact h.elim
theorem smr_I {C : Int → Int → Prop} {gi : Int → Int → PV} {gv : Int → Int → V} (c : ∀ i j, CV (gi i j) (gv i j)) : SmR tb E (rI C gv) (pI C gi) := by
  intro ι M H p q x y Q R rp rq h
  unfold pI at h
  split at h
  · split at h
    · rename_i hc
      exact ⟨_, _, rp.int, rq.int, hc, h.okNow R (c _ _ _ _ _)⟩
    · exact h.elim
  · exact h.elim
theorem smu_U {gi : Int → PV} {gv : Int → V} (c : ∀ i, CV (gi i) (gv i)) : SmU tb E (rU gv) (pU gi) := by
  intro ι M H p x Q R rp h
  unfold pU at h
  split at h
  · exact ⟨_, rp.int, h.okNow R (c _ _ _ _)⟩
  · exact h.elim
theorem smr_ip {f : Int → Int → Int} : SmR tb E (ipI f) (pI0 fun i j => .int (f i j)) := by
  intro ι M H p q x y Q R rp rq h
  unfold pI0 at h
  split at h
  · exact ⟨_, _, rp.int, rq.int, h.okNow R .mk_int⟩
  · exact h.elim
theorem tx_inj {a b : List Nat} : tx a = tx b ↔ a = b := ⟨fun h => congrArg (fun s : Str => s.cps.toList) h, fun h => by rw [h]⟩
theorem eqS_of {p q : PV} {x y : V} {b : Bool} (rp : Rv ι N H p x) (rq : Rv ι N H q y) (e : eqS p q = some b) : scal x y = true ∧ decide (x = y) = b := by
  cases p <;> cases q <;> first | (cases e; done) | skip
  all_goals (unfold Rv at rp rq; subst rp rq; unfold eqS at e; cases e; refine ⟨rfl, ?_⟩)
  all_goals first | rfl | (simp; done) | skip
  all_goals
    simp only [V.str.injEq]
    exact decide_eq_decide.mpr tx_inj
theorem smr_eq : SmR tb E rEq pEq := by
  intro ι M H p q x y Q R rp rq h
  unfold pEq at h
  split at h
  · rename_i b e
    obtain ⟨s, d⟩ := eqS_of rp rq e
    refine ⟨s, ?_⟩
    rw [d]
    exact h.okNow R .mk_bl
  · exact h.elim
theorem smr_ne : SmR tb E rNe pNe := by
  intro ι M H p q x y Q R rp rq h
  unfold pNe at h
  split at h
  · rename_i b e
    obtain ⟨s, d⟩ := eqS_of rp rq e
    refine ⟨s, ?_⟩
    rw [d]
    exact h.okNow R .mk_bl
  · exact h.elim
theorem smr_isB : SmR tb E rIsB pIsB := by
  intro ι M H p q x y Q R rp rq h
  unfold pIsB at h
  split at h
  · exact ⟨_, _, rp.bl, rq.bl, h.okNow R .mk_bl⟩
  · exact h.elim
theorem smr_addS : SmR tb E (fun x y H Q => ∃ i j, x = .str i ∧ y = .str j ∧ i.length + j.length ≤ sizeLine ∧ Q (.str (i ++ j)) H) pAddS := by
  intro ι M H p q x y Q R rp rq h
  unfold pAddS at h
  split at h
  · split at h
    · rename_i a b hl
      refine ⟨_, _, rp.str, rq.str, by rw [tx_len, tx_len]; exact lim_le hl, ?_⟩
      rw [tx_app]
      exact h.okNow R .mk_str
    · exact h.elim
  · exact h.elim
theorem smr_ltS : SmR tb E (fun x y H Q => ∃ i j, x = .str i ∧ y = .str j ∧ Q (.bl (decide (i.cps.toList < j.cps.toList))) H) pLtS := by
  intro ι M H p q x y Q R rp rq h
  unfold pLtS at h
  split at h
  · exact ⟨_, _, rp.str, rq.str, h.okNow R .mk_bl⟩
  · exact h.elim
theorem smr_inS : SmR tb E (fun x y H Q => ∃ (c : Nat) (z : Str), x = .str ⟨#[c]⟩ ∧ y = .str z ∧ Q (.bl (decide (c ∈ z.cps.toList))) H) pInS := by
  intro ι M H p q x y Q R rp rq h
  unfold pInS at h
  split at h
  · exact ⟨_, _, rp.str, rq.str, h.okNow R .mk_bl⟩
  · exact h.elim
theorem smr_notInS : SmR tb E (fun x y H Q => ∃ (c : Nat) (z : Str), x = .str ⟨#[c]⟩ ∧ y = .str z ∧ Q (.bl (!decide (c ∈ z.cps.toList))) H) pNotInS := by
  intro ι M H p q x y Q R rp rq h
  unfold pNotInS at h
  split at h
  · exact ⟨_, _, rp.str, rq.str, h.okNow R .mk_bl⟩
  · exact h.elim
theorem smr_addT : SmR tb E (rCatA K) pAddT := by
  intro ι M H p q x y Q R rp rq h
  unfold pAddT at h
  split at h
  · rename_i as bs
    split at h
    · rename_i hl
      obtain ⟨a, vs, rfl, ha, ra⟩ := rp.tup_at
      obtain ⟨b, ws, rfl, hb, rb⟩ := rq.tup_at
      have la := ra.len
      have lb := rb.len
      refine ⟨a, b, vs, ws, rfl, rfl, .of ha, .of hb, by rw [← la, ← lb]; exact lim_le hl, fun e => ?_, fun _ e => ?_, fun _ _ t nt => ?_⟩
      · subst e
        have : as = [] := List.length_eq_zero_iff.mp la
        subst this
        exact h.okNow R rq
      · subst e
        have : bs = [] := List.length_eq_zero_iff.mp lb
        subst this
        rw [List.append_nil] at h
        exact h.okNow R rp
      · exact h ι _ _ (ex_new nt) (Nat.le_refl _) (R.new nt) (.mk_tup upd_same ((ra.mono (ex_new nt) (Nat.le_refl _)).app (rb.mono (ex_new nt) (Nat.le_refl _))))
    · exact h.elim
  · exact h.elim
theorem lstAt_ref {p : PV} {xs : List PV} (h : lstAt M p = some xs) : ∃ k, p = .ref k ∧ M[k]? = some (.lst xs) := by
  cases p <;> first | (cases h; done) | skip
  rename_i k
  unfold lstAt at h
  simp only at h
  split at h
  · rename_i e
    cases h
    exact ⟨k, rfl, e⟩
  · cases h
theorem lst_at {p : PV} {xs : List PV} {v : V} (R : RM tb ι M H) (h : lstAt M p = some xs) (rp : Rv ι M.length H p v) : ∃ k vs, p = .ref k ∧ k < M.length ∧ v = .ref (ι k) ∧ H (ι k) = some (.lst vs) ∧ Rvs ι M.length H xs vs := by
  obtain ⟨k, rfl, e⟩ := lstAt_ref h
  obtain ⟨lk, rfl⟩ := rp.ref_at
  obtain ⟨vs, e1, e2⟩ := R.obj k _ e
  exact ⟨k, vs, rfl, lk, rfl, e1, e2⟩
/-- a new list -/
theorem RM.lst (R : RM tb ι M H) {xs : List PV} {vs : List V} (r : Rvs ι M.length H xs vs) {p : Addr} (n : H p = none) : RM tb (ext ι M.length p) (M ++ [.lst xs]) (upd H p (.lst vs)) ∧ Rv (ext ι M.length p) (M ++ [PO.lst xs]).length (upd H p (.lst vs)) (.ref M.length) (.ref p) := by
  refine ⟨R.push n ⟨vs, upd_same, r.mono (ex_ext n) (by omega)⟩, ?_⟩
  have := Rv.mk_ref (ι := ext ι M.length p) (N := (M ++ [PO.lst xs]).length) (H := upd H p (.lst vs)) (k := M.length) (by simp)
  rw [ext_same] at this
  exact this
theorem okLst {Q : VK} {xs : List PV} {vs : List V} (h : Wp tb Rv ι M.length H (.ok (.ref M.length) (M ++ [.lst xs])) Q E) (R : RM tb ι M H) (r : Rvs ι M.length H xs vs) {p : Addr} (n : H p = none) : Q (.ref p) (upd H p (.lst vs)) := by
  obtain ⟨a, b⟩ := R.lst r n
  exact h _ _ _ (ex_ext n) (by simp) a b
theorem atI_rel {xs : List PV} {vs : List V} (r : Rvs ι N H xs vs) {i : Int} {x : PV} (e : atI xs i = some x) : ∃ v, atI vs i = some v ∧ Rv ι N H x v := by
  unfold atI at e ⊢
  rw [← r.len]
  cases q : ixN xs.length i with
  | none => rw [q] at e; cases e
  | some j =>
    rw [q] at e
    exact r.get e
theorem smr_ixL : SmR tb E (rIxL K) pIxL := by
  intro ι M H p q x y Q R rp rq h
  unfold pIxL at h
  split at h
  · rename_i xs i e1
    split at h
    · rename_i z e2
      obtain ⟨k, vs, rfl, lk, rfl, ha, ra⟩ := lst_at R e1 rp
      obtain ⟨v, e3, rv⟩ := atI_rel ra e2
      exact ⟨_, vs, i, v, rfl, rq.int, .of ha, e3, h.okNow R rv⟩
    · exact h.elim
  · exact h.elim
theorem smr_ixT : SmR tb E (rIxT K) pIxT := by
  intro ι M H p q x y Q R rp rq h
  unfold pIxT at h
  split at h
  · rename_i xs i
    split at h
    · rename_i z e2
      obtain ⟨a, vs, rfl, ha, ra⟩ := rp.tup_at
      obtain ⟨v, e3, rv⟩ := atI_rel ra e2
      exact ⟨_, vs, i, v, rfl, rq.int, .of ha, e3, h.okNow R rv⟩
    · exact h.elim
  · exact h.elim
theorem smr_ixS : SmR tb E rIxS pIxS := by
  intro ι M H p q x y Q R rp rq h
  unfold pIxS at h
  split at h
  · rename_i xs i
    split at h
    · rename_i hl
      split at h
      · rename_i c e2
        exact ⟨tx xs, i, c, rp.str, rq.int, by rw [tx_len]; exact lim_le hl, e2, h.okNow R .mk_str⟩
      · exact h.elim
    · exact h.elim
  · exact h.elim
/-! tests -/
variable {tA tB' : TT} {fA fB : FT}
theorem asB_w {p : PV} {v : V} {γ δ : Type} {rel : (Nat → Addr) → Nat → Hp → γ → δ → Prop} {k : Bool → PM → Res γ} {Q : δ → Hp → Prop} (rp : Rv ι N H p v) (h : Wp tb rel ι N H ((asB p M).bnd k) Q E) : ∃ b, v = .bl b ∧ Wp tb rel ι N H (k b M) Q E := by
  cases p <;> first | exact (h : False).elim | exact ⟨_, rp.bl, h⟩
theorem sm_test (h : SmE tb E ta fa) : SmT tb E (tTest ta) (fTest fa) := fun ι M H σp σ Q R S w =>
  h.to R S w fun ι1 M1 H1 p v o1 S1 rv w1 => by
    cases p <;> first | exact (w1 : False).elim | exact ⟨_, rv.bl, Wp.okNow w1 o1.r rfl⟩
theorem sm_tB (h : SmE tb E ta fa) : SmT tb E (tB ta) (fTest fa) := sm_test h
theorem tru_of {p : PV} {v : V} {b : Bool} (R : RM tb ι M H) (rp : Rv ι M.length H p v) (e : tru M p = some b) : TruV K v H b := by
  cases p with
  | non => unfold Rv at rp; subst rp; cases e; rfl
  | bl x => unfold Rv at rp; subst rp; cases e; rfl
  | int x => unfold Rv at rp; subst rp; cases e; rfl
  | str s =>
    unfold Rv at rp
    subst rp
    have e : (if s.length ≤ lim then some (!s.isEmpty) else none) = some b := e
    split at e
    · rename_i hl
      cases e
      refine ⟨by rw [tx_len]; exact lim_le hl, ?_⟩
      rw [tx_len]
      cases s <;> rfl
    · cases e
  | ty x => cases e
  | adr x => cases e
  | tpb x => cases e
  | tup xs =>
    obtain ⟨a, vs, rfl, ha, ra⟩ := rp.tup_at
    cases e
    refine .inr (.inl ⟨vs, .of ha, ?_⟩)
    have := ra.len
    cases xs <;> cases vs <;> first | rfl | (simp at this)
  | ref k =>
    obtain ⟨lk, rfl⟩ := rp.ref_at
    unfold tru at e
    simp only at e
    split at e
    · rename_i xs e1
      cases e
      obtain ⟨vs, e1, ra⟩ := R.obj k _ e1
      refine .inl ⟨vs, .of e1, ?_⟩
      have := ra.len
      cases xs <;> cases vs <;> first | rfl | (simp at this)
    · rename_i xs e1
      cases e
      obtain ⟨vs, e1, ra⟩ := R.obj k _ e1
      refine .inr (.inr ⟨vs, e1, ?_⟩)
      cases ra <;> rfl
    · cases e
theorem sm_truth (h : SmE tb E ta fa) : SmT tb E (fun σ H Q => ta σ H fun x H' => ∃ k, TruV K x H' k ∧ Q k H') (fTru fa) := fun ι M H σp σ Q R S w =>
  h.to R S w fun ι1 M1 H1 p v o1 S1 rv w1 => by
    unfold asT at w1
    split at w1
    · rename_i b e
      exact ⟨b, tru_of o1.r rv e, Wp.okNow w1 o1.r rfl⟩
    · exact w1.elim
theorem sm_and (ha : SmT tb E tA fA) (hb : SmT tb E tB' fB) : SmT tb E (tAnd tA tB') (fAnd fA fB) := fun ι M H σp σ Q R S w =>
  ha.to R S w fun ι1 M1 H1 p o1 S1 w1 => by
    cases p with
    | true => exact hb ι1 M1 H1 σp σ Q o1.r S1 w1
    | false => exact Wp.okNow w1 o1.r rfl
theorem sm_or (ha : SmT tb E tA fA) (hb : SmT tb E tB' fB) : SmT tb E (tOr tA tB') (fOr fA fB) := fun ι M H σp σ Q R S w =>
  ha.to R S w fun ι1 M1 H1 p o1 S1 w1 => by
    cases p with
    | false => exact hb ι1 M1 H1 σp σ Q o1.r S1 w1
    | true => exact Wp.okNow w1 o1.r rfl
theorem sm_not (ha : SmT tb E tA fA) : SmT tb E (tNot tA) (fNot fA) := fun ι M H σp σ Q R S w =>
  ha.to R S w fun ι1 M1 H1 p o1 S1 w1 => Wp.okNow w1 o1.r rfl
theorem sm_yes : SmT tb E tYes fYes := fun ι M H σp σ Q R S w => Wp.okNow w R rfl
theorem sm_andV (ha : SmE tb E ta fa) (hb : SmE tb E tb' fb) : SmE tb E (tAndV ta tb') (fAndV fa fb) := fun ι M H σp σ Q R S w =>
  ha.to R S w fun ι1 M1 H1 p v o1 S1 rv w1 => by
    obtain ⟨b, rfl, w2⟩ := asB_w rv w1
    refine ⟨b, rfl, ?_⟩
    cases b with
    | true => exact hb ι1 M1 H1 σp σ Q o1.r S1 w2
    | false => exact Wp.okNow w2 o1.r .mk_bl
theorem sm_orV (ha : SmE tb E ta fa) (hb : SmE tb E tb' fb) : SmE tb E (tOrV ta tb') (fOrV fa fb) := fun ι M H σp σ Q R S w =>
  ha.to R S w fun ι1 M1 H1 p v o1 S1 rv w1 => by
    obtain ⟨b, rfl, w2⟩ := asB_w rv w1
    refine ⟨b, rfl, ?_⟩
    cases b with
    | false => exact hb ι1 M1 H1 σp σ Q o1.r S1 w2
    | true => exact Wp.okNow w2 o1.r .mk_bl
theorem sm_if (hc : SmT tb E tA fA) (ha : SmE tb E ta fa) (hb : SmE tb E tb' fb) : SmE tb E (tIf tA ta tb') (fIf fA fa fb) := fun ι M H σp σ Q R S w =>
  hc.to R S w fun ι1 M1 H1 p o1 S1 w1 => by
    cases p with
    | true => exact ha ι1 M1 H1 σp σ Q o1.r S1 w1
    | false => exact hb ι1 M1 H1 σp σ Q o1.r S1 w1
theorem SmR.to {ι : Nat → Addr} {M : PM} {H : Hp} {γ δ : Type} {rel : (Nat → Addr) → Nat → Hp → γ → δ → Prop} (s : SmR tb E r g) (R : RM tb ι M H) {p q : PV} {x y : V} (rp : Rv ι M.length H p x) (rq : Rv ι M.length H q y) {k : PV → PM → Res γ} {Q : δ → Hp → Prop} {Q' : VK} (h : Wp tb rel ι M.length H ((g p q M).bnd k) Q E)
    (c : ∀ ι1 M1 H1 p v, On tb ι M.length H ι1 M1 H1 → Rv ι1 M1.length H1 p v → Wp tb rel ι1 M1.length H1 (k p M1) Q E → Q' v H1) : r x y H Q' :=
  s ι M H p q x y Q' R rp rq (Wp.mono (Wp.bnd h) fun v H1 ⟨ι1, M1, p, o, rv, w⟩ => c ι1 M1 H1 p v o rv w)
/-! arguments -/
variable {tr : TA} {fr : FA}
theorem sm_nil : SmA tb E tNil fNil := fun ι M H σp σ Q R S w => Wp.okNow w R Rvs.nil
theorem sm_cons (ha : SmE tb E ta fa) (hb : SmA tb E tr fr) : SmA tb E (tCons ta tr) (fCons fa fr) := fun ι M H σp σ Q R S w =>
  ha.to R S w fun ι1 M1 H1 p v o1 S1 rv w1 => hb.to o1.r S1 w1 fun ι2 M2 H2 ps vs o2 S2 rvs w2 => Wp.okNow w2 o2.r (Rvs.cons (rv.mono o2.e o2.l) rvs)
theorem sm_tup (hb : SmA tb E tr fr) : SmE tb E (tTup tr) (fTup fr) := fun ι M H σp σ Q R S w =>
  hb.to R S w fun ι1 M1 H1 ps vs o1 S1 rvs w1 => by
    split at w1
    · rename_i hl
      refine ⟨by rw [← rvs.len]; exact lim_le hl, fun p np => ?_⟩
      exact w1 ι1 _ _ (ex_new np) (Nat.le_refl _) (o1.r.new np) (.mk_tup upd_same (rvs.mono (ex_new np) (Nat.le_refl _)))
    · exact w1.elim
theorem sm_lst (hb : SmA tb E tr fr) : SmE tb E (tLst tr) (fLst fr) := fun ι M H σp σ Q R S w =>
  hb.to R S w fun ι1 M1 H1 ps vs o1 S1 rvs w1 => by
    split at w1
    · rename_i hl
      exact ⟨by rw [← rvs.len]; exact lim_le hl, fun p np => okLst w1 o1.r rvs np⟩
    · exact w1.elim
/-! slices -/
theorem cut_rel {xs : List PV} {vs : List V} {lo hi : Option Int} (r : Rvs ι N H xs vs) : Rvs ι N H (cut xs lo hi) (cutV vs lo hi) := by
  unfold cut cutV
  rw [← r.len]
  exact (r.drop _).take _
variable {tl th : TO} {fl fh : FO}
theorem sm_noPart : SmO tb E tNoPart fNoPart := fun ι M H σp σ Q R S w => Wp.okNow w R rfl
theorem sm_part (ha : SmE tb E ta fa) : SmO tb E (tPart ta) (fPart fa) := fun ι M H σp σ Q R S w =>
  ha.to R S w fun ι1 M1 H1 p v o1 S1 rv w1 => by
    cases p <;> first | exact (w1 : False).elim | exact ⟨_, rv.int, Wp.okNow w1 o1.r rfl⟩
def SmSl (tb : List (Addr × Str)) (E : XK) (r : V → Option Int → Option Int → Hp → VK → Prop) (g : PV → Option Int → Option Int → PM → Res PV) : Prop := ∀ ι M H p x lo hi Q, RM tb ι M H → Rv ι M.length H p x → Wp tb Rv ι M.length H (g p lo hi M) Q E → r x lo hi H Q
theorem sm_sl {rs : V → Option Int → Option Int → Hp → VK → Prop} {gs : PV → Option Int → Option Int → PM → Res PV} (hr : SmSl tb E rs gs) (ha : SmE tb E ta fa) (hl : SmO tb E tl fl) (hh : SmO tb E th fh) : SmE tb E (tSl rs ta tl th) (fSl gs fa fl fh) := fun ι M H σp σ Q R S w =>
  ha.to R S w fun ι1 M1 H1 p v o1 S1 rv w1 => hl.to o1.r S1 w1 fun ι2 M2 H2 lo o2 S2 w2 => hh.to o2.r S2 w2 fun ι3 M3 H3 hi o3 S3 w3 => hr ι3 M3 H3 p v lo hi Q o3.r ((rv.mono o2.e o2.l).mono o3.e o3.l) w3
theorem sms_S : SmSl tb E rSlS pSlS := by
  intro ι M H p x lo hi Q R rp h
  unfold pSlS at h
  split at h
  · split at h
    · rename_i s hl
      refine ⟨tx s, rp.str, by rw [tx_len]; exact lim_le hl, ?_⟩
      have e : cutS (tx s) lo hi = tx (cut s lo hi) := by
        unfold cutS cut
        rw [tx_len]
      rw [e]
      exact h.okNow R .mk_str
    · exact h.elim
  · exact h.elim
theorem sms_T : SmSl tb E (rSlA K) pSlT := by
  intro ι M H p x lo hi Q R rp h
  unfold pSlT at h
  split at h
  · rename_i xs
    obtain ⟨a, vs, rfl, ha, ra⟩ := rp.tup_at
    refine ⟨a, vs, rfl, .of ha, fun e => ?_, fun _ t nt => ?_⟩
    · have e1 : cut xs lo hi = xs := by
        unfold cut
        rw [ra.len, e.1, e.2, List.drop_zero, Nat.sub_zero, ← ra.len, List.take_length]
      rw [e1] at h
      exact h.okNow R rp
    · exact h ι _ _ (ex_new nt) (Nat.le_refl _) (R.new nt) (.mk_tup upd_same ((cut_rel ra).mono (ex_new nt) (Nat.le_refl _)))
  · exact h.elim
end
end Pu
namespace Pu
open PySem PySem.Spec PyProof.Rows L2 LB
open Classical
/-! ### garbage -/
def keepOk (M M2 : PM) : Prop := M.length ≤ M2.length ∧ ∀ i, i < M.length → M2[i]? = M[i]? ∨ ∃ o, M2[i]? = some o ∧ o.wf M.length
noncomputable def gc (M : PM) (r : Res PV) : Res PV := match r with
  | .ok p M2 => if keepOk M M2 ∧ p.wf M.length then .ok p (M2.take M.length) else match p with
    | .ref k => match M2[k]? with
      | some o => if keepOk M M2 ∧ o.wf M.length ∧ M.length ≤ k then .ok (.ref M.length) (M2.take M.length ++ [o]) else .ok p M2
      | none => .ok p M2
    | _ => .ok p M2
  | .exc x M2 => if keepOk M M2 then .exc x (M2.take M.length) else .exc x M2
  | .bad => .bad
noncomputable def fGc (f : FE) : FE := fun σ M => gc M (f σ M)
section
variable {tb : List (Addr × Str)} {E : XK} {ι ι2 : Nat → Addr} {H H2 : Hp} {M M2 : PM}
theorem RM.cutTo (R : RM tb ι M H) (R2 : RM tb ι2 M2 H2) (k : keepOk M M2) : RM tb ι2 (M2.take M.length) H2 := by
  have hl : (M2.take M.length).length = M.length := by rw [List.length_take]; have := k.1; omega
  refine ⟨fun i j hi hj e => R2.inj i j (by have := k.1; omega) (by have := k.1; omega) e, fun i o e => ?_, R2.tab⟩
  have li := (List.getElem?_eq_some_iff.mp e).1
  rw [hl] at li ⊢
  rw [List.getElem?_take_of_lt li] at e
  have w : o.wf M.length := by
    rcases k.2 i li with h | ⟨o', h, w⟩
    · exact R.wf (h.symm.trans e)
    · rw [h] at e
      cases e
      exact w
  exact (R2.obj i o e).cut w
theorem gc_ok {rel : (Nat → Addr) → Nat → Hp → PV → V → Prop} {Q : VK} (R : RM tb ι M H) {r : Res PV} (h : Wp tb Rv ι M.length H (gc M r) Q E) : Wp tb Rv ι M.length H r Q E := by
  cases r with
  | bad => exact h
  | exc x M2 =>
    unfold gc at h
    simp only at h
    split at h
    · rename_i k
      intro ι2 H2 d e l R2 hd
      have hl : (M2.take M.length).length = M.length := by rw [List.length_take]; have := k.1; omega
      exact h ι2 H2 d e (by rw [hl]; exact Nat.le_refl _) (R.cutTo R2 k) hd
    · exact h
  | ok p M2 =>
    unfold gc at h
    simp only at h
    split at h
    · rename_i k
      intro ι2 H2 v e l R2 rv
      have hl : (M2.take M.length).length = M.length := by rw [List.length_take]; have := k.1.1; omega
      refine h ι2 H2 v e (by rw [hl]; exact Nat.le_refl _) (R.cutTo R2 k.1) ?_
      rw [hl]
      exact rv.cut k.2
    · split at h
      · rename_i j _
        split at h
        · rename_i o eo
          split at h
          · rename_i k
            intro ι2 H2 v e l R2 rv
            obtain ⟨lj, rfl⟩ := rv.ref_at
            have hl : (M2.take M.length).length = M.length := by rw [List.length_take]; have := k.1.1; omega
            have R3 := R.cutTo R2 k.1
            have hl2 : (M2.take M.length ++ [o]).length = M.length + 1 := by rw [List.length_append, hl]; rfl
            have ne : ∀ i, i < M.length → ι2 i ≠ ι2 j := fun i hi z => by
              have := R2.inj i j (by omega) lj z
              omega
            refine h (ext ι2 M.length (ι2 j)) H2 _ ⟨fun i hi => by rw [ext_lt hi]; exact e.i i hi, e.t, e.z, e.c⟩ (by rw [hl2]; omega) ⟨fun a b ha hb z => ?_, fun i o' eo' => ?_, R2.tab⟩ ?_
            · rw [hl2] at ha hb
              rcases Nat.lt_or_ge a M.length with a1 | a1 <;> rcases Nat.lt_or_ge b M.length with b1 | b1
              · rw [ext_lt a1, ext_lt b1] at z
                exact R2.inj a b (by omega) (by omega) z
              · have : b = M.length := by omega
                subst this
                rw [ext_lt a1, ext_same] at z
                exact absurd z (ne a a1)
              · have : a = M.length := by omega
                subst this
                rw [ext_lt b1, ext_same] at z
                exact absurd z.symm (ne b b1)
              · omega
            · rw [hl2]
              have ex : Ex ι2 (ext ι2 M.length (ι2 j)) M.length H2 H2 := ⟨fun i hi => ext_lt hi, fun _ _ z => z, fun _ _ _ z => z, fun _ _ z => z⟩
              rcases Nat.lt_or_ge i M.length with a | a
              · rw [List.getElem?_append_left (by rw [hl]; exact a)] at eo'
                rw [ext_lt a]
                have := R3.obj i o' eo'
                rw [hl] at this
                exact this.mono ex (by omega) rfl
              · have li := (List.getElem?_eq_some_iff.mp eo').1
                rw [hl2] at li
                have : i = M.length := by omega
                subst this
                rw [List.getElem?_append_right (by rw [hl]; exact Nat.le_refl _), hl, Nat.sub_self] at eo'
                cases eo'
                rw [ext_same]
                exact ((R2.obj j o eo).cut k.2.1).mono ex (by omega) rfl
            · rw [hl2]
              have := Rv.mk_ref (ι := ext ι2 M.length (ι2 j)) (N := M.length + 1) (H := H2) (k := M.length) (by omega)
              rw [ext_same] at this
              exact this
          · exact h
        · exact h
      · exact h
theorem sm_gc {t : TE} {f : FE} (s : SmE tb E t f) : SmE tb E t (fGc f) := fun ι M H σp σ Q R S w => s ι M H σp σ Q R S (gc_ok (rel := Rv) R w)
end
/-! ### plain statements -/
def fNext : FS := fun σ M => .nx σ M
def fSeq (f g : FS) : FS := fun σ M => match f σ M with
  | .nx σ' M' => g σ' M'
  | r => r
def fBreak : FS := fun σ M => .bk σ M
def fCont : FS := fun σ M => .ct σ M
def fDrop (f : FE) : FS := fun σ M => (f σ M).go fun _ M1 => .nx σ M1
def fRet (f : FE) : FS := fun σ M => (f σ M).go fun p M1 => .rt p M1
def fRetN : FS := fun _ M => .rt .non M
def fIfS (c : FT) (f g : FS) : FS := fun σ M => (c σ M).go fun b M1 => if b = true then f σ M1 else g σ M1
def fNever : FS := fun _ _ => .bad
section
variable {tb : List (Addr × Str)} {E : XK} {t u : TS} {f g : FS} {te ta tv : TE} {fe fa fv : FE} {tc : TT} {fc : FT}
theorem sm_next : SmS tb E tNext fNext := fun ι M H σp σ D R S w => w ι H σ .refl (Nat.le_refl _) R S
theorem sm_seq (h1 : SmS tb E t f) (h2 : SmS tb E u g) : SmS tb E (tSeq t u) (fSeq f g) := fun ι M H σp σ D R S w => by
  refine h1 ι M H σp σ _ R S ?_
  unfold fSeq at w
  revert w
  cases f σp M with
  | nx s M1 => exact fun w ι1 H1 σ1 e l R1 S1 => h2 ι1 M1 H1 s σ1 D R1 S1 (w.back e l)
  | rt p M1 => exact fun w => w
  | bk s M1 => exact fun w => w
  | ct s M1 => exact fun w => w
  | exc x M1 => exact fun w => w
  | bad => exact fun w => w
theorem sm_drop (h : SmE tb E te fe) : SmS tb E (tDrop te) (fDrop fe) := fun ι M H σp σ D R S w =>
  h.go R S w fun ι1 M1 H1 p v o S1 rv w1 => w1 ι1 H1 σ .refl (Nat.le_refl _) o.r S1
theorem sm_ret (h : SmE tb E te fe) : SmS tb E (tRet te) (fRet fe) := fun ι M H σp σ D R S w =>
  h.go R S w fun ι1 M1 H1 p v o S1 rv w1 => w1 ι1 H1 v .refl (Nat.le_refl _) o.r rv
theorem sm_ifS (hc : SmT tb E tc fc) (h1 : SmS tb E t f) (h2 : SmS tb E u g) : SmS tb E (tIfS tc t u) (fIfS fc f g) := fun ι M H σp σ D R S w =>
  hc.go R S w fun ι1 M1 H1 p o S1 w1 => by
    cases p with
    | true => exact h1 ι1 M1 H1 σp σ D o.r S1 w1
    | false => exact h2 ι1 M1 H1 σp σ D o.r S1 w1
end
/-! ### targets -/
abbrev FG := PV → PS → Option PS
theorem wipe_get {σ : L2.St} {j : Nat} : ∀ vs : List Nat, (wipe σ vs)[j]? = if j ∈ vs then (if j < σ.length then some none else none) else σ[j]?
  | [] => by simp [wipe]
  | v :: vs => by
    unfold wipe
    rw [List.getElem?_set, wipe_length, wipe_get vs]
    by_cases h : v = j
    · subst h
      simp
    · simp [h, Ne.symm h]
theorem wipe_set {σ : L2.St} {i : Nat} {x : Option V} {vs : List Nat} (h : i ∈ vs) : wipe (σ.set i x) vs = wipe σ vs := by
  apply List.ext_getElem?
  intro j
  rw [wipe_get, wipe_get, List.length_set]
  by_cases hj : j ∈ vs
  · rw [if_pos hj, if_pos hj]
  · rw [if_neg hj, if_neg hj, List.getElem?_set_ne (fun z : i = j => hj (z ▸ h))]
theorem wipe_wipe {σ : L2.St} {vs : List Nat} : wipe (wipe σ vs) vs = wipe σ vs := by
  apply List.ext_getElem?
  intro j
  rw [wipe_get, wipe_get, wipe_length]
  by_cases hj : j ∈ vs
  · rw [if_pos hj, if_pos hj]
  · rw [if_neg hj, if_neg hj]
def SmG (tb : List (Addr × Str)) (g : TG) (fg : FG) (ws : List Nat) : Prop := ∀ ι M H p v σp σ σp' Q, RM tb ι M H → Rv ι M.length H p v → Rs ι M.length H σp σ → fg p σp = some σp' →
  (∀ σ', Rs ι M.length H σp' σ' → (∀ vs, (∀ i ∈ ws, i ∈ vs) → wipe σ' vs = wipe σ vs) → Q σ' H) → g v σ H Q
def SmGs (tb : List (Addr × Str)) (g : TGs) (fg : List PV → PS → Option PS) (ws : List Nat) : Prop := ∀ ι M H ps vs σp σ σp' Q, RM tb ι M H → Rvs ι M.length H ps vs → Rs ι M.length H σp σ → fg ps σp = some σp' →
  (∀ σ', Rs ι M.length H σp' σ' → (∀ vs, (∀ i ∈ ws, i ∈ vs) → wipe σ' vs = wipe σ vs) → Q σ' H) → g vs σ H Q
def gNm (i : Nat) : FG := fun p σ => some (σ.set i (some p))
def gsNil : List PV → PS → Option PS := fun ps σ => match ps with
  | [] => some σ
  | _ => none
def gsCons (g : FG) (gs : List PV → PS → Option PS) : List PV → PS → Option PS := fun ps σ => match ps with
  | p :: r => (g p σ).bind fun σ1 => gs r σ1
  | [] => none
def gTp (gs : List PV → PS → Option PS) : FG := fun p σ => match p with
  | .tup xs => gs xs σ
  | _ => none
section
variable {tb : List (Addr × Str)} {E : XK} {K : PySem.W.Frag} {g : TG} {gs : TGs} {fg : FG} {fgs : List PV → PS → Option PS} {ws ws' : List Nat} {n : Nat}
theorem sg_nm {i : Nat} : SmG tb (gName i) (gNm i) [i] := fun ι M H p v σp σ σp' Q R rp S e c => by
  cases e
  exact c _ (S.set rp i) fun vs hv => wipe_set (hv i (by simp))
theorem sg_nil : SmGs tb gNil gsNil [] := fun ι M H ps vs σp σ σp' Q R rp S e c => by
  cases ps with
  | nil =>
    unfold Rvs at rp
    cases e
    exact ⟨rp, c σ S fun _ _ => rfl⟩
  | cons p r => cases e
theorem sg_cons (h : SmG tb g fg ws) (hs : SmGs tb gs fgs ws') : SmGs tb (gCons g gs) (gsCons fg fgs) (ws ++ ws') := fun ι M H ps vs σp σ σp' Q R rp S e c => by
  cases ps with
  | nil => cases e
  | cons p r =>
    unfold Rvs at rp
    obtain ⟨v, w, rfl, q1, q2⟩ := rp
    unfold gsCons at e
    simp only at e
    cases e1 : fg p σp with
    | none => rw [e1] at e; cases e
    | some σ1 =>
      rw [e1] at e
      refine ⟨v, w, rfl, h ι M H p v σp σ σ1 _ R q1 S e1 fun σ' S' w' => hs ι M H r w σ1 σ' σp' Q R q2 S' e fun σ2 S2 w2 => c σ2 S2 fun vs hv => ?_⟩
      rw [w2 vs fun i hi => hv i (List.mem_append_right _ hi), w' vs fun i hi => hv i (List.mem_append_left _ hi)]
/-- how many -/
theorem gs_len : ∀ {ps : List PV} {σ σ' : PS}, gsNil ps σ = some σ' → ps.length = 0 := fun {ps σ σ'} h => by
  cases ps with
  | nil => rfl
  | cons p r => cases h
def Cnt (fgs : List PV → PS → Option PS) (n : Nat) : Prop := ∀ ps σ σ', fgs ps σ = some σ' → ps.length = n
theorem cnt_nil : Cnt gsNil 0 := fun _ _ _ h => gs_len h
theorem cnt_cons (h : Cnt fgs n) : Cnt (gsCons fg fgs) (n + 1) := fun ps σ σ' e => by
  cases ps with
  | nil => cases e
  | cons p r =>
    unfold gsCons at e
    simp only at e
    cases e1 : fg p σ with
    | none => rw [e1] at e; cases e
    | some σ1 =>
      rw [e1] at e
      rw [List.length_cons, h r σ1 σ' e]
theorem sg_tup (h : SmGs tb gs fgs ws) (c : Cnt fgs n) : SmG tb (gTup K n gs) (gTp fgs) ws := fun ι M H p v σp σ σp' Q R rp S e k => by
  cases p <;> first | (cases e; done) | skip
  rename_i xs
  obtain ⟨a, vs, rfl, ha, ra⟩ := rp.tup_at
  exact ⟨a, vs, rfl, .of ha, by rw [← ra.len]; exact c _ _ _ e, h ι M H xs vs σp σ σp' Q R ra S e k⟩
end
def fAsg (f : FE) (g : FG) : FS := fun σ M => (f σ M).go fun p M1 => match g p σ with
  | some σ' => .nx σ' M1
  | none => .bad
def fAug (i : Nat) (f : FE) (g : PV → PV → PM → Res PV) : FS := fun σ M => match σ[i]? with
  | some (some x) => (f σ M).go fun y M1 => (g x y M1).go fun z M2 => .nx (σ.set i (some z)) M2
  | _ => .bad
/-- xs[i] = v -/
def setL (o i v : PV) (M : PM) : Option PM := match o, i with
  | .ref k, .int j => match M[k]? with
    | some (.lst xs) => match ixN xs.length j with
      | some n => some (M.set k (.lst (xs.set n v)))
      | none => none
    | _ => none
  | _, _ => none
def fAsgL (f fo fi : FE) : FS := fun σ M => (f σ M).go fun v M1 => (fo σ M1).go fun o M2 => (fi σ M2).go fun i M3 => match setL o i v M3 with
  | some M4 => .nx σ M4
  | none => .bad
def fAugL (fo fi f : FE) (g : PV → PV → PM → Res PV) : FS := fun σ M => (fo σ M).go fun o M1 => (fi σ M1).go fun i M2 => (pIxL o i M2).go fun x M3 => (f σ M3).go fun y M4 => (g x y M4).go fun z M5 => match setL o i z M5 with
  | some M6 => .nx σ M6
  | none => .bad
section
variable {tb : List (Addr × Str)} {E : XK} {K : PySem.W.Frag} {te to ti : TE} {fe fo fi : FE} {g : TG} {fg : FG} {ws : List Nat} {ip : TIp} {pi : PV → PV → PM → Res PV} {ι : Nat → Addr} {M : PM} {H : Hp}
theorem sm_asg (h : SmE tb E te fe) (hg : SmG tb g fg ws) : SmS tb E (tAsg te g) (fAsg fe fg) := fun ι M H σp σ D R S w =>
  h.go R S w fun ι1 M1 H1 p v o S1 rv w1 => by
    split at w1
    · rename_i σ' e
      exact hg ι1 M1 H1 p v σp σ σ' D.nx o.r rv S1 e fun σ2 S2 _ => w1 ι1 H1 σ2 .refl (Nat.le_refl _) o.r S2
    · exact w1.elim
theorem SmR.go {r : R2} {gg : PV → PV → PM → Res PV} (s : SmR tb E r gg) (R : RM tb ι M H) {p q : PV} {x y : V} (rp : Rv ι M.length H p x) (rq : Rv ι M.length H q y) {k : PV → PM → SR} {D : Ends} {Q' : VK} (h : WpS tb ι M.length H ((gg p q M).go k) D E)
    (c : ∀ ι1 M1 H1 p v, On tb ι M.length H ι1 M1 H1 → Rv ι1 M1.length H1 p v → WpS tb ι1 M1.length H1 (k p M1) D E → Q' v H1) : r x y H Q' :=
  s ι M H p q x y Q' R rp rq (Wp.mono (Wp.go h) fun v H1 ⟨ι1, M1, p, o, rv, w⟩ => c ι1 M1 H1 p v o rv w)
theorem sm_aug {i : Nat} (h : SmE tb E te fe) (hr : SmR tb E ip pi) : SmS tb E (tAug i te ip) (fAug i fe pi) := fun ι M H σp σ D R S w => by
  unfold fAug at w
  split at w
  · rename_i p e
    obtain ⟨x, e1, rx⟩ := S.2 i p e
    refine ⟨x, e1, h.go R S w fun ι1 M1 H1 q y o S1 ry w1 => hr.go o.r (rx.mono o.e o.l) ry w1 fun ι2 M2 H2 z v o2 rz w2 => ?_⟩
    exact w2 ι2 H2 _ .refl (Nat.le_refl _) o2.r ((S1.mono o2.e o2.l).set rz i)
  · exact w.elim
theorem setL_ok {o i v : PV} {M' : PM} {xo xi xv : V} (R : RM tb ι M H) (ro : Rv ι M.length H o xo) (ri : Rv ι M.length H i xi) (rv : Rv ι M.length H v xv) (e : setL o i v M = some M') {Q : Hp → Prop} (h : ∀ H', Ex ι ι M.length H H' → M'.length = M.length → RM tb ι M' H' → Q H') : rSetL xo xi xv H Q := by
  unfold setL at e
  split at e
  · rename_i k j
    split at e
    · rename_i xs ek
      split at e
      · rename_i n en
        cases e
        obtain ⟨lk, rfl⟩ := ro.ref_at
        obtain ⟨vs, e1, ra⟩ := R.obj k _ ek
        have ra2 := ra.set rv n
        have hz : ∀ o u, H (ι k) ≠ some (.frz o u) := fun o u z => by rw [e1] at z; cases z
        have ex : Ex ι ι M.length H (upd H (ι k) (.lst (vs.set n xv))) := ex_chg R lk hz
        refine ⟨ι k, vs, j, n, rfl, ri.int, e1, by rw [← ra.len]; exact en, h _ ex (by simp) ?_⟩
        exact R.chg (o := .lst (xs.set n v)) (x := .lst (vs.set n xv)) lk hz ⟨_, upd_same, ra2.mono ex (Nat.le_refl _)⟩
      · cases e
    · cases e
  · cases e
theorem sm_asgL (h : SmE tb E te fe) (ho : SmE tb E to fo) (hi : SmE tb E ti fi) : SmS tb E (tAsg te (gSub to ti rSetL)) (fAsgL fe fo fi) := fun ι M H σp σ D R S w =>
  h.go R S w fun ι1 M1 H1 p v o1 S1 rv w1 => ho.go o1.r S1 w1 fun ι2 M2 H2 q xo o2 S2 ro w2 => hi.go o2.r S2 w2 fun ι3 M3 H3 i xi o3 S3 ri w3 => by
    split at w3
    · rename_i M4 e
      refine setL_ok o3.r (ro.mono o3.e o3.l) ri ((rv.mono o2.e o2.l).mono o3.e o3.l) e fun H4 ex l R4 => ?_
      exact w3 ι3 H4 σ ex (by omega) R4 (by rw [l]; exact S3.mono ex (Nat.le_refl _))
    · exact w3.elim
theorem sm_augL (ho : SmE tb E to fo) (hi : SmE tb E ti fi) (h : SmE tb E te fe) (hr : SmR tb E ip pi) : SmS tb E (tAugS to ti te (rIxL K) ip rSetL) (fAugL fo fi fe pi) := fun ι M H σp σ D R S w =>
  ho.go R S w fun ι1 M1 H1 q xo o1 S1 ro w1 => hi.go o1.r S1 w1 fun ι2 M2 H2 i xi o2 S2 ri w2 => smr_ixL.go o2.r (ro.mono o2.e o2.l) ri w2 fun ι3 M3 H3 x xx o3 rx w3 => h.go o3.r (S2.mono o3.e o3.l) w3 fun ι4 M4 H4 y yv o4 S4 ry w4 =>
    hr.go o4.r (rx.mono o4.e o4.l) ry w4 fun ι5 M5 H5 z zv o5 rz w5 => by
      split at w5
      · rename_i M6 e
        refine setL_ok o5.r ((((ro.mono o2.e o2.l).mono o3.e o3.l).mono o4.e o4.l).mono o5.e o5.l) (((ri.mono o3.e o3.l).mono o4.e o4.l).mono o5.e o5.l) rz e fun H6 ex l R6 => ?_
        exact w5 ι5 H6 σ ex (by omega) R6 (by rw [l]; exact (S4.mono o5.e o5.l).mono ex (Nat.le_refl _))
      · exact w5.elim
end
/-! ### walks -/
structure PIt where
  xs : List PV
  ok : PM → Prop
abbrev FI := PS → PM → Res PIt
def rIt (tb : List (Addr × Str)) : (Nat → Addr) → Nat → Hp → PIt → It → Prop := fun ι N H it J => ∀ (i : Nat) (ι' : Nat → Addr) (M' : PM) (H' : Hp), Ex ι ι' N H H' → N ≤ M'.length → RM tb ι' M' H' → it.ok M' →
  (∀ p, it.xs[i]? = some p → J.go i H' ∧ ∀ x H'', J.yld i H' x H'' → Ex ι' ι' M'.length H' H'' ∧ RM tb ι' M' H'' ∧ Rv ι' M'.length H'' p x) ∧ (it.xs[i]? = none → i = it.xs.length → J.stop i H')
def SmI (tb : List (Addr × Str)) (E : XK) (t : TI) (f : FI) : Prop := ∀ ι M H σp σ Q, RM tb ι M H → Rs ι M.length H σp σ → Wp tb (rIt tb) ι M.length H (f σp M) Q E → t σ H Q
noncomputable def forP (ok : PM → Prop) (g : FG) (b : FS) : List PV → PS → PM → SR
  | [], σ, M => if ok M then .nx σ M else .bad
  | x :: xs, σ, M => if ok M then match g x σ with
    | none => .bad
    | some σ1 => match b σ1 M with
      | .nx σ2 M2 => forP ok g b xs σ2 M2
      | .ct σ2 M2 => forP ok g b xs σ2 M2
      | .bk σ2 M2 => .nx σ2 M2
      | .rt p M2 => .rt p M2
      | .exc e M2 => .exc e M2
      | .bad => .bad
    else .bad
noncomputable def fFor (i : FI) (g : FG) (b : FS) : FS := fun σ M => (i σ M).go fun it M1 => forP it.ok g b it.xs σ M1
def whileP (c : FT) (b : FS) : Nat → PS → PM → SR
  | 0, _, _ => .bad
  | n + 1, σ, M => (c σ M).go fun t M1 => if t = true then match b σ M1 with
      | .nx σ2 M2 => whileP c b n σ2 M2
      | .ct σ2 M2 => whileP c b n σ2 M2
      | .bk σ2 M2 => .nx σ2 M2
      | .rt p M2 => .rt p M2
      | .exc e M2 => .exc e M2
      | .bad => .bad
    else .nx σ M1
def fuel : Nat := 1000000000
def fWhile (c : FT) (b : FS) : FS := whileP c b fuel
section
variable {tb : List (Addr × Str)} {E : XK} {K : PySem.W.Frag} {ti : TI} {fi : FI} {g : TG} {fg : FG} {ws : List Nat} {t : TS} {f : FS} {tc : TT} {fc : FT}
theorem SmI.go {ι : Nat → Addr} {M : PM} {H : Hp} {σp : PS} {σ : L2.St} (s : SmI tb E ti fi) (R : RM tb ι M H) (S : Rs ι M.length H σp σ) {k : PIt → PM → SR} {D : Ends} {Q' : It → Hp → Prop} (h : WpS tb ι M.length H ((fi σp M).go k) D E)
    (c : ∀ ι1 M1 H1 p v, On tb ι M.length H ι1 M1 H1 → Rs ι1 M1.length H1 σp σ → rIt tb ι1 M1.length H1 p v → WpS tb ι1 M1.length H1 (k p M1) D E → Q' v H1) : ti σ H Q' :=
  s ι M H σp σ Q' R S (Wp.mono (Wp.go h) fun v H1 ⟨ι1, M1, p, o, rv, w⟩ => c ι1 M1 H1 p v o (S.mono o.e o.l) rv w)
theorem SmI.to {ι : Nat → Addr} {M : PM} {H : Hp} {σp : PS} {σ : L2.St} {γ δ : Type} {rel2 : (Nat → Addr) → Nat → Hp → γ → δ → Prop} (s : SmI tb E ti fi) (R : RM tb ι M H) (S : Rs ι M.length H σp σ) {k : PIt → PM → Res γ} {Q : δ → Hp → Prop} {Q' : It → Hp → Prop} (h : Wp tb rel2 ι M.length H ((fi σp M).bnd k) Q E)
    (c : ∀ ι1 M1 H1 p v, On tb ι M.length H ι1 M1 H1 → Rs ι1 M1.length H1 σp σ → rIt tb ι1 M1.length H1 p v → Wp tb rel2 ι1 M1.length H1 (k p M1) Q E → Q' v H1) : ti σ H Q' :=
  s ι M H σp σ Q' R S (Wp.mono (Wp.bnd h) fun v H1 ⟨ι1, M1, p, o, rv, w⟩ => c ι1 M1 H1 p v o (S.mono o.e o.l) rv w)
theorem sm_for (hi : SmI tb E ti fi) (hg : SmG tb g fg ws) (hb : SmS tb E t f) : SmS tb E (tFor ti g t) (fFor fi fg f) := fun ι M H σp σ D R S w =>
  hi.go R S w fun ι1 M1 H1 it J o1 S1 rj w1 => by
    refine ⟨fun i m σ' H' => ∃ ι' M' σp', On tb ι1 M1.length H1 ι' M' H' ∧ Rs ι' M'.length H' σp' σ' ∧ m = it.xs.length - i ∧ i ≤ it.xs.length ∧ WpS tb ι' M'.length H' (forP it.ok fg f (it.xs.drop i) σp' M') D E, ⟨_, ι1, M1, σp, ⟨.refl, Nat.le_refl _, o1.r⟩, S1, rfl, Nat.zero_le _, w1⟩, ?_⟩
    rintro i m σ' H' ⟨ι', M', σp', o, S', rfl, li, w'⟩
    rcases Nat.lt_or_ge i it.xs.length with h | h
    · have e : it.xs[i]? = some it.xs[i] := List.getElem?_eq_getElem h
      rw [List.drop_eq_getElem_cons h] at w'
      unfold forP at w'
      split at w'
      · rename_i hok
        split at w'
        · exact w'.elim
        · rename_i σ1 e1
          have q := rj i ι' M' H' o.e o.l o.r hok
          obtain ⟨go, y⟩ := q.1 _ e
          refine .inr ⟨go, fun σ2 H2 => ∃ ι2 M2 σp2, On tb ι1 M1.length H1 ι2 M2 H2 ∧ Rs ι2 M2.length H2 σp2 σ2 ∧ WpS tb ι2 M2.length H2 (forP it.ok fg f (it.xs.drop (i + 1)) σp2 M2) D E, fun σ2 H2 ⟨ι2, M2, σp2, a, b, c⟩ => ⟨it.xs.length - (i + 1), by omega, ι2, M2, σp2, a, b, rfl, h, c⟩, fun x H2 yx => ?_⟩
          obtain ⟨ex, R2, rx⟩ := y x H2 yx
          refine hg ι' M' H2 _ x σp' σ' σ1 _ R2 rx (S'.mono ex (Nat.le_refl _)) e1 fun σ2 S2 _ => ?_
          refine hb ι' M' H2 σ1 σ2 _ R2 S2 ?_
          have on : On tb ι1 M1.length H1 ι' M' H2 := ⟨o.e.trans ex o.l, o.l, R2⟩
          have w2 := WpS.back (n' := M'.length) w' ex (Nat.le_refl _)
          revert w2
          cases f σ1 M' with
          | nx s M3 => exact fun w2 ι3 H3 σ3 e3 l3 R3 S3 => ⟨ι3, M3, s, ⟨on.e.trans e3 on.l, Nat.le_trans on.l l3, R3⟩, S3, WpS.back w2 e3 l3⟩
          | ct s M3 => exact fun w2 ι3 H3 σ3 e3 l3 R3 S3 => ⟨ι3, M3, s, ⟨on.e.trans e3 on.l, Nat.le_trans on.l l3, R3⟩, S3, WpS.back w2 e3 l3⟩
          | bk s M3 => exact fun w2 => w2
          | rt p M3 => exact fun w2 => w2
          | exc x M3 => exact fun w2 => w2
          | bad => exact fun w2 => w2
      · exact w'.elim
    · rw [List.drop_of_length_le h] at w'
      unfold forP at w'
      split at w'
      · rename_i hok
        have q := rj i ι' M' H' o.e o.l o.r hok
        exact .inl ⟨q.2 (List.getElem?_eq_none h) (by omega), w' ι' H' σ' .refl (Nat.le_refl _) o.r S'⟩
      · exact w'.elim
theorem sm_while (hc : SmT tb E tc fc) (hb : SmS tb E t f) : SmS tb E (tWhile tc t) (fWhile fc f) := fun ι M H σp σ D R S w => by
  refine ⟨fun m σ' H' => ∃ ι' M' σp', On tb ι M.length H ι' M' H' ∧ Rs ι' M'.length H' σp' σ' ∧ WpS tb ι' M'.length H' (whileP fc f m σp' M') D E, ⟨fuel, ι, M, σp, ⟨.refl, Nat.le_refl _, R⟩, S, w⟩, ?_⟩
  rintro m σ' H' ⟨ι', M', σp', o, S', w'⟩
  cases m with
  | zero => exact w'.elim
  | succ m =>
    unfold whileP at w'
    refine hc.go o.r S' w' fun ι1 M1 H1 b o1 S1 w1 => ?_
    cases b with
    | false => exact w1 ι1 H1 σ' .refl (Nat.le_refl _) o1.r S1
    | true =>
      refine ⟨fun σ2 H2 => ∃ ι2 M2 σp2, On tb ι M.length H ι2 M2 H2 ∧ Rs ι2 M2.length H2 σp2 σ2 ∧ WpS tb ι2 M2.length H2 (whileP fc f m σp2 M2) D E, fun σ2 H2 ⟨ι2, M2, σp2, a, b, c⟩ => ⟨m, Nat.lt_succ_self m, ι2, M2, σp2, a, b, c⟩, ?_⟩
      refine hb ι1 M1 H1 σp' σ' _ o1.r S1 ?_
      have on : On tb ι M.length H ι1 M1 H1 := ⟨o.e.trans o1.e o.l, Nat.le_trans o.l o1.l, o1.r⟩
      revert w1
      simp only [if_true]
      cases f σp' M1 with
      | nx s M3 => exact fun w2 ι3 H3 σ3 e3 l3 R3 S3 => ⟨ι3, M3, s, ⟨on.e.trans e3 on.l, Nat.le_trans on.l l3, R3⟩, S3, WpS.back w2 e3 l3⟩
      | ct s M3 => exact fun w2 ι3 H3 σ3 e3 l3 R3 S3 => ⟨ι3, M3, s, ⟨on.e.trans e3 on.l, Nat.le_trans on.l l3, R3⟩, S3, WpS.back w2 e3 l3⟩
      | bk s M3 => exact fun w2 => w2
      | rt p M3 => exact fun w2 => w2
      | exc x M3 => exact fun w2 => w2
      | bad => exact fun w2 => w2
end
end Pu
namespace Pu
open PySem PySem.Spec PyProof.Rows L2 LB
open Classical
abbrev E0 : XK := fun _ _ _ => False
/-! ### list comprehensions -/
noncomputable def lcP (ok : PM → Prop) (g : FG) (ft : FT) (fe : FE) (d : Nat) (σ : PS) : List PV → PM → Res Unit
  | [], M => if ok M then .ok () M else .bad
  | x :: xs, M => if ok M then match g x σ with
    | none => .bad
    | some σ1 => (ft σ1 M).nox.bnd fun b M1 => if b = true then (fe σ1 M1).nox.bnd fun y M2 => match M2[d]? with
        | some (.lst acc) => if acc.length < lim then lcP ok g ft fe d σ xs (M2.set d (.lst (acc ++ [y]))) else .bad
        | _ => .bad
      else lcP ok g ft fe d σ xs M1
    else .bad
noncomputable def fLc (i : FI) (g : FG) (ft : FT) (fe : FE) (vs : List Nat) : FE := fun σ M => (i σ M).bnd fun it M1 => (lcP it.ok g ft fe M1.length (wipeP σ vs) it.xs (M1 ++ [.lst []])).bnd fun _ M2 => .ok (.ref M1.length) M2
/-- a key put, in its place or at the end -/
noncomputable def putP (kvs : List (PV × PV)) (k v : PV) : List (PV × PV) := if ∃ p ∈ kvs, p.1 = k then kvs.map (fun kv => if kv.1 = k then (kv.1, v) else kv) else kvs ++ [(k, v)]
noncomputable def dcP (ok : PM → Prop) (g : FG) (ft : FT) (fk fv : FE) (d : Nat) (σ : PS) : List PV → PM → Res Unit
  | [], M => if ok M then .ok () M else .bad
  | x :: xs, M => if ok M then match g x σ with
    | none => .bad
    | some σ1 => (ft σ1 M).nox.bnd fun b M1 => if b = true then (fk σ1 M1).nox.bnd fun k M2 => (fv σ1 M2).nox.bnd fun y M3 => match M3[d]? with
        | some (.dct kvs) => if kvs.length < lim ∧ (keyOf k).isSome then dcP ok g ft fk fv d σ xs (M3.set d (.dct (putP kvs k y))) else .bad
        | _ => .bad
      else dcP ok g ft fk fv d σ xs M1
    else .bad
noncomputable def fDc (i : FI) (g : FG) (ft : FT) (fk fv : FE) (vs : List Nat) : FE := fun σ M => (i σ M).bnd fun it M1 => (dcP it.ok g ft fk fv M1.length (wipeP σ vs) it.xs (M1 ++ [.dct []])).bnd fun _ M2 => .ok (.ref M1.length) M2
section
variable {tb : List (Addr × Str)} {E : XK} {K : PySem.W.Frag} {ti : TI} {fi : FI} {g : TG} {fg : FG} {ws : List Nat} {tt : TT} {ft : FT} {te tk tv : TE} {fe fk' fv : FE} {ι : Nat → Addr} {n : Nat} {H : Hp} {M : PM} {σp : PS} {σ : L2.St}
theorem Wp.nox {α β : Type} {rel : (Nat → Addr) → Nat → Hp → α → β → Prop} {γ δ : Type} {rel2 : (Nat → Addr) → Nat → Hp → γ → δ → Prop} {r : Res α} {k : α → PM → Res γ} {Q : δ → Hp → Prop} (h : Wp tb rel2 ι n H (r.nox.bnd k) Q E) : Wp tb rel ι n H r (fun v H' => ∃ ι' M' p, On tb ι n H ι' M' H' ∧ rel ι' M'.length H' p v ∧ Wp tb rel2 ι' M'.length H' (k p M') Q E) E0 := by
  cases r with
  | ok p M => exact fun ι' H' v e l r v' => ⟨ι', M, p, ⟨e, l, r⟩, v', Wp.back h e l⟩
  | exc x M => exact (h : False).elim
  | bad => exact h
theorem SmE.nox {γ δ : Type} {rel2 : (Nat → Addr) → Nat → Hp → γ → δ → Prop} {t : TE} {f : FE} (s : SmE tb E0 t f) (R : RM tb ι M H) (S : Rs ι M.length H σp σ) {k : PV → PM → Res γ} {Q : δ → Hp → Prop} {Q' : VK} (h : Wp tb rel2 ι M.length H ((f σp M).nox.bnd k) Q E)
    (c : ∀ ι1 M1 H1 p v, On tb ι M.length H ι1 M1 H1 → Rs ι1 M1.length H1 σp σ → Rv ι1 M1.length H1 p v → Wp tb rel2 ι1 M1.length H1 (k p M1) Q E → Q' v H1) : t σ H Q' :=
  s ι M H σp σ Q' R S (Wp.mono (Wp.nox h) fun v H1 ⟨ι1, M1, p, o, rv, w⟩ => c ι1 M1 H1 p v o (S.mono o.e o.l) rv w)
theorem SmT.nox {γ δ : Type} {rel2 : (Nat → Addr) → Nat → Hp → γ → δ → Prop} {t : TT} {f : FT} (s : SmT tb E0 t f) (R : RM tb ι M H) (S : Rs ι M.length H σp σ) {k : Bool → PM → Res γ} {Q : δ → Hp → Prop} {Q' : Bool → Hp → Prop} (h : Wp tb rel2 ι M.length H ((f σp M).nox.bnd k) Q E)
    (c : ∀ ι1 M1 H1 p, On tb ι M.length H ι1 M1 H1 → Rs ι1 M1.length H1 σp σ → Wp tb rel2 ι1 M1.length H1 (k p M1) Q E → Q' p H1) : t σ H Q' :=
  s ι M H σp σ Q' R S (Wp.mono (Wp.nox h) fun v H1 ⟨ι1, M1, p, o, rv, w⟩ => by have e : p = v := rv; subst e; exact c ι1 M1 H1 p o (S.mono o.e o.l) w)
theorem On.trans {ι1 ι2 : Nat → Addr} {M1 M2 : PM} {H1 H2 : Hp} (a : On tb ι n H ι1 M1 H1) (b : On tb ι1 M1.length H1 ι2 M2 H2) : On tb ι n H ι2 M2 H2 := ⟨a.e.trans b.e a.l, Nat.le_trans a.l b.l, b.r⟩
theorem On.refl (R : RM tb ι M H) : On tb ι M.length H ι M H := ⟨.refl, Nat.le_refl _, R⟩
theorem sm_lc {vs : List Nat} (hi : SmI tb E ti fi) (hg : SmG tb g fg ws) (ht : SmT tb E0 tt ft) (he : SmE tb E0 te fe) (hw : ∀ i ∈ ws, i ∈ vs) : SmE tb E (tLc ti g tt te vs) (fLc fi fg ft fe vs) := fun ι M H σp σ Q R S w =>
  hi.to R S w fun ι1 M1 H1 it J o1 S1 rj w1 => by
    intro D nD
    have Rn := o1.r.lst (xs := []) (vs := []) Rvs.nil nD
    have ex1 : Ex ι1 (ext ι1 M1.length D) M1.length H1 (upd H1 D (.lst [])) := ex_ext nD
    have l0 : (M1 ++ [PO.lst []]).length = M1.length + 1 := by simp
    refine ⟨fun i m H' => ∃ ι' M', On tb (ext ι1 M1.length D) (M1.length + 1) (upd H1 D (.lst [])) ι' M' H' ∧ m = it.xs.length - i ∧ i ≤ it.xs.length ∧ Wp tb Rv ι' M'.length H' ((lcP it.ok fg ft fe M1.length (wipeP σp vs) (it.xs.drop i) M').bnd fun _ M2 => .ok (.ref M1.length) M2) Q E,
      ⟨_, _, _, ⟨.refl, Nat.le_of_eq l0.symm, Rn.1⟩, rfl, Nat.zero_le _, by rw [l0]; exact w1.back ex1 (Nat.le_succ _)⟩, ?_⟩
    rintro i m H' ⟨ι', M', o, rfl, li, w'⟩
    have atD : ι' M1.length = D := (o.e.i _ (Nat.lt_succ_self _)).trans ext_same
    have oE : On tb ι1 M1.length H1 ι' M' H' := ⟨ex1.trans o.e (Nat.le_succ _), Nat.le_trans (Nat.le_succ _) o.l, o.r⟩
    rcases Nat.lt_or_ge i it.xs.length with h | h
    · have e : it.xs[i]? = some it.xs[i] := List.getElem?_eq_getElem h
      rw [List.drop_eq_getElem_cons h] at w'
      unfold lcP at w'
      split at w'
      · rename_i hok
        split at w'
        · exact (w' : False).elim
        · rename_i σ1 e1
          obtain ⟨go, y⟩ := (rj i ι' M' H' oE.e oE.l oE.r hok).1 _ e
          refine .inr ⟨go, fun H2 => ∃ ι2 M2, On tb (ext ι1 M1.length D) (M1.length + 1) (upd H1 D (.lst [])) ι2 M2 H2 ∧ Wp tb Rv ι2 M2.length H2 ((lcP it.ok fg ft fe M1.length (wipeP σp vs) (it.xs.drop (i + 1)) M2).bnd fun _ M2 => .ok (.ref M1.length) M2) Q E,
            fun H2 ⟨ι2, M2, a, b⟩ => ⟨it.xs.length - (i + 1), by omega, ι2, M2, a, rfl, h, b⟩, fun x H2 yx => ?_⟩
          obtain ⟨ex, R2, rx⟩ := y x H2 yx
          have S2 : Rs ι' M'.length H2 (wipeP σp vs) (wipe σ vs) := ((S1.mono oE.e oE.l).mono ex (Nat.le_refl _)).wipe vs
          refine hg ι' M' H2 _ x _ _ σ1 _ R2 rx S2 e1 fun σ2 S3 wp => ⟨(wp vs hw).trans wipe_wipe, ?_⟩
          have o2 : On tb (ext ι1 M1.length D) (M1.length + 1) (upd H1 D (.lst [])) ι' M' H2 := ⟨o.e.trans ex o.l, o.l, R2⟩
          have w2 := Wp.back (n' := M'.length) w' ex (Nat.le_refl _)
          have asc : ∀ (r : Res Bool) (k : Bool → PM → Res Unit), ((r.nox.bnd k).bnd fun _ M2 => Res.ok (PV.ref M1.length) M2) = r.nox.bnd fun b M => (k b M).bnd fun _ M2 => Res.ok (PV.ref M1.length) M2 := fun r k => by cases r <;> rfl
          have asc2 : ∀ (r : Res PV) (k : PV → PM → Res Unit), ((r.nox.bnd k).bnd fun _ M2 => Res.ok (PV.ref M1.length) M2) = r.nox.bnd fun b M => (k b M).bnd fun _ M2 => Res.ok (PV.ref M1.length) M2 := fun r k => by cases r <;> rfl
          rw [asc] at w2
          refine ht.nox R2 S3 w2 fun ι3 M3 H3 b o3 S4 w3 => ?_
          cases b with
          | false => exact ⟨ι3, M3, o2.trans o3, w3⟩
          | true =>
            simp only [if_true] at w3 ⊢
            rw [asc2] at w3
            refine he.nox o3.r S4 w3 fun ι4 M4 H4 y v o4 S5 ry w4 => ?_
            have oo := (o2.trans o3).trans o4
            have d4 : ι4 M1.length = D := (oo.e.i _ (Nat.lt_succ_self _)).trans ext_same
            split at w4
            · rename_i acc ea
              split at w4
              · rename_i hl
                have ld : M1.length < M4.length := oo.l
                obtain ⟨vacc, e5, racc⟩ := o4.r.obj M1.length _ ea
                rw [d4] at e5
                have hz : ∀ o u, H4 (ι4 M1.length) ≠ some (.frz o u) := fun o u z => by rw [d4, e5] at z; cases z
                have ex5 : Ex ι4 ι4 M4.length H4 (upd H4 (ι4 M1.length) (.lst (vacc ++ [v]))) := ex_chg o4.r ld hz
                have R5 := o4.r.chg (o := .lst (acc ++ [y])) (x := .lst (vacc ++ [v])) ld hz ⟨_, upd_same, (racc.app (.cons ry .nil)).mono ex5 (Nat.le_refl _)⟩
                rw [d4] at R5 ex5
                refine ⟨vacc, e5, by rw [← racc.len]; exact lim_lt hl, ι4, _, ⟨oo.e.trans ex5 oo.l, by rw [List.length_set]; exact oo.l, R5⟩, ?_⟩
                rw [List.length_set]
                exact w4.back ex5 (Nat.le_refl _)
              · exact (w4 : False).elim
            · exact (w4 : False).elim
      · exact (w' : False).elim
    · rw [List.drop_of_length_le h] at w'
      unfold lcP at w'
      split at w'
      · rename_i hok
        refine .inl ⟨(rj i ι' M' H' oE.e oE.l oE.r hok).2 (List.getElem?_eq_none h) (by omega), ?_⟩
        refine w' ι' H' _ .refl (Nat.le_refl _) o.r ?_
        have := Rv.mk_ref (ι := ι') (N := M'.length) (H := H') (k := M1.length) o.l
        rw [atD] at this
        exact this
      · exact (w' : False).elim
/-! dict comprehensions -/
end
end Pu
namespace Pu
open PySem PySem.Spec PyProof.Rows L2 LB
open Classical
def itL (p : PV) (M : PM) : Res PIt := match p with
  | .ref k => match M[k]? with
    | some (.lst xs) => .ok ⟨xs, fun M' => M'[k]? = some (.lst xs)⟩ M
    | _ => .bad
  | _ => .bad
def itT (p : PV) (M : PM) : Res PIt := match p with
  | .tup xs => .ok ⟨xs, fun _ => True⟩ M
  | .tpb xs => .ok ⟨xs, fun _ => True⟩ M
  | _ => .bad
def itS (p : PV) (M : PM) : Res PIt := match p with
  | .str s => .ok ⟨s.map fun c => .str [c], fun _ => True⟩ M
  | _ => .bad
def upTo (lo : Int) (n : Nat) : List PV := (List.range n).map fun i => .int (lo + (i : Nat))
def itR1 (ps : List PV) (M : PM) : Res PIt := match ps with
  | [.int j] => if -(2 ^ 62) ≤ j ∧ j < 2 ^ 62 then .ok ⟨upTo 0 j.toNat, fun _ => True⟩ M else .bad
  | _ => .bad
def enumP (xs : List PV) : List PV := xs.zipIdx.map fun x => .tup [.int (x.2 : Nat), x.1]
def zipP (xs ys : List PV) : List PV := (xs.zip ys).map fun x => .tup [x.1, x.2]
def itET (ps : List PV) (M : PM) : Res PIt := match ps with
  | [.tup xs] => .ok ⟨enumP xs, fun _ => True⟩ M
  | _ => .bad
def itES (ps : List PV) (M : PM) : Res PIt := match ps with
  | [.str s] => .ok ⟨enumP (s.map fun c => .str [c]), fun _ => True⟩ M
  | _ => .bad
def itZ (ps : List PV) (M : PM) : Res PIt := match ps with
  | [.tup xs, .tup ys] => .ok ⟨zipP xs ys, fun _ => True⟩ M
  | [.ref k, .ref j] => match M[k]?, M[j]? with
    | some (.lst xs), some (.lst ys) => .ok ⟨zipP xs ys, fun M' => M'[k]? = some (.lst xs) ∧ M'[j]? = some (.lst ys)⟩ M
    | _, _ => .bad
  | _ => .bad
def itZS (ps : List PV) (M : PM) : Res PIt := match ps with
  | [.str a, .str b] => .ok ⟨zipP (a.map fun c => .str [c]) (b.map fun c => .str [c]), fun _ => True⟩ M
  | _ => .bad
def fI (i : PV → PM → Res PIt) (f : FE) : FI := fun σ M => (f σ M).bnd i
def fIA (i : List PV → PM → Res PIt) (f : FA) : FI := fun σ M => (f σ M).bnd i
section
variable {tb : List (Addr × Str)} {E : XK} {K : PySem.W.Frag} {te : TE} {fe : FE} {ta : TA} {fa : FA} {ι ι' : Nat → Addr} {N : Nat} {H H' : Hp} {M M' : PM}
theorem lst_later {k : Nat} {xs : List PV} (R : RM tb ι' M' H') (e : Ex ι ι' N H H') (hk : k < N) (h : M'[k]? = some (.lst xs)) : ∃ vs, H' (ι k) = some (.lst vs) ∧ Rvs ι' M'.length H' xs vs := by
  obtain ⟨vs, e1, r⟩ := R.obj k _ h
  rw [e.i k hk] at e1
  exact ⟨vs, e1, r⟩
theorem sm_iL (h : SmE tb E te fe) : SmI tb E (iList K te) (fI itL fe) := fun ι M H σp σ Q R S w =>
  h.to R S w fun ι1 M1 H1 p v o S1 rv w1 => by
    unfold itL at w1
    split at w1
    · rename_i k
      split at w1
      · rename_i xs e
        obtain ⟨lk, rfl⟩ := rv.ref_at
        obtain ⟨vs, e1, r1⟩ := o.r.obj k _ e
        refine ⟨ι1 k, rfl, ⟨vs, .of e1⟩, Wp.okNow w1 o.r fun i ι' M' H' ex l R' hok => ?_⟩
        obtain ⟨vs', e2, r2⟩ := lst_later R' ex lk hok
        refine ⟨fun p hp => ?_, fun hn hl => ⟨vs', .of e2, by rw [← r2.len]; exact Nat.le_of_eq hl.symm⟩⟩
        obtain ⟨x, hx, rx⟩ := r2.get hp
        refine ⟨⟨vs', x, .of e2, hx⟩, fun y H'' ⟨e3, e4⟩ => ?_⟩
        subst e3
        have := e4 vs' (.of e2)
        rw [hx] at this
        cases this
        exact ⟨.refl, R', rx⟩
      · exact w1.elim
    · exact w1.elim
theorem sm_iT (h : SmE tb E te fe) : SmI tb E (iTup K te) (fI itT fe) := fun ι M H σp σ Q R S w =>
  h.to R S w fun ι1 M1 H1 p v o S1 rv w1 => by
    unfold itT at w1
    split at w1
    · rename_i xs
      obtain ⟨a, vs, rfl, ha, ra⟩ := rv.tup_at
      refine ⟨a, rfl, ⟨vs, .of ha⟩, Wp.okNow w1 o.r fun i ι' M' H' ex l R' hok => ?_⟩
      have e2 := ex.t _ _ ha
      have r2 := ra.mono ex l
      refine ⟨fun p hp => ?_, fun hn hl => ⟨vs, .of e2, by rw [← r2.len]; exact Nat.le_of_eq hl.symm⟩⟩
      obtain ⟨x, hx, rx⟩ := r2.get hp
      refine ⟨⟨vs, x, .of e2, hx⟩, fun y H'' ⟨e3, e4⟩ => ?_⟩
      subst e3
      have := e4 vs (.of e2)
      rw [hx] at this
      cases this
      exact ⟨.refl, R', rx⟩
    · rename_i xs
      obtain ⟨a, vs, ob, rfl, ha, hd, ra⟩ := rv.tpb_at
      refine ⟨a, rfl, ⟨vs, .inl (.inr ⟨ob, ha⟩)⟩, Wp.okNow w1 o.r fun i ι' M' H' ex l R' hok => ?_⟩
      have e2 := ex.z _ _ _ ha
      have r2 := ra.mono ex l
      refine ⟨fun p hp => ?_, fun hn hl => ⟨vs, .inl (.inr ⟨ob, e2⟩), by rw [← r2.len]; exact Nat.le_of_eq hl.symm⟩⟩
      obtain ⟨x, hx, rx⟩ := r2.get hp
      refine ⟨⟨vs, x, .inl (.inr ⟨ob, e2⟩), hx⟩, fun y H'' ⟨e3, e4⟩ => ?_⟩
      subst e3
      have := e4 vs (.inl (.inr ⟨ob, e2⟩))
      rw [hx] at this
      cases this
      exact ⟨.refl, R', rx⟩
    · exact w1.elim
theorem sm_iS (h : SmE tb E te fe) : SmI tb E (iStr te) (fI itS fe) := fun ι M H σp σ Q R S w =>
  h.to R S w fun ι1 M1 H1 p v o S1 rv w1 => by
    unfold itS at w1
    split at w1
    · rename_i s
      refine ⟨tx s, rv.str, Wp.okNow w1 o.r fun i ι' M' H' ex l R' hok => ?_⟩
      have hsz : (tx s).cps.size = s.length := by show s.toArray.size = _; simp
      refine ⟨fun p hp => ?_, fun hn hl => ?_⟩
      · have li := (List.getElem?_eq_some_iff.mp hp).1
        simp only [List.length_map] at li
        refine ⟨by show i < (tx s).cps.size; omega, fun y H'' ⟨e3, c, hc, ey⟩ => ?_⟩
        subst e3 ey
        have hc : s[i]? = some c := by simpa using hc
        simp only [List.getElem?_map, hc, Option.map_some, Option.some.injEq] at hp
        subst hp
        exact ⟨.refl, R', .mk_str⟩
      · show (tx s).cps.size ≤ i
        rw [hsz]
        simp only [List.length_map] at hl
        omega
    · exact w1.elim
theorem upTo_get {lo : Int} {n i : Nat} {p : PV} (h : (upTo lo n)[i]? = some p) : i < n ∧ p = .int (lo + (i : Nat)) := by
  unfold upTo at h
  have li := (List.getElem?_eq_some_iff.mp h).1
  simp only [List.length_map, List.length_range] at li
  rw [List.getElem?_map, List.getElem?_range li] at h
  cases h
  exact ⟨li, rfl⟩
theorem upTo_len {lo : Int} {n : Nat} : (upTo lo n).length = n := by unfold upTo; simp
theorem rIt_rng {lo : Int} {n : Nat} : rIt tb ι N H ⟨upTo lo n, fun _ => True⟩ (Itr lo n) := fun i ι' M' H' ex l R' hok =>
  ⟨fun p hp => by
    obtain ⟨li, rfl⟩ := upTo_get hp
    refine ⟨li, fun y H'' ⟨e3, e4⟩ => ?_⟩
    subst e3 e4
    exact ⟨.refl, R', .mk_int⟩, fun hn hl => by
    show n ≤ i
    have : i = (upTo lo n).length := hl
    rw [upTo_len] at this
    omega⟩
theorem sm_iR1 (h : SmA tb E ta fa) : SmI tb E (iRng1 ta) (fIA itR1 fa) := fun ι M H σp σ Q R S w =>
  h.to R S w fun ι1 M1 H1 p v o S1 rv w1 => by
    unfold itR1 at w1
    split at w1
    · rename_i j
      split at w1
      · rename_i hj
        unfold Rvs at rv
        obtain ⟨x, r, rfl, rx, rr⟩ := rv
        unfold Rvs at rr
        subst rr
        exact ⟨j, by rw [rx.int], hj.1, hj.2, Wp.okNow w1 o.r rIt_rng⟩
      · exact w1.elim
    · exact w1.elim
theorem enum_get {xs : List PV} {i : Nat} {p : PV} (h : (enumP xs)[i]? = some p) : ∃ x, xs[i]? = some x ∧ p = .tup [.int (i : Nat), x] := by
  unfold enumP at h
  rw [List.getElem?_map, List.getElem?_zipIdx] at h
  cases e : xs[i]? with
  | none => rw [e] at h; cases h
  | some x =>
    rw [e] at h
    simp only [Option.map_some, Option.some.injEq] at h
    subst h
    exact ⟨x, rfl, by simp⟩
theorem enum_len {xs : List PV} : (enumP xs).length = xs.length := by unfold enumP; simp
theorem zip_get {xs ys : List PV} {i : Nat} {p : PV} (h : (zipP xs ys)[i]? = some p) : ∃ x y, xs[i]? = some x ∧ ys[i]? = some y ∧ p = .tup [x, y] := by
  unfold zipP at h
  rw [List.getElem?_map] at h
  cases e : (xs.zip ys)[i]? with
  | none => rw [e] at h; cases h
  | some x =>
    rw [e] at h
    simp only [Option.map_some, Option.some.injEq] at h
    have := List.getElem?_zip_eq_some.mp e
    exact ⟨x.1, x.2, this.1, this.2, h.symm⟩
theorem zip_len {xs ys : List PV} : (zipP xs ys).length = min xs.length ys.length := by unfold zipP; simp
theorem newPair {R' : RM tb ι' M' H'} {T : Addr} {p q : PV} {x y : V} (n : H' T = none) (rp : Rv ι' M'.length H' p x) (rq : Rv ι' M'.length H' q y) : Ex ι' ι' M'.length H' (upd H' T (.tup [x, y])) ∧ RM tb ι' M' (upd H' T (.tup [x, y])) ∧ Rv ι' M'.length (upd H' T (.tup [x, y])) (.tup [p, q]) (.ref T) :=
  ⟨ex_new n, R'.new n, .mk_tup upd_same (.cons (rp.mono (ex_new n) (Nat.le_refl _)) (.cons (rq.mono (ex_new n) (Nat.le_refl _)) .nil))⟩
theorem sm_iET (h : SmA tb E ta fa) : SmI tb E (iEnumT K ta) (fIA itET fa) := fun ι M H σp σ Q R S w =>
  h.to R S w fun ι1 M1 H1 p v o S1 rv w1 => by
    unfold itET at w1
    split at w1
    · rename_i xs
      unfold Rvs at rv
      obtain ⟨x, r, rfl, rx, rr⟩ := rv
      unfold Rvs at rr
      subst rr
      obtain ⟨a, vs, rfl, ha, ra⟩ := rx.tup_at
      refine ⟨a, vs, rfl, .of ha, Wp.okNow w1 o.r fun i ι' M' H' ex l R' hok => ?_⟩
      have e2 := ex.t _ _ ha
      have r2 := ra.mono ex l
      refine ⟨fun p hp => ?_, fun hn hl => ⟨vs, .of e2, ?_⟩⟩
      · obtain ⟨x, hx, rfl⟩ := enum_get hp
        obtain ⟨x', hx', rx⟩ := r2.get hx
        refine ⟨⟨vs, x', .of e2, hx'⟩, fun y H'' ⟨T, z, ey, nT, eH, hz⟩ => ?_⟩
        subst ey eH
        have := hz vs (.of e2)
        rw [hx'] at this
        cases this
        exact newPair (R' := R') nT .mk_int rx
      · have hl : i = (enumP xs).length := hl
        rw [enum_len, r2.len] at hl
        omega
    · exact w1.elim
end
/-! ### a dict locked while it is walked -/
end Pu
namespace Pu
open PySem PySem.Spec PyProof.Rows L2 LB
open Classical
/-! ### a def as a function -/
def fnRes : SR → Res PV
  | .nx _ M => .ok .non M
  | .rt p M => .ok p M
  | .exc x M => .exc x M
  | _ => .bad
abbrev FF := List PV → PM → Res PV
def startP (n : Nat) (as : List PV) : PS := as.map some ++ List.replicate (n - as.length) none
noncomputable def fnOf (k n : Nat) (B : FS) : FF := fun as M => if as.length = k then gc M (fnRes (B (startP n as) M)) else .bad
def spF (tb : List (Addr × Str)) (F : FF) : Sp := fun vs H Q E => ∃ ι M as, RM tb ι M H ∧ Rvs ι M.length H as vs ∧ Wp tb Rv ι M.length H (F as M) Q E
section
variable {tb : List (Addr × Str)} {E : XK} {B : FS} {k n : Nat}
theorem spF_len {vs : List V} {H : Hp} {Q : VK} (h : spF tb (fnOf k n B) vs H Q E) : vs.length = k := by
  obtain ⟨ι, M, as, R, r, w⟩ := h
  unfold fnOf at w
  split at w
  · rename_i e
    rw [← r.len]
    exact e
  · exact w.elim
theorem fn_sim {N : List Str} {vs : List V} {H : Hp} {Q : VK} {t : TS} (h : spF tb (fnOf k N.length B) vs H Q E) (s : SmS tb E t B) : t { nx := fun _ H' => Q .non H', rt := Q } (L2.start N vs) H := by
  obtain ⟨ι, M, as, R, r, w⟩ := h
  unfold fnOf at w
  split at w
  · have w := gc_ok (rel := Rv) R w
    refine s ι M H (startP N.length as) _ _ R ⟨?_, fun i p e => ?_⟩ ?_
    · unfold startP L2.start
      simp [r.len]
    · unfold startP at e
      unfold L2.start
      rcases Nat.lt_or_ge i as.length with h | h
      · rw [List.getElem?_append_left (by simpa using h), List.getElem?_map, List.getElem?_eq_getElem h] at e
        simp only [Option.map_some, Option.some.injEq] at e
        obtain ⟨v, hv, rv⟩ := r.get (by rw [List.getElem?_eq_getElem h, e] : as[i]? = some p)
        have h2 : i < vs.length := by rw [← r.len]; exact h
        refine ⟨v, ?_, rv⟩
        rw [List.getElem?_append_left (by simpa using h2), List.getElem?_map, hv]
        rfl
      · rw [List.getElem?_append_right (by simpa using h), List.getElem?_replicate] at e
        split at e <;> cases e
    · revert w
      cases B (startP N.length as) M with
      | nx s M1 => exact fun w ι1 H1 σ e l R1 S1 => w ι1 H1 .non e l R1 .mk_non
      | rt p M1 => exact fun w => w
      | bk s M1 => exact fun w => (w : False).elim
      | ct s M1 => exact fun w => (w : False).elim
      | exc x M1 => exact fun w => w
      | bad => exact fun w => (w : False).elim
  · exact w.elim
end
/-- a def that does what F says -/
abbrev FnP (P : Program) (w : World) (K : PySem.W.Frag) (mg : Str → Option Value) (base : Heap) (tb : List (Addr × Str)) (k : Nat) (f : Addr) (fd : FuncData) (ps : List Str) (F : FF) : Prop := FnOk P w K mg base (L2.CX P w) k f fd ps (spF tb F)
theorem FnP.of {P : Program} {w : World} {K : PySem.W.Frag} {mg : Str → Option Value} {base : Heap} {tb : List (Addr × Str)} {x qual : Str} {st : Stmt} {f : Addr} {fd : FuncData} {N ps : List Str} {k : Nat} {B : FS} (F : Fun K x qual st f fd) (S : FnScope N ps (defScope st))
    (hbody : ∀ (cdv : Value) (A : Around) (outer : List Env) (s : Shared) (H : Hp) (E : XK), Room k (A.deeper (envOfC qual (defScope st) s.heap.objs.size f cdv)) →
      ∃ t, PSs (cxOf (L2.CX P w) P w K mg base N qual (defScope st) f cdv A outer s H E) (defBody st) t ∧ SmS tb E t B) : FnP P w K mg base tb (k + 1) f fd ps (fnOf ps.length N.length B) :=
  F.okX S (fun vs H Q E h => spF_len h) fun cdv A outer s H vs Q E hr h => by
    obtain ⟨t, h1, h2⟩ := hbody cdv A outer s H E hr
    exact ⟨t, h1, fn_sim h h2⟩
/-! ### calls -/
def CVs (ps : List PV) (vs : List V) : Prop := ∀ ι N H, Rvs ι N H ps vs
theorem cvs_nil : CVs [] [] := fun _ _ _ => .nil
theorem cvs_cons {p : PV} {v : V} {ps : List PV} {vs : List V} (a : CV p v) (b : CVs ps vs) : CVs (p :: ps) (v :: vs) := fun ι N H => .cons (a ι N H) (b ι N H)
def fCall (F : FF) (das : List PV) (fr : FA) : FE := fun σ M => (fr σ M).bnd fun as M1 => F (as ++ das) M1
def fCallN (F : FF) (das : List PV) (fr : FA) : FE := fun σ M => (fr σ M).bnd fun as M1 => (F (as ++ das) M1).nox
theorem wp_nox {tb : List (Addr × Str)} {E : XK} {ι : Nat → Addr} {n : Nat} {H : Hp} {r : Res PV} {Q : VK} (h : Wp tb Rv ι n H r.nox Q E) : Wp tb Rv ι n H r Q E0 := by
  cases r with
  | ok p M => exact h
  | exc x M => exact (h : False).elim
  | bad => exact h
/-! ### instances -/
def fldP (M : PM) (C : Addr) (f : String) (p : PV) : Option PV := match p with
  | .ref k => match M[k]? with
    | some (.ins C' fs) => if C' = C then fs.lookup f else none
    | _ => none
  | _ => none
def fFld (C : Addr) (f : String) (fa : FE) : FE := fun σ M => (fa σ M).bnd fun p M1 => match fldP M1 C f p with
  | some x => .ok x M1
  | none => .bad
def putS (f : String) (v : PV) : List (String × PV) → List (String × PV)
  | [] => [(f, v)]
  | (g, x) :: r => if g = f then (g, v) :: r else (g, x) :: putS f v r
def setF (M : PM) (C : Addr) (f : String) (p v : PV) : Option PM := match p with
  | .ref k => match M[k]? with
    | some (.ins C' fs) => if C' = C ∧ fs.length < 1000 then some (M.set k (.ins C (putS f v fs))) else none
    | _ => none
  | _ => none
def fSetF (C : Addr) (f : String) (fo fv : FE) : FS := fun σ M => (fv σ M).go fun y M1 => (fo σ M1).go fun o M2 => match setF M2 C f o y with
  | some M3 => .nx σ M3
  | none => .bad
/-- the receiver is an instance of C without an attribute m -/
def hasM (M : PM) (C : Addr) (m : String) (p : PV) : Bool := match p with
  | .ref k => match M[k]? with
    | some (.ins C' fs) => decide (C' = C) && (fs.lookup m).isNone
    | _ => false
  | _ => false
def fMeth (C : Addr) (m : String) (F : FF) (das : List PV) (fo : FE) (fr : FA) : FE := fun σ M => (fo σ M).bnd fun p M1 => if hasM M1 C m p = true then (fr σ M1).bnd fun as M2 => F (p :: (as ++ das)) M2 else .bad
def asN (n : Nat) (v : PV) (M2 : PM) : Res PV := match v with
  | .non => .ok (.ref n) M2
  | _ => .bad
def fMake (C : Addr) (F : FF) (das : List PV) (fr : FA) : FE := fun σ M => (fr σ M).bnd fun as M1 => (F (.ref M1.length :: (as ++ das)) (M1 ++ [.ins C []])).bnd (asN M1.length)
def fMakeN (C : Addr) (F : FF) (das : List PV) (fr : FA) : FE := fun σ M => (fr σ M).bnd fun as M1 => (F (.ref M1.length :: (as ++ das)) (M1 ++ [.ins C []])).nox.bnd (asN M1.length)
section
variable {tb : List (Addr × Str)} {E : XK} {K : PySem.W.Frag} {F : FF} {das : List PV} {dvs : List V} {t tk : TA} {fr fk' : FA} {ta tv : TE} {fa fv : FE} {ι : Nat → Addr} {N : Nat} {M : PM} {H : Hp} {C : Addr}
theorem sm_call (d : CVs das dvs) (h : SmA tb E t fr) : SmE tb E (tCall (spF tb F) dvs E t) (fCall F das fr) := fun ι M H σp σ Q R S w =>
  h.to R S w fun ι1 M1 H1 as vs o S1 rv w1 => ⟨ι1, M1, as ++ das, o.r, rv.app (d _ _ _), w1⟩
theorem sm_callN (d : CVs das dvs) (h : SmA tb E t fr) : SmE tb E (tCall (spF tb F) dvs E0 t) (fCallN F das fr) := fun ι M H σp σ Q R S w =>
  h.to R S w fun ι1 M1 H1 as vs o S1 rv w1 => ⟨ι1, M1, as ++ das, o.r, rv.app (d _ _ _), wp_nox w1⟩
end
/-! ### refusals -/
abbrev xdOf' (n : Int) (w : Str) : List (Str × V) := [(Str.ofString "at", .int n), (Str.ofString "word", .str w)]
def spErr (K : PySem.W.Frag) (w : Str) : Sp := fun vs H Q _ => ∃ (a C : Addr) (n : Int), vs = [.ref a, .int n] ∧ OexC K C ∧ PySem.W.findIn K (.ref C) "word" = some none ∧ PySem.W.findIn K (.ref C) "at" = some none ∧ H a = some (exo a C none) ∧ (n < 0 ∨ (0 ≤ n ∧ n < 512)) ∧ n.natAbs.log2 < 1920 ∧
  ∀ d, H d = none → d ≠ a → Q .non (upd (upd (upd H d (exd d [(Str.ofString "word", .str w)])) a (exo a C (some d))) d (exd d (xdOf' n w)))
theorem exc_heap' {H : Hp} {a d : Addr} {x0 x1 x2 x3 o : HO} (ha : H a = none) (da : d ≠ a) : upd (del (upd (upd (upd (upd H a x0) d x1) a x2) d x3) a) d o = upd H d o := by
  funext b
  by_cases hd : b = d
  · subst hd
    rw [upd_same, upd_same]
  · rw [upd_ne hd, upd_ne hd]
    by_cases hb : b = a
    · subst hb
      rw [del_same, ha]
    · rw [del_ne hb, upd_ne hd, upd_ne hb, upd_ne hd, upd_ne hb]
def fRaise (C : Addr) (w : Str) (das : List PV) (fr : FA) : FS := fun σ M => (fr σ M).go fun as M1 => match as ++ das with
  | [.int n] => if -1000 ≤ n ∧ n < 512 then .exc ⟨C, w, n⟩ M1 else .bad
  | _ => .bad
theorem sm_raise {tb : List (Addr × Str)} {E : XK} {K : PySem.W.Frag} {C : Addr} {w : Str} {das : List PV} {dvs : List V} {t : TA} {fr : FA} (oc : OexC K C) (nw : PySem.W.findIn K (.ref C) "word" = some none) (na : PySem.W.findIn K (.ref C) "at" = some none) (d : CVs das dvs) (h : SmA tb E t fr) :
    SmS tb E (fun _ σ H => tMkO C (spErr K w) dvs t σ H fun cls d H' => E cls d H') (fRaise C w das fr) := fun ι M H σp σ D R S w0 => by
  refine h ι M H σp σ _ R S (Wp.mono (Wp.go w0) fun vs H1 ⟨ι1, M1, as, o, ra, w1⟩ => ?_)
  have rr := ra.app (d ι1 M1.length H1)
  split at w1
  · rename_i n e
    split at w1
    · rename_i hn
      rw [e] at rr
      unfold Rvs at rr
      obtain ⟨x, r, ev, rx, rr⟩ := rr
      unfold Rvs at rr
      subst rr
      have ex := rx.int
      subst ex
      refine ⟨by
        have := congrArg List.length ev
        rw [List.length_append] at this
        simp only [List.length_cons, List.length_nil] at this
        omega, fun a ha => ?_⟩
      rw [ev]
      have ln : n.natAbs.log2 < 1920 := by
        rcases Nat.eq_zero_or_pos n.natAbs with z | z
        · rw [z]
          decide
        · rw [Nat.log2_lt (by omega)]
          exact Nat.lt_of_lt_of_le (show n.natAbs < 2 ^ 10 by omega) (Nat.pow_le_pow_right (by decide) (by decide))
      refine ⟨a, C, n, rfl, oc, nw, na, upd_same, by omega, ln, fun dd nd nda => ⟨rfl, dd, _, (upd_ne nda.symm).trans upd_same, upd_same, ?_, ?_⟩⟩
      · rw [upd_ne nda] at nd
        exact nd
      · rw [exc_heap' ha nda]
        rw [upd_ne nda] at nd
        exact w1 ι1 _ dd (ex_new nd) (Nat.le_refl _) (o.r.new nd) upd_same
    · exact w1.elim
  · exact w1.elim
end Pu
namespace Pu
open PySem PySem.Spec PyProof.Rows L2 LB
open Classical
def asStrs : List PV → Option (List (List Nat))
  | [] => some []
  | .str s :: r => (asStrs r).map (s :: ·)
  | _ :: _ => none
def asInts : List PV → Option (List Int)
  | [] => some []
  | .int s :: r => (asInts r).map (s :: ·)
  | _ :: _ => none
def asBls : List PV → Option (List Bool)
  | [] => some []
  | .bl s :: r => (asBls r).map (s :: ·)
  | _ :: _ => none
theorem asStrs_map (ys : List (List Nat)) : asStrs (ys.map PV.str) = some ys := by
  induction ys with
  | nil => rfl
  | cons y r ih => simp [asStrs, ih]
theorem asInts_map (ys : List Int) : asInts (ys.map PV.int) = some ys := by
  induction ys with
  | nil => rfl
  | cons y r ih => simp [asInts, ih]
theorem asBls_map (ys : List Bool) : asBls (ys.map PV.bl) = some ys := by
  induction ys with
  | nil => rfl
  | cons y r ih => simp [asBls, ih]
section
variable {ι : Nat → Addr} {N : Nat} {H : Hp}
theorem asStrs_rel : ∀ {ps : List PV} {ys : List (List Nat)} {vs : List V}, asStrs ps = some ys → Rvs ι N H ps vs → vs = (ys.map tx).map V.str
  | [], _, _, e, r => by cases e; unfold Rvs at r; exact r
  | p :: ps, ys, _, e, r => by
    cases p <;> first | (cases e; done) | skip
    unfold asStrs at e
    cases e2 : asStrs ps with
    | none => rw [e2] at e; cases e
    | some zs =>
      rw [e2] at e
      cases e
      unfold Rvs at r
      obtain ⟨v, w, rfl, r1, r2⟩ := r
      rw [r1.str, asStrs_rel e2 r2]
      rfl
theorem asBls_rel : ∀ {ps : List PV} {ys : List Bool} {vs : List V}, asBls ps = some ys → Rvs ι N H ps vs → vs = ys.map V.bl
  | [], _, _, e, r => by cases e; unfold Rvs at r; exact r
  | p :: ps, ys, _, e, r => by
    cases p <;> first | (cases e; done) | skip
    unfold asBls at e
    cases e2 : asBls ps with
    | none => rw [e2] at e; cases e
    | some zs =>
      rw [e2] at e
      cases e
      unfold Rvs at r
      obtain ⟨v, w, rfl, r1, r2⟩ := r
      rw [r1.bl, asBls_rel e2 r2]
      rfl
theorem strs_rvs : ∀ {ys : List (List Nat)}, Rvs ι N H (ys.map PV.str) ((ys.map tx).map V.str)
  | [] => .nil
  | y :: r => .cons .mk_str strs_rvs
end
/-! ### built-ins -/
def fB (g : List PV → PM → Res PV) (fr : FA) : FE := fun σ M => (fr σ M).bnd g
/-- a list's or a tuple's items -/
def seqAt (M : PM) (p : PV) : Option (List PV) := match p with
  | .tup xs => some xs
  | _ => lstAt M p
def bLen (as : List PV) (M : PM) : Res PV := match as with
  | [p] => match seqAt M p with
    | some xs => .ok (.int (xs.length : Nat)) M
    | none => .bad
  | _ => .bad
def bLenS (as : List PV) (M : PM) : Res PV := match as with
  | [.str s] => if s.length ≤ lim then .ok (.int (s.length : Nat)) M else .bad
  | _ => .bad
def bAll (as : List PV) (M : PM) : Res PV := match as with
  | [p] => match (lstAt M p).bind asBls with
    | some bs => .ok (.bl (bs.all id)) M
    | none => .bad
  | _ => .bad
def bAny (as : List PV) (M : PM) : Res PV := match as with
  | [p] => match (lstAt M p).bind asBls with
    | some bs => .ok (.bl (bs.any id)) M
    | none => .bad
  | _ => .bad
def bSum (as : List PV) (M : PM) : Res PV := match as with
  | [p] => match (lstAt M p).bind asInts with
    | some ns => .ok (.int ns.sum) M
    | none => .bad
  | _ => .bad
def bTup (as : List PV) (M : PM) : Res PV := match as with
  | [p] => match seqAt M p with
    | some xs => .ok (.tup xs) M
    | none => .bad
  | _ => .bad
section
variable {tb : List (Addr × Str)} {E : XK} {K : PySem.W.Frag} {r : List V → Hp → VK → Prop} {g : List PV → PM → Res PV} {t : TA} {fr : FA} {ι : Nat → Addr} {M : PM} {H : Hp}
theorem sm_B (hr : SmL tb E r g) (h : SmA tb E t fr) : SmE tb E (tCB r t) (fB g fr) := fun ι M H σp σ Q R S w =>
  h.to R S w fun ι1 M1 H1 as vs o S1 ra w1 => hr ι1 M1 H1 as vs Q o.r ra w1
theorem rvs1 {p : PV} {vs : List V} {n : Nat} (r : Rvs ι n H [p] vs) : ∃ v, vs = [v] ∧ Rv ι n H p v := by
  unfold Rvs at r
  obtain ⟨v, w, rfl, r1, r2⟩ := r
  unfold Rvs at r2
  subst r2
  exact ⟨v, rfl, r1⟩
theorem seq_at {p : PV} {xs : List PV} {v : V} (R : RM tb ι M H) (rp : Rv ι M.length H p v) (e : seqAt M p = some xs) : ∃ a vs, v = .ref a ∧ Rvs ι M.length H xs vs ∧ ((H a = some (.lst vs) ∧ lstAt M p = some xs) ∨ (H a = some (.tup vs) ∧ p = .tup xs)) := by
  cases p with
  | tup ys =>
    cases e
    obtain ⟨a, vs, rfl, ha, ra⟩ := rp.tup_at
    exact ⟨a, vs, rfl, ra, .inr ⟨ha, rfl⟩⟩
  | ref k =>
    have e : lstAt M (.ref k) = some xs := e
    obtain ⟨k', vs, h1, lk, rfl, ha, ra⟩ := lst_at R e rp
    exact ⟨_, vs, rfl, ra, .inl ⟨ha, e⟩⟩
  | non => cases e
  | bl _ => cases e
  | int _ => cases e
  | str _ => cases e
  | ty _ => cases e
  | adr _ => cases e
  | tpb _ => cases e
theorem sb_len : SmL tb E (fun xs H Q => ∃ p ys, xs = [.ref p] ∧ (SqL K H p ys ∨ SqT K H p ys) ∧ Q (.int (ys.length : Nat)) H) bLen := by
  intro ι M H ps xs Q R rs h
  unfold bLen at h
  split at h
  · split at h
    · rename_i p ys e
      obtain ⟨v, rfl, rv⟩ := rvs1 rs
      obtain ⟨a, vs, rfl, ra, hh⟩ := seq_at R rv e
      refine ⟨a, vs, rfl, hh.imp (fun z => .of z.1) (fun z => .of z.1), ?_⟩
      rw [← ra.len]
      exact h.okNow R .mk_int
    · exact h.elim
  · exact h.elim
theorem sb_lenS : SmL tb E (fun xs H Q => ∃ z, xs = [.str z] ∧ z.length ≤ sizeLine ∧ Q (.int (z.length : Nat)) H) bLenS := by
  intro ι M H ps xs Q R rs h
  unfold bLenS at h
  split at h
  · split at h
    · rename_i s hl
      obtain ⟨v, rfl, rv⟩ := rvs1 rs
      refine ⟨tx s, by rw [rv.str], by rw [tx_len]; exact lim_le hl, ?_⟩
      rw [tx_len]
      exact h.okNow R .mk_int
    · exact h.elim
  · exact h.elim
theorem bind_at {p : PV} {α : Type} {f : List PV → Option α} {b : α} (e : (lstAt M p).bind f = some b) : ∃ xs, lstAt M p = some xs ∧ f xs = some b := by
  cases h : lstAt M p with
  | none => rw [h] at e; cases e
  | some xs => rw [h] at e; exact ⟨xs, rfl, e⟩
theorem sb_all : SmL tb E (rAll K) bAll := by
  intro ι M H ps xs Q R rs h
  unfold bAll at h
  split at h
  · split at h
    · rename_i p bs e
      obtain ⟨v, rfl, rv⟩ := rvs1 rs
      obtain ⟨ys, e1, e2⟩ := bind_at e
      obtain ⟨k, vs, rfl, lk, rfl, ha, ra⟩ := lst_at R e1 rv
      refine ⟨_, bs, rfl, ?_, h.okNow R .mk_bl⟩
      rw [← asBls_rel e2 ra]
      exact .of ha
    · exact h.elim
  · exact h.elim
theorem sb_tup : SmL tb E (fun xs H Q => ∃ p ys, xs = [.ref p] ∧ ((SqL K H p ys ∧ ∀ l, H l = none → Q (.ref l) (upd H l (.tup ys))) ∨ (SqT K H p ys ∧ Q (.ref p) H))) bTup := by
  intro ι M H ps xs Q R rs h
  unfold bTup at h
  split at h
  · split at h
    · rename_i p ys e
      obtain ⟨v, rfl, rv⟩ := rvs1 rs
      obtain ⟨a, vs, rfl, ra, hh⟩ := seq_at R rv e
      refine ⟨a, vs, rfl, ?_⟩
      rcases hh with ⟨ha, _⟩ | ⟨ha, rfl⟩
      · exact .inl ⟨.of ha, fun l nl => h ι _ _ (ex_new nl) (Nat.le_refl _) (R.new nl) (.mk_tup upd_same (ra.mono (ex_new nl) (Nat.le_refl _)))⟩
      · exact .inr ⟨.of ha, h.okNow R rv⟩
    · exact h.elim
  · exact h.elim
end
/-! ### methods -/
def SmM (tb : List (Addr × Str)) (E : XK) (r : V → List V → Hp → VK → Prop) (g : PV → List PV → PM → Res PV) : Prop := ∀ ι M H p as x vs Q, RM tb ι M H → Rv ι M.length H p x → Rvs ι M.length H as vs → Wp tb Rv ι M.length H (g p as M) Q E → r x vs H Q
def isTyP (M : PM) (T : String) (p : PV) : Bool := match p with
  | .str _ => T == "str"
  | .ref k => match M[k]? with
    | some (.lst _) => T == "list"
    | some (.dct _) => T == "dict"
    | some (.dtt _) => T == "dict"
    | _ => false
  | _ => false
def fBM (T : String) (g : PV → List PV → PM → Res PV) (fo : FE) (fr : FA) : FE := fun σ M => (fo σ M).bnd fun p M1 => if isTyP M1 T p = true then (fr σ M1).bnd fun as M2 => g p as M2 else .bad
def fBM0 (T : String) (g : PV → List PV → PM → Res PV) (fo : FE) : FE := fun σ M => (fo σ M).bnd fun p M1 => if isTyP M1 T p = true then g p [] M1 else .bad
def isS : PV → Bool
  | .str _ => true
  | _ => false
def fM1 (g : PV → List PV → PM → Res PV) (fo fe : FE) : FE := fun σ M => (fo σ M).bnd fun p M1 => if isS p = true then (fe σ M1).bnd fun y M2 => g p [y] M2 else .bad
/-- a list changed -/
def chL (p : PV) (M : PM) (f : List PV → Option (PV × List PV)) : Res PV := match p with
  | .ref k => match M[k]? with
    | some (.lst xs) => match f xs with
      | some (v, ys) => .ok v (M.set k (.lst ys))
      | none => .bad
    | _ => .bad
  | _ => .bad
def mAppend (p : PV) (as : List PV) (M : PM) : Res PV := match as with
  | [y] => chL p M fun xs => if xs.length < lim then some (.non, xs ++ [y]) else none
  | _ => .bad
def mPop (p : PV) (as : List PV) (M : PM) : Res PV := match as with
  | [] => chL p M fun xs => (xs[xs.length - 1]?).map fun y => (y, xs.dropLast)
  | _ => .bad
def mFind3 (p : PV) (as : List PV) (M : PM) : Res PV := match p, as with
  | .str a, [.str b, .int i] => .ok (.int (Txt.find3 (tx a) (tx b) i)) M
  | _, _ => .bad
def joinT (a : List Nat) (ys : List (List Nat)) : List Nat := (Txt.join (tx a) (ys.map tx)).cps.toList
def mJoin (p : PV) (as : List PV) (M : PM) : Res PV := match p, as with
  | .str a, [q] => match (seqAt M q).bind asStrs with
    | some ys => if (ys.map List.length).sum + ys.length * a.length ≤ lim then .ok (.str (joinT a ys)) M else .bad
    | none => .bad
  | _, _ => .bad
section
variable {tb : List (Addr × Str)} {E : XK} {K : PySem.W.Frag} {r : V → List V → Hp → VK → Prop} {g : PV → List PV → PM → Res PV} {t : TA} {fr : FA} {to te : TE} {fo fe : FE} {ι : Nat → Addr} {M : PM} {H : Hp}
theorem ty_at {T : String} {p : PV} {v : V} (R : RM tb ι M H) (rp : Rv ι M.length H p v) (h : isTyP M T p = true) : tyV K T v H := by
  unfold isTyP at h
  split at h
  · have e : v = V.str _ := rp.str
    subst e
    exact eq_of_beq h
  · rename_i k
    obtain ⟨lk, rfl⟩ := rp.ref_at
    split at h
    · rename_i xs e
      obtain ⟨vs, e1, _⟩ := R.obj k _ e
      exact .inl ⟨eq_of_beq h, vs, .of e1⟩
    · rename_i xs e
      obtain ⟨vs, e1, _⟩ := R.obj k _ e
      exact .inr (.inr (.inl ⟨eq_of_beq h, .inl ⟨vs, e1⟩⟩))
    · rename_i xs e
      obtain ⟨vs, e1, _⟩ := R.obj k _ e
      exact .inr (.inr (.inl ⟨eq_of_beq h, .inr ⟨vs, e1⟩⟩))
    · cases h
  · cases h
theorem sm_BM {T : String} (hr : SmM tb E r g) (ho : SmE tb E to fo) (h : SmA tb E t fr) : SmE tb E (tBM K T r to t) (fBM T g fo fr) := fun ι M H σp σ Q R S w =>
  ho.to R S w fun ι1 M1 H1 p v o S1 rv w1 => by
    split at w1
    · rename_i hp
      exact ⟨ty_at o.r rv hp, h.to o.r S1 w1 fun ι2 M2 H2 as vs o2 S2 ra w2 => hr ι2 M2 H2 p as v vs Q o2.r (rv.mono o2.e o2.l) ra w2⟩
    · exact w1.elim
theorem sm_BM0 {T : String} (hr : SmM tb E r g) (ho : SmE tb E to fo) : SmE tb E (tBM0 K T r to) (fBM0 T g fo) := fun ι M H σp σ Q R S w =>
  ho.to R S w fun ι1 M1 H1 p v o S1 rv w1 => by
    split at w1
    · rename_i hp
      exact ⟨ty_at o.r rv hp, hr ι1 M1 H1 p [] v [] Q o.r rv .nil w1⟩
    · exact w1.elim
theorem sm_M1 (hr : SmM tb E r g) (ho : SmE tb E to fo) (h : SmE tb E te fe) : SmE tb E (tM1 r to te) (fM1 g fo fe) := fun ι M H σp σ Q R S w =>
  ho.to R S w fun ι1 M1 H1 p v o S1 rv w1 => by
    split at w1
    · rename_i hp
      cases p <;> first | (cases hp; done) | skip
      rename_i s
      exact ⟨⟨_, rv.str⟩, h.to o.r S1 w1 fun ι2 M2 H2 y yv o2 S2 ry w2 => hr ι2 M2 H2 _ [y] v [yv] Q o2.r (rv.mono o2.e o2.l) (.cons ry .nil) w2⟩
    · exact w1.elim
theorem chL_ok {p : PV} {v : V} {f : List PV → Option (PV × List PV)} {Q : VK} (R : RM tb ι M H) (rp : Rv ι M.length H p v) (w : Wp tb Rv ι M.length H (chL p M f) Q E) :
    ∃ k xs vs q ys, p = .ref k ∧ v = .ref (ι k) ∧ M[k]? = some (.lst xs) ∧ H (ι k) = some (.lst vs) ∧ Rvs ι M.length H xs vs ∧ f xs = some (q, ys) ∧ ∀ qv ws, Rv ι M.length H q qv → Rvs ι M.length H ys ws → Q qv (upd H (ι k) (.lst ws)) := by
  unfold chL at w
  split at w
  · rename_i k
    split at w
    · rename_i xs e
      split at w
      · rename_i q ys ef
        obtain ⟨lk, rfl⟩ := rp.ref_at
        obtain ⟨vs, e1, r1⟩ := R.obj k _ e
        refine ⟨k, xs, vs, q, ys, rfl, rfl, e, e1, r1, ef, fun qv ws rq rw' => ?_⟩
        have hz : ∀ o u, H (ι k) ≠ some (.frz o u) := fun o u z => by rw [e1] at z; cases z
        have ex : Ex ι ι M.length H (upd H (ι k) (.lst ws)) := ex_chg R lk hz
        have R3 := R.chg (o := .lst ys) (x := .lst ws) lk hz ⟨ws, upd_same, rw'.mono ex (Nat.le_refl _)⟩
        refine w ι _ qv ex (by rw [List.length_set]; exact Nat.le_refl _) R3 ?_
        rw [List.length_set]
        exact rq.mono ex (Nat.le_refl _)
      · exact w.elim
    · exact w.elim
  · exact w.elim
theorem mm_append : SmM tb E rAppend mAppend := by
  intro ι M H p as x vs Q R rp ra w
  unfold mAppend at w
  split at w
  · rename_i y
    obtain ⟨yv, rfl, ry⟩ := rvs1 ra
    obtain ⟨k, xs, us, q, ys, rfl, rfl, e, e1, r1, ef, c⟩ := chL_ok R rp w
    split at ef
    · rename_i hl
      cases ef
      exact ⟨_, us, yv, rfl, rfl, e1, by rw [← r1.len]; exact lim_lt hl, c _ _ .mk_non (r1.app (.cons ry .nil))⟩
    · cases ef
  · exact w.elim
theorem Rvs.dropLast {n : Nat} {xs : List PV} {vs : List V} (r : Rvs ι n H xs vs) : Rvs ι n H xs.dropLast vs.dropLast := by
  rw [List.dropLast_eq_take, List.dropLast_eq_take, ← r.len]
  exact r.take _
theorem mm_pop : SmM tb E rPop mPop := by
  intro ι M H p as x vs Q R rp ra w
  unfold mPop at w
  split at w
  · have : vs = [] := by unfold Rvs at ra; exact ra
    subst this
    obtain ⟨k, xs, us, q, ys, rfl, rfl, e, e1, r1, ef, c⟩ := chL_ok R rp w
    cases h : xs[xs.length - 1]? with
    | none => rw [h] at ef; cases ef
    | some y =>
      rw [h] at ef
      cases ef
      obtain ⟨yv, hy, ry⟩ := r1.get h
      rw [r1.len] at hy
      exact ⟨_, us, yv, rfl, rfl, e1, hy, c _ _ ry r1.dropLast⟩
  · exact w.elim
theorem mm_join : SmM tb E (rJoin K) mJoin := by
  intro ι M H p as x vs Q R rp ra w
  unfold mJoin at w
  split at w
  · rename_i a q
    split at w
    · rename_i ys e
      split at w
      · rename_i hl
        obtain ⟨v, rfl, rv⟩ := rvs1 ra
        obtain ⟨xs, e1, e2⟩ : ∃ xs, seqAt M q = some xs ∧ asStrs xs = some ys := by
          cases h : seqAt M q with
          | none => rw [h] at e; cases e
          | some xs => rw [h] at e; exact ⟨xs, rfl, e⟩
        obtain ⟨b, us, rfl, rb, hh⟩ := seq_at R rv e1
        have eu := asStrs_rel e2 rb
        subst eu
        refine ⟨_, b, ys.map tx, rp.str, rfl, hh.imp (fun z => .of z.1) (fun z => .of z.1), ?_, ?_⟩
        · rw [List.map_map, List.length_map, tx_len]
          have : (ys.map ((fun x : Str => x.length) ∘ tx)) = ys.map List.length := List.map_congr_left fun y _ => tx_len y
          rw [this]
          unfold lim at hl
          omega
        · have := Wp.okNow (v := V.str (tx (joinT a ys))) w R .mk_str
          rw [show tx (joinT a ys) = Txt.join (tx a) (ys.map tx) from (tx_of _).symm] at this
          exact this
      · exact w.elim
    · exact w.elim
  · exact w.elim
end
end Pu
namespace Pu
open PySem PySem.Spec PyProof.Rows L2 LB
open Classical
/-! ### dicts -/
noncomputable def kfind (kvs : List (PV × PV)) (k : PV) : Option PV := (kvs.find? fun kv => decide (kv.1 = k)).map (·.2)
/-- what a dict has at a key: none where it is no dict or no key -/
noncomputable def dgetP (M : PM) (p k : PV) : Option (Option PV) := match p with
  | .ref j => match M[j]? with
    | some (.dct kvs) => if (keyOf k).isSome then some (kfind kvs k) else none
    | some (.lck kvs) => if (keyOf k).isSome then some (kfind kvs k) else none
    | some (.dtt kvs) => if (keysOf k).isSome then some (kfind kvs k) else none
    | some (.lct kvs) => if (keysOf k).isSome then some (kfind kvs k) else none
    | _ => none
  | _ => none
noncomputable def fDGet (fd fk : FE) : FE := fun σ M => (fd σ M).bnd fun d M1 => (fk σ M1).bnd fun k M2 => match dgetP M2 d k with
  | some (some v) => .ok v M2
  | _ => .bad
noncomputable def fDIn (fk fd : FE) : FE := fun σ M => (fk σ M).bnd fun k M1 => (fd σ M1).bnd fun d M2 => match dgetP M2 d k with
  | some o => .ok (.bl o.isSome) M2
  | none => .bad
noncomputable def fDNotIn (fk fd : FE) : FE := fun σ M => (fk σ M).bnd fun k M1 => (fd σ M1).bnd fun d M2 => match dgetP M2 d k with
  | some o => .ok (.bl (!o.isSome)) M2
  | none => .bad
noncomputable def dputP (M : PM) (p k v : PV) : Option PM := match p with
  | .ref j => match M[j]? with
    | some (.dct kvs) => if (keyOf k).isSome ∧ kvs.length < lim then some (M.set j (.dct (putP kvs k v))) else none
    | some (.dtt kvs) => if (keysOf k).isSome ∧ kvs.length < lim then some (M.set j (.dtt (putP kvs k v))) else none
    | _ => none
  | _ => none
noncomputable def fDPut (fd fk fv : FE) : FS := fun σ M => (fv σ M).go fun v M1 => (fd σ M1).go fun d M2 => (fk σ M2).go fun k M3 => match dputP M3 d k v with
  | some M4 => .nx σ M4
  | none => .bad
def fDNewK : FE := fun _ M => .ok (.ref M.length) (M ++ [.dct []])
def fDNewT : FE := fun _ M => .ok (.ref M.length) (M ++ [.dtt []])
/-! ### equality of data -/
def datF (M : PM) : Nat → PV → Option PyData
  | _, .non => some .none
  | _, .bl b => some (.bool b)
  | _, .int i => some (.int i)
  | _, .str s => if ∀ c ∈ s, c < 128 then some (.str (tx s)) else none
  | n + 1, .tup xs => (xs.mapM (datF M n)).map .tuple
  | n + 1, .tpb xs => (xs.mapM (datF M n)).map .tuple
  | n + 1, .ref k => match M[k]? with
    | some (.lst xs) => (xs.mapM (datF M n)).map .list
    | _ => none
  | _, _ => none
def pEqD (p q : PV) (M : PM) : Res PV := match datF M 60 p, datF M 60 q with
  | some d, some e => .ok (.bl (PyData.eqv d e)) M
  | _, _ => .bad
def pNeD (p q : PV) (M : PM) : Res PV := match datF M 60 p, datF M 60 q with
  | some d, some e => .ok (.bl (!PyData.eqv d e)) M
  | _, _ => .bad
section
variable {tb : List (Addr × Str)} {E : XK} {K : PySem.W.Frag} {ι : Nat → Addr} {M : PM} {H : Hp}
theorem dat_ok (R : RM tb ι M H) : ∀ (n : Nat) (p : PV) (v : V) (d : PyData), datF M n p = some d → Rv ι M.length H p v → Dp K H v d ∧ PyData.canLay0 d = true ∧ d.depth ≤ n := by
  intro n
  induction n with
  | zero =>
    intro p v d e r
    cases p with
    | non => cases e; rw [r.non]; exact ⟨.non, rfl, Nat.le_refl _⟩
    | bl b => cases e; rw [r.bl]; exact ⟨.bl _, rfl, Nat.le_refl _⟩
    | int i => cases e; rw [r.int]; exact ⟨.int _, rfl, Nat.le_refl _⟩
    | str s =>
      unfold datF at e
      split at e
      · rename_i h
        cases e
        rw [r.str]
        exact ⟨.str _, strOk_tx h, Nat.le_refl _⟩
      · cases e
    | ty _ => cases e
    | adr _ => cases e
    | ref _ => cases e
    | tup _ => cases e
    | tpb _ => cases e
  | succ n ih =>
    have all : ∀ (xs : List PV) (vs : List V) (ds : List PyData), xs.mapM (datF M n) = some ds → Rvs ι M.length H xs vs → DpAll K H vs ds ∧ PyData.canLayAll0 ds = true ∧ PyData.depthAll ds ≤ n := by
      intro xs
      induction xs with
      | nil =>
        intro vs ds e r
        cases e
        unfold Rvs at r
        subst r
        exact ⟨.nil, rfl, Nat.zero_le _⟩
      | cons x xs ihx =>
        intro vs ds e r
        unfold Rvs at r
        obtain ⟨v, w, rfl, r1, r2⟩ := r
        rw [List.mapM_cons] at e
        cases h : datF M n x with
        | none => rw [h] at e; cases e
        | some a =>
          rw [h] at e
          cases h2 : xs.mapM (datF M n) with
          | none => rw [h2] at e; cases e
          | some b =>
            rw [h2] at e
            cases e
            obtain ⟨p1, p2, p3⟩ := ih x v a h r1
            obtain ⟨q1, q2, q3⟩ := ihx w b h2 r2
            refine ⟨.cons p1 q1, ?_, ?_⟩
            · show (PyData.canLay0 a && PyData.canLayAll0 b) = true
              rw [p2, q2]
              rfl
            · show max (PyData.depth a) (PyData.depthAll b) ≤ n
              omega
    intro p v d e r
    cases p with
    | non => cases e; rw [r.non]; exact ⟨.non, rfl, Nat.zero_le _⟩
    | bl b => cases e; rw [r.bl]; exact ⟨.bl _, rfl, Nat.zero_le _⟩
    | int i => cases e; rw [r.int]; exact ⟨.int _, rfl, Nat.zero_le _⟩
    | str s =>
      unfold datF at e
      split at e
      · rename_i h
        cases e
        rw [r.str]
        exact ⟨.str _, strOk_tx h, Nat.zero_le _⟩
      · cases e
    | ty _ => cases e
    | adr _ => cases e
    | tup xs =>
      unfold datF at e
      cases h : xs.mapM (datF M n) with
      | none => rw [h] at e; cases e
      | some ds =>
        rw [h] at e
        cases e
        obtain ⟨a, vs, rfl, ha, ra⟩ := r.tup_at
        obtain ⟨p1, p2, p3⟩ := all xs vs ds h ra
        exact ⟨.tup (.of ha) p1, p2, Nat.succ_le_succ p3⟩
    | tpb xs =>
      unfold datF at e
      cases h : xs.mapM (datF M n) with
      | none => rw [h] at e; cases e
      | some ds =>
        rw [h] at e
        cases e
        obtain ⟨a, vs, ob, rfl, ha, hd, ra⟩ := r.tpb_at
        obtain ⟨p1, p2, p3⟩ := all xs vs ds h ra
        exact ⟨.tup (.inl (.inr ⟨ob, ha⟩)) p1, p2, Nat.succ_le_succ p3⟩
    | ref k =>
      unfold datF at e
      split at e
      · rename_i xs ek
        cases h : xs.mapM (datF M n) with
        | none => rw [h] at e; cases e
        | some ds =>
          rw [h] at e
          cases e
          obtain ⟨lk, rfl⟩ := r.ref_at
          obtain ⟨vs, e1, ra⟩ := R.obj k _ ek
          obtain ⟨p1, p2, p3⟩ := all xs vs ds h ra
          exact ⟨.lst (.of e1) p1, p2, Nat.succ_le_succ p3⟩
      · cases e
theorem dat_shaped {d : PyData} (h : PyData.canLay0 d = true) (hd : d.depth ≤ 60) : SeqAt.shaped d = true := by
  unfold SeqAt.shaped
  rw [h, decide_eq_true (show d.depth ≤ 64 by omega)]
  rfl
theorem smr_eqD : SmR tb E (rEqD K) pEqD := by
  intro ι M H p q x y Q R rp rq h
  unfold pEqD at h
  split at h
  · rename_i d e h1 h2
    obtain ⟨a1, a2, a3⟩ := dat_ok (K := K) R _ _ _ _ h1 rp
    obtain ⟨b1, b2, b3⟩ := dat_ok (K := K) R _ _ _ _ h2 rq
    exact ⟨d, e, a1, b1, dat_shaped a2 a3, dat_shaped b2 b3, h.okNow R .mk_bl⟩
  · exact h.elim
theorem smr_neD : SmR tb E (rNeD K) pNeD := by
  intro ι M H p q x y Q R rp rq h
  unfold pNeD at h
  split at h
  · rename_i d e h1 h2
    obtain ⟨a1, a2, a3⟩ := dat_ok (K := K) R _ _ _ _ h1 rp
    obtain ⟨b1, b2, b3⟩ := dat_ok (K := K) R _ _ _ _ h2 rq
    exact ⟨d, e, a1, b1, dat_shaped a2 a3, dat_shaped b2 b3, h.okNow R .mk_bl⟩
  · exact h.elim
end
/-! ### x in a list or a tuple -/
def flatP : PV → Bool
  | .non => true
  | .bl _ => true
  | .int _ => true
  | .str _ => true
  | _ => false
end Pu
namespace Pu
open PySem PySem.Spec PyProof.Rows L2 LB
open Classical
/-! ### a list, a tuple or a text -/
def pIxQ (p q : PV) (M : PM) : Res PV := match p with
  | .tup _ => pIxT p q M
  | .str _ => pIxS p q M
  | _ => pIxL p q M
def bLenQ (as : List PV) (M : PM) : Res PV := match as with
  | [.str _] => bLenS as M
  | _ => bLen as M
theorem smr_ixQ {tb : List (Addr × Str)} {E : XK} {K : PySem.W.Frag} : SmR tb E (rIx K) pIxQ := by
  intro ι M H p q x y Q R rp rq h
  unfold pIxQ at h
  split at h
  · exact .inr (.inl (smr_ixT ι M H _ q x y Q R rp rq h))
  · exact .inr (.inr (smr_ixS ι M H _ q x y Q R rp rq h))
  · exact .inl (smr_ixL ι M H _ q x y Q R rp rq h)
theorem sb_lenQ {tb : List (Addr × Str)} {E : XK} {K : PySem.W.Frag} : SmL tb E (fun xs H Q => (∃ p ys, xs = [.ref p] ∧ (SqL K H p ys ∨ SqT K H p ys) ∧ Q (.int (ys.length : Nat)) H) ∨ ∃ z, xs = [.str z] ∧ z.length ≤ sizeLine ∧ Q (.int (z.length : Nat)) H) bLenQ := by
  intro ι M H ps xs Q R rs h
  unfold bLenQ at h
  split at h
  · exact .inr (sb_lenS ι M H _ xs Q R rs h)
  · exact .inl (sb_len ι M H _ xs Q R rs h)
/-! ### d.get(text), d a dict of the module -/
/-! ### sorted(set(a list of texts)) -/
def dedup : List (List Nat) → List (List Nat)
  | [] => []
  | x :: r => if x ∈ r then dedup r else x :: dedup r
theorem mem_dedup {x : List Nat} : ∀ {l : List (List Nat)}, x ∈ dedup l ↔ x ∈ l
  | [] => Iff.rfl
  | y :: r => by
    unfold dedup
    split
    · rename_i h
      rw [mem_dedup, List.mem_cons]
      exact ⟨.inr, fun z => z.elim (fun e => by rw [e]; exact h) id⟩
    · rw [List.mem_cons, List.mem_cons, mem_dedup]
theorem nodup_dedup : ∀ {l : List (List Nat)}, (dedup l).Nodup
  | [] => List.nodup_nil
  | y :: r => by
    unfold dedup
    split
    · exact nodup_dedup
    · rename_i h
      exact List.nodup_cons.mpr ⟨fun z => h (mem_dedup.mp z), nodup_dedup⟩
def leT (a b : List Nat) : Bool := decide (a ≤ b)
def sortU (l : List (List Nat)) : List (List Nat) := (dedup l).mergeSort leT
theorem mem_sortU {x : List Nat} {l : List (List Nat)} : x ∈ sortU l ↔ x ∈ l := by
  unfold sortU
  rw [(List.mergeSort_perm _ _).mem_iff, mem_dedup]
theorem nodup_sortU {l : List (List Nat)} : (sortU l).Nodup := (List.mergeSort_perm _ _).nodup_iff.mpr nodup_dedup
theorem sorted_sortU {l : List (List Nat)} : (sortU l).Pairwise (· ≤ ·) := by
  have := List.pairwise_mergeSort (le := leT) (fun a b c h1 h2 => decide_eq_true (List.le_trans (of_decide_eq_true h1) (of_decide_eq_true h2))) (fun a b => by
    rcases List.le_total a b with h | h
    · unfold leT; rw [decide_eq_true h]; rfl
    · unfold leT; rw [decide_eq_true h, Bool.or_true]) (dedup l)
  exact this.imp fun h => of_decide_eq_true h
theorem perm_nodup {α : Type} : ∀ {l m : List α}, l.Nodup → m.Nodup → (∀ x, x ∈ l ↔ x ∈ m) → l.Perm m := by
  intro l m h1 h2 h
  exact (List.perm_ext_iff_of_nodup h1 h2).mpr h
theorem sortU_of {l ys : List (List Nat)} (nd : ys.Nodup) (m : ∀ x, x ∈ ys ↔ x ∈ l) (s : ys.Pairwise (· ≤ ·)) : ys = sortU l :=
  List.Perm.eq_of_pairwise (fun a b _ _ h1 h2 => List.le_antisymm h1 h2) s sorted_sortU (perm_nodup nd nodup_sortU fun x => (m x).trans mem_sortU.symm)
theorem ltCps_lt {a b : List Nat} : ltCps a b = true ↔ a < b := by rw [ltCps_eq, decide_eq_true_iff]
theorem rising_pw : ∀ {r : List Str} {p : Str}, risingS p r = true → ((p :: r).map (·.cps.toList)).Pairwise (· ≤ ·)
  | [], p, _ => by simp
  | x :: r, p, h => by
    have h' : (!ltCps x.cps.toList p.cps.toList && risingS x r) = true := h
    rw [Bool.and_eq_true] at h'
    have ih := rising_pw h'.2
    have hx : p.cps.toList ≤ x.cps.toList := by
      have h1 := h'.1
      rw [Bool.not_eq_true'] at h1
      intro z
      rw [ltCps_lt.mpr z] at h1
      cases h1
    rw [List.map_cons] at ih ⊢
    rw [List.map_cons]
    refine List.pairwise_cons.mpr ⟨fun y hy => ?_, ih⟩
    rcases List.mem_cons.mp hy with e | e
    · rw [e]; exact hx
    · exact List.le_trans hx ((List.pairwise_cons.mp ih).1 y e)
theorem sortedS_pw {ys : List Str} (h : sortedS ys = true) : (ys.map (·.cps.toList)).Pairwise (· ≤ ·) := by
  cases ys with
  | nil => exact .nil
  | cons x r => exact rising_pw h
def bSortSet (p : PV) (M : PM) : Res PV := match (lstAt M p).bind asStrs with
  | some ys => if ys.length < 2000 then .ok (.ref M.length) (M ++ [.lst ((sortU ys).map .str)]) else .bad
  | none => .bad
def fSortSet (f : FE) : FE := fun σ M => (f σ M).bnd bSortSet
end Pu
namespace Pu
open PySem PySem.Spec PyProof.Rows L2 LB
open Classical
/-! ### reckoning with runs -/
@[simp] theorem wf_non (n : Nat) : PV.wf n .non = True := by unfold PV.wf; rfl
@[simp] theorem wf_bl (n : Nat) (b : Bool) : PV.wf n (.bl b) = True := by unfold PV.wf; rfl
@[simp] theorem wf_int (n : Nat) (b : Int) : PV.wf n (.int b) = True := by unfold PV.wf; rfl
@[simp] theorem wf_str (n : Nat) (b : List Nat) : PV.wf n (.str b) = True := by unfold PV.wf; rfl
@[simp] theorem wf_ref (n k : Nat) : PV.wf n (.ref k) = (k < n) := by unfold PV.wf; rfl
@[simp] theorem wf_tup (n : Nat) (xs : List PV) : PV.wf n (.tup xs) = PV.wfs n xs := by rw [PV.wf]
@[simp] theorem wfs_nil (n : Nat) : PV.wfs n [] = True := by unfold PV.wfs; rfl
@[simp] theorem wfs_cons (n : Nat) (x : PV) (xs : List PV) : PV.wfs n (x :: xs) = (x.wf n ∧ PV.wfs n xs) := by rw [PV.wfs]
theorem wfs_iff {n : Nat} : ∀ {xs : List PV}, PV.wfs n xs ↔ ∀ x ∈ xs, x.wf n
  | [] => by simp
  | x :: xs => by rw [wfs_cons, wfs_iff]; simp
@[simp] theorem wf_lst (n : Nat) (xs : List PV) : PO.wf n (.lst xs) = PV.wfs n xs := id rfl
@[simp] theorem ev_fC (p : PV) (σ : PS) (M : PM) : fC p σ M = .ok p M := id rfl
@[simp] theorem ev_fOp (g : PV → PV → PM → Res PV) (fa fb : FE) (σ : PS) (M : PM) : fOp g fa fb σ M = (fa σ M).bnd fun p M1 => (fb σ M1).bnd fun q M2 => g p q M2 := id rfl
@[simp] theorem ev_fUn (g : PV → PM → Res PV) (fa : FE) (σ : PS) (M : PM) : fUn g fa σ M = (fa σ M).bnd g := id rfl
@[simp] theorem ev_fTest (f : FE) (σ : PS) (M : PM) : fTest f σ M = (f σ M).bnd asB := id rfl
@[simp] theorem ev_fTru (f : FE) (σ : PS) (M : PM) : fTru f σ M = (f σ M).bnd asT := id rfl
@[simp] theorem ev_fNotT (f : FE) (σ : PS) (M : PM) : fNotT f σ M = (f σ M).bnd fun p M1 => (asT p M1).bnd fun b M2 => .ok (.bl (!b)) M2 := id rfl
@[simp] theorem ev_fAnd (f g : FT) (σ : PS) (M : PM) : fAnd f g σ M = (f σ M).bnd fun b M1 => if b = true then g σ M1 else .ok false M1 := id rfl
@[simp] theorem ev_fOr (f g : FT) (σ : PS) (M : PM) : fOr f g σ M = (f σ M).bnd fun b M1 => if b = true then .ok true M1 else g σ M1 := id rfl
@[simp] theorem ev_fNot (f : FT) (σ : PS) (M : PM) : fNot f σ M = (f σ M).bnd fun b M1 => .ok (!b) M1 := id rfl
@[simp] theorem ev_fYes (σ : PS) (M : PM) : fYes σ M = .ok true M := id rfl
@[simp] theorem ev_fAndV (f g : FE) (σ : PS) (M : PM) : fAndV f g σ M = (f σ M).bnd fun p M1 => (asB p M1).bnd fun b M2 => if b = true then g σ M2 else .ok (.bl false) M2 := id rfl
@[simp] theorem ev_fOrV (f g : FE) (σ : PS) (M : PM) : fOrV f g σ M = (f σ M).bnd fun p M1 => (asB p M1).bnd fun b M2 => if b = true then .ok (.bl true) M2 else g σ M2 := id rfl
@[simp] theorem ev_fNotV (f : FE) (σ : PS) (M : PM) : fNotV f σ M = (f σ M).bnd fun p M1 => (asB p M1).bnd fun b M2 => .ok (.bl (!b)) M2 := id rfl
@[simp] theorem ev_fIf (c : FT) (f g : FE) (σ : PS) (M : PM) : fIf c f g σ M = (c σ M).bnd fun b M1 => if b = true then f σ M1 else g σ M1 := id rfl
@[simp] theorem ev_fChain (g g' : PV → PV → PM → Res PV) (fa fb fc : FE) (σ : PS) (M : PM) : fChain g g' fa fb fc σ M = (fa σ M).bnd fun x M1 => (fb σ M1).bnd fun y M2 => (g x y M2).bnd fun z M3 => (asB z M3).bnd fun k M4 => if k = true then (fc σ M4).bnd fun w M5 => g' y w M5 else .ok (.bl false) M4 := id rfl
@[simp] theorem ev_fNil (σ : PS) (M : PM) : fNil σ M = .ok [] M := id rfl
@[simp] theorem ev_fCons (f : FE) (g : FA) (σ : PS) (M : PM) : fCons f g σ M = (f σ M).bnd fun p M1 => (g σ M1).bnd fun ps M2 => .ok (p :: ps) M2 := id rfl
@[simp] theorem ev_fTup (f : FA) (σ : PS) (M : PM) : fTup f σ M = (f σ M).bnd fun ps M1 => if ps.length ≤ lim then .ok (.tup ps) M1 else .bad := id rfl
@[simp] theorem ev_fLst (f : FA) (σ : PS) (M : PM) : fLst f σ M = (f σ M).bnd fun ps M1 => if ps.length ≤ lim then .ok (.ref M1.length) (M1 ++ [.lst ps]) else .bad := id rfl
@[simp] theorem ev_fNoPart (σ : PS) (M : PM) : fNoPart σ M = .ok none M := id rfl
@[simp] theorem ev_fSl (g : PV → Option Int → Option Int → PM → Res PV) (f : FE) (l h : FO) (σ : PS) (M : PM) : fSl g f l h σ M = (f σ M).bnd fun p M1 => (l σ M1).bnd fun lo M2 => (h σ M2).bnd fun hi M3 => g p lo hi M3 := id rfl
@[simp] theorem ev_fNext (σ : PS) (M : PM) : fNext σ M = .nx σ M := id rfl
@[simp] theorem ev_fBreak (σ : PS) (M : PM) : fBreak σ M = .bk σ M := id rfl
@[simp] theorem ev_fCont (σ : PS) (M : PM) : fCont σ M = .ct σ M := id rfl
@[simp] theorem ev_fDrop (f : FE) (σ : PS) (M : PM) : fDrop f σ M = (f σ M).go fun _ M1 => .nx σ M1 := id rfl
@[simp] theorem ev_fRet (f : FE) (σ : PS) (M : PM) : fRet f σ M = (f σ M).go fun p M1 => .rt p M1 := id rfl
@[simp] theorem ev_fRetN (σ : PS) (M : PM) : fRetN σ M = .rt .non M := id rfl
@[simp] theorem ev_fIfS (c : FT) (f g : FS) (σ : PS) (M : PM) : fIfS c f g σ M = (c σ M).go fun b M1 => if b = true then f σ M1 else g σ M1 := id rfl
@[simp] theorem ev_fNever (σ : PS) (M : PM) : fNever σ M = .bad := id rfl
@[simp] theorem ev_fFor (i : FI) (g : FG) (b : FS) (σ : PS) (M : PM) : fFor i g b σ M = (i σ M).go fun it M1 => forP it.ok g b it.xs σ M1 := id rfl
@[simp] theorem ev_fI (i : PV → PM → Res PIt) (f : FE) (σ : PS) (M : PM) : fI i f σ M = (f σ M).bnd i := id rfl
@[simp] theorem ev_fIA (i : List PV → PM → Res PIt) (f : FA) (σ : PS) (M : PM) : fIA i f σ M = (f σ M).bnd i := id rfl
@[simp] theorem ev_fB (g : List PV → PM → Res PV) (f : FA) (σ : PS) (M : PM) : fB g f σ M = (f σ M).bnd g := id rfl
@[simp] theorem ev_fBM (T : String) (g : PV → List PV → PM → Res PV) (fo : FE) (fr : FA) (σ : PS) (M : PM) : fBM T g fo fr σ M = (fo σ M).bnd fun p M1 => if isTyP M1 T p = true then (fr σ M1).bnd fun as M2 => g p as M2 else .bad := id rfl
@[simp] theorem ev_fBM0 (T : String) (g : PV → List PV → PM → Res PV) (fo : FE) (σ : PS) (M : PM) : fBM0 T g fo σ M = (fo σ M).bnd fun p M1 => if isTyP M1 T p = true then g p [] M1 else .bad := id rfl
@[simp] theorem ev_fM1 (g : PV → List PV → PM → Res PV) (fo fe : FE) (σ : PS) (M : PM) : fM1 g fo fe σ M = (fo σ M).bnd fun p M1 => if isS p = true then (fe σ M1).bnd fun y M2 => g p [y] M2 else .bad := id rfl
@[simp] theorem ev_fCall (F : FF) (das : List PV) (fr : FA) (σ : PS) (M : PM) : fCall F das fr σ M = (fr σ M).bnd fun as M1 => F (as ++ das) M1 := id rfl
@[simp] theorem ev_fCallN (F : FF) (das : List PV) (fr : FA) (σ : PS) (M : PM) : fCallN F das fr σ M = (fr σ M).bnd fun as M1 => (F (as ++ das) M1).nox := id rfl
@[simp] theorem ev_fLc (i : FI) (g : FG) (ft : FT) (fe : FE) (vs : List Nat) (σ : PS) (M : PM) : fLc i g ft fe vs σ M = (i σ M).bnd fun it M1 => (lcP it.ok g ft fe M1.length (wipeP σ vs) it.xs (M1 ++ [.lst []])).bnd fun _ M2 => .ok (.ref M1.length) M2 := id rfl
@[simp] theorem ev_fDc (i : FI) (g : FG) (ft : FT) (fk fv : FE) (vs : List Nat) (σ : PS) (M : PM) : fDc i g ft fk fv vs σ M = (i σ M).bnd fun it M1 => (dcP it.ok g ft fk fv M1.length (wipeP σ vs) it.xs (M1 ++ [.dct []])).bnd fun _ M2 => .ok (.ref M1.length) M2 := id rfl
@[simp] theorem ev_fGc (f : FE) (σ : PS) (M : PM) : fGc f σ M = gc M (f σ M) := id rfl
@[simp] theorem ev_fMake (C : Addr) (F : FF) (das : List PV) (fr : FA) (σ : PS) (M : PM) : fMake C F das fr σ M = (fr σ M).bnd fun as M1 => (F (.ref M1.length :: (as ++ das)) (M1 ++ [.ins C []])).bnd (asN M1.length) := id rfl
@[simp] theorem ev_fMakeN (C : Addr) (F : FF) (das : List PV) (fr : FA) (σ : PS) (M : PM) : fMakeN C F das fr σ M = (fr σ M).bnd fun as M1 => (F (.ref M1.length :: (as ++ das)) (M1 ++ [.ins C []])).nox.bnd (asN M1.length) := id rfl
@[simp] theorem ev_fMeth (C : Addr) (m : String) (F : FF) (das : List PV) (fo : FE) (fr : FA) (σ : PS) (M : PM) : fMeth C m F das fo fr σ M = (fo σ M).bnd fun p M1 => if hasM M1 C m p = true then (fr σ M1).bnd fun as M2 => F (p :: (as ++ das)) M2 else .bad := id rfl
@[simp] theorem ev_fDNewK (σ : PS) (M : PM) : fDNewK σ M = .ok (.ref M.length) (M ++ [.dct []]) := id rfl
@[simp] theorem ev_fDNewT (σ : PS) (M : PM) : fDNewT σ M = .ok (.ref M.length) (M ++ [.dtt []]) := id rfl
@[simp] theorem ev_fSortSet (f : FE) (σ : PS) (M : PM) : fSortSet f σ M = (f σ M).bnd bSortSet := id rfl
/-! garbage -/
theorem keep_app {M ex : PM} : keepOk M (M ++ ex) := ⟨by simp, fun i hi => .inl (List.getElem?_append_left hi)⟩
theorem keep_self {M : PM} : keepOk M M := ⟨Nat.le_refl _, fun i hi => .inl rfl⟩
theorem gc_flat {M ex : PM} {p : PV} (h : p.wf M.length) : gc M (.ok p (M ++ ex)) = .ok p M := by
  unfold gc
  simp only
  rw [if_pos ⟨keep_app, h⟩, List.take_left]
theorem gc_self {M M2 : PM} {p : PV} (h : M2.length = M.length) : gc M (.ok p M2) = .ok p M2 := by
  unfold gc
  simp only
  split
  · rw [← h, List.take_length]
  · split
    · split
      · split
        · rename_i o e k
          have := (List.getElem?_eq_some_iff.mp e).1
          omega
        · rfl
      · rfl
    · rfl
/-- a new list alone is left -/
theorem gc_new {M M2 : PM} {k : Nat} {o : PO} (hk : keepOk M M2) (lk : M.length ≤ k) (e : M2[k]? = some o) (w : o.wf M.length) : gc M (.ok (.ref k) M2) = .ok (.ref M.length) (M2.take M.length ++ [o]) := by
  unfold gc
  simp only
  rw [if_neg fun z => by have := z.2; simp at this; omega, e]
  simp only
  rw [if_pos ⟨hk, w, lk⟩]
theorem gc_keep {M M2 : PM} {p : PV} (hk : keepOk M M2) (w : p.wf M.length) : gc M (.ok p M2) = .ok p (M2.take M.length) := by
  unfold gc
  simp only
  rw [if_pos ⟨hk, w⟩]
theorem gc_exc {M M2 : PM} {x : Xc} (hk : keepOk M M2) : gc M (.exc x M2) = .exc x (M2.take M.length) := by
  unfold gc
  simp only
  rw [if_pos hk]
theorem keep_set {M ex : PM} {b : Nat} {o : PO} (w : o.wf M.length) : keepOk M (M.set b o ++ ex) := by
  refine ⟨by simp, fun i hi => ?_⟩
  rw [List.getElem?_append_left (by simpa using hi)]
  by_cases h : i = b
  · subst h
    exact .inr ⟨o, List.getElem?_set_self hi, w⟩
  · exact .inl (List.getElem?_set_ne (Ne.symm h))
theorem take_set {M ex : PM} {b : Nat} {o : PO} : (M.set b o ++ ex).take M.length = M.set b o := by
  rw [List.take_append_of_le_length (by simp), List.take_of_length_le (by simp)]
/-! loops -/
/-- a for whose body always goes on -/
theorem for_inv {ok : PM → Prop} {g : FG} {b : FS} {xs : List PV} {σ : PS} {M : PM} (I : Nat → PS → PM → Prop) (h0 : I 0 σ M) (hok : ∀ i σ M, i ≤ xs.length → I i σ M → ok M)
    (hs : ∀ i x σ M, xs[i]? = some x → I i σ M → ∃ σ1, g x σ = some σ1 ∧ ∃ σ2 M2, (b σ1 M = .nx σ2 M2 ∨ b σ1 M = .ct σ2 M2) ∧ I (i + 1) σ2 M2) : ∃ σ' M', forP ok g b xs σ M = .nx σ' M' ∧ I xs.length σ' M' := by
  induction xs generalizing σ M I with
  | nil =>
    refine ⟨σ, M, ?_, h0⟩
    unfold forP
    rw [if_pos (hok 0 σ M (Nat.le_refl _) h0)]
  | cons x xs ih =>
    unfold forP
    rw [if_pos (hok 0 σ M (Nat.zero_le _) h0)]
    obtain ⟨σ1, e1, σ2, M2, e2, i2⟩ := hs 0 x σ M rfl h0
    rw [e1]
    have go := ih (σ := σ2) (M := M2) (fun i => I (i + 1)) i2 (fun i σ M hi h => hok (i + 1) σ M (by simpa using hi) h) (fun i y σ M hy h => hs (i + 1) y σ M (by simpa using hy) h)
    simp only
    rcases e2 with e2 | e2 <;> (rw [e2]; exact go)
/-- what a part of a slice must be -/
def asI (p : PV) (M : PM) : Res (Option Int) := match p with
  | .int i => .ok (some i) M
  | _ => .bad
@[simp] theorem asI_int (i : Int) (M : PM) : asI (.int i) M = .ok (some i) M := id rfl
@[simp] theorem ev_fPart (f : FE) (σ : PS) (M : PM) : fPart f σ M = (f σ M).bnd asI := id rfl
def then2 (g : FS) (r : SR) : SR := match r with
  | .nx σ M => g σ M
  | r => r
@[simp] theorem then2_nx (g : FS) (σ : PS) (M : PM) : then2 g (.nx σ M) = g σ M := id rfl
@[simp] theorem then2_rt (g : FS) (p : PV) (M : PM) : then2 g (.rt p M) = .rt p M := id rfl
@[simp] theorem then2_exc (g : FS) (x : Xc) (M : PM) : then2 g (.exc x M) = .exc x M := id rfl
@[simp] theorem then2_bad (g : FS) : then2 g .bad = .bad := id rfl
@[simp] theorem then2_ite (g : FS) (p : Prop) [Decidable p] (a b : SR) : then2 g (if p then a else b) = if p then then2 g a else then2 g b := by split <;> rfl
@[simp] theorem ev_fSeq (f g : FS) (σ : PS) (M : PM) : fSeq f g σ M = then2 g (f σ M) := id rfl
def toSt (M : PM) (o : Option PS) : SR := match o with
  | some σ => .nx σ M
  | none => .bad
@[simp] theorem toSt_some (M : PM) (σ : PS) : toSt M (some σ) = .nx σ M := id rfl
@[simp] theorem ev_fAsg (f : FE) (g : FG) (σ : PS) (M : PM) : fAsg f g σ M = (f σ M).go fun p M1 => toSt M1 (g p σ) := id rfl
@[simp] theorem ev_gNm (i : Nat) (p : PV) (σ : PS) : gNm i p σ = some (σ.set i (some p)) := id rfl
@[simp] theorem ev_gTp (gs : List PV → PS → Option PS) (xs : List PV) (σ : PS) : gTp gs (.tup xs) σ = gs xs σ := id rfl
@[simp] theorem ev_gsNil (σ : PS) : gsNil [] σ = some σ := id rfl
@[simp] theorem ev_gsCons (g : FG) (gs : List PV → PS → Option PS) (p : PV) (r : List PV) (σ : PS) : gsCons g gs (p :: r) σ = (g p σ).bind fun σ1 => gs r σ1 := id rfl
@[simp] theorem bnd_ite {α β : Type} (p : Prop) [Decidable p] (a b : Res α) (k : α → PM → Res β) : (if p then a else b).bnd k = if p then a.bnd k else b.bnd k := by split <;> rfl
@[simp] theorem go_ite {α : Type} (p : Prop) [Decidable p] (a b : Res α) (k : α → PM → SR) : (if p then a else b).go k = if p then a.go k else b.go k := by split <;> rfl
@[simp] theorem asB_bl (b : Bool) (M : PM) : asB (.bl b) M = .ok b M := id rfl
@[simp] theorem pI0_int (g : Int → Int → PV) (i j : Int) (M : PM) : pI0 g (.int i) (.int j) M = .ok (g i j) M := id rfl
theorem pI_int {C : Int → Int → Prop} {g : Int → Int → PV} {i j : Int} {M : PM} (h : C i j) : pI C g (.int i) (.int j) M = .ok (g i j) M := if_pos h
@[simp] theorem pU_int (g : Int → PV) (i : Int) (M : PM) : pU g (.int i) M = .ok (g i) M := id rfl
@[simp] theorem pEq_int (i j : Int) (M : PM) : pEq (.int i) (.int j) M = .ok (.bl (decide (i = j))) M := id rfl
@[simp] theorem pEq_str (i j : List Nat) (M : PM) : pEq (.str i) (.str j) M = .ok (.bl (decide (i = j))) M := id rfl
@[simp] theorem pEq_bl (i j : Bool) (M : PM) : pEq (.bl i) (.bl j) M = .ok (.bl (decide (i = j))) M := id rfl
@[simp] theorem pNe_int (i j : Int) (M : PM) : pNe (.int i) (.int j) M = .ok (.bl (!decide (i = j))) M := id rfl
@[simp] theorem pNe_str (i j : List Nat) (M : PM) : pNe (.str i) (.str j) M = .ok (.bl (!decide (i = j))) M := id rfl
@[simp] theorem pNe_nonint (j : Int) (M : PM) : pNe .non (.int j) M = .ok (.bl true) M := id rfl
@[simp] theorem pIsN_non (p : PV) (M : PM) : pIsN p .non M = .ok (.bl (isNon p)) M := id rfl
@[simp] theorem pNotN_non (p : PV) (M : PM) : pNotN p .non M = .ok (.bl (!isNon p)) M := id rfl
@[simp] theorem isNon_non : isNon .non = true := id rfl
@[simp] theorem isNon_str (s : List Nat) : isNon (.str s) = false := id rfl
@[simp] theorem isNon_tup (s : List PV) : isNon (.tup s) = false := id rfl
@[simp] theorem isNon_int (s : Int) : isNon (.int s) = false := id rfl
theorem pAddT_tup {a b : List PV} {M : PM} (h : a.length + b.length ≤ lim) : pAddT (.tup a) (.tup b) M = .ok (.tup (a ++ b)) M := if_pos h
@[simp] theorem pInS_one (c : Nat) (z : List Nat) (M : PM) : pInS (.str [c]) (.str z) M = .ok (.bl (decide (c ∈ z))) M := id rfl
@[simp] theorem lstAt_ref' (M : PM) (k : Nat) (xs : List PV) (h : M[k]? = some (.lst xs)) : lstAt M (.ref k) = some xs := by unfold lstAt; simp only [h]
theorem pIxL_at {k : Nat} {xs : List PV} {i : Int} {x : PV} {M : PM} (e : M[k]? = some (.lst xs)) (h : atI xs i = some x) : pIxL (.ref k) (.int i) M = .ok x M := by unfold pIxL; simp only [lstAt_ref' M k xs e, h]
theorem pIxS_at {xs : List Nat} {i : Int} {x : Nat} {M : PM} (hl : xs.length ≤ lim) (h : atI xs i = some x) : pIxS (.str xs) (.int i) M = .ok (.str [x]) M := by unfold pIxS; simp only [if_pos hl, h]
@[simp] theorem bLen_tup (xs : List PV) (M : PM) : bLen [.tup xs] M = .ok (.int (xs.length : Nat)) M := id rfl
theorem bLen_lst {k : Nat} {xs : List PV} {M : PM} (e : M[k]? = some (.lst xs)) : bLen [.ref k] M = .ok (.int (xs.length : Nat)) M := by unfold bLen seqAt; simp only [lstAt_ref' M k xs e]
theorem bLenS_str {s : List Nat} {M : PM} (h : s.length ≤ lim) : bLenS [.str s] M = .ok (.int (s.length : Nat)) M := if_pos h
@[simp] theorem pSlT_tup (xs : List PV) (lo hi : Option Int) (M : PM) : pSlT (.tup xs) lo hi M = .ok (.tup (cut xs lo hi)) M := id rfl
@[simp] theorem bTup_tup (xs : List PV) (M : PM) : bTup [.tup xs] M = .ok (.tup xs) M := id rfl
theorem bTup_lst {k : Nat} {xs : List PV} {M : PM} (e : M[k]? = some (.lst xs)) : bTup [.ref k] M = .ok (.tup xs) M := by unfold bTup seqAt; simp only [lstAt_ref' M k xs e]
@[simp] theorem itT_tup (xs : List PV) (M : PM) : itT (.tup xs) M = .ok ⟨xs, fun _ => True⟩ M := id rfl
@[simp] theorem itS_str (s : List Nat) (M : PM) : itS (.str s) M = .ok ⟨s.map fun c => .str [c], fun _ => True⟩ M := id rfl
theorem itR1_int {j : Int} {M : PM} (h : -(2 ^ 62) ≤ j ∧ j < 2 ^ 62) : itR1 [.int j] M = .ok ⟨upTo 0 j.toNat, fun _ => True⟩ M := if_pos h
@[simp] theorem itZ_tup (xs ys : List PV) (M : PM) : itZ [.tup xs, .tup ys] M = .ok ⟨zipP xs ys, fun _ => True⟩ M := id rfl
@[simp] theorem itET_tup (xs : List PV) (M : PM) : itET [.tup xs] M = .ok ⟨enumP xs, fun _ => True⟩ M := id rfl
@[simp] theorem itES_str (s : List Nat) (M : PM) : itES [.str s] M = .ok ⟨enumP (s.map fun c => .str [c]), fun _ => True⟩ M := id rfl
@[simp] theorem isTy_str (M : PM) (s : List Nat) : isTyP M "str" (.str s) = true := id rfl
@[simp] theorem isS_str (s : List Nat) : isS (.str s) = true := id rfl
@[simp] theorem mFind3_at (a b : List Nat) (i : Int) (M : PM) : mFind3 (.str a) [.str b, .int i] M = .ok (.int (Txt.find3 (tx a) (tx b) i)) M := id rfl
@[simp] theorem fnRes_nx (σ : PS) (M : PM) : fnRes (.nx σ M) = .ok .non M := id rfl
@[simp] theorem fnRes_rt (p : PV) (M : PM) : fnRes (.rt p M) = .ok p M := id rfl
@[simp] theorem fnRes_exc (x : Xc) (M : PM) : fnRes (.exc x M) = .exc x M := id rfl
@[simp] theorem fnRes_ite (p : Prop) [Decidable p] (a b : SR) : fnRes (if p then a else b) = if p then fnRes a else fnRes b := by split <;> rfl
theorem fn_at {k n : Nat} {B : FS} {as : List PV} {M : PM} (h : as.length = k) : fnOf k n B as M = gc M (fnRes (B (startP n as) M)) := if_pos h
@[simp] theorem forP_nil (ok : PM → Prop) (g : FG) (b : FS) (σ : PS) (M : PM) (h : ok M) : forP ok g b [] σ M = .nx σ M := if_pos h
@[simp] theorem gc_id (M : PM) (p : PV) : gc M (.ok p M) = .ok p M := gc_self rfl
@[simp] theorem gc_excId (M : PM) (x : Xc) : gc M (.exc x M) = .exc x M := by rw [gc_exc keep_self, List.take_length]
@[simp] theorem gc_ite (M : PM) (p : Prop) [Decidable p] (a b : Res PV) : gc M (if p then a else b) = if p then gc M a else gc M b := by split <;> rfl
@[simp] theorem ev_fVar0 (p : PV) (r : PS) (M : PM) : fVar 0 (some p :: r) M = .ok p M := id rfl
@[simp] theorem ev_fVarS (i : Nat) (x : Option PV) (r : PS) (M : PM) : fVar (i + 1) (x :: r) M = fVar i r M := id rfl
/-- .. the items as images -/
theorem lc_mapF {α : Type} {ok : PM → Prop} {g : FG} {ft : FT} {fe : FE} {σ : PS} {e h : α → PV} {M : PM} : ∀ {zs : List α} {acc : List PV}, (∀ acc, ok (M ++ [.lst acc])) → acc.length + zs.length ≤ lim →
    (∀ z ∈ zs, ∃ σ1, g (e z) σ = some σ1 ∧ ∀ acc, ft σ1 (M ++ [.lst acc]) = .ok true (M ++ [.lst acc]) ∧ fe σ1 (M ++ [.lst acc]) = .ok (h z) (M ++ [.lst acc])) →
    lcP ok g ft fe M.length σ (zs.map e) (M ++ [.lst acc]) = .ok () (M ++ [.lst (acc ++ zs.map h)])
  | [], acc, hok, _, _ => by
    rw [List.map_nil, List.map_nil, List.append_nil]
    unfold lcP
    rw [if_pos (hok acc)]
  | x :: xs, acc, hok, hl, hs => by
    rw [List.map_cons]
    unfold lcP
    rw [if_pos (hok acc)]
    obtain ⟨σ1, e1, h1⟩ := hs x List.mem_cons_self
    obtain ⟨e2, e3⟩ := h1 acc
    rw [e1]
    simp only
    rw [e2, nox_ok, bnd_ok, if_pos rfl, e3, nox_ok, bnd_ok]
    have e4 : (M ++ [PO.lst acc])[M.length]? = some (.lst acc) := by simp
    rw [e4]
    simp only
    rw [List.length_cons] at hl
    rw [if_pos (by omega : acc.length < lim)]
    have e5 : (M ++ [PO.lst acc]).set M.length (.lst (acc ++ [h x])) = M ++ [.lst (acc ++ [h x])] := by simp
    rw [e5, lc_mapF hok (by simp; omega) (fun y hy => hs y (List.mem_cons_of_mem _ hy))]
    simp
@[simp] theorem bAll_at (M ex : PM) (bs : List Bool) : bAll [.ref M.length] (M ++ .lst (bs.map PV.bl) :: ex) = .ok (.bl (bs.all id)) (M ++ .lst (bs.map PV.bl) :: ex) := by
  have h : lstAt (M ++ .lst (bs.map PV.bl) :: ex) (.ref M.length) = some (bs.map PV.bl) := lstAt_ref' _ _ _ (by simp)
  unfold bAll
  simp only [h, Option.bind_some, asBls_map]
@[simp] theorem bAny_at (M ex : PM) (bs : List Bool) : bAny [.ref M.length] (M ++ .lst (bs.map PV.bl) :: ex) = .ok (.bl (bs.any id)) (M ++ .lst (bs.map PV.bl) :: ex) := by
  have h : lstAt (M ++ .lst (bs.map PV.bl) :: ex) (.ref M.length) = some (bs.map PV.bl) := lstAt_ref' _ _ _ (by simp)
  unfold bAny
  simp only [h, Option.bind_some, asBls_map]
@[simp] theorem bSum_at (M ex : PM) (bs : List Int) : bSum [.ref M.length] (M ++ .lst (bs.map PV.int) :: ex) = .ok (.int bs.sum) (M ++ .lst (bs.map PV.int) :: ex) := by
  have h : lstAt (M ++ .lst (bs.map PV.int) :: ex) (.ref M.length) = some (bs.map PV.int) := lstAt_ref' _ _ _ (by simp)
  unfold bSum
  simp only [h, Option.bind_some, asInts_map]
@[simp] theorem bTup_at (M ex : PM) (xs : List PV) : bTup [.ref M.length] (M ++ .lst xs :: ex) = .ok (.tup xs) (M ++ .lst xs :: ex) := bTup_lst (by simp)
@[simp] theorem bAll_atF {α : Type} (M ex : PM) (f : α → Bool) (zs : List α) : bAll [.ref M.length] (M ++ .lst (zs.map fun z => PV.bl (f z)) :: ex) = .ok (.bl (zs.all f)) (M ++ .lst (zs.map fun z => PV.bl (f z)) :: ex) := by
  have h : zs.map (fun z => PV.bl (f z)) = (zs.map f).map PV.bl := by rw [List.map_map]; rfl
  rw [h, bAll_at, List.all_map]
  rfl
@[simp] theorem bAny_atF {α : Type} (M ex : PM) (f : α → Bool) (zs : List α) : bAny [.ref M.length] (M ++ .lst (zs.map fun z => PV.bl (f z)) :: ex) = .ok (.bl (zs.any f)) (M ++ .lst (zs.map fun z => PV.bl (f z)) :: ex) := by
  have h : zs.map (fun z => PV.bl (f z)) = (zs.map f).map PV.bl := by rw [List.map_map]; rfl
  rw [h, bAny_at, List.any_map]
  rfl
@[simp] theorem bSum_atF {α : Type} (M ex : PM) (f : α → Int) (zs : List α) : bSum [.ref M.length] (M ++ .lst (zs.map fun z => PV.int (f z)) :: ex) = .ok (.int (zs.map f).sum) (M ++ .lst (zs.map fun z => PV.int (f z)) :: ex) := by
  have h : zs.map (fun z => PV.int (f z)) = (zs.map f).map PV.int := by rw [List.map_map]; rfl
  rw [h, bSum_at]
/-- a loop by its word -/
theorem for_word {α : Type} (P : SR → Prop) {ok : PM → Prop} {g : FG} {b : FS} {e : α → PV} {M : PM} {zs : List α} {σ : PS} (I : Nat → PS → PM → Prop) (h0 : I 0 σ M) (hok : ∀ i σ M, i ≤ zs.length → I i σ M → ok M)
    (hs : ∀ i z σ M, zs[i]? = some z → I i σ M → ∃ σ1, g (e z) σ = some σ1 ∧ ∃ σ2 M2, (b σ1 M = .nx σ2 M2 ∨ b σ1 M = .ct σ2 M2) ∧ I (i + 1) σ2 M2) (h1 : ∀ σ' M', I zs.length σ' M' → P (.nx σ' M')) : P (forP ok g b (zs.map e) σ M) := by
  obtain ⟨σ', M', e1, i1⟩ := for_inv (xs := zs.map e) (ok := ok) (g := g) (b := b) I h0 (fun i σ M hi h => hok i σ M (by simpa using hi) h) (fun i x σ M hx h => by
    rw [List.getElem?_map] at hx
    cases hz : zs[i]? with
    | none => rw [hz] at hx; cases hx
    | some z =>
      rw [hz] at hx
      cases hx
      exact hs i z σ M hz h)
  rw [e1]
  rw [List.length_map] at i1
  exact h1 σ' M' i1
def toM (σ : PS) (o : Option PM) : SR := match o with
  | some M => .nx σ M
  | none => .bad
@[simp] theorem toM_some (σ : PS) (M : PM) : toM σ (some M) = .nx σ M := id rfl
/-- .. at any place and store -/
theorem lc_mapE {α : Type} {ok : PM → Prop} {g : FG} {ft : FT} {fe : FE} {σ : PS} {e : α → PV} {d : Nat} {N : PM} {zs : List α} (M : PM) (h : α → PV) (hd : d = M.length) (hN : N = M ++ [.lst []]) (hok : ∀ acc, ok (M ++ [.lst acc])) (hl : zs.length ≤ lim)
    (hs : ∀ z ∈ zs, ∃ σ1, g (e z) σ = some σ1 ∧ ∀ acc, ft σ1 (M ++ [.lst acc]) = .ok true (M ++ [.lst acc]) ∧ fe σ1 (M ++ [.lst acc]) = .ok (h z) (M ++ [.lst acc])) :
    lcP ok g ft fe d σ (zs.map e) N = .ok () (M ++ [.lst (zs.map h)]) := by
  subst hd hN
  rw [lc_mapF (h := h) hok (by simpa using hl) hs, List.nil_append]
end Pu
namespace Pu
open PySem
/-- where the program's classes stand -/
structure CA where
  LeakError : Addr := 0
  BadName : Addr := 0
  BadWord : Addr := 0
  BadAct : Addr := 0
  BadScene : Addr := 0
  BadWish : Addr := 0
  BadBody : Addr := 0
  BadAtom : Addr := 0
  BadDeed : Addr := 0
  BadText : Addr := 0
  Taken : Addr := 0
  Full : Addr := 0
  Heavy : Addr := 0
  NoMachine : Addr := 0
  NoRow : Addr := 0
  NoMove : Addr := 0
  NoLetter : Addr := 0
  NoLab : Addr := 0
  NoWish : Addr := 0
  NoDeed : Addr := 0
  Lab : Addr := 0
  Search : Addr := 0
  Shelf : Addr := 0
  Trail : Addr := 0
  Plan : Addr := 0
  Bench : Addr := 0
  Desk : Addr := 0
  nd : List (Addr × NestedKey) → Addr → L2.HO := fun _ _ => .lst []
  mt : Nat → Addr := fun _ => 0
end Pu
namespace Pu
open PySem PySem.Spec PyProof.Rows L2 LB
/-! ### the end of a law: behind its bag it is a pure run -/
theorem rvs_ints {ι : Nat → Addr} {N : Nat} {H : Hp} : ∀ ns : List Int, Rvs ι N H (ns.map PV.int) (ns.map V.int)
  | [] => .nil
  | n :: ns => .cons .mk_int (rvs_ints ns)
theorem law_cut {X : Cx} {st : Stmt} {rest : List Stmt} {t1 : TS} {tb : List (Addr × Str)} {E : XK} {B : FS} (h1 : L2.PS X st t1) (h2 : ∃ tr, PSs X rest tr ∧ SmS tb E tr B) {D : Ends} {σ : L2.St} {H : Hp} (h3 : ∀ tr, SmS tb E tr B → (tSeq t1 tr) D σ H) : ∃ t, PSs X (st :: rest) t ∧ t D σ H := by
  obtain ⟨tr, h2, h4⟩ := h2
  exact ⟨_, pss_cons h1 h2, h3 tr h4⟩
theorem law_end {tb : List (Addr × Str)} {E : XK} {t : TS} {B : FS} {n : Nat} {a b cl : Addr} {H1 : Hp} {D : Ends} (sm : SmS tb E t B) (hB : Bag b cl H1) (ht : LamX.Tabs tb H1)
    (h : ∀ (ns : List Int) (i r sd ct : Int), 0 ≤ i → ∃ M', B (none :: some (.ref 1) :: List.replicate n none) [.lst (ns.map PV.int), .lst [.ref 0, .int i, .int r, .int sd, .int ct]] = .rt (.bl true) M')
    (q : ∀ H', D.rt (.bl true) H') : t D (some (.ref a) :: some (.ref b) :: List.replicate n none) H1 := by
  obtain ⟨nb, ns, i, r, sd, ct, e1, e2, hl, i0⟩ := hB
  obtain ⟨M', e⟩ := h ns i r sd ct i0
  have R : RM tb (fun k => if k = 0 then cl else b) [.lst (ns.map PV.int), .lst [.ref 0, .int i, .int r, .int sd, .int ct]] H1 := by
    refine ⟨fun j k hj hk e => ?_, fun j o ho => ?_, ht⟩
    · have hj : j < 2 := hj
      have hk : k < 2 := hk
      rcases (show j = 0 ∨ j = 1 by omega) with rfl | rfl <;> rcases (show k = 0 ∨ k = 1 by omega) with rfl | rfl
      · rfl
      · exact absurd e nb
      · exact absurd e.symm nb
      · rfl
    · match j, ho with
      | 0, ho =>
        cases ho
        exact ⟨_, e2, rvs_ints ns⟩
      | 1, ho =>
        cases ho
        exact ⟨_, e1, .cons (.mk_ref (ι := fun k => if k = 0 then cl else b) (k := 0) (by show 0 < 2; decide)) (.cons .mk_int (.cons .mk_int (.cons .mk_int (.cons .mk_int .nil))))⟩
  refine sm _ _ H1 (none :: some (.ref 1) :: List.replicate n none) _ D R ⟨by simp, fun j p hp => ?_⟩ ?_
  · match j, hp with
    | 0, hp => cases hp
    | 1, hp =>
      cases hp
      exact ⟨_, rfl, .mk_ref (ι := fun k => if k = 0 then cl else b) (k := 1) (by show 1 < 2; decide)⟩
    | j + 2, hp =>
      have hp : (List.replicate n (none : Option PV))[j]? = some (some p) := hp
      rw [List.getElem?_replicate] at hp
      split at hp <;> cases hp
  · rw [e]
    exact fun ι' H' v _ _ _ hv => by rw [hv.bl]; exact q H'
end Pu
namespace Pu
open PySem PySem.Spec PyProof.Rows L2 LB
open Classical
/-! ### a def that never raises, where one that raises is asked for -/
theorem fn_any {P : Program} {w : World} {K : PySem.W.Frag} {mg : Str → Option Value} {base : Heap} {CX : CXT} {k : Nat} {f : Addr} {fd : FuncData} {ps : List Str} {sp : Sp} (F : FnOk P w K mg base CX0 k f fd ps sp) : FnOk P w K mg base CX k f fd ps sp :=
  ⟨F.len, fun A outer s H args us vs Q E hr he hb hv hs => codeAny_mono (F.run A outer s H args us vs Q E hr he hb hv hs) fun r s2 h => by
    cases r with
    | ok r => cases r <;> exact h
    | error e => exact (h : False).elim⟩
/-! ### the same data -/
def SamP (M : PM) : Nat → PV → PV → Prop
  | 0, p, q => flatP p = true ∧ p = q
  | n + 1, p, q => (flatP p = true ∧ p = q) ∨ ∃ xs ys, ((p = .tup xs ∧ q = .tup ys) ∨ ∃ i j, p = .ref i ∧ q = .ref j ∧ M[i]? = some (.lst xs) ∧ M[j]? = some (.lst ys)) ∧ xs.length < 100000 ∧ Paired (SamP M n) xs ys
noncomputable def F_same (n : Nat) : FF := fun as M => match as with
  | [p, q] => if SamP M n p q then .ok (.bl true) M else .bad
  | _ => .bad
section
variable {tb : List (Addr × Str)} {ι : Nat → Addr} {M : PM} {H H' : Hp} {K : PySem.W.Frag}
theorem flat_rv {N : Nat} {p : PV} {v w : V} (h : flatP p = true) (a : Rv ι N H p v) (b : Rv ι N H p w) : flat1 v = true ∧ v = w := by
  cases p with
  | non => rw [a.non, b.non]; exact ⟨rfl, rfl⟩
  | bl x => rw [a.bl, b.bl]; exact ⟨rfl, rfl⟩
  | int x => rw [a.int, b.int]; exact ⟨rfl, rfl⟩
  | str x => rw [a.str, b.str]; exact ⟨rfl, rfl⟩
  | ty _ => cases h
  | adr _ => cases h
  | ref _ => cases h
  | tup _ => cases h
  | tpb _ => cases h
theorem paired_two {α β γ δ : Type} {F : α → β → Prop} {G : α → γ → Prop} {I : β → δ → Prop} {J : γ → δ → Prop} (f : ∀ p q v w, F p q → G p v → I q w → J v w) : ∀ {ps : List α} {qs : List β} {vs : List γ} {ws : List δ}, Paired F ps qs → Paired G ps vs → Paired I qs ws → Paired J vs ws
  | _, _, _, _, .nil, .nil, .nil => .nil
  | _, _, _, _, .cons a b, .cons c d, .cons e g => .cons (f _ _ _ _ a c e) (paired_two f b d g)
theorem samP_sam (R : RM tb ι M H) : ∀ {n : Nat} {p q : PV} {v w : V}, SamP M n p q → Rv ι M.length H p v → Rv ι M.length H q w → Sam K H n v w
  | 0, p, q, v, w, h, a, b => by
    obtain ⟨h1, rfl⟩ := h
    exact flat_rv h1 a b
  | n + 1, p, q, v, w, h, a, b => by
    rcases h with ⟨h1, rfl⟩ | ⟨xs, ys, h1, hl, pp⟩
    · exact .inl (flat_rv h1 a b)
    · rcases h1 with ⟨rfl, rfl⟩ | ⟨i, j, rfl, rfl, e1, e2⟩
      · obtain ⟨c, vs, rfl, e1, r1⟩ := a.tup_at
        obtain ⟨d, ws, rfl, e2, r2⟩ := b.tup_at
        exact .inr ⟨c, d, vs, ws, rfl, rfl, .inr ⟨e1, e2⟩, by rw [← r1.len]; exact hl, paired_two (F := SamP M n) (G := Rv ι M.length H) (I := Rv ι M.length H) (J := Sam K H n) (fun _ _ _ _ h a b => samP_sam (n := n) R h a b) pp r1.pr r2.pr⟩
      · obtain ⟨vs, g1, r1⟩ := R.obj i _ e1
        obtain ⟨ws, g2, r2⟩ := R.obj j _ e2
        exact .inr ⟨ι i, ι j, vs, ws, a.ref_at.2, b.ref_at.2, .inl ⟨g1, g2⟩, by rw [← r1.len]; exact hl, paired_two (F := SamP M n) (G := Rv ι M.length H) (I := Rv ι M.length H) (J := Sam K H n) (fun _ _ _ _ h a b => samP_sam (n := n) R h a b) pp r1.pr r2.pr⟩
theorem ex_same {n : Nat} (s : Same H H') : Ex ι ι n H H' := ⟨fun _ _ => rfl, fun a vs e => s _ _ e, fun a o u e => s _ _ e, fun a q e => s _ _ e⟩
theorem RM.same (r : RM tb ι M H) (s : Same H H') : RM tb ι M H' :=
  ⟨r.inj, fun i o h => by
    obtain ⟨x, e, _⟩ := (r.obj i o h).some
    exact (r.obj i o h).mono (ex_same s) (Nat.le_refl _) ((s _ _ e).trans e.symm), r.tab.ext s⟩
theorem same_imp {n : Nat} {vs : List V} {Q : VK} {E : XK} (h : spF tb (F_same n) vs H Q E) : ∃ v w, vs = [v, w] ∧ Sam K H n v w ∧ ∀ H', Same H H' → Q (.bl true) H' := by
  obtain ⟨ι, M, as, R, r, w⟩ := h
  unfold F_same at w
  split at w
  · rename_i p q
    split at w
    · rename_i sp
      unfold Rvs at r
      obtain ⟨v, r', rfl, q1, r⟩ := r
      unfold Rvs at r
      obtain ⟨u, r'', rfl, q2, r⟩ := r
      unfold Rvs at r
      subst r
      exact ⟨v, u, rfl, samP_sam R sp q1 q2, fun H' s => w ι H' _ (ex_same s) (Nat.le_refl _) (R.same s) .mk_bl⟩
    · exact w.elim
  · exact w.elim
/-- data of tuples alone -/
def Flt : Nat → PV → Prop
  | _, .non => True
  | _, .bl _ => True
  | _, .int _ => True
  | _, .str _ => True
  | n + 1, .tup xs => xs.length < 100000 ∧ ∀ x ∈ xs, Flt n x
  | _, _ => False
theorem paired_refl {α : Type} {F : α → α → Prop} : ∀ {xs : List α}, (∀ x ∈ xs, F x x) → Paired F xs xs
  | [], _ => .nil
  | x :: xs, h => .cons (h x List.mem_cons_self) (paired_refl fun y hy => h y (List.mem_cons_of_mem _ hy))
theorem samP_refl : ∀ {n : Nat} {p : PV}, Flt n p → SamP M n p p
  | 0, p, h => by cases p <;> first | exact ⟨rfl, rfl⟩ | exact (h : False).elim
  | n + 1, p, h => by
    cases p with
    | tup xs =>
      unfold Flt at h
      exact .inr ⟨xs, xs, .inl ⟨rfl, rfl⟩, h.1, paired_refl fun x hx => samP_refl (h.2 x hx)⟩
    | non => exact .inl ⟨rfl, rfl⟩
    | bl _ => exact .inl ⟨rfl, rfl⟩
    | int _ => exact .inl ⟨rfl, rfl⟩
    | str _ => exact .inl ⟨rfl, rfl⟩
    | ty _ => exact (h : False).elim
    | adr _ => exact (h : False).elim
    | ref _ => exact (h : False).elim
    | tpb _ => exact (h : False).elim
theorem F_same_refl {n : Nat} {p : PV} (h : Flt n p) : F_same n [p, p] M = .ok (.bl true) M := if_pos (samP_refl h)
end
/-! ### a refusal, told -/
open LamX in
def TRef (K : PySem.W.Frag) (CS : Addr) : (XK → Hp → VK → Prop) → Hp → VK → Prop := fun tl H Q => ∀ p0, H p0 = none →
  tl (fun cls d H' => ∃ (D dd : Addr) (fs : List (Str × V)) (w n : V), cls = .ref D ∧ d = some dd ∧ XC K D ∧ PySem.W.exmOne K cls (.ref CS) = some true ∧ PySem.W.kitOne K (.ref D) (.type "ValueError") = some true ∧ PySem.W.kitOne K (.ref D) (.type "LookupError") = some false ∧
      PySem.W.findIn K (.ref D) "word" = some none ∧ PySem.W.findIn K (.ref D) "at" = some none ∧ H' dd = some (.xd fs) ∧ fs.lookup (Str.ofString "word") = some w ∧ fs.lookup (Str.ofString "at") = some n ∧
      ∀ p1, H' p1 = none → ∀ p2, upd H' p1 (.tup [.str "odd", .int (-1)]) p2 = none → Q (.ref p2) (upd (upd H' p1 (.tup [.str "odd", .int (-1)])) p2 (.tup [w, n])))
    (upd H p0 (.tup [.str "let", .int (-1)])) (fun _ H' => ∃ v, some (some (V.ref p0)) = some (some v) ∧ Q v H')
/-- what is known of the class of a refusal -/
structure XF (K : PySem.W.Frag) (CS C : Addr) : Prop where
  xc : XC K C
  em : PySem.W.exmOne K (.ref C) (.ref CS) = some true
  kv : PySem.W.kitOne K (.ref C) (.type "ValueError") = some true
  kl : PySem.W.kitOne K (.ref C) (.type "LookupError") = some false
  fw : PySem.W.findIn K (.ref C) "word" = some none
  fa : PySem.W.findIn K (.ref C) "at" = some none
noncomputable def toldP (cs : List Addr) (r : Res PV) : Res PV := match r with
  | .ok _ M' => .ok (.tup [.str [108, 101, 116], .int (-1)]) M'
  | .exc x M' => if x.C ∈ cs then .ok (.tup [.str x.w.cps.toList, .int x.n]) M' else .bad
  | .bad => .bad
noncomputable def fRef (cs : List Addr) (fe : FE) : FE := fun σ M => toldP cs (fe σ M)
@[simp] theorem ev_fRef (cs : List Addr) (fe : FE) (σ : PS) (M : PM) : fRef cs fe σ M = toldP cs (fe σ M) := id rfl
theorem tx_back (s : Str) : tx s.cps.toList = s := by
  cases s with
  | mk a => rfl
theorem sm_ref {tb : List (Addr × Str)} {E : XK} {K : PySem.W.Frag} {CS : Addr} {cs : List Addr} {t : XK → TE} {fe : FE} (hx : ∀ C ∈ cs, XF K CS C) (h : ∀ E', SmE tb E' (t E') fe) : SmE tb E (LamX.tLam tb (TRef K CS) t) (fRef cs fe) := by
  intro ι M H σp σ Q R S w
  refine ⟨R.tab, fun H1 ex T1 p0 np0 => ?_⟩
  have e1 : Ex ι ι M.length H H1 := ⟨fun _ _ => rfl, fun a vs e => ex _ _ e (fun ps z => nomatch z), fun a o u e => ex _ _ e (fun ps z => nomatch z), fun a q e => ex _ _ e (fun ps => LamX.codeO_ne ps)⟩
  have R1 : RM tb ι M H1 := ⟨R.inj, fun i o h => by
    obtain ⟨x, e, _, nt⟩ := (R.obj i o h).some
    exact (R.obj i o h).mono e1 (Nat.le_refl _) ((ex _ _ e nt).trans e.symm), T1⟩
  have R2 : RM tb ι M (upd H1 p0 (.tup [.str "let", .int (-1)])) := R1.new np0
  have e12 : Ex ι ι M.length H (upd H1 p0 (.tup [.str "let", .int (-1)])) := e1.trans (ex_new np0) (Nat.le_refl _)
  refine h _ ι M _ σp σ _ R2 (S.mono e12 (Nat.le_refl _)) ?_
  unfold fRef at w
  cases hfe : fe σp M with
  | bad => rw [hfe] at w; exact w.elim
  | ok p M' =>
    rw [hfe] at w
    intro ι' H' v e l r rv
    exact ⟨_, rfl, w ι' H' (.ref p0) (e12.trans e (Nat.le_refl _)) l r (Rv.mk_tup (e.t _ _ upd_same) (.cons .mk_str (.cons .mk_int .nil)))⟩
  | exc x M' =>
    rw [hfe] at w
    unfold toldP at w
    simp only at w
    split at w
    · rename_i hc
      intro ι' H' d e l r hd
      have F := hx _ hc
      refine ⟨x.C, d, xdF x, .str x.w, .int x.n, rfl, rfl, F.xc, F.em, F.kv, F.kl, F.fw, F.fa, hd, rfl, rfl, fun p1 np1 p2 np2 => ?_⟩
      have w1 := w ι' (upd (upd H' p1 (.tup [.str "odd", .int (-1)])) p2 (.tup [.str x.w, .int x.n])) (.ref p2) ((e12.trans e (Nat.le_refl _)).trans ((ex_new (N := M'.length) np1).trans (ex_new np2) (Nat.le_refl _)) l) l ((r.new np1).new np2) (Rv.mk_tup upd_same (.cons (by have := Rv.mk_str (ι := ι') (N := M'.length) (H := upd (upd H' p1 (.tup [.str "odd", .int (-1)])) p2 (.tup [.str x.w, .int x.n])) (i := x.w.cps.toList); rwa [tx_back] at this) (.cons .mk_int .nil)))
      exact w1
    · exact w.elim
end Pu
namespace Pu
open PySem PySem.Spec PyProof.Rows L2 LB
open Classical
/-! ### statements that go on -/
def Goes (b : FS) (σ : PS) (M : PM) (Q : PS → PM → Prop) : Prop := ∃ σ' M', b σ M = .nx σ' M' ∧ Q σ' M'
section
variable {f g b : FS} {σ σ1 : PS} {M M1 : PM} {Q Q' : PS → PM → Prop} {p : PV} {fe : FE} {fg : FG} {c : FT}
theorem goes_seq (h : Goes f σ M fun σ' M' => Goes g σ' M' Q) : Goes (fSeq f g) σ M Q := by
  obtain ⟨σ', M', e, σ2, M2, e2, q⟩ := h
  exact ⟨σ2, M2, by rw [ev_fSeq, e, then2_nx, e2], q⟩
theorem goes_asg (h : fe σ M = .ok p M1) (hg : fg p σ = some σ1) (q : Q σ1 M1) : Goes (fAsg fe fg) σ M Q := ⟨σ1, M1, by rw [ev_fAsg, h, go_ok, hg, toSt_some], q⟩
theorem goes_drop (h : fe σ M = .ok p M1) (q : Q σ M1) : Goes (fDrop fe) σ M Q := ⟨σ, M1, by rw [ev_fDrop, h, go_ok], q⟩
theorem goes_next (q : Q σ M) : Goes fNext σ M Q := ⟨σ, M, rfl, q⟩
theorem goes_F (h : c σ M = .ok false M1) (q : Goes g σ M1 Q) : Goes (fIfS c f g) σ M Q := by
  obtain ⟨σ', M', e, q⟩ := q
  exact ⟨σ', M', by rw [ev_fIfS, h, go_ok, if_neg (by decide), e], q⟩
/-- a test whose end counts for nothing: only the way on -/
theorem goes_no (h : c σ M = .ok false M1) (q : Q σ M1) : Goes (fIfS c f fNext) σ M Q := goes_F h (goes_next q)
theorem goes_for {α : Type} {i : FI} {zs : List α} {e : α → PV} {ok : PM → Prop} (I : Nat → PS → PM → Prop) (hi : i σ M = .ok ⟨zs.map e, ok⟩ M1) (h0 : I 0 σ M1) (hok : ∀ i σ M, I i σ M → ok M)
    (hs : ∀ i z σ N, zs[i]? = some z → I i σ N → ∃ σ1, fg (e z) σ = some σ1 ∧ Goes b σ1 N (I (i + 1))) (h1 : ∀ σ N, I zs.length σ N → Q σ N) : Goes (fFor i fg b) σ M Q := by
  unfold Goes
  rw [ev_fFor, hi, go_ok]
  refine for_word (fun r => ∃ σ' M', r = .nx σ' M' ∧ Q σ' M') I h0 (fun i σ M _ h => hok i σ M h) (fun i z σ N hz h => ?_) (fun σ N h => ⟨σ, N, rfl, h1 σ N h⟩)
  obtain ⟨σ1, e1, σ2, M2, e2, q⟩ := hs i z σ N hz h
  exact ⟨σ1, e1, σ2, M2, .inl e2, q⟩
/-- the same word all along -/
theorem goes_each {α : Type} {i : FI} {zs : List α} {e : α → PV} {ok : PM → Prop} (I : PS → PM → Prop) (hi : i σ M = .ok ⟨zs.map e, ok⟩ M1) (h0 : I σ M1) (hok : ∀ σ M, I σ M → ok M)
    (hs : ∀ z ∈ zs, ∀ σ N, I σ N → ∃ σ1, fg (e z) σ = some σ1 ∧ Goes b σ1 N I) (h1 : ∀ σ N, I σ N → Q σ N) : Goes (fFor i fg b) σ M Q :=
  goes_for (fun _ => I) hi h0 (fun _ => hok) (fun i z σ N hz h => hs z (List.mem_of_getElem? hz) σ N h) h1
end
end Pu
namespace Pu
open PySem PySem.Spec PyProof.Rows L2 LB
open Classical
/-! ### list.index over flat things -/
section
variable {tb : List (Addr × Str)} {E : XK} {K : PySem.W.Frag}
/-! ### str.index of one sign -/
/-! ### range downwards -/
/-! ### a list over and over -/
def pRepL (p q : PV) (M : PM) : Res PV := match lstAt M p, q with
  | some xs, .int k => if -(2 ^ 63) ≤ k ∧ k < 2 ^ 63 ∧ xs.length * k.toNat ≤ lim then .ok (.ref M.length) (M ++ [.lst (List.replicate k.toNat xs).flatten]) else .bad
  | _, _ => .bad
theorem rvs_rep {ι : Nat → Addr} {N : Nat} {H : Hp} {xs : List PV} {vs : List V} (r : Rvs ι N H xs vs) : ∀ k : Nat, Rvs ι N H (List.replicate k xs).flatten (List.replicate k vs).flatten
  | 0 => .nil
  | k + 1 => by
    rw [List.replicate_succ, List.replicate_succ, List.flatten_cons, List.flatten_cons]
    exact r.app (rvs_rep r k)
theorem smr_repL : SmR tb E rRep pRepL := by
  intro ι M H p q x y Q R rp rq h
  unfold pRepL at h
  split at h
  · rename_i xs k e1
    split at h
    · rename_i hl
      obtain ⟨j, vs, rfl, lk, rfl, ha, ra⟩ := lst_at R e1 rp
      exact ⟨_, k, vs, rfl, rq.int, ha, hl.1, hl.2.1, by rw [← ra.len]; exact lim_le hl.2.2, fun t nt => okLst h R (rvs_rep ra _) nt⟩
    · exact h.elim
  · exact h.elim
end
end Pu
namespace Pu
open PySem PySem.Spec PyProof.Rows L2 LB
/-! ### a, b = x, y -/
end Pu
/-! len(set(a list of texts)) -/
namespace LB
open PySem PySem.Spec PyProof.Rows L2
end LB
namespace Pu
open PySem PySem.Spec PyProof.Rows L2 LB
open Classical
def bLenSet (p : PV) (M : PM) : Res PV := match (lstAt M p).bind asStrs with
  | some xs => if xs.length < 2000 then .ok (.int ((dedup xs).length : Nat)) M else .bad
  | none => .bad
def fLenSet (f : FE) : FE := fun σ M => (f σ M).bnd bLenSet
@[simp] theorem ev_fLenSet (f : FE) (σ : PS) (M : PM) : fLenSet f σ M = (f σ M).bnd bLenSet := id rfl
end Pu
namespace LB
open PySem PySem.Spec PyProof.Rows L2
/-! ### zip(text, text): a new pair of signs at each turn -/
/-- the five objects of a zip apart -/
structure ZAp (q ti to p1 p2 : Addr) : Prop where
  a1 : ti ≠ q
  a2 : to ≠ q
  a3 : p1 ≠ q
  a4 : p2 ≠ q
  a5 : ti ≠ to
  a6 : ti ≠ p1
  a7 : ti ≠ p2
  a8 : to ≠ p1
  a9 : to ≠ p2
  a0 : p1 ≠ p2
section
variable {prog : Program} {w : World} {A : Around} {E : Value → Shared → Prop} {s : Shared}
variable {q ti to p1 p2 : Addr} {n1 n2 k : Nat} {P1 P2 : Nat → Value → Prop} {S1 S2 : Nat → Heap → Prop} {a b : Value}
abbrev DrA (prog : Program) (w : World) (p : Addr) (n : Nat) (P : Nat → Value → Prop) (S : Nat → Heap → Prop) : Prop := ∀ B : Around, B.handled = none → Draws prog w B p [p] n P S
theorem DrA.kp {p : Addr} {n i : Nat} {P : Nat → Value → Prop} {S : Nat → Heap → Prop} {h h' : Heap} (W : DrA prog w p n P S) (hh : A.handled = none) (st : S i h) (e : ∀ o, h.get? p = some o → h'.get? p = some o) : S i h' :=
  (W A hh).frame i h h' st fun c hc o ho => by
    have ec : c = p := by simpa using hc
    subst ec
    exact e o ho
theorem zipD_item {Q : Value → Shared → Prop} (hh : A.handled = none) (W1 : DrA prog w p1 n1 P1 S1) (W2 : DrA prog w p2 n2 P2 S2) (Z : ZAp q ti to p1 p2)
    (hq : IsZip s.heap q ti to .none) (hi : IsPair s.heap ti (.ref p1) (.ref p2)) (ho : IsPair s.heap to a b) (s1 : S1 k s.heap) (s2 : S2 k s.heap) (l1 : k < n1) (l2 : k < n2)
    (hQ : ∀ x y g tk, P1 k x → P2 k y → IsZip g q ti to (rawInt s.heap.objs.size) → IsPair g to x y → S1 (k + 1) g → S2 (k + 1) g → IsPair g s.heap.objs.size x y → g.objs.size = s.heap.objs.size + 1 →
      (∀ c o, c ≠ q → c ≠ to → c ≠ p1 → c ≠ p2 → s.heap.get? c = some o → g.get? c = some o) → Q (.ref s.heap.objs.size) { s with heap := g, toks := tk }) :
    wpAny (model prog w) A (Builtin.«zip.__next__» ⟨[.ref q], []⟩) (fun r s' => ∃ v, r = .done (.ret v) ∧ Q v s') E s := by
  obtain ⟨hp, gg, dd, tk0, os⟩ := s
  show wpAny _ _ (field (.ref q) 2 >>= _) _ _ _
  refine wpAny_bind (wpAny_field hq rfl (x := .bool false) rfl ?_); show wpAny _ _ (field (.ref q) 3 >>= _) _ _ _
  refine wpAny_bind (wpAny_field hq rfl (x := .ref ti) rfl ?_); refine wpAny_bind (wpAny_seqItems hi rfl ?_)
  show wpAny _ _ (Builtin.SmallTypes.ownedTupleIsFree (.ref q) >>= _) _ _ _
  refine wpAny_bind ?_; unfold Builtin.SmallTypes.ownedTupleIsFree
  refine wpAny_bind (wpAny_field hq rfl (x := .none) rfl (wpAny_pure ?_)); simp only [if_true]; refine wpAny_bind (wpAny_rule ?_)
  refine wpAny_bind (wpAny_field hq rfl (x := .ref to) rfl ?_)
  refine wpAny_bind (wpAny_setField_rec hq (by simp) fun g1 hq1 b1 => ?_)
  replace hq1 : IsZip g1 q ti to .ellipsis := hq1
  refine wpAny_bind ?_; simp only [List.zipIdx_cons, List.zipIdx_nil, List.forIn_cons, List.forIn_nil]
  refine wpAny_bind (wpAny_bind (wpAny_onRaise ?_)); show wpAny _ _ (Builtin.SmallTypes.nextOf (.ref p1) >>= _) _ _ _
  have s1a : S1 k g1 := W1.kp hh s1 fun o e => b1.extBut _ _ Z.a3 e
  refine wpAny_bind ((W1 _ hh).item k _ _ _ l1 s1a fun x g2 tk2 px s1b b2 => wpAny_pure ?_)
  replace b2 : Heap.SameBut p1 g1 g2 := b2
  have ho2 : IsPair g2 to a b := b2.extBut _ _ Z.a8 (b1.extBut _ _ Z.a2 ho)
  refine wpAny_bind (wpAny_seqItems (s := ⟨g2, gg, dd, tk2, os⟩) ho2 rfl ?_)
  refine wpAny_bind (wpAny_updateSeq_pair (s := ⟨g2, gg, dd, tk2, os⟩) ho2 fun g3 ho3 b3 => ?_)
  replace ho3 : IsPair g3 to x b := ho3
  replace b3 : Heap.SameBut to g2 g3 := b3
  refine wpAny_bind (wpAny_letGo (wpAny_pure ?_))
  refine wpAny_bind (wpAny_bind (wpAny_onRaise ?_)); show wpAny _ _ (Builtin.SmallTypes.nextOf (.ref p2) >>= _) _ _ _
  have s2a : S2 k g3 := W2.kp hh s2 fun o e => b3.extBut _ _ Z.a9.symm (b2.extBut _ _ Z.a0.symm (b1.extBut _ _ Z.a4 e))
  refine wpAny_bind ((W2 _ hh).item k ⟨g3, gg, dd, tk2, os⟩ _ _ l2 s2a fun y g4 tk4 py s2b b4 => wpAny_pure ?_)
  replace b4 : Heap.SameBut p2 g3 g4 := b4
  have ho4 : IsPair g4 to x b := b4.extBut _ _ Z.a9 ho3
  refine wpAny_bind (wpAny_seqItems (s := ⟨g4, gg, dd, tk4, os⟩) ho4 rfl ?_)
  refine wpAny_bind (wpAny_updateSeq_pair (s := ⟨g4, gg, dd, tk4, os⟩) ho4 fun g5 ho5 b5 => ?_)
  replace ho5 : IsPair g5 to x y := ho5
  replace b5 : Heap.SameBut to g4 g5 := b5
  refine wpAny_bind (wpAny_letGo (wpAny_pure (wpAny_pure ?_)))
  refine wpAny_bind (wpAny_seqItems (s := ⟨g5, gg, dd, tk4, os⟩) ho5 rfl ?_); refine wpAny_bind (wpAny_newTuple ?_)
  have sz : g5.objs.size = hp.objs.size := by rw [b5.1, b4.1, b3.1, b2.1, b1.1]
  have hq5 : IsZip g5 q ti to .ellipsis := b5.extBut _ _ Z.a2.symm (b4.extBut _ _ Z.a4.symm (b3.extBut _ _ Z.a2.symm (b2.extBut _ _ Z.a3.symm hq1)))
  have kp5 : ∀ c o, c ≠ q → c ≠ to → c ≠ p1 → c ≠ p2 → hp.get? c = some o → g5.get? c = some o := fun c o u1 u2 u3 u4 e =>
    b5.extBut _ _ u2 (b4.extBut _ _ u4 (b3.extBut _ _ u2 (b2.extBut _ _ u3 (b1.extBut _ _ u1 e))))
  have s15 : S1 (k + 1) g5 := W1.kp hh s1b fun o e => b5.extBut _ _ Z.a8.symm (b4.extBut _ _ Z.a0 (b3.extBut _ _ Z.a8.symm e))
  have s25 : S2 (k + 1) g5 := W2.kp hh s2b fun o e => b5.extBut _ _ Z.a9.symm e
  have ql : q < g5.objs.size := Heap.lt_size hq5
  show wpAny _ _ (Builtin.SmallTypes.ownedTupleHandOut (.ref q) (.ref g5.objs.size) >>= _) _ _ _
  refine wpAny_bind ?_; unfold Builtin.SmallTypes.ownedTupleHandOut
  have hq6 : IsZip (g5.push { cls := .type "tuple", data := .seq #[x, y] }) q ti to .ellipsis := Heap.get?_push_of_some _ hq5
  refine wpAny_bind (wpAny_setField_rec hq6 (by simp) fun g7 hq7 b7 => ?_)
  replace hq7 : IsZip g7 q ti to (rawInt g5.objs.size) := hq7
  refine wpAny_setField_rec hq7 (by simp) fun g8 hq8 b8 => ?_
  replace hq8 : IsZip g8 q ti to (rawInt g5.objs.size) := hq8
  have up : ∀ c o, c ≠ q → g5.get? c = some o → g8.get? c = some o := fun c o u e => b8.extBut _ _ u (b7.extBut _ _ u (Heap.get?_push_of_some _ e))
  have hT8 : IsPair g8 g5.objs.size x y := b8.extBut _ _ (Nat.ne_of_gt ql) (b7.extBut _ _ (Nat.ne_of_gt ql) (Heap.get?_push_size _ rfl))
  have sz8 : g8.objs.size = g5.objs.size + 1 := by rw [b8.1, b7.1, Heap.size_push]
  rw [sz] at hq8 hT8 sz8
  refine wpAny_pure ⟨_, rfl, ?_⟩
  show Q (.ref g5.objs.size) _
  rw [sz]
  exact hQ x y g8 tk4 px py hq8 (up _ _ Z.a2 ho5) (W1.kp hh s15 fun o e => up _ o Z.a3 e) (W2.kp hh s25 fun o e => up _ o Z.a4 e) hT8 sz8 fun c o u1 u2 u3 u4 e => up c o u1 (kp5 c o u1 u2 u3 u4 e)
theorem zipD_end {Q : Fin → Shared → Prop} (hh : A.handled = none) (W1 : DrA prog w p1 n1 P1 S1) (W2 : DrA prog w p2 n2 P2 S2) (Z : ZAp q ti to p1 p2)
    (hq : IsZip s.heap q ti to .none) (hi : IsPair s.heap ti (.ref p1) (.ref p2)) (ho : IsPair s.heap to a b) (s1 : S1 k s.heap) (s2 : S2 k s.heap) (hend : k = n1 ∨ k < n1 ∧ k = n2)
    (hE : ∀ g e, (∀ c o, c ≠ q → c ≠ to → c ≠ p1 → c ≠ p2 → s.heap.get? c = some o → g.get? c = some o) → (∃ o, g.get? e = some o ∧ o.cls = .type "StopIteration") → ∀ tk, E (.ref e) { s with heap := g, toks := tk }) :
    wpAny (model prog w) A (Builtin.«zip.__next__» ⟨[.ref q], []⟩) Q E s := by
  obtain ⟨hp, gg, dd, tk0, os⟩ := s
  show wpAny _ _ (field (.ref q) 2 >>= _) _ _ _
  refine wpAny_bind (wpAny_field hq rfl (x := .bool false) rfl ?_); show wpAny _ _ (field (.ref q) 3 >>= _) _ _ _
  refine wpAny_bind (wpAny_field hq rfl (x := .ref ti) rfl ?_); refine wpAny_bind (wpAny_seqItems hi rfl ?_)
  show wpAny _ _ (Builtin.SmallTypes.ownedTupleIsFree (.ref q) >>= _) _ _ _
  refine wpAny_bind ?_; unfold Builtin.SmallTypes.ownedTupleIsFree
  refine wpAny_bind (wpAny_field hq rfl (x := .none) rfl (wpAny_pure ?_)); simp only [if_true]; refine wpAny_bind (wpAny_rule ?_)
  refine wpAny_bind (wpAny_field hq rfl (x := .ref to) rfl ?_)
  refine wpAny_bind (wpAny_setField_rec hq (by simp) fun g1 hq1 b1 => ?_)
  replace hq1 : IsZip g1 q ti to .ellipsis := hq1
  refine wpAny_bind ?_; simp only [List.zipIdx_cons, List.zipIdx_nil, List.forIn_cons, List.forIn_nil]
  refine wpAny_bind (wpAny_bind (wpAny_onRaise ?_)); show wpAny _ _ (Builtin.SmallTypes.nextOf (.ref p1) >>= _) _ _ _
  have s1a : S1 k g1 := W1.kp hh s1 fun o e => b1.extBut _ _ Z.a3 e
  rcases hend with e | ⟨l1, e⟩
  · subst e
    refine wpAny_bind ((W1 _ hh).done _ _ _ s1a fun g2 e b2 he => ?_)
    obtain ⟨oe, hoe, hce⟩ := he
    have hq2 : IsZip g2 q ti to .ellipsis := b2 _ _ Z.a3.symm hq1
    have ne : e ≠ q := fun z => by subst z; rw [hq2] at hoe; cases hoe; simp at hce
    exact wpAny_setField_rec hq2 (by simp) fun g3 _ b3 => hE g3 e (fun c o u1 _ u3 _ z => b3.extBut _ _ u1 (b2 _ _ u3 (b1.extBut _ _ u1 z))) ⟨oe, b3.extBut _ _ ne hoe, hce⟩ _
  · subst e
    refine wpAny_bind ((W1 _ hh).item k _ _ _ l1 s1a fun x g2 tk2 px s1b b2 => wpAny_pure ?_)
    replace b2 : Heap.SameBut p1 g1 g2 := b2
    have ho2 : IsPair g2 to a b := b2.extBut _ _ Z.a8 (b1.extBut _ _ Z.a2 ho)
    refine wpAny_bind (wpAny_seqItems (s := ⟨g2, gg, dd, tk2, os⟩) ho2 rfl ?_)
    refine wpAny_bind (wpAny_updateSeq_pair (s := ⟨g2, gg, dd, tk2, os⟩) ho2 fun g3 ho3 b3 => ?_)
    replace b3 : Heap.SameBut to g2 g3 := b3
    refine wpAny_bind (wpAny_letGo (wpAny_pure ?_))
    refine wpAny_bind (wpAny_bind (wpAny_onRaise ?_)); show wpAny _ _ (Builtin.SmallTypes.nextOf (.ref p2) >>= _) _ _ _
    have s2a : S2 k g3 := W2.kp hh s2 fun o e => b3.extBut _ _ Z.a9.symm (b2.extBut _ _ Z.a0.symm (b1.extBut _ _ Z.a4 e))
    refine wpAny_bind ((W2 _ hh).done ⟨g3, gg, dd, tk2, os⟩ _ _ s2a fun g4 e b4 he => ?_)
    replace b4 : Heap.ExtBut p2 g3 g4 := b4
    obtain ⟨oe, hoe, hce⟩ := he
    have hq4 : IsZip g4 q ti to .ellipsis := b4 _ _ Z.a4.symm (b3.extBut _ _ Z.a2.symm (b2.extBut _ _ Z.a3.symm hq1))
    have ne : e ≠ q := fun z => by subst z; rw [hq4] at hoe; cases hoe; simp at hce
    exact wpAny_setField_rec (s := ⟨g4, gg, dd, tk2, os⟩) hq4 (by simp) fun g5 _ b5 => hE g5 e (fun c o u1 u2 u3 u4 z => b5.extBut _ _ u1 (b4 _ _ u4 (b3.extBut _ _ u2 (b2.extBut _ _ u3 (b1.extBut _ _ u1 z))))) ⟨oe, b5.extBut _ _ ne hoe, hce⟩ _
theorem next_zipD_item {Q : Option Value → Shared → Prop} (hh : A.handled = none) (W1 : DrA prog w p1 n1 P1 S1) (W2 : DrA prog w p2 n2 P2 S2) (Z : ZAp q ti to p1 p2)
    (hq : IsZip s.heap q ti to .none) (hi : IsPair s.heap ti (.ref p1) (.ref p2)) (ho : IsPair s.heap to a b) (s1 : S1 k s.heap) (s2 : S2 k s.heap) (l1 : k < n1) (l2 : k < n2)
    (hQ : ∀ x y g tk, P1 k x → P2 k y → IsZip g q ti to (rawInt s.heap.objs.size) → IsPair g to x y → S1 (k + 1) g → S2 (k + 1) g → IsPair g s.heap.objs.size x y → g.objs.size = s.heap.objs.size + 1 →
      (∀ c o, c ≠ q → c ≠ to → c ≠ p1 → c ≠ p2 → s.heap.get? c = some o → g.get? c = some o) → Q (some (.ref s.heap.objs.size)) { s with heap := g, toks := tk }) :
    wpAny (model prog w) A (pyNext (.ref q)) Q E s := by
  have ty : s.TypeIs (.ref q) "zip" := ⟨_, hq, rfl⟩
  unfold pyNext
  exact wpAny_bind (wpAny_attempt (wpAny_callSpecial?_slot (name := Str.ofString "__next__") ty F.slot_zip_next (wpAny_call_entry F.slot_zip_next ty F.entry_zip_next
    (zipD_item hh W1 W2 Z hq hi ho s1 s2 l1 l2 fun x y g tk c1 c2 c3 c4 c5 c6 c7 c8 c9 => wpAny_pure (hQ x y g tk c1 c2 c3 c4 c5 c6 c7 c8 c9)) (F.args_zip_next_1 _))))
theorem next_zipD_end {Q : Option Value → Shared → Prop} (hh : A.handled = none) (W1 : DrA prog w p1 n1 P1 S1) (W2 : DrA prog w p2 n2 P2 S2) (Z : ZAp q ti to p1 p2)
    (hq : IsZip s.heap q ti to .none) (hi : IsPair s.heap ti (.ref p1) (.ref p2)) (ho : IsPair s.heap to a b) (s1 : S1 k s.heap) (s2 : S2 k s.heap) (hend : k = n1 ∨ k < n1 ∧ k = n2)
    (hQ : ∀ g tk, (∀ c o, c ≠ q → c ≠ to → c ≠ p1 → c ≠ p2 → s.heap.get? c = some o → g.get? c = some o) → Q none { s with heap := g, toks := tk }) : wpAny (model prog w) A (pyNext (.ref q)) Q E s := by
  have ty : s.TypeIs (.ref q) "zip" := ⟨_, hq, rfl⟩
  unfold pyNext
  refine wpAny_bind (wpAny_attempt (wpAny_callSpecial?_slot (name := Str.ofString "__next__") ty F.slot_zip_next (wpAny_call_entry F.slot_zip_next ty F.entry_zip_next
    (zipD_end hh W1 W2 Z hq hi ho s1 s2 hend fun g e hk he tk => ?_) (F.args_zip_next_1 _))))
  obtain ⟨oe, hoe, hce⟩ := he
  exact wpAny_bind (wpAny_isInstance (T := "StopIteration") (b := true) ⟨oe, hoe, hce⟩ isSubtype_stop (wpAny_pure (hQ _ _ hk)))
end
/-! the making of it -/
abbrev zs1 (h : Heap) (x : Str) (t : Tok) : Heap := h.push { cls := .type (strIterType x), data := .fields #[.str x t, .int 0 0] }
abbrev zs2 (h : Heap) (x : Str) (t : Tok) (y : Str) (u : Tok) : Heap := zs1 (zs1 h x t) y u
abbrev zs3 (h : Heap) (x : Str) (t : Tok) (y : Str) (u : Tok) : Heap := (zs2 h x t y u).push { cls := .type "tuple", data := .seq #[.ref h.objs.size, .ref (zs1 h x t).objs.size] }
abbrev zs4 (h : Heap) (x : Str) (t : Tok) (y : Str) (u : Tok) : Heap := (zs3 h x t y u).push { cls := .type "tuple", data := .seq #[.none, .none] }
abbrev zs5 (h : Heap) (x : Str) (t : Tok) (y : Str) (u : Tok) : Heap := (zs4 h x t y u).push { cls := .type "zip", data := .fields #[.none, .bool false, .bool false, .ref (zs2 h x t y u).objs.size, .ref (zs3 h x t y u).objs.size] }
set_option maxHeartbeats 2000000 in
theorem meets_zipS (x : Str) (t : Tok) (y : Str) (u : Tok) :
    Meets (Builtin.«zip.__new__» ⟨[.type "zip", .str x t, .str y u], []⟩) (fun _ R s => R (.ok (.ret (.ref (zs4 s.heap x t y u).objs.size))) { s with heap := zs5 s.heap x t y u }) :=
  .of_wp fun prog w A R s h => by
    obtain ⟨hp, g, d, tk, os⟩ := s
    have sub := sub_zip
    wp_walk using wpAny_pyIter_strU, wpAny_pyIter_strU
    exact ⟨_, rfl, h⟩
section
variable {prog : Program} {w : World} {A : Around} {E : Value → Shared → Prop} {s : Shared}
theorem call_zipS {x : Str} {t : Tok} {y : Str} {u : Tok} {Q : Value → Shared → Prop}
    (h : ∀ g, IsZip g (s.heap.objs.size + 4) (s.heap.objs.size + 2) (s.heap.objs.size + 3) .none → IsPair g (s.heap.objs.size + 2) (.ref s.heap.objs.size) (.ref (s.heap.objs.size + 1)) →
      IsPair g (s.heap.objs.size + 3) .none .none → g.IsStrIter s.heap.objs.size (strIterType x) x t 0 → g.IsStrIter (s.heap.objs.size + 1) (strIterType y) y u 0 → g.objs.size = s.heap.objs.size + 5 →
      (∀ c o, s.heap.get? c = some o → g.get? c = some o) → Q (.ref (s.heap.objs.size + 4)) { s with heap := g }) :
    wpAny (model prog w) A (call (.type "zip") [.str x t, .str y u]) Q E s := by
  refine callType_new F.called_zip (by decide) (F.typeCall_zip_2 _ _) (F.newCall_zip_2 _ _) (fun ob => F.args_object_init_3 ob _ _) F.entry_zip_new (meets_zipS x t y u) ?_
  have z1 : (zs1 s.heap x t).objs.size = s.heap.objs.size + 1 := Heap.size_push ..
  have z2 : (zs2 s.heap x t y u).objs.size = s.heap.objs.size + 2 := by rw [Heap.size_push, z1]
  have z3 : (zs3 s.heap x t y u).objs.size = s.heap.objs.size + 3 := by rw [Heap.size_push, z2]
  have z4 : (zs4 s.heap x t y u).objs.size = s.heap.objs.size + 4 := by rw [Heap.size_push, z3]
  have z5 : (zs5 s.heap x t y u).objs.size = s.heap.objs.size + 5 := by rw [Heap.size_push, z4]
  have up : ∀ {g : Heap} {c : Addr} {o r : Obj}, g.get? c = some o → (g.push r).get? c = some o := fun e => Heap.get?_push_of_some _ e
  have k5 : (zs5 s.heap x t y u).get? (zs4 s.heap x t y u).objs.size = some _ := Heap.get?_push_size _ rfl
  have k4 : (zs5 s.heap x t y u).get? (zs3 s.heap x t y u).objs.size = some _ := up (Heap.get?_push_size _ rfl)
  have k3 : (zs5 s.heap x t y u).get? (zs2 s.heap x t y u).objs.size = some _ := up (up (Heap.get?_push_size _ rfl))
  have k2 : (zs5 s.heap x t y u).get? (zs1 s.heap x t).objs.size = some _ := up (up (up (Heap.get?_push_size _ rfl)))
  have k1 : (zs5 s.heap x t y u).get? s.heap.objs.size = some _ := up (up (up (up (Heap.get?_push_size _ rfl))))
  show _ ∧ _
  rw [z2, z3, z4] at k5; rw [z1, z2] at k3; rw [z3] at k4; rw [z1] at k2; rw [z4]
  exact ⟨⟨_, k5, rfl⟩, h _ k5 k3 k4 ⟨_, k1, rfl, rfl⟩ ⟨_, k2, rfl, rfl⟩ z5 fun c o e => up (up (up (up (up e))))⟩
end
/-! the rule -/
def Itzs (x y : Str) : It :=
  ⟨fun i _ => i < x.cps.size ∧ i < y.cps.size, fun i H v H' => ∃ U c d, v = .ref U ∧ H U = none ∧ x.cps[i]? = some c ∧ y.cps[i]? = some d ∧ H' = upd H U (.tup [.str (sg c), .str (sg d)]),
   fun i _ => i = x.cps.size ∨ i < x.cps.size ∧ i = y.cps.size⟩
theorem drA {prog : Program} {w : World} (it : Addr) (x : Str) (t : Tok) : DrA prog w it x.cps.size (fun i v => ∃ c u, x.cps[i]? = some c ∧ v = .str ⟨#[c]⟩ u) (fun i h => h.IsStrIter it (strIterType x) x t i) := fun _ hB => drawsS hB it x t
theorem turn_zipS {P : Program} {w : World} {K : PySem.W.Frag} {elts : List Expr} {kk : Nat} {tpos : Pos} (x : Str) (t : Tok) (y : Str) (u : Tok) {q ti to p1 p2 : Addr} (Z : ZAp q ti to p1 p2) :
    Turn P w K (.Tuple elts kk tpos) (Itzs x y) [q, ti, to, p1, p2] q (fun i h => IsZip h q ti to .none ∧ IsPair h ti (.ref p1) (.ref p2) ∧ (∃ a b, IsPair h to a b) ∧ h.IsStrIter p1 (strIterType x) x t i ∧ h.IsStrIter p2 (strIterType y) y u i) where
  mem := by simp
  obj := fun i h st c hc => by
    obtain ⟨hq, hi, ⟨a, b, ho⟩, ⟨o1, e1, _, d1⟩, ⟨o2, e2, _, d2⟩⟩ := st
    have ec : c = q ∨ c = ti ∨ c = to ∨ c = p1 ∨ c = p2 := by simpa using hc
    rcases ec with z | z | z | z | z <;> rw [z]
    · exact ⟨_, hq, fun v y => nomatch y⟩
    · exact ⟨_, hi, fun v y => nomatch y⟩
    · exact ⟨_, ho, fun v y => nomatch y⟩
    · exact ⟨o1, e1, fun v y => by rw [d1] at y; cases y⟩
    · exact ⟨o2, e2, fun v y => by rw [d2] at y; cases y⟩
  keep := fun i h h' st kp => by
    obtain ⟨hq, hi, ⟨a, b, ho⟩, ⟨o1, e1, r1⟩, ⟨o2, e2, r2⟩⟩ := st
    exact ⟨kp q (by simp) _ hq, kp ti (by simp) _ hi, ⟨a, b, kp to (by simp) _ ho⟩, ⟨o1, kp p1 (by simp) _ e1, r1⟩, ⟨o2, kp p2 (by simp) _ e2, r2⟩⟩
  item := by
    intro X eP eW eK hc i pins s σ H E I hf st hg
    subst eP eW eK
    obtain ⟨hq, hi, ⟨a, b, ho⟩, h1, h2⟩ := st
    obtain ⟨l1, l2⟩ : i < x.cps.size ∧ i < y.cps.size := hg
    have ql : q < s.heap.objs.size := Heap.lt_size hq
    refine next_zipD_item (I.ok.hd hc) (drA p1 x t) (drA p2 y u) Z hq hi ho h1 h2 l1 l2 fun v1 v2 g tk pv1 pv2 hq' ho' h1' h2' hT hsz hk => ?_
    obtain ⟨c, u1, ec, rfl⟩ := pv1
    obtain ⟨d, u2, ed, rfl⟩ := pv2
    refine ⟨_, rfl, wpAny_letOwnedTupleGo_zip (s := { s with heap := g, toks := tk }) hq' fun g2 hq2 sb => ?_⟩
    have hT2 : g2.get? s.heap.objs.size = some { cls := .type "tuple", data := .seq #[.str ⟨#[c]⟩ u1, .str ⟨#[d]⟩ u2] } := (sb.2 _ (Nat.ne_of_gt ql)).trans hT
    have okT : ObjOk X.prog X.w (upd H s.heap.objs.size (.tup [.str (sg c), .str (sg d)])) g2 s.heap.objs.size (.tup [.str (sg c), .str (sg d)]) :=
      ⟨(by show 2 ≤ sizeLine; decide), [.str ⟨#[c]⟩ u1, .str ⟨#[d]⟩ u2], .cons ⟨_, rfl⟩ (.cons ⟨_, rfl⟩ .nil), ⟨_, hT2, rfl, _, rfl⟩⟩
    have I1 : Inv X pins σ (upd H s.heap.objs.size (.tup [.str (sg c), .str (sg d)])) { s with heap := g2, toks := tk } :=
      I.turnedNew (ch := [q, ti, to, p1, p2]) (fun e ob hb z => (sb.2 e (fun z' => hb (by rw [z']; simp))).trans (hk e ob (fun z' => hb (by rw [z']; simp)) (fun z' => hb (by rw [z']; simp)) (fun z' => hb (by rw [z']; simp)) (fun z' => hb (by rw [z']; simp)) z)) hf (Nat.le_refl _) okT
    refine ⟨.ref s.heap.objs.size, _, I1, rfl, ⟨_, c, d, rfl, I.hok.fresh (Nat.le_refl _), ec, ed, rfl⟩, ⟨hq2, ?_, ⟨_, _, (sb.2 _ Z.a2).trans ho'⟩, ?_, ?_⟩, fun e he => ?_⟩
    · exact (sb.2 _ Z.a1).trans (hk _ _ Z.a1 Z.a5 Z.a6 Z.a7 hi)
    · obtain ⟨ob, hob, r⟩ := h1'
      exact ⟨ob, (sb.2 p1 Z.a3).trans hob, r⟩
    · obtain ⟨ob, hob, r⟩ := h2'
      exact ⟨ob, (sb.2 p2 Z.a4).trans hob, r⟩
    · have hlt : e < s.heap.objs.size := by
        have ec : e = q ∨ e = ti ∨ e = to ∨ e = p1 ∨ e = p2 := by simpa using he
        rcases ec with z | z | z | z | z <;> rw [z]
        · exact ql
        · exact Heap.lt_size hi
        · exact Heap.lt_size ho
        · obtain ⟨_, z1, _⟩ := h1; exact Heap.lt_size z1
        · obtain ⟨_, z1, _⟩ := h2; exact Heap.lt_size z1
      rw [upd_ne (Nat.ne_of_lt hlt)]
      exact (hf e he).1
  done := by
    intro X eP eW eK hc i pins s σ H E I hf st hg
    subst eP eW eK
    obtain ⟨hq, hi, ⟨a, b, ho⟩, h1, h2⟩ := st
    exact next_zipD_end (I.ok.hd hc) (drA p1 x t) (drA p2 y u) Z hq hi ho h1 h2 hg fun g tk hk => ⟨rfl, I.turnedL (t' := tk) (ch := [q, ti, to, p1, p2]) (fun c o hb z =>
      hk c o (fun z' => hb (by simp [z'])) (fun z' => hb (by simp [z'])) (fun z' => hb (by simp [z'])) (fun z' => hb (by simp [z'])) z) hf⟩
  self := fun A i s Q E st h => wpAny_pyIter_zip st.1 h
theorem apart (n i j : Nat) (h : i ≠ j) : (n + i : Nat) ≠ n + j := fun z => h (Nat.add_left_cancel z)
def iZipS (ta : TA) : TI := fun σ H R => ta σ H fun vs H1 => ∃ x y, vs = [.str x, .str y] ∧ R (Itzs x y) H1
theorem pi_zipS {X : Cx} {e e2 : Expr} {ta : TA} {p pos tpos : Pos} {elts : List Expr} {kk : Nat} (hg : Gl X "zip") (hm : X.mg "zip" = none) (ha : PA X [e, e2] ta)
    (one : starEach [e, e2] X.env = (false, eval e X.env) :: starEach [e2] X.env := by rfl) (two : (backTo pos (starEach [e2] X.env)).any (·.1) = false := by rfl) :
    PI X (.Tuple elts kk tpos) (.Call (.Name "zip" p) [e, e2] [] pos) (iZipS ta) := by
  refine ⟨fun pins s σ H R I h => ?_⟩
  refine Call_ (ld_blt I hg hm boot_zip (PyProof.Rows.callWith_type1 (thn (ha.run pos pins s σ H _ I h) fun us s1 ⟨vs, H1, I1, rr, qq⟩ => ?_) one two))
  obtain ⟨x, y, rfl, r⟩ := qq
  rcases rr with _ | ⟨r1, rr⟩
  rcases rr with _ | ⟨r2, rr⟩
  cases rr
  obtain ⟨t, rfl⟩ := r1
  obtain ⟨u, rfl⟩ := r2
  refine call_zipS fun g hq hi ho h1 h2 hsz hk => wpAny_pyIter_zip hq ?_
  have I2 : Inv X pins σ H1 { s1 with heap := g } := I1.kept (t' := s1.toks) hk
  have Z : ZAp (s1.heap.objs.size + 4) (s1.heap.objs.size + 2) (s1.heap.objs.size + 3) s1.heap.objs.size (s1.heap.objs.size + 1) := 
    ⟨apart _ 2 4 (by decide), apart _ 3 4 (by decide), apart _ 0 4 (by decide), apart _ 1 4 (by decide), apart _ 2 3 (by decide), apart _ 2 0 (by decide), apart _ 2 1 (by decide), apart _ 3 0 (by decide), apart _ 3 1 (by decide), apart _ 0 1 (by decide)⟩
  refine ⟨s1.heap.objs.size + 4, [s1.heap.objs.size + 4, s1.heap.objs.size + 2, s1.heap.objs.size + 3, s1.heap.objs.size, s1.heap.objs.size + 1], _, _, H1, rfl, I2, turn_zipS x t y u Z, ⟨hq, hi, ⟨_, _, ho⟩, h1, h2⟩, fun c hc => ?_, r⟩
  have ec : c = s1.heap.objs.size + 4 ∨ c = s1.heap.objs.size + 2 ∨ c = s1.heap.objs.size + 3 ∨ c = s1.heap.objs.size ∨ c = s1.heap.objs.size + 1 := by simpa using hc
  have hle : s1.heap.objs.size ≤ c := by
    rcases ec with z | z | z | z | z <;> rw [z]
    · exact Nat.le_add_right _ _
    · exact Nat.le_add_right _ _
    · exact Nat.le_add_right _ _
    · exact Nat.le_refl _
    · exact Nat.le_add_right _ _
  exact I1.fpOk hle (I1.hok.fresh hle)
theorem walk_zipS {x y : Str} {n : Nat} (hn : n = min x.cps.size y.cps.size) : Walk (Itzs x y) n (fun _ => True) (fun i H v H' => ∃ U c d, v = .ref U ∧ H U = none ∧ x.cps[i]? = some c ∧ y.cps[i]? = some d ∧ H' = upd H U (.tup [.str (sg c), .str (sg d)])) := by
  subst hn
  refine ⟨fun i _ hi _ => ⟨Nat.lt_of_lt_of_le hi (Nat.min_le_left _ _), Nat.lt_of_lt_of_le hi (Nat.min_le_right _ _)⟩, fun _ _ => ?_, fun _ _ _ _ _ _ y => y⟩
  show min x.cps.size y.cps.size = x.cps.size ∨ min x.cps.size y.cps.size < x.cps.size ∧ min x.cps.size y.cps.size = y.cps.size
  omega
end LB
namespace Pu
open PySem PySem.Spec PyProof.Rows L2 LB
open Classical
section
variable {tb : List (Addr × Str)} {E : XK} {K : PySem.W.Frag} {te : TE} {fe : FE} {ta : TA} {fa : FA} {ι ι' : Nat → Addr} {N : Nat} {H H' : Hp} {M M' : PM}
theorem sm_iZS (h : SmA tb E ta fa) : SmI tb E (iZipS ta) (fIA itZS fa) := fun ι M H σp σ Q R S w =>
  h.to R S w fun ι1 M1 H1 p v o S1 rv w1 => by
    unfold itZS at w1
    split at w1
    · rename_i a b
      unfold Rvs at rv
      obtain ⟨x, r, rfl, rx, rr⟩ := rv
      unfold Rvs at rr
      obtain ⟨y, r, rfl, ry, rr⟩ := rr
      unfold Rvs at rr
      subst rr
      refine ⟨tx a, tx b, by rw [rx.str, ry.str], Wp.okNow w1 o.r fun i ι' M' H' ex l R' hok => ?_⟩
      have W := walk_zipS (x := tx a) (y := tx b) (n := min a.length b.length) (by simp)
      refine ⟨fun p hp => ?_, fun hn hl => ?_⟩
      · obtain ⟨x, y, hx, hy, rfl⟩ := zip_get hp
        have li := (List.getElem?_eq_some_iff.mp hx).1
        have li2 := (List.getElem?_eq_some_iff.mp hy).1
        simp only [List.length_map] at li li2
        refine ⟨W.goes i H' (by omega) trivial, fun y' H'' yy => ?_⟩
        obtain ⟨T, c, d, ey, nT, hc, hd, eH⟩ := W.yields i H' y' H'' (by omega) trivial yy
        subst ey eH
        have hc : a[i]? = some c := by simpa using hc
        have hd : b[i]? = some d := by simpa using hd
        rw [List.getElem?_map, hc] at hx
        rw [List.getElem?_map, hd] at hy
        cases hx
        cases hy
        exact newPair (R' := R') nT .mk_str .mk_str
      · have hl : i = (zipP _ _).length := hl
        rw [zip_len, List.length_map, List.length_map] at hl
        subst hl
        exact W.stops H' trivial
    · exact w1.elim
end
end Pu
/-! zip of a text and a tuple -/
namespace LB
open PySem PySem.Spec PyProof.Rows L2
end LB
namespace Pu
open PySem PySem.Spec PyProof.Rows L2 LB
open Classical
end Pu
/-! o.f += e, o.f -= e of whole numbers. -/
namespace Pu
open PySem PySem.Spec PyProof.Rows L2 LB
open Classical
end Pu
/-! A walk over a list, a tuple, or an empty tuple of the module (a default). -/
namespace L2
open PySem PySem.Spec PyProof.Rows
end L2
namespace Pu
open PySem PySem.Spec PyProof.Rows L2 LB
open Classical
/-- a list, a tuple, or an empty tuple of the module -/
def SeqP (mt : Nat → Addr) (M : PM) (p : PV) (xs : List PV) : Prop := (∃ l, p = .ref l ∧ M[l]? = some (.lst xs)) ∨ p = .tup xs ∨ ((∃ k, p = .adr (mt k)) ∧ xs = [])
theorem SeqP.app {mt : Nat → Addr} {M : PM} {p : PV} {xs : List PV} (h : SeqP mt M p xs) (ex : PM) : SeqP mt (M ++ ex) p xs := by
  rcases h with ⟨l, rfl, e⟩ | h | h
  · exact .inl ⟨l, rfl, by rw [List.getElem?_append_left (List.getElem?_eq_some_iff.mp e).1]; exact e⟩
  · exact .inr (.inl h)
  · exact .inr (.inr h)
end Pu
namespace Pu
open PySem PySem.Spec PyProof.Rows L2 LB
/-! #### is_word -/
noncomputable def B_p_is_word (c : CA) : FS :=
  (fRet (fGc (fB bAll (fCons (fLc (fI itS (fVar 0)) (gNm 1) fYes (fOp pInS (fVar 1) (fC (.str [97, 98, 99, 100, 101, 102, 103, 104, 105, 106, 107, 108, 109, 110, 111, 112, 113, 114, 115, 116, 117, 118, 119, 120, 121, 122]))) [1]) fNil))))
noncomputable def F_p_is_word (c : CA) : FF := fnOf 1 2 (B_p_is_word c)
theorem R_p_is_word (c : CA) (a0 : PV) (M : PM) : F_p_is_word c [a0] M = gc M (fnRes (B_p_is_word c [some a0, none] M)) := fn_at rfl
/-! #### is_name -/
/-! #### is_letter -/
noncomputable def B_p_is_letter (c : CA) : FS :=
  (fRet (fAndV (fOp pEq (fB bLenS (fCons (fVar 0) fNil)) (fC (.int 1))) (fCall (F_p_is_word c) [] (fCons (fVar 0) fNil))))
noncomputable def F_p_is_letter (c : CA) : FF := fnOf 1 1 (B_p_is_letter c)
theorem R_p_is_letter (c : CA) (a0 : PV) (M : PM) : F_p_is_letter c [a0] M = gc M (fnRes (B_p_is_letter c [some a0] M)) := fn_at rfl
/-! #### within -/
/-! #### behind -/
/-! #### Lab.has -/
/-! #### check_scene -/
/-! #### step_at -/
/-! #### with_word -/
/-! #### with_stand -/
/-! #### word_after -/
/-! #### best_after -/
/-! #### best -/
/-! #### ways -/
/-! #### is_short_word -/
/-! #### check_machines -/
/-! #### check_rows -/
/-! #### check_act -/
/-! #### check_moves -/
/-! #### places_of -/
/-! #### stands_of -/
/-! #### step_of -/
/-! #### Lab.is_over -/
/-! #### Lab.__init__ -/
/-! #### above -/
/-! #### law: pull -/
noncomputable def B_pull (c : CA) : FS :=
  (fSeq (fAugL (fVar 0) (fC (.int 4)) (fC (.int 1)) (pI0 fun i j => .int (i + j)))
  (fSeq (fIfS (fTest (fOp (pI0 fun i j => .bl (decide (j < i))) (fOp pIxL (fVar 0) (fC (.int 2))) (fC (.int 0)))) (fSeq (fAsg (fOp pIxL (fVar 0) (fC (.int 2))) (gNm 2))
  (fSeq (fAsgL (fOp (pI CDiv fun i j => .int (i / j)) (fVar 2) (fVar 1)) (fVar 0) (fC (.int 2)))
  (fRet (fOp (pI (fun _ j => 0 < j) fun i j => .int (i % j)) (fVar 2) (fVar 1))))) fNext)
  (fSeq (fAsg (fOp pIxL (fVar 0) (fC (.int 3))) (gNm 3))
  (fSeq (fIfS (fTest (fOp (pI0 fun i j => .bl (decide (i < j))) (fOp pIxL (fVar 0) (fC (.int 1))) (fB bLen (fCons (fOp pIxL (fVar 0) (fC (.int 0))) fNil)))) (fSeq (fAsg (fOp pIxL (fOp pIxL (fVar 0) (fC (.int 0))) (fOp pIxL (fVar 0) (fC (.int 1)))) (gNm 3))
  (fAugL (fVar 0) (fC (.int 1)) (fC (.int 1)) (pI0 fun i j => .int (i + j)))) fNext)
  (fSeq (fIfS (fTest (fOp (pI0 fun i j => .bl (decide (j ≤ i))) (fVar 3) (fOp (pI CPow fun i j => .int (i ^ j.toNat)) (fC (.int 10)) (fC (.int 18))))) (fSeq (fAsgL (fOp (pI CDiv fun i j => .int (i / j)) (fVar 3) (fVar 1)) (fVar 0) (fC (.int 2)))
  (fRet (fOp (pI (fun _ j => 0 < j) fun i j => .int (i % j)) (fVar 3) (fVar 1)))) fNext)
  (fSeq (fAsg (fOp (pI (fun _ j => 0 < j) fun i j => .int (i % j)) (fOp (pI0 fun i j => .int (i + j)) (fOp (pI0 fun i j => .int (i + j)) (fOp (pI0 fun i j => .int (i + j)) (fOp (pI CMul fun i j => .int (i * j)) (fVar 3) (fC (.int 48271))) (fOp (pI CMul fun i j => .int (i * j)) (fOp pIxL (fVar 0) (fC (.int 3))) (fC (.int 40503)))) (fOp (pI CMul fun i j => .int (i * j)) (fOp pIxL (fVar 0) (fC (.int 4))) (fC (.int 69621)))) (fC (.int 12345))) (fC (.int 2147483629))) (gNm 4))
  (fSeq (fAsg (fOp (pI (fun _ j => 0 < j) fun i j => .int (i % j)) (fOp (pI0 fun i j => .int (i + j)) (fOp (pI0 fun i j => .int (i + j)) (fOp (pI CMul fun i j => .int (i * j)) (fVar 4) (fOp (pI0 fun i j => .int (i + j)) (fOp (pI (fun _ j => 0 < j) fun i j => .int (i % j)) (fVar 4) (fC (.int 65521))) (fC (.int 11)))) (fOp (pI CMul fun i j => .int (i * j)) (fOp pIxL (fVar 0) (fC (.int 4))) (fC (.int 40692)))) (fOp (pI (fun _ j => 0 < j) fun i j => .int (i % j)) (fOp pIxL (fVar 0) (fC (.int 3))) (fC (.int 104729)))) (fC (.int 998244353))) (gNm 5))
  (fSeq (fAsgL (fOp (pI (fun _ j => 0 < j) fun i j => .int (i % j)) (fOp (pI0 fun i j => .int (i + j)) (fOp (pI CMul fun i j => .int (i * j)) (fOp pIxL (fVar 0) (fC (.int 3))) (fC (.int 16807))) (fVar 5)) (fC (.int 2147483563))) (fVar 0) (fC (.int 3)))
  (fRet (fOp (pI (fun _ j => 0 < j) fun i j => .int (i % j)) (fOp (pI CDiv fun i j => .int (i / j)) (fVar 5) (fC (.int 7))) (fVar 1)))))))))))
noncomputable def F_pull (c : CA) : FF := fnOf 2 6 (B_pull c)
theorem R_pull (c : CA) (a0 a1 : PV) (M : PM) : F_pull c [a0, a1] M = gc M (fnRes (B_pull c [some a0, some a1, none, none, none, none] M)) := fn_at rfl
/-! #### law: of -/
noncomputable def B_of (c : CA) : FS :=
  (fRet (fOp pIxQ (fVar 1) (fCall (F_pull c) [] (fCons (fVar 0) (fCons (fB bLenQ (fCons (fVar 1) fNil)) fNil)))))
noncomputable def F_of (c : CA) : FF := fnOf 2 2 (B_of c)
theorem R_of (c : CA) (a0 a1 : PV) (M : PM) : F_of c [a0, a1] M = gc M (fnRes (B_of c [some a0, some a1] M)) := fn_at rfl
/-! #### law: letters -/
noncomputable def B_letters (c : CA) : FS :=
  (fSeq (fAsg (fC (.str [97, 98, 99, 100, 101, 102, 103, 104, 105, 106, 107, 108, 109, 110, 111, 112, 113, 114, 115, 116, 117, 118, 119, 120, 121, 122])) (gNm 1))
  (fSeq (fAsg (fCall (F_pull c) [] (fCons (fVar 0) (fCons (fC (.int 26)) fNil))) (gNm 2))
  (fSeq (fAsg (fCall (F_of c) [] (fCons (fVar 0) (fCons (fLst (fCons (fC (.int 1)) (fCons (fC (.int 3)) (fCons (fC (.int 5)) (fCons (fC (.int 7)) (fCons (fC (.int 9)) (fCons (fC (.int 11)) fNil))))))) fNil))) (gNm 3))
  (fRet (fLc (fIA itR1 (fCons (fC (.int 3)) fNil)) (gNm 4) fYes (fOp pIxS (fVar 1) (fOp (pI (fun _ j => 0 < j) fun i j => .int (i % j)) (fOp (pI0 fun i j => .int (i + j)) (fVar 2) (fOp (pI CMul fun i j => .int (i * j)) (fVar 3) (fVar 4))) (fC (.int 26)))) [4])))))
noncomputable def F_letters (c : CA) : FF := fnOf 1 5 (B_letters c)
theorem R_letters (c : CA) (a0 : PV) (M : PM) : F_letters c [a0] M = gc M (fnRes (B_letters c [some a0, none, none, none, none] M)) := fn_at rfl
/-! #### law: names -/
/-! #### law: word -/
/-! #### law: act -/
/-! #### law: move -/
/-! #### law: plan -/
/-! #### law: lab -/
/-! #### law: held -/
/-! #### law: scene -/
/-! #### law: within -/
/-! #### law: above -/
/-! #### law: many_lab -/
/-! #### law: grown -/
end Pu
namespace Pu
open PySem PySem.Spec PyProof.Rows L2 LB
open Classical
/-! ### words -/
def low (c : Nat) : Bool := decide (97 ≤ c ∧ c < 123)
theorem low_in (c : Nat) : decide (c ∈ [97, 98, 99, 100, 101, 102, 103, 104, 105, 106, 107, 108, 109, 110, 111, 112, 113, 114, 115, 116, 117, 118, 119, 120, 121, 122]) = low c := by
  unfold low
  apply decide_eq_decide.mpr
  simp only [List.mem_cons, List.not_mem_nil, or_false]
  omega
variable {c : CA} {M : PM}
theorem F_is_word_eq {s : List Nat} (h : s.length < lim) : F_p_is_word c [.str s] M = .ok (.bl (s.all low)) M := by
  rw [R_p_is_word]
  unfold B_p_is_word
  simp
  rw [lc_mapF (h := fun d => .bl (low d)) (fun _ => trivial) (by simp; omega) (fun d _ => ⟨_, rfl, fun acc => ⟨rfl, by rw [← low_in]; rfl⟩⟩)]
  simp [gc_flat]
theorem F_is_letter_eq {s : List Nat} (h : s.length < lim) : F_p_is_letter c [.str s] M = .ok (.bl (decide (s.length = 1) && s.all low)) M := by
  rw [R_p_is_letter]
  unfold B_p_is_letter
  simp [bLenS_str (show s.length ≤ lim by omega), F_is_word_eq h]
  by_cases h1 : s.length = 1
  · simp [h1]
  · have : ¬ (s.length : Int) = 1 := by omega
    simp [h1, this]
/-! ### what stands behind a letter; scenes -/
theorem cut_drop {α : Type} (xs : List α) (k : Nat) : cut xs (some (k : Int)) none = xs.drop k := by
  unfold cut
  rw [HT.sIx_none, HT.sIx_nat]
  by_cases h : k ≤ xs.length
  · rw [Nat.min_eq_left h, List.take_of_length_le (by rw [List.length_drop]; exact Nat.le_refl _)]
  · rw [Nat.min_eq_right (by omega), List.drop_of_length_le (Nat.le_refl _), List.drop_of_length_le (by omega), List.take_nil]
theorem cut_take' {α : Type} (xs : List α) (k : Nat) : cut xs none (some (k : Int)) = xs.take k := by
  unfold cut
  rw [HT.sIx_none, HT.sIx_nat, List.drop_zero, Nat.sub_zero]
  by_cases h : k ≤ xs.length
  · rw [Nat.min_eq_left h]
  · rw [Nat.min_eq_right (by omega), List.take_length, List.take_of_length_le (by omega)]
/-! ### scenes -/
abbrev tS (l : List (List Nat)) : PV := .tup (l.map PV.str)
/-- texts of small signs -/
def asc (s : List Nat) : Prop := ∀ x ∈ s, x < 128
/-- no refs, no bools: == is equality -/
def Dat : Nat → PV → Prop
  | _, .non => True
  | _, .int _ => True
  | _, .str s => asc s
  | n + 1, .tup xs => ∀ x ∈ xs, Dat n x
  | _, _ => False
theorem dat_tup {n : Nat} {xs : List PV} : Dat (n + 1) (.tup xs) = ∀ x ∈ xs, Dat n x := by rw [Dat]
theorem dat_str {n : Nat} {s : List Nat} : Dat n (.str s) = asc s := by rw [Dat]
mutual
def dv : PV → PyData
  | .non => .none
  | .bl b => .bool b
  | .int i => .int i
  | .str s => .str (tx s)
  | .ty _ => .none
  | .adr _ => .none
  | .tpb _ => .none
  | .ref _ => .none
  | .tup xs => .tuple (dvs xs)
def dvs : List PV → List PyData
  | [] => []
  | x :: xs => dv x :: dvs xs
end
theorem mapM_dv {f : PV → Option PyData} : ∀ {xs : List PV}, (∀ x ∈ xs, f x = some (dv x)) → xs.mapM f = some (dvs xs)
  | [], _ => by rw [List.mapM_nil]; unfold dvs; rfl
  | x :: xs, h => by
    rw [List.mapM_cons, h x List.mem_cons_self, mapM_dv fun y hy => h y (List.mem_cons_of_mem _ hy)]
    conv => rhs; unfold dvs
    rfl
theorem datF_dv {M : PM} : ∀ {n : Nat} {p : PV}, Dat n p → datF M n p = some (dv p) := by
  intro n
  induction n with
  | zero =>
    intro p hp
    cases p <;> first | exact (hp : False).elim | (unfold datF dv; rfl) | skip
    rename_i s
    have hp : asc s := hp
    unfold datF dv
    rw [if_pos (show ∀ c, c ∈ s → c < 128 from hp)]
  | succ n ih =>
    intro p hp
    cases p <;> first | exact (hp : False).elim | (unfold datF dv; rfl) | skip
    · rename_i s
      have hp : asc s := hp
      unfold datF dv
      rw [if_pos (show ∀ c, c ∈ s → c < 128 from hp)]
    · rename_i xs
      rw [dat_tup] at hp
      unfold datF dv
      rw [mapM_dv fun x hx => ih (hp x hx)]
      rfl
mutual
theorem eqv_dv : ∀ (p q : PV) (n m : Nat), Dat n p → Dat m q → PyData.eqv (dv p) (dv q) = decide (p = q)
  | .tup xs, q, n, m, hp, hq => by
    cases n with
    | zero => exact (hp : False).elim
    | succ n =>
      cases q with
      | tup ys =>
        cases m with
        | zero => exact (hq : False).elim
        | succ m =>
          rw [dat_tup] at hp hq
          have := eqvs_dv xs ys n m hp hq
          unfold dv
          unfold PyData.eqv
          rw [this]
          exact decide_eq_decide.mpr ⟨fun z => by rw [z], fun z => by injection z⟩
      | non => unfold dv; unfold PyData.eqv; exact (decide_eq_false (fun z => by cases z)).symm
      | int i => unfold dv; unfold PyData.eqv; exact (decide_eq_false (fun z => by cases z)).symm
      | str i => unfold dv; unfold PyData.eqv; exact (decide_eq_false (fun z => by cases z)).symm
      | bl i => cases m <;> exact (hq : False).elim
      | ty i => cases m <;> exact (hq : False).elim
      | adr i => cases m <;> exact (hq : False).elim
      | tpb i => cases m <;> exact (hq : False).elim
      | ref i => cases m <;> exact (hq : False).elim
  | .non, q, n, m, hp, hq => by
    cases q <;> first | (cases m <;> exact (hq : False).elim) | skip
    · unfold dv; unfold PyData.eqv; simp
    all_goals (unfold dv; unfold PyData.eqv; exact (decide_eq_false (fun z => by cases z)).symm)
  | .int i, q, n, m, hp, hq => by
    cases q <;> first | (cases m <;> exact (hq : False).elim) | skip
    · unfold dv; unfold PyData.eqv; exact (decide_eq_false (fun z => by cases z)).symm
    · rename_i j
      unfold dv; unfold PyData.eqv
      rw [Bool.beq_eq_decide_eq]
      exact decide_eq_decide.mpr ⟨fun z => by rw [z], fun z => by injection z⟩
    all_goals (unfold dv; unfold PyData.eqv; exact (decide_eq_false (fun z => by cases z)).symm)
  | .str i, q, n, m, hp, hq => by
    cases q <;> first | (cases m <;> exact (hq : False).elim) | skip
    · unfold dv; unfold PyData.eqv; exact (decide_eq_false (fun z => by cases z)).symm
    · unfold dv; unfold PyData.eqv; exact (decide_eq_false (fun z => by cases z)).symm
    · rename_i j
      unfold dv; unfold PyData.eqv
      rw [Bool.beq_eq_decide_eq]
      exact decide_eq_decide.mpr ⟨fun z => by rw [tx_inj.mp z], fun z => by injection z with z; rw [z]⟩
    all_goals (unfold dv; unfold PyData.eqv; exact (decide_eq_false (fun z => by cases z)).symm)
  | .bl i, q, n, m, hp, hq => by cases n <;> exact (hp : False).elim
  | .ty i, q, n, m, hp, hq => by cases n <;> exact (hp : False).elim
  | .adr i, q, n, m, hp, hq => by cases n <;> exact (hp : False).elim
  | .tpb i, q, n, m, hp, hq => by cases n <;> exact (hp : False).elim
  | .ref i, q, n, m, hp, hq => by cases n <;> exact (hp : False).elim
theorem eqvs_dv : ∀ (ps qs : List PV) (n m : Nat), (∀ x ∈ ps, Dat n x) → (∀ x ∈ qs, Dat m x) → PyData.eqvAll (dvs ps) (dvs qs) = decide (ps = qs)
  | [], [], _, _, _, _ => by unfold dvs; unfold PyData.eqvAll; simp
  | [], _ :: _, _, _, _, _ => by unfold dvs; unfold PyData.eqvAll; simp
  | _ :: _, [], _, _, _, _ => by unfold dvs; unfold PyData.eqvAll; simp
  | x :: xs, y :: ys, n, m, hp, hq => by
    unfold dvs
    unfold PyData.eqvAll
    rw [eqv_dv x y n m (hp x List.mem_cons_self) (hq y List.mem_cons_self), eqvs_dv xs ys n m (fun z hz => hp z (List.mem_cons_of_mem _ hz)) (fun z hz => hq z (List.mem_cons_of_mem _ hz))]
    rw [← Bool.decide_and]
    exact decide_eq_decide.mpr (by simp)
end
@[simp] theorem mapS_inj {a b : List (List Nat)} : a.map PV.str = b.map PV.str ↔ a = b := List.map_inj_right (fun x y z => by injection z)
/-! ### a word or a stand put in a scene -/
/-! ### what a step does -/
/-- a step: machine, start, act, row, letter, end -/
structure Stp where
  mi : Nat
  st : List Nat
  k : List Nat
  ri : Int
  l : List Nat
  en : List Nat
abbrev Stp.pv (x : Stp) : PV := .tup [.int (x.mi : Nat), .str x.st, .str x.k, .int x.ri, .str x.l, .str x.en]
end Pu
namespace Pu
open PySem PySem.Spec PyProof.Rows L2 LB
open Classical
/-! ### in, over a list of data -/
/-! ### reckoning -/
end Pu
namespace LB
open PySem PySem.Spec PyProof.Rows L2
section
variable {P : Program} {w : World} {A : Around} {E : Value → Shared → Prop} {s : Shared}
set_option maxHeartbeats 3200000 in
/-- set(z), z a text: the set at the next free place, by what each add keeps -/
theorem call_set_ivS {z : Str} {zt : Tok} {Q : Value → Shared → Prop} (calm : A.handled = none) (Iv : Nat → Heap → Prop)
    (ini : ∀ h, h.get? s.heap.objs.size = some (freshSet w) → (∀ b o, s.heap.get? b = some o → h.get? b = some o) → Iv 0 h)
    (stay : ∀ i h h', Iv i h → (∀ o, h.get? s.heap.objs.size = some o → h'.get? s.heap.objs.size = some o) → (∀ b o, s.heap.get? b = some o → h'.get? b = some o) → Iv i h')
    (add : ∀ (A' : Around) i v (s1 : Shared) (Q : Bool → Shared → Prop) (E' : Value → Shared → Prop), A'.handled = none → A'.units ≤ A.units + 4 → SignAt z i v → (∀ b o, s.heap.get? b = some o → s1.heap.get? b = some o) → Iv i s1.heap →
      (∀ b h' tk, s1.toks ≤ tk → Heap.SameBut s.heap.objs.size s1.heap h' → Iv (i + 1) h' → Q b { s1 with heap := h', toks := tk }) → wpAny (model P w) A' (setAdd s.heap.objs.size v) Q E' s1)
    (out : ∀ (h' : Heap) (tk : Nat), Iv z.cps.size h' → (∀ b o, s.heap.get? b = some o → h'.get? b = some o) → Q (.ref s.heap.objs.size) { s with heap := h', toks := tk }) :
    wpAny (model P w) A (call (.type "set") [.str z zt]) Q E s := by
  obtain ⟨c, tl, hmro⟩ := F.called_set.mro
  have hmade := F.called_set.made; have hsub := F.called_set.sub
  refine wpAny_call (codeAny_of_tree ?_); show wpAny _ _ (callAny (.type "set") _) _ _ _
  refine wpAny_pure ⟨Code.quiet_builtin _ (by decide +kernel), codeAny_builtin F.entry_type_call ?_⟩; rw [Around.under_plain (weight_type_call_type "set" [.str z zt] []) rfl]
  have k1 := F.called_set.notType; have k2 := F.called_set.canCreate; have k3 := F.typeCall_set_1 (.str z zt)
  repeat (any_goals (first | assumption | wp_step))
  refine codeAny_mono (code_set_led1 (.str z zt) (E := E) (Q₁ := fun obj s₁ => obj = .ref s.heap.objs.size ∧ s₁ = { s with heap := s.heap.push (freshSet w) }) ⟨rfl, rfl⟩) fun r s1 hr => ?_
  cases r with
  | error e => exact hr
  | ok fl =>
    cases fl with
    | ret obj =>
      obtain ⟨rfl, rfl⟩ := hr
      have hZ : (s.heap.push (freshSet w)).get? s.heap.objs.size = some (freshSet w) := Heap.get?_push_size _ rfl
      have hT : Shared.TypeIs { s with heap := s.heap.push (freshSet w) } (.ref s.heap.objs.size) "set" := ⟨_, hZ, rfl⟩
      have k4 := F.called_set.init.lookup; have k5 := F.called_set.init.bind (.ref s.heap.objs.size)
      repeat (any_goals (first | assumption | wp_step))
      refine codeAny_mono (codeAny_call_builtin (R := wants (fun r s₂ => r = .none ∧ ∃ h' tk, s₂ = { s with heap := h', toks := tk } ∧ Iv z.cps.size h' ∧ (∀ b o, s.heap.get? b = some o → h'.get? b = some o)) E) F.called_set.init.plain F.entry_set_init (check_set_init_1 hT ?_)) fun r2 s2 hr2 => ?_
      · have k6 := F.sub_str_set; have k7 := F.sub_str_frozenset
        have k8 : (Value.type "str" == Value.type "dict") = false := by decide
        unfold Builtin.«set.__init__» noKeywords Builtin.Frozenset.updateFrom
        generalize hPI : pyIter = PI
        wp_walk; subst hPI
        refine wpAny_pyIter_str ?_
        intro oi St W st0
        refine wpAny_bind (wpAny_runValue ?_)
        have calm3 : A.in1.in1.in1.handled = none := by simp [calm]
        have zf : s.heap.objs.size ∉ [(s.heap.push (freshSet w)).objs.size] := by
          rw [Heap.size_push]; simp only [List.mem_cons, List.not_mem_nil, or_false]
          exact Nat.ne_of_lt (Nat.lt_succ_self _)
        have nn : ∀ b, s.heap.objs.size ≤ b → s.heap.get? b = none := fun b hb => by
          cases q : s.heap.get? b with
          | none => rfl
          | some o => exact absurd (Nat.lt_of_lt_of_le (Heap.lt_size q) hb) (Nat.lt_irrefl _)
        have kpp : ∀ b o, s.heap.get? b = some o → ((s.heap.push (freshSet w)).push oi).get? b = some o := fun b o e => Heap.get?_push_of_some _ (Heap.get?_push_of_some _ e)
        refine upd_loop ((W _ calm3).toS) zf s.heap (nn _ (Nat.le_refl _)) (fun b hb => nn b (by
            rw [List.mem_singleton.mp hb, Heap.size_push]
            exact Nat.le_succ _)) Iv stay (fun i v s3 Q' E' hi pv kp iv q => add _ i v s3 Q' E' (by simp [calm]) ?hu pv kp iv q) (z.cps.size - 0) 0 _ (by omega) (Nat.zero_le _)
          st0 kpp (ini _ (Heap.get?_push_of_some _ hZ) kpp) ?hR
        case hu => first | exact Nat.le_refl _ | (show A.units + _ ≤ A.units + 4; omega) | (show A.units + 1 + 1 + 1 ≤ A.units + 4; omega)
        case hR =>
          intro s' mv iv kp
          obtain ⟨h', g2, d', tk', os'⟩ := s'
          obtain rfl : g2 = s.gens := mv.gens
          obtain rfl : d' = s.drawn := mv.drawn
          obtain rfl : os' = s.os := mv.os
          show wpAny _ _ _ _ _ _
          exact wpAny_pure (wpAny_pure ⟨rfl, h', tk', rfl, iv, kp⟩)
      · cases r2 with
        | error e => exact hr2
        | ok fl2 =>
          cases fl2 with
          | ret r =>
            obtain ⟨rfl, h', tk, rfl, iv, kp⟩ := hr2
            repeat (any_goals (first | assumption | wp_step))
            exact out _ _ iv kp
          | _ => exact hr2.elim
    | _ => exact hr.elim
theorem call_set_sg {z : Str} {zt : Tok} {Q : Value → Shared → Prop} (calm : A.handled = none) (few : z.cps.size + 2 < scanBound)
    (out : ∀ (h' : Heap) (tk : Nat) ks, SetX P w h' s.heap.objs.size ks → (∀ x, x ∈ ks ↔ x ∈ z.cps.toList.map sg) → ks.length ≤ z.cps.size → (∀ b o, s.heap.get? b = some o → h'.get? b = some o) → Q (.ref s.heap.objs.size) { s with heap := h', toks := tk }) :
    wpAny (model P w) A (call (.type "set") [.str z zt]) Q E s := by
  generalize hxs : z.cps.toList.map sg = xs at out
  have hlen : z.cps.size = xs.length := by
    rw [← hxs, List.length_map, Array.length_toList]
  refine call_set_ivS calm (fun i h => ∃ ks, SetX P w h s.heap.objs.size ks ∧ (∀ x, x ∈ ks ↔ x ∈ xs.take i) ∧ ks.length ≤ i) (fun h e _ => ⟨[], setX_fresh e, fun x => by simp, Nat.le_refl _⟩) (fun i h h' ⟨ks, R, m⟩ k _ => ⟨ks, R.keep k, m⟩) (fun A' i v s1 Q' E' _ _ hv _ ⟨ks, ⟨⟨D, e, F, r, ld, pm, els⟩, nd⟩, m, lk⟩ q => ?_) (fun h' tk ⟨ks, R, m, lk⟩ kp => ?_)
  · obtain ⟨c, t, hc, rfl⟩ := hv
    obtain ⟨y, hyd⟩ : ∃ y, y = sg c := ⟨_, rfl⟩
    have hy : xs[i]? = some y := by
      rw [← hxs, List.getElem?_map, Array.getElem?_toList, hc, hyd]
      rfl
    show wpAny _ _ (setAdd _ (.str (sg c) t)) _ _ _
    rw [← hyd]
    have hi : i < xs.length := (List.getElem?_eq_some_iff.mp hy).1
    have tk1 : xs.take (i + 1) = xs.take i ++ [y] := by
      rw [List.take_add_one, hy]
      rfl
    refine add_tx e F (by omega) (fun hk => ?_) (fun hk => ?_)
    · refine q false s1.heap (s1.toks + 1) (Nat.le_succ _) (.refl _ _) ⟨ks, ⟨⟨D, e, F, r, ld, pm, els⟩, nd⟩, fun x => ?_, by omega⟩
      rw [tk1, List.mem_append, List.mem_singleton, ← m x]
      exact ⟨.inl, fun z => z.elim id fun z => by rw [z]; exact hk⟩
    · have pp := add_perm (D := D) (h := hashStr w y) (v := .str y t)
      refine q true _ (s1.toks + 1) (Nat.le_succ _) (Heap.SameBut.update _ _ _) ⟨y :: ks, ⟨⟨_, Froz.get_upd _ e rfl, Froz.add_ok t F, add_ris r, ?_, ?_, ?_⟩, List.nodup_cons.mpr ⟨hk, nd⟩⟩, fun x => ?_, by simp; omega⟩
      · rw [add_led]
        exact ld
      · exact (pp.map kx).trans (.cons y pm)
      · intro e' he'
        rcases List.mem_cons.mp (pp.mem_iff.mp he') with z | z
        · rw [z]
          exact ⟨y, t, rfl⟩
        · exact els e' z
      · rw [tk1, List.mem_append, List.mem_singleton, List.mem_cons, m x]
        exact Or.comm
  · rw [hlen] at m lk
    rw [List.take_length] at m
    exact out h' tk ks R m (by omega) kp
end
section
variable {X : Cx}
def rSetZ (P : Program) (w : World) : List V → Hp → VK → Prop := fun vs H Q => ∃ z : Str, vs = [V.str z] ∧ z.cps.size < 2000 ∧
  ∀ a ks, H a = none → ks.Nodup → (∀ x, x ∈ ks ↔ x ∈ z.cps.toList.map sg) → ks.length ≤ z.cps.size → Q (.ref a) (upd H a (SetXO P w a ks))
theorem cr_setZ (hc : X.calm = true) : CallR X (.type "set") (rSetZ X.prog X.w) := by
  intro pins s σ H xs us Q I r h
  obtain ⟨z, rfl, few, q⟩ := h
  obtain ⟨u1, rfl, r1⟩ : ∃ u1, us = [u1] ∧ RelV (.str z) u1 := by
    cases r with
    | cons a b =>
      cases b
      exact ⟨_, rfl, a⟩
  obtain ⟨zt, rfl⟩ := r1
  refine call_set_sg (P := X.prog) (w := X.w) (I.ok.hd hc) (Nat.lt_of_lt_of_le (by omega : z.cps.size + 2 < 2002) (by decide)) fun h' tk ks R m lk kp => ?_
  have okS : ObjOk X.prog X.w (upd H s.heap.objs.size (SetXO X.prog X.w s.heap.objs.size ks)) h' s.heap.objs.size (SetXO X.prog X.w s.heap.objs.size ks) := by
    obtain ⟨⟨D, e, _⟩, _⟩ := id R
    exact ⟨R, ⟨_, e⟩, fun g1 g2 R1 k => R1.keep k⟩
  exact ⟨.ref s.heap.objs.size, _, I.laid (t' := tk) kp (Nat.le_refl _) okS, rfl, q _ ks (I.hok.fresh (Nat.le_refl _)) R.nd m lk⟩
end
end LB
/-! sorted(a short list of texts), as a run -/
namespace Pu
open PySem PySem.Spec PyProof.Rows L2 LB
open Classical
def sortS (l : List (List Nat)) : List (List Nat) := l.mergeSort leT
theorem sorted_sortS {l : List (List Nat)} : (sortS l).Pairwise (· ≤ ·) := by
  have := List.pairwise_mergeSort (le := leT) (fun a b c h1 h2 => decide_eq_true (List.le_trans (of_decide_eq_true h1) (of_decide_eq_true h2))) (fun a b => by
    rcases List.le_total a b with h | h
    · unfold leT; rw [decide_eq_true h]; rfl
    · unfold leT; rw [decide_eq_true h, Bool.or_true]) l
  exact this.imp fun h => of_decide_eq_true h
theorem sortS_of {l ys : List (List Nat)} (p : ys.Perm l) (s : ys.Pairwise (· ≤ ·)) : ys = sortS l :=
  List.Perm.eq_of_pairwise (fun a b _ _ h1 h2 => List.le_antisymm h1 h2) s sorted_sortS (p.trans (List.mergeSort_perm _ _).symm)
def bSortS : List PV → PM → Res PV := fun as M => match as with
  | [p] => match (lstAt M p).bind asStrs with
    | some ys => if ys.length < 64 then .ok (.ref M.length) (M ++ [.lst ((sortS ys).map .str)]) else .bad
    | none => .bad
  | _ => .bad
theorem sb_sortS {tb : List (Addr × Str)} {E : XK} {K : PySem.W.Frag} : SmL tb E (rSortedS K) bSortS := by
  intro ι M H ps xs Q R r w
  unfold bSortS at w
  split at w
  · rename_i p
    obtain ⟨v, rfl, rv⟩ := rvs1 r
    split at w
    · rename_i ys e
      split at w
      · rename_i hl
        obtain ⟨xs, e1, e2⟩ := bind_at e
        obtain ⟨k, vs, rfl, lk, rfl, ha, ra⟩ := lst_at R e1 rv
        have ev := asStrs_rel e2 ra
        subst ev
        refine ⟨_, ys.map tx, rfl, .inl (.inl ha), by rw [List.length_map]; exact hl, fun zs q pm srt nq => ?_⟩
        have ez : zs.map (·.cps.toList) = sortS ys := by
          refine sortS_of ?_ (sortedS_pw srt)
          have pp := pm.map (·.cps.toList)
          have ei : (ys.map tx).map (·.cps.toList) = ys := by
            rw [List.map_map]
            have : ((fun x : Str => x.cps.toList) ∘ tx) = id := by
              funext y
              simp [tx]
            rw [this, List.map_id]
          rw [ei] at pp
          exact pp
        have ee : zs.map V.str = ((sortS ys).map tx).map V.str := by
          rw [← ez, List.map_map, List.map_map]
          exact List.map_congr_left fun z _ => congrArg V.str (tx_of z)
        rw [ee]
        exact okLst w R strs_rvs nq
      · exact w.elim
    · exact w.elim
  · exact w.elim
end Pu
namespace Pu
open PySem PySem.Spec PyProof.Rows L2 LB
open Classical
/-! ### sorted(set(a text)) -/
def bSortSetS (p : PV) (M : PM) : Res PV := match p with
  | .str s => if s.length < 64 then .ok (.ref M.length) (M ++ [.lst ((sortU (s.map fun c => [c])).map .str)]) else .bad
  | _ => .bad
def fSortSetS (f : FE) : FE := fun σ M => (f σ M).bnd bSortSetS
theorem sm_sortsetS {tb : List (Addr × Str)} {E : XK} {P : Program} {w : World} {te : TE} {fe : FE} (h : SmE tb E te fe) : SmE tb E (tCB (rSortX P w) (tCons (tCB (rSetZ P w) (tCons te tNil)) tNil)) (fSortSetS fe) := fun ι M H σp σ Q R S w' =>
  h.to R S w' fun ι1 M1 H1 p v o S1 rv w1 => by
    unfold bSortSetS at w1
    split at w1
    · rename_i s
      split at w1
      · rename_i hl
        obtain rfl : v = V.str (tx s) := rv.str
        have cs : (tx s).cps.toList = s := by simp [tx]
        have cz : (tx s).cps.size = s.length := by rw [← Array.length_toList, cs]
        refine ⟨tx s, rfl, by rw [cz]; omega, fun a ks na nd mem lk' => ?_⟩
        rw [cs] at mem
        rw [cz] at lk'
        refine ⟨a, ks, rfl, upd_same, by omega, fun zs q pm srt nq => ?_⟩
        have ez : zs.map (·.cps.toList) = sortU (s.map fun c => [c]) := by
          refine sortU_of ?_ (fun x => ?_) (sortedS_pw srt)
          · refine List.pairwise_map.mpr ((pm.nodup_iff.mpr nd).imp fun ne e => ne ?_)
            rename_i y1 y2
            rw [tx_of y1, tx_of y2, e]
          · rw [List.mem_map, List.mem_map]
            constructor
            · rintro ⟨z, hz, rfl⟩
              obtain ⟨y, hy, e⟩ := List.mem_map.mp ((mem z).mp (pm.mem_iff.mp hz))
              exact ⟨y, hy, by rw [← e]⟩
            · rintro ⟨y, hy, rfl⟩
              exact ⟨sg y, pm.mem_iff.mpr ((mem (sg y)).mpr (List.mem_map.mpr ⟨y, hy, rfl⟩)), rfl⟩
        have R2 := o.r.new (x := SetXO P w a ks) na
        have ee : zs.map V.str = ((sortU (s.map fun c => [c])).map tx).map V.str := by
          rw [← ez, List.map_map, List.map_map]
          exact List.map_congr_left fun z _ => congrArg V.str (tx_of z)
        rw [ee]
        exact okLst (w1.back (ex_new na) (Nat.le_refl _)) R2 strs_rvs nq
      · exact w1.elim
    · exact w1.elim
@[simp] theorem ev_fSortSetS (f : FE) (σ : PS) (M : PM) : fSortSetS f σ M = (f σ M).bnd bSortSetS := id rfl
end Pu
/-! lambdas as values: with a default or without, kept in a list, called later on -/
namespace LamW
open PySem PySem.Spec PySem.Calls PyProof.Rows L2 LamX
/-- a lambda's function, its defaults dV -/
abbrev lwFn (q : Str) (ar : Arguments) (e : Expr) (sc : Scope) (cl : List (Str × Addr)) (dV pm cv ctv : Value) : FuncData := { PySem.W.kla_fn "<lambda>" q ar e sc cl pm cv ctv with defaults := dV }
abbrev lwObj (q : Str) (ar : Arguments) (e : Expr) (sc : Scope) (cl : List (Str × Addr)) (dV pm : Value) (k : Addr) (ctv : Value) : Obj := { cls := .type "function", data := .func (lwFn q ar e sc cl dV pm (.ref k) ctv) }
section
variable {M : Model} {A : Around} {E : Value → Shared → Prop} {s : Shared} {q : Str} {ar : Arguments} {e : Expr} {sc : Scope} {env : Env} {cc T : Addr} {rows : Array Value} {ps : Pos} {ln : Nat} {g : Str → Option Value} {cl : List (Str × Addr)} {dV : Value} {Q : Value → Shared → Prop}
/-- what making a function leans on -/
structure LMk (s : Shared) (env : Env) (g : Str → Option Value) (cc T : Addr) (rows : Array Value) (sc : Scope) (cl : List (Str × Addr)) : Prop where
  cl : closureFor sc env = pure cl
  gl : env.globals = mainGlobals
  ns : s.heap.Ns mainGlobals g
  cd : env.code = .ref cc
  hd : PySem.W.CodeHd s.heap cc T
  tb : s.heap.get? T = some (PySem.W.tabObj rows)
  tr : TriplesOk rows.toList
  ne : mainGlobals ≠ T
  bt : s.heap.BuiltinsAt g T
theorem LMk.push {o : Obj} (m : LMk s env g cc T rows sc cl) : LMk { s with heap := s.heap.push o } env g cc T rows sc cl :=
  ⟨m.cl, m.gl, m.ns.push _, m.cd, m.hd.keeps fun _ _ z => Heap.get?_push_of_some _ z, Heap.get?_push_of_some _ m.tb, m.tr, m.ne, m.bt.keeps fun _ _ z => Heap.get?_push_of_some _ z⟩
theorem tail_new (m : LMk s env g cc T rows sc cl) (hn : codeAmong ps rows.toList = none)
    (h : ∀ k ctv G tk, Heap.ExtBut T s.heap G → s.heap.objs.size ≤ k → k < G.objs.size → G.CodeRec (.ref k) q → G.get? T = some (PySem.W.tabObj (rows ++ #[rawInt ps.line, rawInt ps.col, .ref k])) → Q (.ref G.objs.size) { s with heap := G.push (lwObj q ar e sc cl dV ((g "__name__").getD .none) k ctv), toks := tk }) :
    wpAny M A (makeTail "<lambda>" q ar (.expr e) sc env dV .none none ps ln) Q E s := by
  obtain ⟨b, ob, b1, b2, b3, b4, b5, b6, b7, b8⟩ := m.bt
  have fin : ∀ (ctv : Value) (sx : Shared) (mx : LMk sx env g cc T rows sc cl), (∀ x o, s.heap.get? x = some o → sx.heap.get? x = some o) → s.heap.objs.size ≤ sx.heap.objs.size → sx = { s with heap := sx.heap, toks := sx.toks } →
      wpAny M A (do
        let fd : FuncData := { name := "<lambda>", qualname := q, params := ar, body := .expr e, scope := sc, globals := env.globals, closure := cl, closureTuple := ctv, code := ← functionCode env ps ln "<lambda>" q ar sc (.expr e), builtins := ← builtinsFor env.globals env.builtins, defaults := dV, kwdefaults := .none, annotations := none, pyModule := (← nsGet env.globals "__name__").getD .none, doc := ← pure Value.none }
        newObj (.type "function") (.func fd)) Q E sx := fun ctv sx mx kx zx ex => by
    rw [m.gl]
    refine wpAny_bind (wpAny_functionCodeX m.cd (mx.hd.code mx.tb mx.tr) (mx.hd.tab mx.tb) hn fun k G tk x1 x2 x3 _ x4 x5 _ => ?_)
    have g1 := mx.ns.extBut x1 m.ne
    refine wpAny_bind (wpAny_builtinsFor g1 b1 b2 (x1 _ _ b4 (kx _ _ b5)) b6 b7 b8 ?_)
    refine wpAny_bind (wpAny_nsGet g1 (wpAny_bind (wpAny_pure (wpAny_newObj_type ?_ (by size_fits)))))
    have r := h k ctv G tk (fun x o n z => x1 x o n (kx x o z)) (Nat.le_trans zx x2) x3 x4 x5.2
    rw [ex]
    exact r
  unfold makeTail
  rw [m.cl]
  refine wpAny_bind (wpAny_pure ?_)
  cases cl with
  | nil => exact wpAny_bind (wpAny_pure (fin _ s m (fun _ _ z => z) (Nat.le_refl _) rfl))
  | cons y r => exact wpAny_bind (wpAny_newTextTuple (fin _ _ m.push (fun _ _ z => Heap.get?_push_of_some _ z) (by rw [Heap.size_push]; exact Nat.le_succ _) rfl))
theorem tail_old {cv : Value} (m : LMk s env g cc T rows sc cl) (hf : codeAmong ps rows.toList = some cv)
    (h : ∀ (ctv : Value) (G : Heap) (tk : Tok), (∀ x o, s.heap.get? x = some o → G.get? x = some o) → s.heap.objs.size ≤ G.objs.size → Q (.ref G.objs.size) { s with heap := G.push { cls := .type "function", data := .func (lwFn q ar e sc cl dV ((g "__name__").getD .none) cv ctv) }, toks := tk }) :
    wpAny M A (makeTail "<lambda>" q ar (.expr e) sc env dV .none none ps ln) Q E s := by
  obtain ⟨b, ob, b1, b2, b3, b4, b5, b6, b7, b8⟩ := m.bt
  have fin : ∀ (ctv : Value) (sx : Shared) (mx : LMk sx env g cc T rows sc cl), (∀ x o, s.heap.get? x = some o → sx.heap.get? x = some o) → s.heap.objs.size ≤ sx.heap.objs.size → sx = { s with heap := sx.heap, toks := sx.toks } →
      wpAny M A (do
        let fd : FuncData := { name := "<lambda>", qualname := q, params := ar, body := .expr e, scope := sc, globals := env.globals, closure := cl, closureTuple := ctv, code := ← functionCode env ps ln "<lambda>" q ar sc (.expr e), builtins := ← builtinsFor env.globals env.builtins, defaults := dV, kwdefaults := .none, annotations := none, pyModule := (← nsGet env.globals "__name__").getD .none, doc := ← pure Value.none }
        newObj (.type "function") (.func fd)) Q E sx := fun ctv sx mx kx zx ex => by
    rw [m.gl]
    refine wpAny_bind (wpAny_functionCode_hit m.cd (mx.hd.code mx.tb mx.tr) hf ?_)
    refine wpAny_bind (wpAny_builtinsFor mx.ns b1 b2 (kx _ _ b5) b6 b7 b8 ?_)
    refine wpAny_bind (wpAny_nsGet mx.ns (wpAny_bind (wpAny_pure (wpAny_newObj_type ?_ (by size_fits)))))
    have r := h ctv sx.heap sx.toks kx zx
    rw [ex]
    exact r
  unfold makeTail
  rw [m.cl]
  refine wpAny_bind (wpAny_pure ?_)
  cases cl with
  | nil => exact wpAny_bind (wpAny_pure (fin _ s m (fun _ _ z => z) (Nat.le_refl _) rfl))
  | cons y r => exact wpAny_bind (wpAny_newTextTuple (fin _ _ m.push (fun _ _ z => Heap.get?_push_of_some _ z) (by rw [Heap.size_push]; exact Nat.le_succ _) rfl))
end
/-- a function that is known to the object -/
def FunK (f : Addr) (o : Obj) : HO := .frz o (.ext fun h => h.get? f = some o)
theorem funK_ok {P : Program} {w : World} {H : Hp} {h : Heap} {f : Addr} {o : Obj} (z : h.get? f = some o) : ObjOk P w H h f (FunK f o) := ⟨z, z, ⟨o, z⟩, fun _ _ a st => st _ a⟩
section
variable {X : Cx} {pins : List (Addr × Obj)} {σ : L2.St} {H : Hp} {s : Shared}
/-- the lambda of X's def that is written so -/
abbrev lwOf (X : Cx) (ar : Arguments) (e : Expr) (sc : Scope) (dV pm : Value) (k : Addr) (ctv : Value) : Obj := lwObj (X.env.qual ++ "<lambda>") ar e sc (cloFrom X.env.cells sc.names []) dV pm k ctv
theorem lw_make {T : List (Addr × Str)} {cc P : Addr} {ar : Arguments} {e : Expr} {sc : Scope} {ps : Pos} {ln : Nat} {dV : Value} {E : Value → Shared → Prop} {Q : Value → Shared → Prop} (I : Inv X pins σ H s) (TB : TabB X.base X.mg cc P) (hcode : X.env.code = .ref cc)
    (hm : (P, X.env.qual ++ "<lambda>") ∈ T) (hu : ∀ p ∈ T, p.1 = P → p.2 = X.env.qual ++ "<lambda>") (hT : Tabs T H) (hfree : ∀ y ∈ sc.names, y.2 = .free → ∃ k, X.env.cells.lookup y.1 = some k)
    (h : ∀ (f k : Addr) (pm ctv : Value) (H1 : Hp) (s' : Shared), Inv X pins σ (upd H1 f (FunK f (lwOf X ar e sc dV pm k ctv))) s' → ExtN H H1 → Tabs T H1 → H1 f = none → H1 k = some (CodeO k (X.env.qual ++ "<lambda>")) → Q (.ref f) s') :
    wpAny (model X.prog X.w) X.A (makeTail "<lambda>" (X.env.qual ++ "<lambda>") ar (.expr e) sc X.env dV .none none ps ln) Q E s := by
  obtain ⟨rows, hP, ht, ha⟩ := hT _ hm
  have hP' : s.heap.get? P = some (PySem.W.tabObj rows) := I.hok P _ hP
  have m : LMk s X.env X.mg cc P rows sc (cloFrom X.env.cells sc.names []) := ⟨closure_ok hfree, I.ok.glob, I.mod.glob.keeps I.bk, hcode, TB.code.keeps I.bk, hP', ht, TB.gP, TB.bm.keeps I.bk⟩
  cases hc : codeAmong ps rows.toList with
  | none =>
    refine tail_new m hc fun k ctv G tk hx hge hlt hrec htb => ?_
    obtain ⟨k2, oc, vs, t, e2, hoc, hd, hv⟩ := hrec
    cases e2
    have nC : H k = none := I.hok.fresh hge
    have I1 := inv_table (t' := tk) (more := #[rawInt ps.line, rawInt ps.col, .ref k]) (h' := G) I hP hx htb hge ⟨oc, vs, t, hoc, hd, hv⟩
    have hE : ExtN H (upd (upd H P (.tbl (rows ++ #[rawInt ps.line, rawInt ps.col, .ref k]))) k (CodeO k (X.env.qual ++ "<lambda>"))) := fun b o z n => by
      rw [upd_ne (ne_of_none z nC), upd_ne (fun y => n rows (Option.some.inj (z.symm.trans (by rw [y]; exact hP))))]
      exact z
    have eL : (rows ++ #[rawInt ps.line, rawInt ps.col, .ref k]).toList = rows.toList ++ [rawInt ps.line, rawInt ps.col, .ref k] := by simp
    have I2 := I1.laid (t' := tk) (a := G.objs.size) (h' := G.push (lwOf X ar e sc dV ((X.mg "__name__").getD .none) k ctv)) (fun b o z => Heap.get?_push_of_some _ z) (Nat.le_refl _) (funK_ok (Heap.get?_push_size _ rfl))
    refine h G.objs.size k ((X.mg "__name__").getD .none) ctv _ _ I2 hE (fun p hp => ?_) (I1.hok.fresh (Nat.le_refl _)) upd_same
    by_cases hb : p.1 = P
    · rw [hu p hp hb, hb]
      refine ⟨_, by rw [upd_ne (ne_of_none hP nC), upd_same], by rw [eL]; exact PySem.TriplesOk_snoc _ _ _ _ ht, fun p' cv hcv => ?_⟩
      rw [eL] at hcv
      rcases among_app _ ht hcv with z | z
      · obtain ⟨c0, y1, y2⟩ := ha p' cv z
        exact ⟨c0, y1, hE _ _ y2 codeO_ne⟩
      · exact ⟨k, z, upd_same⟩
    · obtain ⟨rs, a1, a2, a3⟩ := hT p hp
      refine ⟨rs, by rw [upd_ne (ne_of_none a1 nC), upd_ne hb]; exact a1, a2, fun p' cv hcv => ?_⟩
      obtain ⟨c0, y1, y2⟩ := a3 p' cv hcv
      exact ⟨c0, y1, hE _ _ y2 codeO_ne⟩
  | some cv =>
    obtain ⟨k, rfl, hco⟩ := ha ps cv hc
    refine tail_old m hc fun ctv G tk hx hsz => ?_
    have I1 : Inv X pins σ H { s with heap := G, toks := tk } := I.kept hx
    have I2 := I1.laid (t' := tk) (a := G.objs.size) (h' := G.push (lwOf X ar e sc dV ((X.mg "__name__").getD .none) k ctv)) (fun b o z => Heap.get?_push_of_some _ z) (Nat.le_refl _) (funK_ok (Heap.get?_push_size _ rfl))
    exact h G.objs.size k ((X.mg "__name__").getD .none) ctv H _ I2 (ExtN.refl H) hT (I1.hok.fresh (Nat.le_refl _)) hco
/-- a lambda as a value: what it leaves -/
def tLamV (T : List (Addr × Str)) (X : Cx) (ar : Arguments) (e : Expr) (sc : Scope) (ds : List V) : TE := fun _ H Q => Tabs T H ∧ ∀ (f k : Addr) (dV pm ctv : Value) (H1 : Hp), ExtN H H1 → Tabs T H1 → H1 f = none → H1 k = some (CodeO k (X.env.qual ++ "<lambda>")) →
  ((ds = [] ∧ dV = .none) ∨ (ds ≠ [] ∧ ∃ d, dV = .ref d ∧ H1 d = some (.tup ds))) → Q (.ref f) (upd H1 f (FunK f (lwOf X ar e sc dV pm k ctv)))
theorem pe_lamv {T : List (Addr × Str)} {cc P : Addr} {ar : Arguments} {e : Expr} {sc : Scope} {ps : Pos} (TB : TabB X.base X.mg cc P) (hcode : X.env.code = .ref cc) (hm : (P, X.env.qual ++ "<lambda>") ∈ T) (hu : ∀ p ∈ T, p.1 = P → p.2 = X.env.qual ++ "<lambda>")
    (hfr : ∀ y ∈ sc.names, y.2 = .free → X.env.scope.names.lookup y.1 = some .cell ∨ X.env.scope.names.lookup y.1 = some .free) (hdef : defaultsOf ar X.env = ([], [])) : PE X (.Lambda ar e sc ps) (tLamV T X ar e sc []) := by
  refine ⟨fun pins s σ H Q I ⟨hT, h⟩ => ?_⟩
  refine PySem.W.kla_eval hdef ?_
  rw [makeFunction_eq]
  simp only [List.zip_nil_right, List.filterMap_nil, List.isEmpty_nil, if_true, pure_bind]
  refine lw_make I TB hcode hm hu hT (fun y hy z => ?_) fun f k pm ctv H1 s' I1 eN T1 hf hk => ⟨.ref f, _, I1, rfl, h f k .none pm ctv H1 eN T1 hf hk (.inl ⟨rfl, rfl⟩)⟩
  rcases hfr y hy z with y1 | y1
  · exact I.ok.has _ (.inl y1)
  · exact I.ok.has _ (.inr y1)
/-- the same with one default, a whole number -/
theorem pe_lamd {T : List (Addr × Str)} {cc P : Addr} {ar : Arguments} {e : Expr} {sc : Scope} {ps cp : Pos} {i : Int} {j : Nat} (TB : TabB X.base X.mg cc P) (hcode : X.env.code = .ref cc) (hm : (P, X.env.qual ++ "<lambda>") ∈ T) (hu : ∀ p ∈ T, p.1 = P → p.2 = X.env.qual ++ "<lambda>")
    (hfr : ∀ y ∈ sc.names, y.2 = .free → X.env.scope.names.lookup y.1 = some .cell ∨ X.env.scope.names.lookup y.1 = some .free) (hdef : defaultsOf ar X.env = ([eval (.Constant (.int i) j cp) X.env], [])) : PE X (.Lambda ar e sc ps) (tLamV T X ar e sc [.int i]) := by
  refine ⟨fun pins s σ H Q I ⟨hT, h⟩ => ?_⟩
  rw [arm_eval_Lambda, hdef]
  show wpAny _ X.A (do let dv ← evalAll [eval (.Constant (.int i) j cp) X.env]; let kdv ← holding dv (evalAllOpt []); makeFunction "<lambda>" (X.env.qual ++ "<lambda>") ar (.expr e) sc X.env dv kdv [] ps ps.line) _ _ s
  refine wpAny_bind ?_
  unfold evalAll
  refine wpAny_bind (thn ((pe_int (X := X) (i := i) (j := j) (pos := cp)).run pins s σ H (fun v H1 => v = .int i ∧ H1 = H) I ⟨rfl, rfl⟩) fun u s1 ⟨v, H1, I1, r1, q1⟩ => ?_)
  obtain ⟨rfl, rfl⟩ := q1
  refine wpAny_bind (wpAny_holding ?_)
  unfold evalAll
  refine wpAny_pure (wpAny_pure (wpAny_bind (wpAny_holding (wpAny_pure ?_))))
  rw [makeFunction_eq]
  simp only [List.zip_nil_right, List.filterMap_nil, List.isEmpty_nil, List.isEmpty_cons, Bool.false_eq_true, if_false, if_true, pure_bind]
  refine wpAny_bind (wpAny_newTextTuple ?_)
  have nd : H1 s1.heap.objs.size = none := I1.hok.fresh (Nat.le_refl _)
  have I2 := I1.laid (t' := s1.toks) (a := s1.heap.objs.size) (h' := s1.heap.push { cls := .type "tuple", data := .seq [u].toArray }) (o := .tup [.int i]) (fun b o z => Heap.get?_push_of_some _ z) (Nat.le_refl _)
    (show ObjOk X.prog X.w _ _ _ (.tup [.int i]) from ⟨by show 1 ≤ sizeLine; decide, [u], .cons r1 .nil, IsTup.new _ _⟩)
  have x2 : ∀ b o, H1 b = some o → upd H1 s1.heap.objs.size (.tup [.int i]) b = some o := fun b o z => (upd_ne (ne_of_none z nd)).trans z
  refine lw_make I2 TB hcode hm hu (hT.ext x2) (fun y hy z => ?_) fun f k pm ctv H3 s' I3 eN T3 hf hk => ⟨.ref f, _, I3, rfl, h f k (.ref s1.heap.objs.size) pm ctv H3 ((ExtN.of x2).trans eN) T3 hf hk (.inr ⟨by simp, _, rfl, eN _ _ upd_same fun ps z => nomatch z⟩)⟩
  rcases hfr y hy z with y1 | y1
  · exact I2.ok.has _ (.inl y1)
  · exact I2.ok.has _ (.inr y1)
end
end LamW
/-! [e for y in xs] where e is told with what the def around holds when the block begins -/
namespace LamW
open PySem PySem.Spec PySem.Calls PyProof.Rows L2 LamX
/-- te: by what the names of the def hold -/
def tLcA (wi : TI) (g : TG) (te : L2.St → TE) (vs : List Nat) : TE := fun σ H Q => tLc wi g tYes (te σ) vs σ H Q
section
variable {X : Cx}
abbrev BlkAt (X : Cx) (sB : Shared) (HB : Hp) (sc : Scope) (fp : List Addr) : Cx := X.blk sB HB sc (compEnvC sc (cellsFrom (sB.heap.objs.size + 1) sc.names (cloFrom X.env.cells sc.names [])) sB.heap.objs.size X.env) fp
theorem pe_lcA {elt tg iter : Expr} {sc : Scope} {own : List (Str × Nat)} {ps : Pos} {wi : TI} {g : TG} {te : L2.St → TE} (cm : X.calm = true) (nd : X.N.Nodup) (hi : PI X tg iter wi) (bo : BlkOk X.N X.env.scope sc own)
    (hg : ∀ (sB : Shared) (HB : Hp) (C : Addr) (cl : List (Str × Addr)) (fp : List Addr), PG (X.blk sB HB sc (compEnvC sc cl C X.env) fp) tg g)
    (he : ∀ (pins : List (Addr × Obj)) (σ : L2.St) (sB : Shared) (HB : Hp) (fp : List Addr), Inv X pins σ HB sB → (∀ b ∈ fp, FpOk X pins HB b ∧ b < sB.heap.objs.size) → PE (BlkAt X sB HB sc fp) elt (te σ))
    (hs : ∀ x, foldedSetIterable iter X.env x = pure x := by intro _; rfl) : PE X (.ListComp elt [⟨tg, iter, [], 0⟩] sc ps) (tLcA wi g te (own.map (·.2))) := by
  refine ⟨fun pins s σ H Q I h => ?_⟩
  rw [eval_ListComp]
  have fr : ∀ y ∈ sc.names, y.2 = .free → ∃ k, X.env.cells.lookup y.1 = some k := fun y hy z => (bo.free y hy z).elim (fun k => I.ok.has _ (.inl k)) (fun k => I.ok.has _ (.inr k))
  refine wpAny_comprehension_free rfl hs (closure_ok fr) bo.kind (fun y hy z => by rw [bo.uniq y hy, z]) (thn (hi.run pins s σ H _ I h) fun xv sI hx => thn hx fun iv s2 h2 => ?_)
  obtain ⟨it, fp, tn, J, H2, rfl, I2, tu, at2, f2, w⟩ := h2
  refine wpAny_newObj_type (newEnv_comp ?_) (by show 0 ≤ sizeLine; decide)
  obtain ⟨D, eD⟩ : ∃ D, s2.heap.objs.size = D := ⟨_, rfl⟩
  have dn : H2 D = none := I2.hok.fresh (Nat.le_of_eq eD)
  obtain ⟨W, ⟨m0, w0⟩, trn⟩ := w D dn
  obtain ⟨sB, eB⟩ : ∃ sB : Shared, ({ s2 with heap := s2.heap.push { cls := .type "list", data := .seq ([] : List Value).toArray } } : Shared) = sB := ⟨_, rfl⟩
  have hB : sB.heap = s2.heap.push { cls := .type "list", data := .seq ([] : List Value).toArray } := by rw [← eB]
  have keepB : ∀ b o, s2.heap.get? b = some o → sB.heap.get? b = some o := fun b o z => by rw [hB]; exact Heap.get?_push_of_some _ z
  have IB : Inv X pins σ (upd H2 D (.lst [])) sB := by
    rw [← eB]
    exact I2.laid (t' := s2.toks) (fun b o z => Heap.get?_push_of_some _ z) (Nat.le_of_eq eD) ⟨Nat.zero_le _, [], 0, .nil, by rw [← eD]; exact Heap.get?_push_size _ rfl⟩
  have fB : ∀ b ∈ fp, FpOk X pins (upd H2 D (.lst [])) b ∧ b < sB.heap.objs.size := fun b hb => by
    obtain ⟨o, z, _⟩ := tu.obj _ _ at2 b hb
    have lt := Heap.lt_size z
    exact ⟨⟨by rw [upd_ne (by rw [← eD]; exact Nat.ne_of_lt lt)]; exact (f2 b hb).1, (f2 b hb).2⟩, by rw [hB, Heap.size_push]; exact Nat.lt_succ_of_lt lt⟩
  have I4 := block_start IB bo nd fB
  have pg := hg sB (upd H2 D (.lst [])) sB.heap.objs.size (cellsFrom (sB.heap.objs.size + 1) sc.names (cloFrom X.env.cells sc.names [])) fp
  have pe := he pins σ sB (upd H2 D (.lst [])) fp IB fB
  have nof : ∀ b ∈ fp, (upd H2 D (.lst [])) b = none := fun b hb => (fB b hb).1.1
  obtain ⟨HB, eH⟩ : ∃ HB, upd H2 D (.lst []) = HB := ⟨_, rfl⟩
  rw [eB, eD]
  show codeAny _ _ (.compStart (.ListComp elt [⟨tg, iter, [], 0⟩] sc ps) 0 (.ref it) (.ref D) (compEnvC sc (cellsFrom (sB.heap.objs.size + 1) sc.names (cloFrom X.env.cells sc.names [])) sB.heap.objs.size X.env)) (compPost (model X.prog X.w) X.A X.xe none (EP X pins σ Q) (.ref D) sB.heap.objs.size) { sB with heap := pushCells (sB.heap.push { cls := .type "dict", data := .dict #[] }) sc.names }
  obtain ⟨be, eE⟩ : ∃ be, compEnvC sc (cellsFrom (sB.heap.objs.size + 1) sc.names (cloFrom X.env.cells sc.names [])) sB.heap.objs.size X.env = be := ⟨_, rfl⟩
  have bL : be.locals = sB.heap.objs.size := by rw [← eE]; rfl
  have pe' : PE (X.blk sB (upd H2 D (.lst [])) sc (compEnvC sc (cellsFrom (sB.heap.objs.size + 1) sc.names (cloFrom X.env.cells sc.names [])) sB.heap.objs.size X.env) fp) elt (te σ) := pe
  rw [eE] at I4 pg pe' ⊢
  rw [eH] at I4 IB fB pg pe' nof w0
  obtain ⟨sC, eC⟩ : ∃ sC : Shared, ({ sB with heap := pushCells (sB.heap.push { cls := .type "dict", data := .dict #[] }) sc.names } : Shared) = sC := ⟨_, rfl⟩
  rw [eC] at I4 ⊢
  have at4 : tn 0 sC.heap := tu.keep _ _ _ at2 fun b _ o z => by rw [← eC]; exact pushCells_keeps _ _ _ _ (Heap.get?_push_of_some _ (keepB b o z))
  have ours : ∀ {τ : L2.St} {G : Hp} {z : Shared}, Inv (X.blk sB HB sc be fp) [] τ G z → (∀ b ∈ fp, G b = none) → ∀ b ∈ fp, FpOk (X.blk sB HB sc be fp) [] G b := fun {τ G z} Iz nz b hb =>
    ⟨nz b hb, (Iz.ok.exf b hb).1, Iz.ok.exfs b hb, .inl hb, fun x c y => (Iz.ok.exf b hb).2 x c y, fun p hp => absurd (show p ∈ ([] : List (Addr × Obj)) ++ [] from hp) (by simp)⟩
  have all : codeAny (model X.prog X.w) X.A (.compLoop (.ListComp elt [⟨tg, iter, [], 0⟩] sc ps) 0 (.ref it) (.ref D) be) (compPost (model X.prog X.w) X.A X.xe none (EP X pins σ Q) (.ref D) sB.heap.objs.size) sC := by
    refine compLoop_any (fun n z => ∃ i G, Inv (X.blk sB HB sc be fp) [] (wipe σ (own.map (·.2))) G z ∧ tn i z.heap ∧ (∀ b ∈ fp, G b = none) ∧ W i n G) ?_ m0 ⟨0, HB, I4, at4, nof, w0⟩
    intro n z ⟨i, G, Iz, atz, nz, wz⟩
    rcases trn i n G wz with ⟨stop, done⟩ | ⟨go, Nx, less, turn⟩
    · refine thnF (tu.done (X.blk sB HB sc be fp) rfl rfl rfl cm i [] z _ G (fun _ _ => False) Iz (ours Iz nz) atz stop) fun r y ⟨er, Iy⟩ => ?_
      subst er
      have Ib : Inv X pins σ G y := IB.call' (ch := fp) Iy.os Iy.base Iy.hok Iy.bare fun b hb => ⟨(fB b hb).1.2.2.2.1, (fB b hb).1.2.1, (fB b hb).1.2.2.2.2.1, (fB b hb).1.2.2.2.2.2⟩
      have nC : G sB.heap.objs.size = none := by
        have q : G be.locals = none := Iy.free
        rwa [bL] at q
      obtain ⟨m, hn, _⟩ := Iy.loc
      have hn : y.heap.Ns be.locals m := hn
      rw [bL] at hn
      obtain ⟨f0, f1, f2, f3, f4, f5⟩ := IB.fpOk (Nat.le_refl _) nC
      exact ⟨m, hn, fun h' sb => ⟨.ref D, G, Ib.turned (t' := y.toks) (fun b o hb q => (sb.2 b hb).trans q) f0 f1 f3 f4 f5, rfl, done⟩⟩
    · refine thnF (tu.item (X.blk sB HB sc be fp) rfl rfl rfl cm i [] z _ G (fun _ _ => False) Iz (ours Iz nz) atz go) fun r y ⟨u, er, hy⟩ => ?_
      subst er
      refine thnF hy fun _ x ⟨v, Gx, Ix, rx, yx, atx, nx⟩ => ?_
      refine thnF (pg.run _ x _ Gx v u _ (Ix.pinned (ours Ix nx) (tu.obj _ _ atx)) rx (turn v Gx yx)) fun _ x2 ⟨σ2, G2, J2, hw2, q2⟩ => ?_
      refine wpAny_tests_nil ?_
      rw [if_pos rfl]
      have q2 : te σ σ2 G2 fun p G4 => ∃ acc, G4 D = some (.lst acc) ∧ acc.length < sizeLine ∧ Nx (upd G4 D (.lst (acc ++ [p]))) := by
        have q3 := q2
        unfold tYes at q3
        simpa using q3
      refine thnF (pe'.run _ x2 σ2 G2 _ J2 q2) fun p x3 ⟨vp, G3, J3, rp, acc, aD, az, nx3⟩ => ?_
      refine app_ok (X := X.blk sB HB sc be fp) J3 aD az rp fun x4 J4 => ?_
      obtain ⟨m', lm, w'⟩ := less _ nx3
      have kept : ∀ b ∈ fp, ∀ o, x.heap.get? b = some o → x4.heap.get? b = some o ∧ upd G3 D (.lst (acc ++ [vp])) b = none := fun b hb o q => let k := J4.pin (b, o) (List.mem_append_right _ (List.mem_append_right _ (mem_pinsAt hb q))); ⟨k.1, k.2.1⟩
      refine ⟨m', lm, i + 1, _, (J4.unpinned (pins := [])).weak (by rw [← hw2, wipe_length]) (fun j v q => ?_), tu.keep _ _ _ atx fun b hb o q => (kept b hb o q).1, fun b hb => ?_, w'⟩
      · rw [← hw2] at q
        exact (wipe_some q).1
      · obtain ⟨o, q, _⟩ := tu.obj _ _ atx b hb
        exact (kept b hb o q).2
  exact codeAny_compStart_list all (tu.self X.A 0 _ _ _ at4 all)
end
end LamW
/-! a lambda called later on, from a block or a def beyond the one that holds its names -/
namespace LamW
open PySem PySem.Spec PySem.Calls PyProof.Rows L2 LamX
/-- a lambda's names: captured ones, globals, own parameters that the def around doesn't have -/
structure LamD (N : List Str) (sc0 sc : Scope) : Prop where
  kind : sc.kind = .function
  co : sc.isCoroutine = false
  gen : sc.isGenerator = false
  own : ∀ y ∈ sc.names, y.2 ≠ .cell ∧ (y.2 = .local → y.1 ∉ N)
  free : ∀ y ∈ sc.names, y.2 = .free → sc0.names.lookup y.1 = some .cell ∨ sc0.names.lookup y.1 = some .free
def lamDB (N : List Str) (sc0 sc : Scope) : Bool :=
  decide (sc.kind = .function) && !sc.isCoroutine && !sc.isGenerator && sc.names.all fun y => !decide (y.2 = .cell) && (!decide (y.2 = .local) || !N.contains y.1) && (!decide (y.2 = .free) || decide (sc0.names.lookup y.1 = some .cell) || decide (sc0.names.lookup y.1 = some .free))
theorem lamD_by {N : List Str} {sc0 sc : Scope} (h : lamDB N sc0 sc = true) : LamD N sc0 sc := by
  unfold lamDB at h
  simp only [Bool.and_eq_true, Bool.or_eq_true, Bool.not_eq_true', decide_eq_true_eq, decide_eq_false_iff_not, List.all_eq_true, List.contains_eq_mem] at h
  obtain ⟨⟨⟨a, b⟩, c⟩, d⟩ := h
  refine ⟨a, b, c, fun y hy => ⟨(d y hy).1.1, fun z => ?_⟩, fun y hy z => ?_⟩
  · rcases (d y hy).1.2 with q | q
    · exact absurd z q
    · exact q
  · rcases (d y hy).2 with (q | q) | q
    · exact absurd z q
    · exact .inl q
    · exact .inr q
/-- what the captured names hold, as the heap has it -/
structure Caps (X : Cx) (sc : Scope) (σ : L2.St) (H : Hp) (h : Heap) : Prop where
  val : ∀ (i : Nat) (y : Str) (v : V), X.N[i]? = some y → σ[i]? = some (some v) → sc.names.lookup y = some .free → ∃ u c, RelV v u ∧ (cloFrom X.env.cells sc.names []).lookup y = some c ∧ h.IsCell c (some u)
  any : ∀ y c, (cloFrom X.env.cells sc.names []).lookup y = some c → (∃ v, h.IsCell c v) ∧ H c = none
  inj : ∀ y z c, (cloFrom X.env.cells sc.names []).lookup y = some c → (cloFrom X.env.cells sc.names []).lookup z = some c → y = z
  has : ∀ y, sc.names.lookup y = some .free → ∃ c, (cloFrom X.env.cells sc.names []).lookup y = some c
  dn : ∀ y c, (cloFrom X.env.cells sc.names []).lookup y = some c → X.env.cells.lookup y = some c
section
variable {X : Cx} {pins : List (Addr × Obj)} {σ : L2.St} {H H' : Hp} {s : Shared} {h h' : Heap} {sc : Scope}
theorem Caps.of (I : Inv X pins σ H s) (L : LamD X.N X.env.scope sc) : Caps X sc σ H s.heap := by
  have down : ∀ {y c}, (cloFrom X.env.cells sc.names []).lookup y = some c → X.env.cells.lookup y = some c := fun {y c} z => by
    rcases cloFrom_mem (PySem.mem_of_lookup z) with q | ⟨q1, q2⟩
    · cases q
    · obtain ⟨c1, hc⟩ : ∃ c1, X.env.cells.lookup y = some c1 := (L.free _ q1 rfl).elim (fun k => I.ok.has _ (.inl k)) (fun k => I.ok.has _ (.inr k))
      rw [hc] at q2 ⊢
      rw [q2]
      rfl
  have up : ∀ {y}, sc.names.lookup y = some .free → ∃ c, (cloFrom X.env.cells sc.names []).lookup y = some c := fun {y} z => mem_lookup (cloFrom_has (cells := X.env.cells) (acc := []) (PySem.mem_of_lookup z))
  refine ⟨fun i y v e1 e2 e3 => ?_, fun y c z => ⟨I.cell y c (down z), I.freeC y c (down z)⟩, fun y z c a b => I.ok.inj y z c (down a) (down b), fun y z => up z, fun y c z => down z⟩
  obtain ⟨m, _, hl⟩ := I.loc
  have fr := L.free _ (PySem.mem_of_lookup e3) rfl
  obtain ⟨u, r, q⟩ := hl i y v e1 e2 (fr.elim (fun k => .inr (.inl k)) fun k => .inr (.inr k))
  obtain ⟨c, hc⟩ := up e3
  refine ⟨u, c, r, hc, ?_⟩
  rcases q with ⟨k, _⟩ | ⟨_, c2, e', z⟩
  · have k : X.env.scope.names.lookup y = some .local := k
    rcases fr with q | q <;> rw [q] at k <;> cases k
  · rw [down hc] at e'
    cases e'
    exact z
/-- from here to there: the cells stand -/
theorem Caps.un {fs ex : List Addr} (C : Caps X sc σ H h) (u : Un fs ex H H' h h') (hx : ∀ b ∈ ex, ∀ y c, (cloFrom X.env.cells sc.names []).lookup y = some c → c ≠ b) : Caps X sc σ H' h' := by
  have mv : ∀ {y c v}, (cloFrom X.env.cells sc.names []).lookup y = some c → h.IsCell c v → h'.IsCell c v := fun {y c v} z ⟨o, a, b⟩ => by
    obtain ⟨sl, q⟩ := u.any a (C.any _ _ z).2 fun hm => hx _ hm _ _ z rfl
    exact ⟨_, q, b⟩
  refine ⟨fun i y v e1 e2 e3 => ?_, fun y c z => ?_, C.inj, C.has, C.dn⟩
  · obtain ⟨w, c, r, a, b⟩ := C.val i y v e1 e2 e3
    exact ⟨w, c, r, a, mv a b⟩
  · obtain ⟨⟨v, o, a, b⟩, n⟩ := C.any y c z
    exact ⟨⟨v, mv z ⟨o, a, b⟩⟩, u.free _ _ a n fun hm => hx _ hm _ _ z rfl⟩
theorem Caps.kept (C : Caps X sc σ H h) (k : ∀ b o, h.get? b = some o → h'.get? b = some o) : Caps X sc σ H h' :=
  ⟨fun i y v e1 e2 e3 => let ⟨w, c, r, a, ⟨o, b, d⟩⟩ := C.val i y v e1 e2 e3; ⟨w, c, r, a, ⟨o, k _ _ b, d⟩⟩, fun y c z => let ⟨⟨v, o, a, b⟩, n⟩ := C.any y c z; ⟨⟨v, o, k _ _ a, b⟩, n⟩, C.inj, C.has, C.dn⟩
/-- the lambda's frame is laid -/
theorem caps_start {A : Around} {outer : List Env} {E : XK} {f k : Addr} {s1 : Shared} {HZ : Hp} {G : Heap} {tk : Nat} {m : Str → Option Value} (ok : X.Ok) (ln : σ.length = X.N.length) (L : LamD X.N X.env.scope sc) (C : Caps X sc σ HZ s1.heap) (e0 : Env0 X.prog X.w X.K X.mg X.base A outer s1 HZ) (cm : A.handled = none)
    (hns : G.Ns s1.heap.objs.size m) (kp : ∀ b o, s1.heap.get? b = some o → G.get? b = some o) : Inv (lamCx X A outer s1 HZ E sc f k) [] σ HZ { s1 with heap := G, toks := tk } := by
  have nox : ∀ b : Addr, b ∉ (lamCx X A outer s1 HZ E sc f k).ex := fun b z => absurd (show b ∈ ([] : List Addr) from z) (by simp)
  have C2 := C.kept kp
  refine ⟨⟨e0.mod, L.kind, rfl, rfl, Nat.le_refl _, fun y z c a b => C.inj y z c a b, fun y hy => ?_, fun y c z _ => ?_, fun _ => cm, Around.frames_deeper e0.frames, .inr ⟨rfl, rfl⟩, fun b z => absurd z (nox b), e0.bs, e0.bsz, fun b _ _ => nox b, fun b z => absurd z (nox b), e0.funs, e0.frf⟩,
    rfl, e0.bare, Un.kept kp, ⟨m, hns, fun i y v e1 e2 e3 => ?_⟩, fun y c z => (C2.any y c z).1, e0.hok.fresh (Nat.le_refl _), fun y c z => (C2.any y c z).2, fun q hq => absurd (show q ∈ ([] : List (Addr × Obj)) ++ [] from hq) (by simp), e0.hok.kept kp, ln⟩
  · have hy : sc.names.lookup y = some .cell ∨ sc.names.lookup y = some .free := hy
    rcases hy with hy | hy
    · exact absurd rfl (L.own _ (PySem.mem_of_lookup hy)).1
    · exact C.has y hy
  · have z : false = true := z
    cases z
  · have e3 : Vis sc y := e3
    rcases e3 with q | q | q
    · exact absurd (List.mem_of_getElem? (show X.N[i]? = some y from e1)) ((L.own _ (PySem.mem_of_lookup q)).2 rfl)
    · exact absurd rfl (L.own _ (PySem.mem_of_lookup q)).1
    · obtain ⟨u, c, r, a, b⟩ := C2.val i y v e1 e2 q
      exact ⟨u, r, .inr ⟨.inr q, c, a, b⟩⟩
end
end LamW
namespace LamW
open PySem PySem.Spec PySem.Calls PyProof.Rows L2 LamX
/-- called with nothing: what the lambda's own parameters get -/
def DvAt (h : Heap) (ds : List V) (dV : Value) : Prop := (ds = [] ∧ dV = .none) ∨ (ds ≠ [] ∧ ∃ (d : Addr) (its : List Value), dV = .ref d ∧ Vals ds its ∧ IsTup h d its.toArray)
def BindL (ar : Arguments) (sc : Scope) (ds : List V) : Prop := ∀ (s : Shared) (q : Str) (e : Expr) (cl : List (Str × Addr)) (dV pm cv ctv : Value), DvAt s.heap ds dV →
  ∃ bs, BindsTo s (lwFn q ar e sc cl dV pm cv ctv) ⟨[], []⟩ bs ∧ ∀ y ∈ bs, sc.names.lookup y.1 = some .local
theorem bindL0 {ar : Arguments} {sc : Scope} (h : ∀ (q : Str) (e : Expr) (cl : List (Str × Addr)) (pm cv ctv : Value), bindArgs (lwFn q ar e sc cl .none pm cv ctv) ⟨[], []⟩ = pure []) : BindL ar sc [] := fun s q e cl dV pm cv ctv d => by
  rcases d with ⟨_, rfl⟩ | ⟨n, _⟩
  · exact ⟨[], BindsTo.of_eq (h q e cl pm cv ctv), fun y hy => absurd hy (by simp)⟩
  · exact absurd rfl n
theorem bindL1 {ar : Arguments} {sc : Scope} {d : V} {y : Str} (hy : sc.names.lookup y = some .local) (h : ∀ (q : Str) (e : Expr) (cl : List (Str × Addr)) (T : Addr) (pm cv ctv u : Value), ∃ k, bindArgs (lwFn q ar e sc cl (.ref T) pm cv ctv) ⟨[], []⟩ = seqItems? (.ref T) >>= k ∧ k (some #[u]) = pure [(y, u)]) : BindL ar sc [d] := fun s q e cl dV pm cv ctv dv => by
  rcases dv with ⟨n, _⟩ | ⟨_, T, its, rfl, r, o, a, _, n, b⟩
  · cases n
  · obtain ⟨u, rfl⟩ : ∃ u, its = [u] := by
      match its, r with
      | [u], _ => exact ⟨u, rfl⟩
    obtain ⟨k, e1, e2⟩ := h q e cl T pm cv ctv u
    refine ⟨[(y, u)], fun M A E Q hq => ?_, fun z hz => ?_⟩
    · rw [e1]
      refine wpAny_bind (wpAny_seqItems a b ?_)
      have e2 : k (some [u].toArray) = pure [(y, u)] := e2
      rw [e2]
      exact wpAny_pure hq
    · rw [List.mem_singleton.mp hz]
      exact hy
section
variable {X : Cx} {σ : L2.St} {H : Hp} {s : Shared}
/-- a(), a the name of the lambda in the def that got it -/
theorem pe_act3 {CXg : CXT} {Eg : XK} {Ng : List Str} {qg : Str} {sg : Scope} {g f k : Addr} {cdg dV pm ctv : Value} {ar : Arguments} {e : Expr} {sc : Scope} {ds : List V} {n i : Nat} {a : Str} {pn : List (Addr × Obj)} {xe : Value → Shared → Prop} {W : WX} {E : XK} {tb : TE} {p1 p2 : Pos}
    (ok : X.Ok) (ln : σ.length = X.N.length) (L : LamD X.N X.env.scope sc) (C : Caps X sc σ H s.heap) (hf : H f = some (FunK f (lwOf X ar e sc dV pm k ctv))) (hd : (ds = [] ∧ dV = .none) ∨ (ds ≠ [] ∧ ∃ d, dV = .ref d ∧ H d = some (.tup ds))) (hb : BindL ar sc ds)
    (tk : Takes ((cxOf CXg X.prog X.w X.K X.mg X.base Ng qg sg g cdg X.A X.stack s H Eg).tr pn xe) W) (hW : ∀ cls d σ' H', E cls d H' → W cls d σ' H') (hr : Room (n + 1) (X.A.deeper (envOfC qg sg s.heap.objs.size g cdg)))
    (hbody : ∀ (A : Around) (outer : List Env) (s : Shared) (H : Hp), Room n (A.deeper (lamEnv X sc s.heap.objs.size f k)) → PE (lamCx X A outer s H E sc f k) e tb)
    (hN : Ng[i]? = some a) (hv : Vis sg a) (hdb : (a == ("__debug__" : Str)) = false := by decide) (hcd : (a == ("__classdict__" : Str)) = false := by decide) :
    PE ((cxOf CXg X.prog X.w X.K X.mg X.base Ng qg sg g cdg X.A X.stack s H Eg).tr pn xe) (.Call (.Name a p1) [] [] p2)
      (fun τ G Q => τ[i]? = some (some (.ref f)) ∧ G k = some (CodeO k (X.env.qual ++ "<lambda>")) ∧ tb σ G Q) := by
  refine ⟨fun pz z τ G Q IZ ⟨h1, h2, h3⟩ => ?_⟩
  refine wpAny_Call_Name_kw (thn ((pe_var (pos := p1) (i := i) hN hv hdb hcd).run pz z τ G (fun v H1 => v = .ref f ∧ H1 = G) IZ ⟨.ref f, h1, rfl, rfl⟩) fun u s1 ⟨v, H1, I1, r1, q1⟩ => ?_)
  obtain ⟨rfl, rfl⟩ := q1
  obtain rfl : u = Value.ref f := r1
  have un : Un (frs X.stack) [] H H1 s.heap s1.heap := I1.base
  have of1 : s1.heap.get? f = some (lwOf X ar e sc dV pm k ctv) := (I1.hok f _ (un.frzs _ _ _ hf)).1
  have C1 : Caps X sc σ H1 s1.heap := C.un un fun b hb => absurd hb (by simp)
  have dv : DvAt s1.heap ds dV := by
    rcases hd with q | ⟨q, d, rfl, y⟩
    · exact .inl q
    · obtain ⟨_, its, r, t⟩ := I1.hok d _ (un.tups _ _ y)
      exact .inr ⟨q, d, its, rfl, r, t⟩
  obtain ⟨bs, bt, bl⟩ := hb s1 (X.env.qual ++ "<lambda>") e (cloFrom X.env.cells sc.names []) dV pm (.ref k) ctv dv
  refine PySem.W.callWith_F0 ⟨_, _, _, _, of1⟩ ?_
  obtain ⟨⟨oc, vs, t, hoc, hdc, hvc⟩, _, _⟩ := I1.hok k _ h2
  have rc : codeAny (model X.prog X.w) (X.A.deeper (envOfC qg sg s.heap.objs.size g cdg)) (.call (.ref f) ⟨[], []⟩) (CR (L2.CX X.prog X.w) (envOfC qg sg s.heap.objs.size g cdg :: X.stack) X.prog X.w H1 s1 Q E) s1 := by
    refine PySem.W.kla_callFunE hr.depth of1 rfl L.co L.gen rfl ⟨k, oc, vs, t, rfl, hoc, hdc, hvc⟩ ?_
    refine bt _ _ _ _ (wpAny_newFunctionEnv (fun y hy => (L.own y hy).1) bl (fun G1 hns hsb => ⟨I1.nolimit.fresh _ hsb, ?_⟩) L.kind)
    show codeAny _ _ (.expr e (lamEnv X sc s1.heap.objs.size f k)) _ _
    have kp : ∀ b o, s1.heap.get? b = some o → G1.get? b = some o := fun b o y => hsb.extBut b o (Nat.ne_of_lt (Heap.lt_size y)) (Heap.get?_push_of_some _ y)
    have J : Inv (lamCx X (X.A.deeper (envOfC qg sg s.heap.objs.size g cdg)) (envOfC qg sg s.heap.objs.size g cdg :: X.stack) s1 H1 E sc f k) [] σ H1 { s1 with heap := G1, toks := s1.toks + bs.length } :=
      caps_start ok ln L C1 I1.env0 hr.hd hns kp
    refine PySem.W.kla_codeExpr (wpAny_mono ((hbody _ _ s1 H1 (hr.deeper _)).run [] _ _ H1 Q J h3) (fun v s' hq => ?_) fun _ _ hq => hq)
    obtain ⟨w', H', J', rv, q⟩ := hq
    exact ⟨w', H', J'.os, J'.bare, J'.base, J'.hok, rv, q⟩
  have hx : Passes (L2.CX X.prog X.w) ((cxOf CXg X.prog X.w X.K X.mg X.base Ng qg sg g cdg X.A X.stack s H Eg).tr pn xe) E := passes_call tk hW
  refine wpAny_call (codeAny_mono rc fun r s' hq => ?_)
  cases r with
  | error y => exact hx pz τ H1 s1 y s' I1 hq
  | ok fl =>
    cases fl with
    | ret u => exact I1.after hq
    | next => exact False.elim hq
    | brk => exact False.elim hq
    | cont => exact False.elim hq
/-- a lambda as it is written: its parameters, its text, its names, its defaults, its reading -/
structure Ask where
  ar : Arguments
  e : Expr
  sc : Scope
  ds : List V
  t : XK → TE
structure AskOk (X : Cx) (n : Nat) (a : Ask) : Prop where
  L : LamD X.N X.env.scope a.sc
  B : BindL a.ar a.sc a.ds
  P : ∀ (A : Around) (outer : List Env) (s : Shared) (H : Hp) (E : XK) (f k : Addr), Room n (A.deeper (lamEnv X a.sc s.heap.objs.size f k)) → PE (lamCx X A outer s H E a.sc f k) a.e (a.t E)
/-- v is the function of the lambda a -/
def FunAt (X : Cx) (a : Ask) (G : Hp) (v : V) : Prop := ∃ (f k : Addr) (dV pm ctv : Value), v = .ref f ∧ G f = some (FunK f (lwOf X a.ar a.e a.sc dV pm k ctv)) ∧ ((a.ds = [] ∧ dV = .none) ∨ (a.ds ≠ [] ∧ ∃ d, dV = .ref d ∧ G d = some (.tup a.ds))) ∧ G k = some (CodeO k (X.env.qual ++ "<lambda>"))
/-- x(y), y one of these lambdas -/
def tAsk (X : Cx) (as : List Ask) (TT : (XK → Hp → VK → Prop) → Hp → VK → Prop) (i : Nat) (σ : L2.St) : TE := fun τ G Q => ∃ a ∈ as, ∃ v, τ[i]? = some (some v) ∧ FunAt X a G v ∧ TT (fun E H' Q' => a.t E σ H' Q') G Q
theorem pe_ask {pins : List (Addr × Obj)} {sB : Shared} {HB : Hp} {fp : List Addr} {scb : Scope} {as : List Ask} {TT : (XK → Hp → VK → Prop) → Hp → VK → Prop} {x a y : Str} {g : Addr} {n i : Nat} {pg : Arguments} {bg : List Stmt} {sg : Scope} {dV kV doc pm cdv ct oc : Value} {an od : Option Addr} {osl : Array (Option Value)} {Ng : List Str} {p p3 pos : Pos}
    (IB : Inv X pins σ HB sB) (hfp : ∀ b ∈ fp, FpOk X pins HB b ∧ b < sB.heap.objs.size) (hA : ∀ a ∈ as, AskOk X n a) (hg : Gl (BlkAt X sB HB scb fp) x) (hm : X.mg x = some (.ref g)) (hk : PySem.W.keepIn X.K (.ref g) = true)
    (lk : X.K.lookup g = some ⟨oc, od, .func (PySem.W.fnOf x x pg bg sg dV kV doc pm an cdv ct), osl⟩) (hcg : PySem.W.codeIn X.K cdv x = true) (hb : L2.Binds X.K (PySem.W.fnOf x x pg bg sg dV kV doc pm an cdv ct) [a] []) (Sg : FnScope Ng [a] sg) (hNg : Ng[0]? = some a) (hva : Vis sg a)
    (hG : GivesTo X Ng x sg g cdv bg a (X.env.qual ++ "<lambda>") TT) (hr : Room (n + 2) X.A) (hy : PE (BlkAt X sB HB scb fp) (.Name y p3) (tVar i))
    (hdb : (x == ("__debug__" : Str)) = false := by decide) (hd : (a == ("__debug__" : Str)) = false := by decide) (hcd : (a == ("__classdict__" : Str)) = false := by decide) :
    PE (BlkAt X sB HB scb fp) (.Call (.Name x p) [.Name y p3] [] pos) (tAsk X as TT i σ) := by
  refine ⟨fun pb s τ G Q IJ h => ?_⟩
  obtain ⟨q, hq, v, hv, hF, hT⟩ := h
  have aok := hA q hq
  have C0 := (Caps.of IB aok.L).un IJ.base fun b hb y c z => (hfp b hb).1.2.2.2.2.1 y c ((Caps.of IB aok.L).dn y c z)
  refine wpAny_Call_Name_kw (ld_glob IJ hg hm ?_ hdb)
  refine PySem.W.callWith_K (h₀ := X.base) IJ.ok.mod.kin hk ?_ (by rfl) (by rfl)
  show wpAny _ _ (spliced ((false, eval (.Name y p3) (BlkAt X sB HB scb fp).env) :: backTo pos (starEach [] (BlkAt X sB HB scb fp).env))) _ _ s
  refine Calls.spliced_cons (thn (hy.run pb s τ G (fun w G' => w = v ∧ G' = G) IJ ?_) fun u s1 ⟨w, G1, I1, r1, q1⟩ => ?_)
  · exact ⟨v, hv, rfl, rfl⟩
  obtain ⟨rfl, rfl⟩ := q1
  refine Calls.spliced_nil ⟨I1.kIn, ?_⟩
  obtain ⟨f, k, dv, pm', ctv, rfl, f1, f2, f3⟩ := hF
  obtain rfl : u = Value.ref f := r1
  have C1 := (Caps.of IB aok.L).un I1.base fun b hb y c z => (hfp b hb).1.2.2.2.2.1 y c ((Caps.of IB aok.L).dn y c z)
  have rc : codeAny (model X.prog X.w) X.A (.call (.ref g) ⟨[.ref f], []⟩) (CR C8.CX0 X.stack X.prog X.w G1 s1 Q C8.E0) s1 := by
    refine run_ofS (N := Ng) (ps := [a]) (us := [.ref f]) (vs := [.ref f]) lk hcg Sg hr I1.env0 (hb s1 [.ref f] I1.kIn rfl) (.cons rfl .nil) rfl fun hr' => ?_
    obtain ⟨t', ht', hq'⟩ := hG f k s1 G1 Q (fun E H' Q' => q.t E σ H' Q') (fun W pn xe E p1 p2 tk hW => pe_act3 (i := 0) IB.ok IB.len aok.L C1 f1 f2 aok.B tk hW hr' (fun A outer s H hr2 => aok.P A outer s H E f k hr2) hNg hva hd hcd) f3 hT
    exact ⟨t', ht'.nox, hq'⟩
  refine wpAny_call (codeAny_mono rc fun r s2 hq => ?_)
  cases r with
  | error e => exact (show False from hq).elim
  | ok fl =>
    cases fl with
    | ret u => exact I1.after hq
    | next => exact False.elim hq
    | brk => exact False.elim hq
    | cont => exact False.elim hq
end
end LamW
/-! [_law_refusal(x) for x in asks], asks a list of lambdas: runs -/
namespace Pu
open PySem PySem.Spec PyProof.Rows L2 LB LamW
open Classical
noncomputable def asksP (cs : List Addr) (d : Nat) (σ : PS) : List FE → PM → Res Unit
  | [], M => .ok () M
  | fe :: fes, M => (fRef cs fe σ M).nox.bnd fun y M2 => match M2[d]? with
    | some (.lst acc) => if acc.length < lim then asksP cs d σ fes (M2.set d (.lst (acc ++ [y]))) else .bad
    | _ => .bad
noncomputable def fAsksL (cs : List Addr) (ia : Nat) (fes : List FE) : FE := fun σ M => if ia < σ.length then (asksP cs M.length σ fes (M ++ [.lst []])).bnd fun _ M2 => .ok (.ref M.length) M2 else .bad
section
variable {X : Cx} {tb : List (Addr × Str)} {E : XK} {K : PySem.W.Frag} {ι ι' : Nat → Addr} {n : Nat} {H H' : Hp} {M : PM} {σp : PS} {σ : L2.St} {i ia : Nat} {as : List Ask} {fes : List FE} {cs : List Addr} {CS : Addr}
theorem FunAt.mono {a : Ask} {v : V} (e : Ex ι ι' n H H') (h : FunAt X a H v) : FunAt X a H' v := by
  obtain ⟨f, k, dV, pm, ctv, rfl, h1, h2, h3⟩ := h
  refine ⟨f, k, dV, pm, ctv, rfl, e.z _ _ _ h1, ?_, e.c _ _ h3⟩
  rcases h2 with q | ⟨q, d, z, y⟩
  · exact .inl q
  · exact .inr ⟨q, d, z, e.t _ _ y⟩
/-- slot i holds a list of these lambdas, which stays as it is -/
def AsksAt (X : Cx) (as : List Ask) (H : Hp) (σ : L2.St) (i : Nat) : Prop := ∃ (D : Addr) (o : Obj) (vs : List V), σ[i]? = some (some (.ref D)) ∧ H D = some (.frz o (.lst vs)) ∧ as.length < 1000 ∧ Paired (fun a v => FunAt X a H v) as vs
/-- on such a list alone -/
def gE (X : Cx) (as : List Ask) (i : Nat) (t : TE) : TE := fun σ H Q => AsksAt X as H σ i → t σ H Q
def gT (X : Cx) (as : List Ask) (i : Nat) (t : TT) : TT := fun σ H Q => AsksAt X as H σ i → t σ H Q
def gS (X : Cx) (as : List Ask) (i : Nat) (t : TS) : TS := fun D σ H => AsksAt X as H σ i → t D σ H
theorem sm_asks (hx : ∀ C ∈ cs, XF K CS C) (hfe : Paired (fun (a : Ask) fe => ∀ E', SmE tb E' (a.t E') fe) as fes) :
    SmE tb E (gE X as i (tLcA (iList K (tVar i)) (gName ia) (tAsk X as (TRef K CS) ia) [ia])) (fAsksL cs ia fes) := by
  intro ι M H σp σ Q R S w A
  obtain ⟨D, od, vs, e1, hD1, small, pr⟩ := A
  unfold fAsksL at w
  split at w
  case isFalse => exact (w : False).elim
  rename_i hia
  have hia : ia < σ.length := by rw [← S.1]; exact hia
  refine ⟨.ref D, e1, D, rfl, ⟨vs, .inl (.inr ⟨od, hD1⟩)⟩, fun B nB => ?_⟩
  have Rn := R.lst (xs := []) (vs := []) Rvs.nil nB
  have ex1 : Ex ι (ext ι M.length B) M.length H (upd H B (.lst [])) := ex_ext nB
  have l0 : (M ++ [PO.lst []]).length = M.length + 1 := by simp
  have lens : as.length = fes.length ∧ as.length = vs.length := ⟨Paired.length hfe, Paired.length pr⟩
  refine lc_list (K := K) (a := D) (xs := vs) (fun j G => ∃ ι' M', On tb (ext ι M.length B) (M.length + 1) (upd H B (.lst [])) ι' M' G ∧ Wp tb Rv ι' M'.length G ((asksP cs M.length σp (fes.drop j) M').bnd fun _ M2 => .ok (.ref M.length) M2) Q E)
    ⟨_, _, ⟨.refl, Nat.le_of_eq l0.symm, Rn.1⟩, ?_⟩ ?_ ?_ ?_
  · rw [l0]
    exact w.back ex1 (Nat.le_succ _)
  · rintro j G _ ⟨ι', M', o, _⟩
    exact .inl (.inr ⟨od, o.e.z _ _ _ (ex1.z _ _ _ hD1)⟩)
  · rintro j x G hx1 ⟨ι', M', o, w'⟩
    have lj := (List.getElem?_eq_some_iff.mp hx1).1
    have la : j < as.length := by omega
    have lf : j < fes.length := by omega
    have oE : Ex ι ι' M.length H G := ex1.trans o.e (Nat.le_succ _)
    have fa : FunAt X as[j] G x := by
      obtain ⟨v, e, q⟩ := L2.paired_get pr (List.getElem?_eq_getElem la)
      rw [hx1] at e
      cases e
      exact FunAt.mono oE q
    have sf : ∀ E', SmE tb E' (as[j].t E') fes[j] := by
      obtain ⟨v, e, q⟩ := L2.paired_get hfe (List.getElem?_eq_getElem la)
      rw [List.getElem?_eq_getElem lf] at e
      cases e
      exact q
    have S1 : Rs ι' M'.length G σp σ := S.mono oE (Nat.le_trans (Nat.le_succ _) o.l)
    have lw : (wipe σ [ia]).length = σ.length := wipe_length σ [ia]
    show wipe ((wipe σ [ia]).set ia (some x)) [ia] = wipe σ [ia] ∧ tYes _ G _
    refine ⟨by simp [wipe], ?_⟩
    show tAsk X as (TRef K CS) ia σ _ G _
    refine ⟨as[j], List.getElem_mem la, x, List.getElem?_set_self (by rw [lw]; exact hia), fa, ?_⟩
    rw [List.drop_eq_getElem_cons lf] at w'
    unfold asksP at w'
    have asc2 : ∀ (r : Res PV) (k : PV → PM → Res Unit), ((r.nox.bnd k).bnd fun _ M2 => Res.ok (PV.ref M.length) M2) = r.nox.bnd fun b N => (k b N).bnd fun _ M2 => Res.ok (PV.ref M.length) M2 := fun r k => by cases r <;> rfl
    rw [asc2] at w'
    have go := SmE.nox (sm_ref (tb := tb) (E := E0) (t := as[j].t) (fe := fes[j]) hx sf) o.r S1 w' (Q' := fun y G4 => ∃ acc, G4 B = some (.lst acc) ∧ acc.length < sizeLine ∧ ∃ ι' M', On tb (ext ι M.length B) (M.length + 1) (upd H B (.lst [])) ι' M' (upd G4 B (.lst (acc ++ [y]))) ∧ Wp tb Rv ι' M'.length (upd G4 B (.lst (acc ++ [y]))) ((asksP cs M.length σp (fes.drop (j + 1)) M').bnd fun _ M2 => .ok (.ref M.length) M2) Q E) (fun ι4 M4 G4 y v o4 S5 ry w4 => ?_)
    · exact go.2 G (LamX.ExtN.refl G) o.r.tab
    · have oo := o.trans o4
      have d4 : ι4 M.length = B := (oo.e.i _ (Nat.lt_succ_self _)).trans ext_same
      split at w4
      · rename_i acc ea
        split at w4
        · rename_i hl
          have ld : M.length < M4.length := oo.l
          obtain ⟨vacc, e5, racc⟩ := o4.r.obj M.length _ ea
          rw [d4] at e5
          have hz : ∀ o u, G4 (ι4 M.length) ≠ some (.frz o u) := fun o u z => by rw [d4, e5] at z; cases z
          have ex5 : Ex ι4 ι4 M4.length G4 (upd G4 (ι4 M.length) (.lst (vacc ++ [v]))) := ex_chg o4.r ld hz
          have R5 := o4.r.chg (o := .lst (acc ++ [y])) (x := .lst (vacc ++ [v])) ld hz ⟨_, upd_same, (racc.app (.cons ry .nil)).mono ex5 (Nat.le_refl _)⟩
          rw [d4] at R5 ex5
          refine ⟨vacc, e5, by rw [← racc.len]; exact lim_lt hl, ι4, _, ⟨oo.e.trans ex5 oo.l, by rw [List.length_set]; exact oo.l, R5⟩, ?_⟩
          rw [List.length_set]
          exact w4.back ex5 (Nat.le_refl _)
        · exact (w4 : False).elim
      · exact (w4 : False).elim
  · rintro G ⟨ι', M', o, w'⟩
    rw [List.drop_of_length_le (by omega)] at w'
    unfold asksP at w'
    refine w' ι' G _ .refl (Nat.le_refl _) o.r ?_
    have r := Rv.mk_ref (ι := ι') (N := M'.length) (H := G) (k := M.length) o.l
    have atD : ι' M.length = B := (o.e.i _ (Nat.lt_succ_self _)).trans ext_same
    rw [atD] at r
    exact r
end
end Pu
/-! lists of lambdas made, put together -/
namespace Pu
open PySem PySem.Spec PyProof.Rows L2 LB LamW
open Classical
/-- a list display whose list stays as it is -/
def tLstK (t : TA) : TE := fun σ H Q => t σ H fun xs H1 => xs.length ≤ sizeLine ∧ ∀ p o, H1 p = none → Q (.ref p) (upd H1 p (.frz o (.lst xs)))
def rCatK : R2 := fun x y H Q => ∃ l b o1 o2 xs zs, x = .ref l ∧ y = .ref b ∧ H l = some (.frz o1 (.lst xs)) ∧ H b = some (.frz o2 (.lst zs)) ∧ xs.length + zs.length ≤ sizeLine ∧ ∀ p o, H p = none → Q (.ref p) (upd H p (.frz o (.lst (xs ++ zs))))
section
variable {X : Cx} {es : List Expr} {t : TA} {pos : Pos}
theorem pe_lstK (h : PA X es t) : PE X (.List es pos) (tLstK t) := by
  refine ⟨fun pins s σ H Q I hq => ?_⟩
  refine wpAny_List_spliced (thn (h.run pos pins s σ H _ I hq) fun us s1 ⟨xs, H1, I1, r, z, q⟩ => ⟨by rw [← r.length]; exact z, ?_⟩)
  have g : (s1.heap.push { cls := .type "list", data := .seq us.toArray }).get? s1.heap.objs.size = some { cls := .type "list", data := .seq us.toArray } := Heap.get?_push_size _ rfl
  exact ⟨.ref s1.heap.objs.size, _, I1.laid (o := .frz _ (.lst xs)) (t' := s1.toks) (fun b u y => Heap.get?_push_of_some _ y) (Nat.le_refl _) ⟨g, z, us, 0, r, g⟩, rfl, q _ _ (I1.hok.fresh (Nat.le_refl _))⟩
theorem op_catK : OpR X (binaryOp .Add) rCatK := by
  intro pins s σ H x y v u Q I rx ry h
  obtain ⟨l, b, o1, o2, xs, zs, rfl, rfl, hH, hB, hz, q⟩ := h
  cases rx
  cases ry
  obtain ⟨_, z, its, n, r, e⟩ := I.hok l _ hH
  obtain ⟨_, z2, its2, n2, r2, e2⟩ := I.hok b _ hB
  have l1 := r.length
  have l2 := r2.length
  refine PySem.P.add_list e e2 ?_ (by rw [List.size_toArray, List.size_toArray]; omega)
  have ea : its.toArray ++ its2.toArray = (its ++ its2).toArray := by simp
  rw [ea]
  have g : (s.heap.push { cls := .type "list", data := .seq (its ++ its2).toArray }).get? s.heap.objs.size = some { cls := .type "list", data := .seq (its ++ its2).toArray } := Heap.get?_push_size _ rfl
  exact ⟨.ref _, _, I.laid (o := .frz _ (.lst (xs ++ zs))) (t' := s.toks) (fun b u y => Heap.get?_push_of_some _ y) (Nat.le_refl _) ⟨g, by rw [List.length_append]; omega, its ++ its2, 0, r.append r2, g⟩, rfl, q _ _ I.fresh⟩
end
section
variable {X : Cx} {tb : List (Addr × Str)} {E : XK} {ι ι' : Nat → Addr} {n : Nat} {H H' : Hp} {M : PM} {σp : PS} {σ : L2.St} {i : Nat} {as bs : List Ask} {ta : TA} {u : TS} {f : FS}
theorem ex_extN (x : LamX.ExtN H H') : Ex ι ι n H H' := ⟨fun _ _ => rfl, fun a vs e => x _ _ e fun ps z => (nomatch z), fun a o u e => x _ _ e fun ps z => (nomatch z), fun a q e => x _ _ e fun ps => LamX.codeO_ne ps⟩
theorem RM.extN (r : RM tb ι M H) (x : LamX.ExtN H H') (t : LamX.Tabs tb H') : RM tb ι M H' := ⟨r.inj, fun i o h => by
  obtain ⟨y, e, _, nt⟩ := (r.obj i o h).some
  exact (r.obj i o h).mono (ex_extN x) (Nat.le_refl _) ((x _ _ e nt).trans e.symm), t⟩
/-- these arguments are these lambdas -/
def LamArgs (X : Cx) (tb : List (Addr × Str)) (ta : TA) (as : List Ask) : Prop := ∀ (ι : Nat → Addr) (M : PM) (H : Hp) (σ : L2.St) (Q : List V → Hp → Prop), RM tb ι M H → (∀ H' vs, LamX.ExtN H H' → RM tb ι M H' → Paired (fun a v => FunAt X a H' v) as vs → Q vs H') → ta σ H Q
theorem lamArgs_nil : LamArgs X tb tNil [] := fun ι M H σ Q R h => h H [] (LamX.ExtN.refl H) R .nil
theorem paired_ex (x : Ex ι ι n H H') : ∀ {as : List Ask} {vs : List V}, Paired (fun a v => FunAt X a H v) as vs → Paired (fun a v => FunAt X a H' v) as vs
  | _, _, .nil => .nil
  | _, _, .cons a b => .cons (Pu.FunAt.mono x a) (paired_ex x b)
theorem lamArgs_cons {a : Ask} {tr : TA} (h : LamArgs X tb tr as) : LamArgs X tb (tCons (tLamV tb X a.ar a.e a.sc a.ds) tr) (a :: as) := fun ι M H σ Q R hq => by
  refine ⟨R.tab, fun f k dV pm ctv H1 x1 T1 nf hk hd => ?_⟩
  have R1 : RM tb ι M H1 := R.extN x1 T1
  have R2 : RM tb ι M (upd H1 f (FunK f (lwOf X a.ar a.e a.sc dV pm k ctv))) := R1.new nf
  have x2 : LamX.ExtN H1 (upd H1 f (FunK f (lwOf X a.ar a.e a.sc dV pm k ctv))) := fun b o e _ => (upd_ne (ne_of_none e nf)).trans e
  have fa : FunAt X a (upd H1 f (FunK f (lwOf X a.ar a.e a.sc dV pm k ctv))) (.ref f) := by
    refine ⟨f, k, dV, pm, ctv, rfl, upd_same, ?_, (upd_ne (ne_of_none hk nf)).trans hk⟩
    rcases hd with q | ⟨q, d, z, y⟩
    · exact .inl q
    · exact .inr ⟨q, d, z, (upd_ne (ne_of_none y nf)).trans y⟩
  refine h ι M _ σ _ R2 fun H3 vs x3 R3 p3 => ?_
  exact hq H3 (.ref f :: vs) ((x1.trans x2).trans x3) R3 (.cons (Pu.FunAt.mono (ex_extN (ι := ι) (n := 0) x3) fa) p3)
theorem Rs.over {v : V} (r : Rs ι n H σp σ) (i : Nat) : Rs ι n H (σp.set i none) (σ.set i (some v)) := by
  refine ⟨by simpa using r.1, fun j q e => ?_⟩
  by_cases hj : j = i
  · subst hj
    have lj : j < (σp.set j none).length := (List.getElem?_eq_some_iff.mp e).1
    rw [List.length_set] at lj
    rw [List.getElem?_set_self lj] at e
    cases e
  · rw [List.getElem?_set_ne (Ne.symm hj)] at e
    rw [List.getElem?_set_ne (Ne.symm hj)]
    exact r.2 j q e
/-- slot i is nobody's business from now on -/
noncomputable def fHide (i : Nat) (f : FS) : FS := fun σ M => if i < σ.length then f (σ.set i none) M else .bad
theorem small_ok {as : List Ask} {vs : List V} {F : Ask → V → Prop} (p : Paired F as vs) (h : as.length < 1000) : vs.length ≤ sizeLine := by
  have e := Paired.length p
  rw [sizeLine_eq]
  omega
theorem sm_askBeg (hl : LamArgs X tb ta as) (small : as.length < 1000) (h : SmS tb E (gS X as i u) f) : SmS tb E (tSeq (tAsg (tLstK ta) (gName i)) u) (fHide i f) := by
  intro ι M H σp σ D R S w
  unfold fHide at w
  split at w
  case isFalse => exact (w : False).elim
  rename_i hi
  have hi : i < σ.length := by rw [← S.1]; exact hi
  refine hl ι M H σ _ R fun H1 vs x1 R1 p1 => ⟨small_ok p1 small, fun p o np => ?_⟩
  have x2 : Ex ι ι M.length H1 (upd H1 p (.frz o (.lst vs))) := ex_new np
  have x3 : Ex ι ι M.length H (upd H1 p (.frz o (.lst vs))) := (ex_extN x1).trans x2 (Nat.le_refl _)
  exact h ι M _ _ _ D (R1.new np) ((S.mono x3 (Nat.le_refl _)).over i) (w.back x3 (Nat.le_refl _)) ⟨p, o, vs, List.getElem?_set_self hi, upd_same, small, paired_ex x2 p1⟩
theorem sm_askCat (hl : LamArgs X tb ta bs) (small : (as ++ bs).length < 1000) (h : SmS tb E (gS X (as ++ bs) i u) f) : SmS tb E (gS X as i (tSeq (tAsg (tOp rCatK (tVar i) (tLstK ta)) (gName i)) u)) (fHide i f) := by
  intro ι M H σp σ D R S w A
  unfold fHide at w
  split at w
  case isFalse => exact (w : False).elim
  rename_i hi
  have hi : i < σ.length := by rw [← S.1]; exact hi
  obtain ⟨a, o1, vs, e1, e2, sm, pr⟩ := A
  have la : as.length + bs.length < 1000 := by rw [← List.length_append]; exact small
  refine ⟨.ref a, e1, hl ι M H σ _ R fun H1 ws x1 R1 p1 => ⟨small_ok p1 (by omega), fun p o np => ?_⟩⟩
  have x2 : Ex ι ι M.length H1 (upd H1 p (.frz o (.lst ws))) := ex_new np
  have x3 : Ex ι ι M.length H (upd H1 p (.frz o (.lst ws))) := (ex_extN x1).trans x2 (Nat.le_refl _)
  have l1 := Paired.length pr
  have l2 := Paired.length p1
  refine ⟨a, p, o1, o, vs, ws, rfl, rfl, x3.z _ _ _ e2, upd_same, by rw [sizeLine_eq]; omega, fun q o2 nq => ?_⟩
  have x4 : Ex ι ι M.length (upd H1 p (.frz o (.lst ws))) (upd (upd H1 p (.frz o (.lst ws))) q (.frz o2 (.lst (vs ++ ws)))) := ex_new nq
  have x5 : Ex ι ι M.length H (upd (upd H1 p (.frz o (.lst ws))) q (.frz o2 (.lst (vs ++ ws)))) := x3.trans x4 (Nat.le_refl _)
  have app : ∀ {F : Ask → V → Prop} {as bs : List Ask} {vs ws : List V}, Paired F as vs → Paired F bs ws → Paired F (as ++ bs) (vs ++ ws) := by
    intro F as bs vs ws a b
    induction a with
    | nil => exact b
    | cons x _ ih => exact .cons x ih
  refine h ι M _ _ _ D ((R1.new np).new nq) ((S.mono x5 (Nat.le_refl _)).over i) (w.back x5 (Nat.le_refl _)) ⟨q, o2, vs ++ ws, List.getElem?_set_self hi, upd_same, small, app (paired_ex x5 pr) (paired_ex (x2.trans x4 (Nat.le_refl _)) p1)⟩
/-- tests -/
theorem sm_gTest {t : TE} {fe : FE} {r : R2} {g : PV → PV → PM → Res PV} {tb' : TE} {fb : FE} (hr : SmR tb E r g) (h : SmE tb E (gE X as i t) fe) (hb : SmE tb E tb' fb) : SmT tb E (gT X as i (tTest (tOp r t tb'))) (fTest (fOp g fe fb)) := fun ι M H σp σ Q R S w A =>
  (sm_test (sm_op hr h hb)) ι M H σp σ Q R S w A
theorem sm_gIf {tt : TT} {ft : FT} {t u : TS} {f g : FS} (hc : SmT tb E (gT X as i tt) ft) (h1 : SmS tb E t f) (h2 : SmS tb E u g) : SmS tb E (gS X as i (tIfS tt t u)) (fIfS ft f g) := fun ι M H σp σ D R S w A => (sm_ifS hc h1 h2) ι M H σp σ D R S w A
theorem sm_gSeq {t u : TS} {f g : FS} (h1 : SmS tb E (gS X as i t) f) (h2 : SmS tb E u g) : SmS tb E (gS X as i (tSeq t u)) (fSeq f g) := fun ι M H σp σ D R S w A => (sm_seq h1 h2) ι M H σp σ D R S w A
end
end Pu
/-! ### a list put together, then one more appended -/
namespace Pu
open PySem PySem.Spec PyProof.Rows L2 LB LamW
open Classical
def rCatU : R2 := fun x y H Q => ∃ l b o1 o2 xs zs, x = .ref l ∧ y = .ref b ∧ H l = some (.frz o1 (.lst xs)) ∧ H b = some (.frz o2 (.lst zs)) ∧ xs.length + zs.length ≤ sizeLine ∧ ∀ p, H p = none → Q (.ref p) (upd H p (.lst (xs ++ zs)))
def rAppendK : V → List V → Hp → VK → Prop := fun x vs H Q => ∃ l xs y, x = .ref l ∧ vs = [y] ∧ H l = some (.lst xs) ∧ xs.length < sizeLine ∧ ∀ o, Q .non (upd H l (.frz o (.lst (xs ++ [y]))))
section
variable {X : Cx}
theorem op_catU : OpR X (binaryOp .Add) rCatU := by
  intro pins s σ H x y v u Q I rx ry h
  obtain ⟨l, b, o1, o2, xs, zs, rfl, rfl, hH, hB, hz, q⟩ := h
  cases rx
  cases ry
  obtain ⟨_, z, its, n, r, e⟩ := I.hok l _ hH
  obtain ⟨_, z2, its2, n2, r2, e2⟩ := I.hok b _ hB
  have l1 := r.length
  have l2 := r2.length
  refine PySem.P.add_list e e2 ?_ (by rw [List.size_toArray, List.size_toArray]; omega)
  have ea : its.toArray ++ its2.toArray = (its ++ its2).toArray := by simp
  rw [ea]
  exact ⟨.ref _, _, I.lnew (t' := s.toks) (r.append r2) (by rw [List.length_append]; omega), rfl, q _ I.fresh⟩
theorem mt_appendK : MtM X "list.append" rAppendK := by
  intro pins s σ H x vs v us Q I rx rv h
  obtain ⟨l, xs, y, rfl, rfl, hH, hz, q⟩ := h
  refine wpAny_mono (mt_append pins s σ H (.ref l) [y] v us (fun w G => w = .non ∧ G = upd H l (.lst (xs ++ [y]))) I rx rv ⟨l, xs, y, rfl, rfl, hH, hz, rfl, rfl⟩) (fun w s' ⟨w', G, I', r', e, e2⟩ => ?_) fun _ _ z => z
  subst e e2
  obtain ⟨o, I2⟩ := I'.lock (d := l) (u := .lst (xs ++ [y])) upd_same trivial
  rw [upd_upd] at I2
  exact ⟨_, _, I2, r', q o⟩
end
section
variable {X : Cx} {tb : List (Addr × Str)} {E : XK} {K : PySem.W.Frag} {ι ι' : Nat → Addr} {n : Nat} {H H' : Hp} {M : PM} {σp : PS} {σ : L2.St} {i : Nat} {as bs : List Ask} {c : Ask} {ta tc : TA} {u : TS} {f : FS}
theorem paired_app {α β : Type} {F : α → β → Prop} {as bs : List α} {vs ws : List β} (a : Paired F as vs) (b : Paired F bs ws) : Paired F (as ++ bs) (vs ++ ws) := by
  induction a with
  | nil => exact b
  | cons x _ ih => exact .cons x ih
theorem sm_askCatApp (hl : LamArgs X tb ta bs) (hc : LamArgs X tb tc [c]) (small : (as ++ bs ++ [c]).length < 1000) (h : SmS tb E (gS X (as ++ bs ++ [c]) i u) f) :
    SmS tb E (gS X as i (tSeq (tAsg (tOp rCatU (tVar i) (tLstK ta)) (gName i)) (tSeq (tDrop (tBM K "list" rAppendK (tVar i) tc)) u))) (fHide i f) := by
  intro ι M H σp σ D R S w A
  unfold fHide at w
  split at w
  case isFalse => exact (w : False).elim
  rename_i hi
  have hi : i < σ.length := by rw [← S.1]; exact hi
  obtain ⟨a, o1, vs, e1, e2, sm, pr⟩ := A
  have la : as.length + bs.length + 1 < 1000 := by
    rw [List.length_append, List.length_append] at small
    exact small
  refine ⟨.ref a, e1, hl ι M H σ _ R fun H1 ws x1 R1 p1 => ⟨small_ok p1 (by omega), fun p o np => ?_⟩⟩
  have x2 : Ex ι ι M.length H1 (upd H1 p (.frz o (.lst ws))) := ex_new np
  have x3 : Ex ι ι M.length H (upd H1 p (.frz o (.lst ws))) := (ex_extN x1).trans x2 (Nat.le_refl _)
  have l1 := Paired.length pr
  have l2 := Paired.length p1
  refine ⟨a, p, o1, o, vs, ws, rfl, rfl, x3.z _ _ _ e2, upd_same, by rw [sizeLine_eq]; omega, fun q nq => ?_⟩
  have R4 := (R1.new (x := .frz o (.lst ws)) np).new (x := .lst (vs ++ ws)) nq
  have x4 : Ex ι ι M.length (upd H1 p (.frz o (.lst ws))) (upd (upd H1 p (.frz o (.lst ws))) q (.lst (vs ++ ws))) := ex_new nq
  refine ⟨.ref q, List.getElem?_set_self hi, ?_, ?_⟩
  · exact .inl ⟨rfl, vs ++ ws, .inl (.inl upd_same)⟩
  · refine hc ι M _ _ _ R4 fun H5 ys x5 R5 p5 => ?_
    obtain ⟨y, rfl⟩ : ∃ y, ys = [y] := by
      cases p5 with
      | cons a b => cases b with
        | nil => exact ⟨_, rfl⟩
    have hq5 : H5 q = some (.lst (vs ++ ws)) := x5 _ _ upd_same fun ps z => nomatch z
    refine ⟨q, vs ++ ws, y, rfl, rfl, hq5, by rw [List.length_append, sizeLine_eq]; omega, fun o2 => ?_⟩
    have nι : ∀ j, j < M.length → ι j ≠ q := fun j hj => (R1.new (x := .frz o (.lst ws)) np).ne hj nq
    have ne : ∀ b z, H5 b = some z → (∀ ws, z ≠ .lst ws) → b ≠ q := fun b z e d w => by
      rw [w, hq5] at e
      exact d _ (Option.some.inj e).symm
    have x6 : Ex ι ι M.length H5 (upd H5 q (.frz o2 (.lst (vs ++ ws ++ [y])))) := ⟨fun _ _ => rfl, fun a vs e => (upd_ne (ne _ _ e fun _ z => nomatch z)).trans e, fun a o u e => (upd_ne (ne _ _ e fun _ z => nomatch z)).trans e, fun a q e => (upd_ne (ne _ _ e fun _ z => nomatch z)).trans e⟩
    have R6 : RM tb ι M (upd H5 q (.frz o2 (.lst (vs ++ ws ++ [y])))) := by
      refine ⟨R5.inj, fun j o e => (R5.obj j o e).mono x6 (Nat.le_refl _) (upd_ne (nι j (List.getElem?_eq_some_iff.mp e).1)), fun p hp => ?_⟩
      obtain ⟨ps, e1, e2, e3⟩ := R5.tab p hp
      refine ⟨ps, (upd_ne (ne _ _ e1 fun _ z => nomatch z)).trans e1, e2, fun pos cv hc => ?_⟩
      obtain ⟨c, e4, e5⟩ := e3 pos cv hc
      exact ⟨c, e4, (upd_ne (ne _ _ e5 fun _ z => nomatch z)).trans e5⟩
    have x7 : Ex ι ι M.length (upd H1 p (.frz o (.lst ws))) (upd H5 q (.frz o2 (.lst (vs ++ ws ++ [y])))) := (x4.trans (ex_extN x5) (Nat.le_refl _)).trans x6 (Nat.le_refl _)
    have x8 : Ex ι ι M.length H (upd H5 q (.frz o2 (.lst (vs ++ ws ++ [y])))) := x3.trans x7 (Nat.le_refl _)
    exact h ι M _ _ _ D R6 ((S.mono x8 (Nat.le_refl _)).over i) (w.back x8 (Nat.le_refl _)) ⟨q, o2, vs ++ ws ++ [y], List.getElem?_set_self hi, upd_same, small, paired_app (paired_app (paired_ex x8 pr) (paired_ex (x2.trans x7 (Nat.le_refl _)) p1)) (paired_ex x6 p5)⟩
end
end Pu
/-! ### whole statements -/
namespace Pu
open PySem PySem.Spec PyProof.Rows L2 LB LamW
open Classical
/-- the readings of these lambdas, one behind another -/
def lamTA (T : List (Addr × Str)) (X : Cx) : List Ask → TA
  | [] => tNil
  | a :: as => tCons (tLamV T X a.ar a.e a.sc a.ds) (lamTA T X as)
theorem lamArgs_of {tb : List (Addr × Str)} {X : Cx} : ∀ as : List Ask, LamArgs X tb (lamTA tb X as) as
  | [] => lamArgs_nil
  | _ :: as => lamArgs_cons (lamArgs_of as)
/-- these expressions are these lambdas -/
inductive LamEs (X : Cx) (n : Nat) : List Expr → List Ask → Prop
  | nil : LamEs X n [] []
  | cons {a : Ask} {ps : Pos} {es : List Expr} {as : List Ask} (ok : AskOk X n a) (d : (a.ds = [] ∧ defaultsOf a.ar X.env = ([], [])) ∨ ∃ (i : Int) (j : Nat) (cp : Pos), a.ds = [.int i] ∧ defaultsOf a.ar X.env = ([eval (.Constant (.int i) j cp) X.env], [])) (r : LamEs X n es as) : LamEs X n (.Lambda a.ar a.e a.sc ps :: es) (a :: as)
section
variable {X : Cx} {n : Nat} {es : List Expr} {as bs : List Ask}
theorem lamEs0 {ar : Arguments} {e : Expr} {sc : Scope} {ps : Pos} {t : XK → TE} (L : lamDB X.N X.env.scope sc = true) (hb : ∀ (q : Str) (e : Expr) (cl : List (Str × Addr)) (pm cv ctv : Value), bindArgs (lwFn q ar e sc cl .none pm cv ctv) ⟨[], []⟩ = pure [])
    (hd : defaultsOf ar X.env = ([], [])) (P : ∀ (A : Around) (outer : List Env) (s : Shared) (H : Hp) (E : XK) (f k : Addr), Room n (A.deeper (LamX.lamEnv X sc s.heap.objs.size f k)) → PE (LamX.lamCx X A outer s H E sc f k) e (t E)) (r : LamEs X n es as) :
    LamEs X n (.Lambda ar e sc ps :: es) (⟨ar, e, sc, [], t⟩ :: as) := .cons (a := ⟨ar, e, sc, [], t⟩) ⟨lamD_by L, bindL0 hb, P⟩ (.inl ⟨rfl, hd⟩) r
theorem lamEs1 {ar : Arguments} {e : Expr} {sc : Scope} {ps cp : Pos} {t : XK → TE} {i : Int} {j : Nat} {y : Str} (L : lamDB X.N X.env.scope sc = true) (hy : sc.names.lookup y = some .local)
    (hb : ∀ (q : Str) (e : Expr) (cl : List (Str × Addr)) (T : Addr) (pm cv ctv u : Value), ∃ k, bindArgs (lwFn q ar e sc cl (.ref T) pm cv ctv) ⟨[], []⟩ = seqItems? (.ref T) >>= k ∧ k (some #[u]) = pure [(y, u)])
    (hd : defaultsOf ar X.env = ([eval (.Constant (.int i) j cp) X.env], [])) (P : ∀ (A : Around) (outer : List Env) (s : Shared) (H : Hp) (E : XK) (f k : Addr), Room n (A.deeper (LamX.lamEnv X sc s.heap.objs.size f k)) → PE (LamX.lamCx X A outer s H E sc f k) e (t E)) (r : LamEs X n es as) :
    LamEs X n (.Lambda ar e sc ps :: es) (⟨ar, e, sc, [.int i], t⟩ :: as) := .cons (a := ⟨ar, e, sc, [.int i], t⟩) ⟨lamD_by L, bindL1 hy hb, P⟩ (.inr ⟨i, j, cp, rfl, hd⟩) r
theorem LamEs.ok : ∀ {es : List Expr} {as : List Ask}, LamEs X n es as → ∀ a ∈ as, AskOk X n a
  | _, _, .nil => fun a h => absurd h (by simp)
  | _, _, .cons ok _ r => fun a h => (List.mem_cons.mp h).elim (fun z => z ▸ ok) fun z => r.ok a z
variable {cc P : Addr} {q : Str}
theorem LamEs.pa (TB : LamX.TabB X.base X.mg cc P) (hcode : X.env.code = .ref cc) (hq : q = X.env.qual ++ "<lambda>") {es : List Expr} {as : List Ask} (L : LamEs X n es as) : PA X es (lamTA [(P, q)] X as) := by
  subst hq
  have m : (P, X.env.qual ++ "<lambda>") ∈ [(P, X.env.qual ++ "<lambda>")] := List.mem_cons_self
  have u : ∀ p ∈ [(P, X.env.qual ++ "<lambda>")], p.1 = P → p.2 = X.env.qual ++ "<lambda>" := fun p hp _ => by rw [List.mem_singleton.mp hp]
  induction L with
  | nil => exact pa_nil
  | cons ok d r ih =>
    refine pa_cons ?_ ih
    rcases d with ⟨d1, d2⟩ | ⟨i, j, cp, d1, d2⟩
    · rw [d1]
      exact pe_lamv TB hcode m u ok.L.free d2
    · rw [d1]
      exact pe_lamd TB hcode m u ok.L.free d2
variable {rest : List Stmt} {u : TS} {x : Str} {i : Nat} {py p2 pos po : Pos}
theorem pss_askBeg (TB : LamX.TabB X.base X.mg cc P) (hcode : X.env.code = .ref cc) (hq : q = X.env.qual ++ "<lambda>") (nd : X.N.Nodup) (hi : X.N[i]? = some x) (hx : Loc X.env.scope x) (L : LamEs X n es as) (hr : (∀ a ∈ as, AskOk X n a) → PSs X rest u)
    (hs : swapsWith (.List es p2) (some (.Name x py)) pos.line X.env = pure false := by rfl) (hf : X.fn x = true ∨ X.env.scope.names.lookup x = some .local := by first | exact .inl rfl | exact .inr rfl) :
    PSs X (.Assign [.Name x py] (.List es p2) pos :: rest) (tSeq (tAsg (tLstK (lamTA [(P, q)] X as)) (gName i)) u) := pss_cons (ps_set nd hi hx (pe_lstK (L.pa TB hcode hq)) hs hf) (hr L.ok)
theorem pss_askCat {p3 : Pos} (TB : LamX.TabB X.base X.mg cc P) (hcode : X.env.code = .ref cc) (hq : q = X.env.qual ++ "<lambda>") (nd : X.N.Nodup) (hi : X.N[i]? = some x) (hx : Loc X.env.scope x) (hv : PE X (.Name x po) (tVar i)) (hA : ∀ a ∈ as, AskOk X n a) (L : LamEs X n es bs) (hr : (∀ a ∈ as ++ bs, AskOk X n a) → PSs X rest u)
    (hs : swapsWith (.BinOp (.Name x po) .Add (.List es p2) p3) (some (.Name x py)) pos.line X.env = pure false := by rfl) (hf : X.fn x = true ∨ X.env.scope.names.lookup x = some .local := by first | exact .inl rfl | exact .inr rfl) :
    PSs X (.Assign [.Name x py] (.BinOp (.Name x po) .Add (.List es p2) p3) pos :: rest) (tSeq (tAsg (tOp rCatK (tVar i) (tLstK (lamTA [(P, q)] X bs))) (gName i)) u) :=
  pss_cons (ps_set nd hi hx (pe_op op_catK hv (pe_lstK (L.pa TB hcode hq))) hs hf) (hr fun a h => (List.mem_append.mp h).elim (hA a) (L.ok a))
end
section
variable {X : Cx} {tb : List (Addr × Str)} {E : XK} {i : Nat} {as bs : List Ask} {u : TS} {f : FS}
theorem sm_askB (small : as.length < 1000) (h : SmS tb E (gS X as i u) f) : SmS tb E (tSeq (tAsg (tLstK (lamTA tb X as)) (gName i)) u) (fHide i f) := sm_askBeg (lamArgs_of as) small h
theorem sm_askC (small : (as ++ bs).length < 1000) (h : SmS tb E (gS X (as ++ bs) i u) f) : SmS tb E (gS X as i (tSeq (tAsg (tOp rCatK (tVar i) (tLstK (lamTA tb X bs))) (gName i)) u)) (fHide i f) := sm_askCat (lamArgs_of bs) small h
end
end Pu
namespace Pu
open PySem PySem.Spec PyProof.Rows L2 LB LamW
open Classical
section
variable {X : Cx} {n : Nat} {es : List Expr} {as bs : List Ask} {c : Ask} {cc P : Addr} {q : Str} {rest : List Stmt} {u : TS} {x : Str} {i : Nat} {py p2 pos po : Pos}
theorem pss_askCatU {p3 : Pos} (TB : LamX.TabB X.base X.mg cc P) (hcode : X.env.code = .ref cc) (hq : q = X.env.qual ++ "<lambda>") (nd : X.N.Nodup) (hi : X.N[i]? = some x) (hx : Loc X.env.scope x) (hv : PE X (.Name x po) (tVar i)) (hA : ∀ a ∈ as, AskOk X n a) (L : LamEs X n es bs) (hr : (∀ a ∈ as ++ bs, AskOk X n a) → PSs X rest u)
    (hs : swapsWith (.BinOp (.Name x po) .Add (.List es p2) p3) (some (.Name x py)) pos.line X.env = pure false := by rfl) (hf : X.fn x = true ∨ X.env.scope.names.lookup x = some .local := by first | exact .inl rfl | exact .inr rfl) :
    PSs X (.Assign [.Name x py] (.BinOp (.Name x po) .Add (.List es p2) p3) pos :: rest) (tSeq (tAsg (tOp rCatU (tVar i) (tLstK (lamTA [(P, q)] X bs))) (gName i)) u) :=
  pss_cons (ps_set nd hi hx (pe_op op_catU hv (pe_lstK (L.pa TB hcode hq))) hs hf) (hr fun a h => (List.mem_append.mp h).elim (hA a) (L.ok a))
theorem pss_askApp {e : Expr} {st : Stmt} (TB : LamX.TabB X.base X.mg cc P) (hcode : X.env.code = .ref cc) (hq : q = X.env.qual ++ "<lambda>") (hA : ∀ a ∈ as, AskOk X n a) (L : LamEs X n [e] [c]) (hS : PA X [e] (lamTA [(P, q)] X [c]) → L2.PS X st (tDrop (tBM X.K "list" rAppendK (tVar i) (lamTA [(P, q)] X [c]))))
    (hr : (∀ a ∈ as ++ [c], AskOk X n a) → PSs X rest u) : PSs X (st :: rest) (tSeq (tDrop (tBM X.K "list" rAppendK (tVar i) (lamTA [(P, q)] X [c]))) u) :=
  pss_cons (hS (L.pa TB hcode hq)) (hr fun a h => (List.mem_append.mp h).elim (hA a) (L.ok a))
end
section
variable {X : Cx} {tb : List (Addr × Str)} {E : XK} {K : PySem.W.Frag} {i : Nat} {as bs : List Ask} {c : Ask} {u : TS} {f : FS}
theorem sm_askCA (small : (as ++ bs ++ [c]).length < 1000) (h : SmS tb E (gS X (as ++ bs ++ [c]) i u) f) :
    SmS tb E (gS X as i (tSeq (tAsg (tOp rCatU (tVar i) (tLstK (lamTA tb X bs))) (gName i)) (tSeq (tDrop (tBM K "list" rAppendK (tVar i) (lamTA tb X [c]))) u))) (fHide i f) := sm_askCatApp (lamArgs_of bs) (lamArgs_of [c]) small h
end
end Pu
namespace Pu
open PySem PySem.Spec PyProof.Rows L2 LB
/-! #### is_rising -/
noncomputable def B_p_is_rising (c : CA) : FS :=
  (fRet (fAndV (fCall (F_p_is_word c) [] (fCons (fVar 0) fNil)) (fGc (fB bAll (fCons (fLc (fIA itZS (fCons (fVar 0) (fCons (fSl pSlS (fVar 0) (fPart (fC (.int 1))) fNoPart) fNil))) (gTp (gsCons (gNm 1) (gsCons (gNm 2) gsNil))) fYes (fOp pLtS (fVar 1) (fVar 2)) [1, 2]) fNil)))))
noncomputable def F_p_is_rising (c : CA) : FF := fnOf 1 3 (B_p_is_rising c)
theorem R_p_is_rising (c : CA) (a0 : PV) (M : PM) : F_p_is_rising c [a0] M = gc M (fnRes (B_p_is_rising c [some a0, none, none] M)) := fn_at rfl
/-! #### is_atom -/
noncomputable def B_p_is_atom (c : CA) : FS :=
  (fSeq (fIfS (fOr (fTest (fOp pEq (fVar 0) (fC (.str [])))) (fNot (fTest (fCall (F_p_is_rising c) [] (fCons (fVar 0) fNil))))) (fRet (fC (.bl false))) fNext)
  (fRet (fOrV (fVar 1) (fOp pEq (fB bLenS (fCons (fVar 0) fNil)) (fC (.int 1))))))
noncomputable def F_p_is_atom (c : CA) : FF := fnOf 2 2 (B_p_is_atom c)
theorem R_p_is_atom (c : CA) (a0 a1 : PV) (M : PM) : F_p_is_atom c [a0, a1] M = gc M (fnRes (B_p_is_atom c [some a0, some a1] M)) := fn_at rfl
/-! #### is_product -/
noncomputable def B_p_is_product (c : CA) : FS :=
  (fRet (fGc (fB bAll (fCons (fLc (fI itT (fVar 0)) (gTp (gsCons (gNm 1) (gsCons (gNm 2) gsNil))) fYes (fCallN (F_p_is_atom c) [] (fCons (fVar 1) (fCons (fVar 2) fNil))) [1, 2]) fNil))))
noncomputable def F_p_is_product (c : CA) : FF := fnOf 1 3 (B_p_is_product c)
theorem R_p_is_product (c : CA) (a0 : PV) (M : PM) : F_p_is_product c [a0] M = gc M (fnRes (B_p_is_product c [some a0, none, none] M)) := fn_at rfl
/-! #### check_product -/
noncomputable def B_p_check_product (c : CA) : FS :=
  (fIfS (fNot (fTest (fCall (F_p_is_product c) [] (fCons (fVar 0) fNil)))) (fRaise c.BadAtom (Str.ofString "badatom") [(.int (-1))] fNil) fNext)
noncomputable def F_p_check_product (c : CA) : FF := fnOf 1 1 (B_p_check_product c)
theorem R_p_check_product (c : CA) (a0 : PV) (M : PM) : F_p_check_product c [a0] M = gc M (fnRes (B_p_check_product c [some a0] M)) := fn_at rfl
/-! #### check_letter -/
noncomputable def B_p_check_letter (c : CA) : FS :=
  (fIfS (fNot (fTest (fCall (F_p_is_letter c) [] (fCons (fVar 0) fNil)))) (fRaise c.BadWord (Str.ofString "badword") [(.int (-1))] fNil) fNext)
noncomputable def F_p_check_letter (c : CA) : FF := fnOf 1 1 (B_p_check_letter c)
theorem R_p_check_letter (c : CA) (a0 : PV) (M : PM) : F_p_check_letter c [a0] M = gc M (fnRes (B_p_check_letter c [some a0] M)) := fn_at rfl
/-! #### takes_in -/
noncomputable def B_p_takes_in (c : CA) : FS :=
  (fSeq (fIfS (fNot (fTest (fOp pIxT (fVar 0) (fC (.int 1))))) (fRet (fC (.bl false))) fNext)
  (fSeq (fFor (fI itS (fOp pIxT (fVar 1) (fC (.int 0)))) (gNm 2) (fIfS (fTest (fOp pNotInS (fVar 2) (fOp pIxT (fVar 0) (fC (.int 0))))) (fRet (fC (.bl false))) fNext))
  (fRet (fC (.bl true)))))
noncomputable def F_p_takes_in (c : CA) : FF := fnOf 2 3 (B_p_takes_in c)
/-! #### has_word -/
noncomputable def B_p_has_word (c : CA) : FS :=
  (fSeq (fAsg (fC (.int 0)) (gNm 2))
  (fSeq (fFor (fI itT (fVar 0)) (gTp (gsCons (gNm 3) (gsCons (gNm 4) gsNil))) (fIfS (fTest (fVar 4)) (fWhile (fAnd (fTest (fOp (pI0 fun i j => .bl (decide (i < j))) (fVar 2) (fB bLenS (fCons (fVar 1) fNil)))) (fTest (fOp pInS (fOp pIxS (fVar 1) (fVar 2)) (fVar 3)))) (fAug 2 (fC (.int 1)) (pI0 fun i j => .int (i + j)))) (fIfS (fTest (fOp pEq (fSl pSlS (fVar 1) (fPart (fVar 2)) (fPart (fOp (pI0 fun i j => .int (i + j)) (fVar 2) (fC (.int 1))))) (fVar 3))) (fAug 2 (fC (.int 1)) (pI0 fun i j => .int (i + j))) fNext)))
  (fRet (fOp pEq (fVar 2) (fB bLenS (fCons (fVar 1) fNil))))))
noncomputable def F_p_has_word (c : CA) : FF := fnOf 2 5 (B_p_has_word c)
/-! #### holds -/
noncomputable def B_p_holds (c : CA) : FS :=
  (fSeq (fDrop (fCall (F_p_check_product c) [] (fCons (fVar 0) fNil)))
  (fSeq (fIfS (fNot (fTest (fCall (F_p_is_word c) [] (fCons (fVar 1) fNil)))) (fRaise c.BadWord (Str.ofString "badword") [(.int (-1))] fNil) fNext)
  (fRet (fCall (F_p_has_word c) [] (fCons (fVar 0) (fCons (fVar 1) fNil))))))
noncomputable def F_p_holds (c : CA) : FF := fnOf 2 2 (B_p_holds c)
theorem R_p_holds (c : CA) (a0 a1 : PV) (M : PM) : F_p_holds c [a0, a1] M = gc M (fnRes (B_p_holds c [some a0, some a1] M)) := fn_at rfl
/-! #### lies_inside -/
noncomputable def B_p_lies_inside (c : CA) : FS :=
  (fSeq (fAsg (fB bLen (fCons (fVar 0) fNil)) (gNm 2))
  (fSeq (fAsg (fC (.int 0)) (gNm 3))
  (fSeq (fFor (fI itT (fVar 1)) (gNm 4) (fSeq (fIfS (fTest (fOp pEq (fVar 3) (fVar 2))) (fRet (fC (.bl true))) fNext)
  (fIfS (fTest (fOp pIxT (fVar 4) (fC (.int 1)))) (fWhile (fAnd (fTest (fOp (pI0 fun i j => .bl (decide (i < j))) (fVar 3) (fVar 2))) (fTest (fCall (F_p_takes_in c) [] (fCons (fVar 4) (fCons (fOp pIxT (fVar 0) (fVar 3)) fNil))))) (fAug 3 (fC (.int 1)) (pI0 fun i j => .int (i + j)))) (fIfS (fTest (fOp pEqD (fOp pIxT (fVar 0) (fVar 3)) (fVar 4))) (fAug 3 (fC (.int 1)) (pI0 fun i j => .int (i + j))) fNext))))
  (fRet (fOp pEq (fVar 3) (fVar 2))))))
noncomputable def F_p_lies_inside (c : CA) : FF := fnOf 2 5 (B_p_lies_inside c)
/-! #### inside -/
noncomputable def B_p_inside (c : CA) : FS :=
  (fSeq (fDrop (fCall (F_p_check_product c) [] (fCons (fVar 0) fNil)))
  (fSeq (fDrop (fCall (F_p_check_product c) [] (fCons (fVar 1) fNil)))
  (fRet (fCall (F_p_lies_inside c) [] (fCons (fVar 0) (fCons (fVar 1) fNil))))))
noncomputable def F_p_inside (c : CA) : FF := fnOf 2 2 (B_p_inside c)
theorem R_p_inside (c : CA) (a0 a1 : PV) (M : PM) : F_p_inside c [a0, a1] M = gc M (fnRes (B_p_inside c [some a0, some a1] M)) := fn_at rfl
/-! #### made_plain -/
noncomputable def B_p_made_plain (c : CA) : FS :=
  (fSeq (fAsg (fLst fNil) (gNm 1))
  (fSeq (fFor (fI itT (fVar 0)) (gNm 2) (fSeq (fWhile (fAnd (fTru (fVar 1)) (fTest (fCall (F_p_takes_in c) [] (fCons (fVar 2) (fCons (fOp pIxL (fVar 1) (fUn (pU fun i => .int (-i)) (fC (.int 1)))) fNil))))) (fDrop (fBM0 "list" mPop (fVar 1))))
  (fIfS (fOr (fNot (fTru (fVar 1))) (fNot (fTest (fCall (F_p_takes_in c) [] (fCons (fOp pIxL (fVar 1) (fUn (pU fun i => .int (-i)) (fC (.int 1)))) (fCons (fVar 2) fNil)))))) (fDrop (fBM "list" mAppend (fVar 1) (fCons (fVar 2) fNil))) fNext)))
  (fRet (fB bTup (fCons (fVar 1) fNil)))))
noncomputable def F_p_made_plain (c : CA) : FF := fnOf 1 3 (B_p_made_plain c)
/-! #### plain -/
noncomputable def B_p_plain (c : CA) : FS :=
  (fSeq (fDrop (fCall (F_p_check_product c) [] (fCons (fVar 0) fNil)))
  (fRet (fCall (F_p_made_plain c) [] (fCons (fVar 0) fNil))))
noncomputable def F_p_plain (c : CA) : FF := fnOf 1 1 (B_p_plain c)
theorem R_p_plain (c : CA) (a0 : PV) (M : PM) : F_p_plain c [a0] M = gc M (fnRes (B_p_plain c [some a0] M)) := fn_at rfl
/-! #### with_letter -/
noncomputable def B_p_with_letter (c : CA) : FS :=
  (fRet (fCall (F_p_made_plain c) [] (fCons (fOp pAddT (fVar 0) (fTup (fCons (fTup (fCons (fVar 1) (fCons (fC (.bl false)) fNil))) fNil))) fNil)))
noncomputable def F_p_with_letter (c : CA) : FF := fnOf 2 2 (B_p_with_letter c)
/-! #### sent -/
noncomputable def B_p_sent (c : CA) : FS :=
  (fSeq (fDrop (fCall (F_p_check_product c) [] (fCons (fVar 0) fNil)))
  (fSeq (fDrop (fCall (F_p_check_letter c) [] (fCons (fVar 1) fNil)))
  (fRet (fCall (F_p_with_letter c) [] (fCons (fVar 0) (fCons (fVar 1) fNil))))))
noncomputable def F_p_sent (c : CA) : FF := fnOf 2 2 (B_p_sent c)
theorem R_p_sent (c : CA) (a0 a1 : PV) (M : PM) : F_p_sent c [a0, a1] M = gc M (fnRes (B_p_sent c [some a0, some a1] M)) := fn_at rfl
/-! #### left_behind -/
noncomputable def B_p_left_behind (c : CA) : FS :=
  (fSeq (fFor (fIA itET (fCons (fVar 0) fNil)) (gTp (gsCons (gNm 2) (gsCons (gTp (gsCons (gNm 3) (gsCons (gNm 4) gsNil))) gsNil))) (fIfS (fTest (fOp pInS (fVar 1) (fVar 3))) (fRet (fCall (F_p_made_plain c) [] (fCons (fIf (fTest (fVar 4)) (fSl pSlT (fVar 0) (fPart (fVar 2)) fNoPart) (fSl pSlT (fVar 0) (fPart (fOp (pI0 fun i j => .int (i + j)) (fVar 2) (fC (.int 1)))) fNoPart)) fNil))) fNext))
  (fRet (fC .non)))
noncomputable def F_p_left_behind (c : CA) : FF := fnOf 2 5 (B_p_left_behind c)
/-! #### taken -/
noncomputable def B_p_taken (c : CA) : FS :=
  (fSeq (fDrop (fCall (F_p_check_product c) [] (fCons (fVar 0) fNil)))
  (fSeq (fDrop (fCall (F_p_check_letter c) [] (fCons (fVar 1) fNil)))
  (fRet (fCall (F_p_left_behind c) [] (fCons (fVar 0) (fCons (fVar 1) fNil))))))
noncomputable def F_p_taken (c : CA) : FF := fnOf 2 2 (B_p_taken c)
theorem R_p_taken (c : CA) (a0 a1 : PV) (M : PM) : F_p_taken c [a0, a1] M = gc M (fnRes (B_p_taken c [some a0, some a1] M)) := fn_at rfl
/-! #### with_any -/
noncomputable def B_p_with_any (c : CA) : FS :=
  (fRet (fIf (fTru (fVar 1)) (fCall (F_p_made_plain c) [] (fCons (fOp pAddT (fVar 0) (fTup (fCons (fTup (fCons (fVar 1) (fCons (fC (.bl true)) fNil))) fNil))) fNil)) (fCall (F_p_made_plain c) [] (fCons (fVar 0) fNil))))
noncomputable def F_p_with_any (c : CA) : FF := fnOf 2 2 (B_p_with_any c)
/-! #### swollen -/
noncomputable def B_p_swollen (c : CA) : FS :=
  (fSeq (fDrop (fCall (F_p_check_product c) [] (fCons (fVar 0) fNil)))
  (fSeq (fIfS (fNot (fTest (fCall (F_p_is_rising c) [] (fCons (fVar 1) fNil)))) (fRaise c.BadWord (Str.ofString "badword") [(.int (-1))] fNil) fNext)
  (fRet (fCall (F_p_with_any c) [] (fCons (fVar 0) (fCons (fVar 1) fNil))))))
noncomputable def F_p_swollen (c : CA) : FF := fnOf 2 2 (B_p_swollen c)
theorem R_p_swollen (c : CA) (a0 a1 : PV) (M : PM) : F_p_swollen c [a0, a1] M = gc M (fnRes (B_p_swollen c [some a0, some a1] M)) := fn_at rfl
/-! #### product_of -/
noncomputable def B_p_product_of (c : CA) : FS :=
  (fSeq (fIfS (fNot (fTest (fCall (F_p_is_word c) [] (fCons (fVar 0) fNil)))) (fRaise c.BadWord (Str.ofString "badword") [(.int (-1))] fNil) fNext)
  (fRet (fGc (fB bTup (fCons (fLc (fI itS (fVar 0)) (gNm 1) fYes (fTup (fCons (fVar 1) (fCons (fC (.bl false)) fNil))) [1]) fNil)))))
noncomputable def F_p_product_of (c : CA) : FF := fnOf 1 2 (B_p_product_of c)
theorem R_p_product_of (c : CA) (a0 : PV) (M : PM) : F_p_product_of c [a0] M = gc M (fnRes (B_p_product_of c [some a0, none] M)) := fn_at rfl
/-! #### product_text -/
noncomputable def B_p_product_text (c : CA) : FS :=
  (fSeq (fDrop (fCall (F_p_check_product c) [] (fCons (fVar 0) fNil)))
  (fSeq (fIfS (fTest (fOp pEq (fB bLen (fCons (fVar 0) fNil)) (fC (.int 0)))) (fRet (fC (.str [45]))) fNext)
  (fRet (fGc (fM1 mJoin (fC (.str [32])) (fLc (fI itT (fVar 0)) (gTp (gsCons (gNm 1) (gsCons (gNm 2) gsNil))) fYes (fIf (fTest (fVar 2)) (fOp pAddS (fVar 1) (fC (.str [42]))) (fVar 1)) [1, 2]))))))
noncomputable def F_p_product_text (c : CA) : FF := fnOf 1 3 (B_p_product_text c)
theorem R_p_product_text (c : CA) (a0 : PV) (M : PM) : F_p_product_text c [a0] M = gc M (fnRes (B_p_product_text c [some a0, none, none] M)) := fn_at rfl
/-! #### law: product -/
noncomputable def B_product (c : CA) : FS :=
  (fSeq (fAsg (fLst fNil) (gNm 3))
  (fSeq (fFor (fIA itR1 (fCons (fCall (F_pull c) [] (fCons (fVar 0) (fCons (fOp (pI0 fun i j => .int (i + j)) (fVar 2) (fC (.int 1))) fNil))) fNil)) (gNm 4) (fSeq (fAsg (fGc (fM1 mJoin (fC (.str [])) (fLc (fI itL (fB bSortS (fCons (fVar 1) fNil))) (gNm 7) (fTest (fOp pEq (fCallN (F_pull c) [] (fCons (fVar 0) (fCons (fC (.int 2)) fNil))) (fC (.int 0)))) (fVar 7) [7]))) (gNm 5))
  (fSeq (fAsg (fAndV (fOp pNe (fVar 5) (fC (.str []))) (fOp (pI0 fun i j => .bl (decide (j < i))) (fCall (F_pull c) [] (fCons (fVar 0) (fCons (fC (.int 3)) fNil))) (fC (.int 0)))) (gNm 6))
  (fDrop (fBM "list" mAppend (fVar 3) (fCons (fIf (fTest (fVar 6)) (fTup (fCons (fVar 5) (fCons (fC (.bl true)) fNil))) (fTup (fCons (fCall (F_of c) [] (fCons (fVar 0) (fCons (fVar 1) fNil))) (fCons (fC (.bl false)) fNil)))) fNil))))))
  (fRet (fB bTup (fCons (fVar 3) fNil)))))
noncomputable def F_product (c : CA) : FF := fnOf 3 8 (B_product c)
theorem R_product (c : CA) (a0 a1 a2 : PV) (M : PM) : F_product c [a0, a1, a2] M = gc M (fnRes (B_product c [some a0, some a1, some a2, none, none, none, none, none] M)) := fn_at rfl
/-! #### law: bent_product -/
noncomputable def B_bent_product (c : CA) : FS :=
  (fSeq (fAsg (fCall (F_pull c) [] (fCons (fVar 0) (fCons (fOp (pI0 fun i j => .int (i + j)) (fB bLen (fCons (fVar 1) fNil)) (fC (.int 1))) fNil))) (gNm 2))
  (fSeq (fAsg (fLst (fCons (fTup (fCons (fC (.str [])) (fCons (fC (.bl true)) fNil))) (fCons (fTup (fCons (fC (.str [])) (fCons (fC (.bl false)) fNil))) (fCons (fTup (fCons (fC (.str [98, 97])) (fCons (fC (.bl true)) fNil))) (fCons (fTup (fCons (fC (.str [97, 97])) (fCons (fC (.bl true)) fNil))) (fCons (fTup (fCons (fC (.str [65])) (fCons (fC (.bl false)) fNil))) (fCons (fTup (fCons (fC (.str [97, 98])) (fCons (fC (.bl false)) fNil))) (fCons (fTup (fCons (fC (.str [97, 49])) (fCons (fC (.bl true)) fNil))) fNil)))))))) (gNm 3))
  (fRet (fOp pAddT (fOp pAddT (fSl pSlT (fVar 1) fNoPart (fPart (fVar 2))) (fTup (fCons (fCall (F_of c) [] (fCons (fVar 0) (fCons (fVar 3) fNil))) fNil))) (fSl pSlT (fVar 1) (fPart (fVar 2)) fNoPart)))))
noncomputable def F_bent_product (c : CA) : FF := fnOf 2 4 (B_bent_product c)
theorem R_bent_product (c : CA) (a0 a1 : PV) (M : PM) : F_bent_product c [a0, a1] M = gc M (fnRes (B_bent_product c [some a0, some a1, none, none] M)) := fn_at rfl
/-! #### law: atoms_good -/
noncomputable def B_atoms_good (c : CA) : FS :=
  (fSeq (fFor (fI itT (fVar 0)) (gTp (gsCons (gNm 1) (gsCons (gNm 2) gsNil))) (fSeq (fIfS (fOr (fTest (fOp pEq (fVar 1) (fC (.str [])))) (fOr (fTest (fOp pNe (fM1 mJoin (fC (.str [])) (fSortSetS (fVar 1))) (fVar 1))) (fAnd (fNot (fTest (fVar 2))) (fTest (fOp (pI0 fun i j => .bl (decide (j < i))) (fB bLenS (fCons (fVar 1) fNil)) (fC (.int 1))))))) (fRet (fC (.bl false))) fNext)
  (fIfS (fNot (fTest (fGc (fB bAll (fCons (fLc (fI itS (fVar 1)) (gNm 3) fYes (fOp pInS (fVar 3) (fC (.str [97, 98, 99, 100, 101, 102, 103, 104, 105, 106, 107, 108, 109, 110, 111, 112, 113, 114, 115, 116, 117, 118, 119, 120, 121, 122]))) [3]) fNil))))) (fRet (fC (.bl false))) fNext)))
  (fRet (fC (.bl true))))
noncomputable def F_atoms_good (c : CA) : FF := fnOf 1 4 (B_atoms_good c)
theorem R_atoms_good (c : CA) (a0 : PV) (M : PM) : F_atoms_good c [a0] M = gc M (fnRes (B_atoms_good c [some a0, none, none, none] M)) := fn_at rfl
end Pu
namespace Puk29
open PySem PySem.Spec PyProof.Rows L2 LB Pu
abbrev exCs (c : CA) : List Addr := [c.BadWord, c.BadAtom]
/-! #### the law -/
noncomputable def B_law (c : CA) : FS :=
  (fSeq (fAsg (fCallN (F_letters c) [] (fCons (fVar 1) fNil)) (gNm 2))
  (fSeq (fFor (fIA itR1 (fCons (fC (.int 4)) fNil)) (gNm 3) (fSeq (fAsg (fCallN (F_product c) [] (fCons (fVar 1) (fCons (fVar 2) (fCons (fC (.int 5)) fNil)))) (gNm 7))
  (fSeq (fAsg (fCallN (F_bent_product c) [] (fCons (fVar 1) (fCons (fVar 7) fNil))) (gNm 6))
  (fSeq (fAsg (fCallN (F_of c) [] (fCons (fVar 1) (fCons (fLst (fCons (fVar 7) (fCons (fVar 6) fNil))) fNil))) (gNm 4))
  (fSeq (fIfS (fNot (fTest (fCallN (F_same 3) [] (fCons (fCallN (F_p_is_product c) [] (fCons (fVar 4) fNil)) (fCons (fCallN (F_atoms_good c) [] (fCons (fVar 4) fNil)) fNil))))) (fRet (fC (.bl false))) fNext)
  (fHide 5
  (fHide 5
  (fHide 5
  (fSeq (fIfS (fTest (fOp pNeD (fAsksL (exCs c) 9 (([(fCall (F_p_holds c) [] (fCons (fVar 6) (fCons (fC (.str [65])) fNil))), (fCall (F_p_inside c) [] (fCons (fVar 6) (fCons (fVar 7) fNil))), (fCall (F_p_inside c) [] (fCons (fVar 7) (fCons (fVar 6) fNil)))] ++ [(fCall (F_p_plain c) [] (fCons (fVar 6) fNil)), (fCall (F_p_sent c) [] (fCons (fVar 6) (fCons (fC (.str [])) fNil))), (fCall (F_p_taken c) [] (fCons (fVar 6) (fCons (fC (.str [65, 66])) fNil)))]) ++ [(fCall (F_p_swollen c) [] (fCons (fVar 6) (fCons (fC (.str [98, 97])) fNil))), (fCall (F_p_product_text c) [] (fCons (fVar 6) fNil))])) (fOp pRepL (fLst (fCons (fTup (fCons (fC (.str [98, 97, 100, 97, 116, 111, 109])) (fCons (fUn (pU fun i => .int (-i)) (fC (.int 1))) fNil))) fNil)) (fC (.int 8))))) (fRet (fC (.bl false))) fNext)
  (fSeq (fAsg (fCallN (F_of c) [] (fCons (fVar 1) (fCons (fLst (fCons (fC (.str [])) (fCons (fC (.str [97, 98])) (fCons (fC (.str [65])) (fCons (fC (.str [49])) (fCons (fC (.str [32])) fNil)))))) fNil))) (gNm 8))
  (fHide 5
  (fHide 5
  (fIfS (fTest (fOp pNeD (fAsksL (exCs c) 9 (([(fCall (F_p_sent c) [] (fCons (fVar 7) (fCons (fVar 8) fNil))), (fCall (F_p_taken c) [] (fCons (fVar 7) (fCons (fVar 8) fNil))), (fCall (F_p_holds c) [] (fCons (fVar 7) (fCons (fC (.str [97, 66])) fNil)))] ++ [(fCall (F_p_swollen c) [] (fCons (fVar 7) (fCons (fC (.str [98, 97])) fNil))), (fCall (F_p_swollen c) [] (fCons (fVar 7) (fCons (fC (.str [97, 97])) fNil))), (fCall (F_p_swollen c) [] (fCons (fVar 7) (fCons (fC (.str [65])) fNil)))]) ++ [(fCall (F_p_product_of c) [] (fCons (fC (.str [97, 32, 98])) fNil))])) (fOp pRepL (fLst (fCons (fTup (fCons (fC (.str [98, 97, 100, 119, 111, 114, 100])) (fCons (fUn (pU fun i => .int (-i)) (fC (.int 1))) fNil))) fNil)) (fC (.int 7))))) (fRet (fC (.bl false))) fNext)))))))))))))
  (fRet (fOp pIsB (fCallN (F_p_is_product c) [] (fCons (fTup fNil) fNil)) (fC (.bl true))))))
end Puk29
namespace Pu
open PySem PySem.Spec PyProof.Rows L2 LB
open Classical
variable {c : CA} {M M' M'' : PM} {b : Nat}
/-! ### the bag -/
def bagO (s : Nat) (i r sd ct : Int) : PO := .lst [.ref s, .int i, .int r, .int sd, .int ct]
def BagAt (M : PM) (b s : Nat) : Prop := s ≠ b ∧ ∃ (ns : List Int) (i r sd ct : Int), M[b]? = some (bagO s i r sd ct) ∧ M[s]? = some (.lst (ns.map PV.int)) ∧ 0 ≤ i
/-- all but the bag is as it was -/
structure Dr (b s : Nat) (M M' : PM) : Prop where
  bag : BagAt M' b s
  e : ∃ i r sd ct, M' = M.set b (bagO s i r sd ct)
theorem BagAt.ltb {s : Nat} (h : BagAt M b s) : b < M.length := by
  obtain ⟨_, ns, i, r, sd, ct, e, _⟩ := h
  exact (List.getElem?_eq_some_iff.mp e).1
theorem BagAt.lts {s : Nat} (h : BagAt M b s) : s < M.length := by
  obtain ⟨_, ns, i, r, sd, ct, _, e, _⟩ := h
  exact (List.getElem?_eq_some_iff.mp e).1
theorem Dr.len {s : Nat} (h : Dr b s M M') : M'.length = M.length := by
  obtain ⟨i, r, sd, ct, e⟩ := h.e
  rw [e, List.length_set]
theorem Dr.get {s k : Nat} (h : Dr b s M M') (hk : k ≠ b) : M'[k]? = M[k]? := by
  obtain ⟨i, r, sd, ct, e⟩ := h.e
  rw [e, List.getElem?_set_ne (Ne.symm hk)]
theorem Dr.trans {s : Nat} (x : Dr b s M M') (y : Dr b s M' M'') : Dr b s M M'' := by
  obtain ⟨i, r, sd, ct, e⟩ := x.e
  obtain ⟨i', r', sd', ct', e'⟩ := y.e
  exact ⟨y.bag, i', r', sd', ct', by rw [e', e, List.set_set]⟩
theorem Dr.refl {s : Nat} (h : BagAt M b s) : Dr b s M M := by
  obtain ⟨n, ns, i, r, sd, ct, e, e2, h0⟩ := id h
  refine ⟨h, i, r, sd, ct, ?_⟩
  have := (List.getElem?_eq_some_iff.mp e)
  rw [← this.2, List.set_getElem_self]
theorem Dr.of {s : Nat} (h : BagAt M b s) {i r sd ct : Int} (h0 : 0 ≤ i) : Dr b s M (M.set b (bagO s i r sd ct)) := by
  obtain ⟨n, ns, i', r', sd', ct', e, e2, _⟩ := id h
  have lb := h.ltb
  exact ⟨⟨n, ns, i, r, sd, ct, List.getElem?_set_self lb, (List.getElem?_set_ne (Ne.symm n)).trans e2, h0⟩, i, r, sd, ct, rfl⟩
theorem BagAt.app {s : Nat} {ex : PM} (h : BagAt M b s) : BagAt (M ++ ex) b s := by
  obtain ⟨n, ns, i, r, sd, ct, e, e2, h0⟩ := id h
  exact ⟨n, ns, i, r, sd, ct, (List.getElem?_append_left h.ltb).trans e, (List.getElem?_append_left h.lts).trans e2, h0⟩
theorem bag_wf {s : Nat} {i r sd ct : Int} {n : Nat} (h : s < n) : (bagO s i r sd ct).wf n := by
  unfold bagO
  simp [h]
/-- drawn beside things that were made -/
theorem Dr.app {s : Nat} {ex N : PM} (hb : b < M.length) (hs : s < M.length) (x : Dr b s (M ++ ex) N) : ∃ M', N = M' ++ ex ∧ Dr b s M M' := by
  obtain ⟨i, r, sd, ct, e⟩ := x.e
  rw [List.set_append_left _ _ hb] at e
  refine ⟨_, e, ?_, i, r, sd, ct, rfl⟩
  obtain ⟨n, ns, i', r', sd', ct', e1, e2, h0⟩ := x.bag
  rw [e] at e1 e2
  rw [List.getElem?_append_left (by simpa using hb)] at e1
  rw [List.getElem?_append_left (by simpa using hs)] at e2
  exact ⟨n, ns, i', r', sd', ct', e1, e2, h0⟩
theorem setL_at {k : Nat} {xs : List PV} {j : Int} {n : Nat} {v : PV} (e : M[k]? = some (.lst xs)) (h : ixN xs.length j = some n) : setL (.ref k) (.int j) v M = some (M.set k (.lst (xs.set n v))) := by
  unfold setL
  simp only [e, h]
@[simp] theorem ev_fAugL (fo fi f : FE) (g : PV → PV → PM → Res PV) (σ : PS) (M : PM) : fAugL fo fi f g σ M = (fo σ M).go fun o M1 => (fi σ M1).go fun i M2 => (pIxL o i M2).go fun x M3 => (f σ M3).go fun y M4 => (g x y M4).go fun z M5 => toM σ (setL o i z M5) := id rfl
@[simp] theorem ev_fAsgL (f fo fi : FE) (σ : PS) (M : PM) : fAsgL f fo fi σ M = (f σ M).go fun v M1 => (fo σ M1).go fun o M2 => (fi σ M2).go fun i M3 => toM σ (setL o i v M3) := id rfl
section
variable {s : Nat} {i r sd ct : Int}
theorem bag_at (hb : b < M.length) : (M.set b (bagO s i r sd ct))[b]? = some (.lst [.ref s, .int i, .int r, .int sd, .int ct]) := List.getElem?_set_self hb
theorem bag0 (hb : b < M.length) : pIxL (.ref b) (.int 0) (M.set b (bagO s i r sd ct)) = .ok (.ref s) (M.set b (bagO s i r sd ct)) := pIxL_at (bag_at hb) rfl
theorem bag1 (hb : b < M.length) : pIxL (.ref b) (.int 1) (M.set b (bagO s i r sd ct)) = .ok (.int i) (M.set b (bagO s i r sd ct)) := pIxL_at (bag_at hb) rfl
theorem bag2 (hb : b < M.length) : pIxL (.ref b) (.int 2) (M.set b (bagO s i r sd ct)) = .ok (.int r) (M.set b (bagO s i r sd ct)) := pIxL_at (bag_at hb) rfl
theorem bag3 (hb : b < M.length) : pIxL (.ref b) (.int 3) (M.set b (bagO s i r sd ct)) = .ok (.int sd) (M.set b (bagO s i r sd ct)) := pIxL_at (bag_at hb) rfl
theorem bag4 (hb : b < M.length) : pIxL (.ref b) (.int 4) (M.set b (bagO s i r sd ct)) = .ok (.int ct) (M.set b (bagO s i r sd ct)) := pIxL_at (bag_at hb) rfl
theorem bset1 (hb : b < M.length) {x : Int} : setL (.ref b) (.int 1) (.int x) (M.set b (bagO s i r sd ct)) = some (M.set b (bagO s x r sd ct)) := by rw [setL_at (n := 1) (bag_at hb) rfl, List.set_set]; rfl
theorem bset2 (hb : b < M.length) {x : Int} : setL (.ref b) (.int 2) (.int x) (M.set b (bagO s i r sd ct)) = some (M.set b (bagO s i x sd ct)) := by rw [setL_at (n := 2) (bag_at hb) rfl, List.set_set]; rfl
theorem bset3 (hb : b < M.length) {x : Int} : setL (.ref b) (.int 3) (.int x) (M.set b (bagO s i r sd ct)) = some (M.set b (bagO s i r x ct)) := by rw [setL_at (n := 3) (bag_at hb) rfl, List.set_set]; rfl
theorem bset4 (hb : b < M.length) {x : Int} : setL (.ref b) (.int 4) (.int x) (M.set b (bagO s i r sd ct)) = some (M.set b (bagO s i r sd x)) := by rw [setL_at (n := 4) (bag_at hb) rfl, List.set_set]; rfl
theorem pI_mod {x y : Int} (h : 0 < y) : pI (fun _ j => 0 < j) (fun i j => .int (i % j)) (.int x) (.int y) M = .ok (.int (x % y)) M := pI_int h
theorem pI_div {x y : Int} (h : 0 < y ∧ y < 1073741824) : pI CDiv (fun i j => .int (i / j)) (.int x) (.int y) M = .ok (.int (x / y)) M := pI_int h
theorem pI_pow : pI CPow (fun i j => .int (i ^ j.toNat)) (.int 10) (.int 18) M = .ok (.int 1000000000000000000) M := pI_int (g := fun i j => PV.int (i ^ j.toNat)) ⟨by decide, by decide, by decide⟩
theorem mod_bd {x n : Int} (h : 0 < n) : 0 ≤ x % n ∧ x % n < n := ⟨Int.emod_nonneg _ (by omega), Int.emod_lt_of_pos _ h⟩
end
theorem pI_mulc {x y : Int} (h : -(2 ^ 64) < y ∧ y < 2 ^ 64) : pI CMul (fun i j => .int (i * j)) (.int x) (.int y) M = .ok (.int (x * y)) M := pI_int (.inr h)
set_option maxHeartbeats 2000000 in
theorem F_pull_eq {s : Nat} (h : BagAt M b s) {n : Int} (h0 : 0 < n) (h1 : n < 1073741824) : ∃ k M', F_pull c [.ref b, .int n] M = .ok (.int k) M' ∧ 0 ≤ k ∧ k < n ∧ Dr b s M M' := by
  obtain ⟨ne, ns, i, r, sd, ct, e1, e2, hi⟩ := id h
  have hb := h.ltb
  have eM : M = M.set b (bagO s i r sd ct) := by
    have := (List.getElem?_eq_some_iff.mp e1)
    rw [← this.2, List.set_getElem_self]
  have go : ∃ (k i' r' sd' ct' : Int), 0 ≤ k ∧ k < n ∧ 0 ≤ i' ∧ B_pull c [some (.ref b), some (.int n), none, none, none, none] (M.set b (bagO s i r sd ct)) = .rt (.int k) (M.set b (bagO s i' r' sd' ct')) := by
    unfold B_pull
    by_cases hr : 0 < r
    · exact ⟨r % n, i, r / n, sd, ct + 1, (mod_bd h0).1, (mod_bd h0).2, hi, by simp [bag4 hb, bset4 hb, bag2 hb, bset2 hb, hr, pI_div ⟨h0, h1⟩, pI_mod h0]⟩
    · have ls : ∀ {i r sd ct : Int}, (M.set b (bagO s i r sd ct))[s]? = some (.lst (ns.map PV.int)) := (List.getElem?_set_ne (Ne.symm ne)).trans e2
      have ln : ∀ {i r sd ct : Int}, bLen [.ref s] (M.set b (bagO s i r sd ct)) = .ok (.int (ns.length : Nat)) (M.set b (bagO s i r sd ct)) := by
        intro i r sd ct
        rw [bLen_lst ls, List.length_map]
      have small : ∀ x : Int, -(2 ^ 64) < x % 65521 + 11 ∧ x % 65521 + 11 < 2 ^ 64 := fun x => by
        have := mod_bd (x := x) (n := 65521) (by decide)
        omega
      have ms : ∀ (x y : Int) (M : PM), pI CMul (fun i j => .int (i * j)) (.int x) (.int (y % 65521 + 11)) M = .ok (.int (x * (y % 65521 + 11))) M := fun x y M => pI_mulc (small y)
      have last : ∀ (cell i' : Int), 0 ≤ i' → ∃ (k i2 r' sd' ct' : Int), 0 ≤ k ∧ k < n ∧ 0 ≤ i2 ∧ (if (1000000000000000000 : Int) ≤ cell then (.rt (.int (cell % n)) (M.set b (bagO s i' (cell / n) sd (ct + 1))) : SR) else
            .rt (.int ((((cell * 48271 + sd * 40503 + (ct + 1) * 69621 + 12345) % 2147483629 * ((cell * 48271 + sd * 40503 + (ct + 1) * 69621 + 12345) % 2147483629 % 65521 + 11) + (ct + 1) * 40692 + sd % 104729) % 998244353) / 7 % n)) (M.set b (bagO s i' r ((sd * 16807 + ((cell * 48271 + sd * 40503 + (ct + 1) * 69621 + 12345) % 2147483629 * ((cell * 48271 + sd * 40503 + (ct + 1) * 69621 + 12345) % 2147483629 % 65521 + 11) + (ct + 1) * 40692 + sd % 104729) % 998244353) % 2147483563) (ct + 1)))) = .rt (.int k) (M.set b (bagO s i2 r' sd' ct')) := fun cell i' h' => by
        by_cases hc : (1000000000000000000 : Int) ≤ cell
        · exact ⟨_, _, _, _, _, (mod_bd h0).1, (mod_bd h0).2, h', if_pos hc⟩
        · exact ⟨_, _, _, _, _, (mod_bd h0).1, (mod_bd h0).2, h', if_neg hc⟩
      by_cases hl : i < (ns.length : Nat)
      · obtain ⟨j, rfl⟩ := Int.eq_ofNat_of_zero_le hi
        have lj : j < ns.length := by omega
        have gc : ∀ {i r sd ct : Int}, pIxL (.ref s) (.int (j : Nat)) (M.set b (bagO s i r sd ct)) = .ok (.int ns[j]) (M.set b (bagO s i r sd ct)) := pIxL_at ls (atI_nat (by rw [List.getElem?_map, List.getElem?_eq_getElem lj]; rfl))
        obtain ⟨k, i2, r', sd', ct', p1, p2, p3, p4⟩ := last ns[j] ((j : Int) + 1) (by omega)
        refine ⟨k, i2, r', sd', ct', p1, p2, p3, ?_⟩
        rw [← p4]
        simp [bag4 hb, bset4 hb, bag3 hb, bset3 hb, bag2 hb, bset2 hb, bag1 hb, bset1 hb, bag0 hb, hr, ln, gc, lj, pI_div ⟨h0, h1⟩, pI_mod h0, pI_pow, pI_mulc, ms, pI_mod (M := _) (show (0 : Int) < 2147483629 by decide), pI_mod (show (0 : Int) < 65521 by decide), pI_mod (show (0 : Int) < 104729 by decide), pI_mod (show (0 : Int) < 998244353 by decide), pI_mod (show (0 : Int) < 2147483563 by decide), pI_div (show (0 : Int) < 7 ∧ (7 : Int) < 1073741824 by decide)]
      · obtain ⟨k, i2, r', sd', ct', p1, p2, p3, p4⟩ := last sd i hi
        refine ⟨k, i2, r', sd', ct', p1, p2, p3, ?_⟩
        rw [← p4]
        simp [bag4 hb, bset4 hb, bag3 hb, bset3 hb, bag2 hb, bset2 hb, bag1 hb, bset1 hb, bag0 hb, hr, ln, hl, pI_div ⟨h0, h1⟩, pI_mod h0, pI_pow, pI_mulc, ms, pI_mod (M := _) (show (0 : Int) < 2147483629 by decide), pI_mod (show (0 : Int) < 65521 by decide), pI_mod (show (0 : Int) < 104729 by decide), pI_mod (show (0 : Int) < 998244353 by decide), pI_mod (show (0 : Int) < 2147483563 by decide), pI_div (show (0 : Int) < 7 ∧ (7 : Int) < 1073741824 by decide)]
  obtain ⟨k, i', r', sd', ct', p1, p2, p3, p4⟩ := go
  refine ⟨k, M.set b (bagO s i' r' sd' ct'), ?_, p1, p2, .of h p3⟩
  rw [R_pull]
  rw [← eM] at p4
  rw [p4, fnRes_rt]
  exact gc_self (by simp)
/-! ### draws -/
@[simp] theorem bLenQ_str {s : List Nat} {M : PM} (h : s.length ≤ lim) : bLenQ [.str s] M = .ok (.int (s.length : Nat)) M := by
  unfold bLenQ
  exact bLenS_str h
theorem bLenQ_lst {k : Nat} {xs : List PV} {M : PM} (e : M[k]? = some (.lst xs)) : bLenQ [.ref k] M = .ok (.int (xs.length : Nat)) M := by
  unfold bLenQ
  exact bLen_lst e
/-- one of a list -/
theorem F_of_lst {s k : Nat} {xs : List PV} (h : BagAt M b s) (hk : k ≠ b) (e : M[k]? = some (.lst xs)) (h0 : 0 < xs.length) (h1 : xs.length < 1000000) : ∃ x M', F_of c [.ref b, .ref k] M = .ok x M' ∧ x ∈ xs ∧ Dr b s M M' := by
  obtain ⟨j, M', e1, j0, j1, d⟩ := F_pull_eq (c := c) h (n := (xs.length : Nat)) (by omega) (by omega)
  obtain ⟨i, rfl⟩ := Int.eq_ofNat_of_zero_le j0
  have li : i < xs.length := by omega
  have ek : M'[k]? = some (.lst xs) := (d.get hk).trans e
  refine ⟨xs[i], M', ?_, List.getElem_mem li, d⟩
  rw [R_of]
  unfold B_of
  have ex : pIxQ (.ref k) (.int (i : Nat)) M' = .ok xs[i] M' := pIxL_at ek (atI_nat (List.getElem?_eq_getElem li))
  simp [bLenQ_lst e, e1, ex]
  exact gc_self d.len
/-- behind draws what was made is dropped -/
theorem gc_draw {s : Nat} {p : PV} {ex : PM} (h : BagAt M b s) (d : Dr b s M M') (w : p.wf M.length) : gc M (.ok p (M' ++ ex)) = .ok p M' := by
  obtain ⟨i, r, sd, ct, e⟩ := d.e
  rw [e, gc_keep (keep_set (bag_wf h.lts)) w, take_set]
/-- .. a new list alone is left -/
theorem gc_drawL {s k : Nat} {ex : PM} {xs : List PV} (h : BagAt M b s) (d : Dr b s M M') (lk : M.length ≤ k) (e : (M' ++ ex)[k]? = some (.lst xs)) (w : PV.wfs M.length xs) : gc M (.ok (.ref k) (M' ++ ex)) = .ok (.ref M.length) (M' ++ [.lst xs]) := by
  obtain ⟨i, r, sd, ct, e0⟩ := d.e
  subst e0
  rw [gc_new (keep_set (bag_wf h.lts)) lk e w, take_set]
theorem gc_drawLE {s k : Nat} {N : PM} {xs : List PV} (ex : PM) (h : BagAt M b s) (d : Dr b s M M') (hN : N = M' ++ ex) (lk : M.length ≤ k) (e : N[k]? = some (.lst xs)) (w : PV.wfs M.length xs) : gc M (.ok (.ref k) N) = .ok (.ref M.length) (M' ++ [.lst xs]) := by
  subst hN
  exact gc_drawL h d lk e w
theorem gc_drawE {s : Nat} {p : PV} {N : PM} (ex : PM) (h : BagAt M b s) (d : Dr b s M M') (hN : N = M' ++ ex) (w : p.wf M.length) : gc M (.ok p N) = .ok p M' := by
  subst hN
  exact gc_draw h d w
theorem upTo_map {n : Nat} : upTo 0 n = (List.range n).map fun i => PV.int (i : Nat) := by
  unfold upTo
  exact List.map_congr_left fun i _ => by rw [Int.zero_add]
theorem itR1_nat {n : Nat} (h : n < 1000000) : itR1 [.int (n : Nat)] M = .ok ⟨(List.range n).map fun i => PV.int (i : Nat), fun _ => True⟩ M := by
  rw [itR1_int ⟨by omega, by omega⟩, Int.toNat_natCast, upTo_map]
theorem joinE {ys : List (List Nat)} : joinT [] ys = ys.flatten := by
  unfold joinT
  rw [show (tx [] : Str) = Str.ofString "" from by decide +kernel, join_tx]
end Pu
namespace Pu
open PySem PySem.Spec PyProof.Rows L2 LB
open Classical
variable {c : CA} {M M' M'' : PM} {b : Nat}
/-! ### letters and names -/
def alphaL : List Nat := [97, 98, 99, 100, 101, 102, 103, 104, 105, 106, 107, 108, 109, 110, 111, 112, 113, 114, 115, 116, 117, 118, 119, 120, 121, 122]
theorem alphaL_at {i : Int} (h0 : 0 ≤ i) (h1 : i < 26) : atI alphaL i = some (i.toNat + 97) := by
  obtain ⟨k, rfl⟩ := Int.eq_ofNat_of_zero_le h0
  have all : ∀ j : Fin 26, atI alphaL ((j.val : Nat) : Int) = some (j.val + 97) := by decide +kernel
  exact all ⟨k, by omega⟩
theorem alphaL_ix {f y : Int} {k : Nat} : pIxS (.str alphaL) (.int ((f + y * (k : Int)) % 26)) M = .ok (.str [lett f y k]) M := by
  have := mod_bd (x := f + y * (k : Int)) (n := 26) (by decide)
  exact pIxS_at (by decide) (alphaL_at this.1 this.2)
def six : List PV := [.int 1, .int 3, .int 5, .int 7, .int 9, .int 11]
/-- first and step -/
theorem draw_fy {s : Nat} (h : BagAt M b s) : ∃ f y M', 0 ≤ f ∧ f < 26 ∧ y ∈ [(1 : Int), 3, 5, 7, 9, 11] ∧ Dr b s M M' ∧ ∃ M1, F_pull c [.ref b, .int 26] M = .ok (.int f) M1 ∧ M1.length = M.length ∧ F_of c [.ref b, .ref M.length] (M1 ++ [.lst six]) = .ok (.int y) (M' ++ [.lst six]) := by
  obtain ⟨f, M1, e1, f0, f1, d1⟩ := F_pull_eq (c := c) h (n := 26) (by decide) (by decide)
  obtain ⟨x, X, e2, mx, dX⟩ := F_of_lst (c := c) (k := M.length) (xs := six) (d1.bag.app (ex := [.lst six])) (Ne.symm (Nat.ne_of_lt h.ltb)) (by rw [← d1.len]; simp) (by decide) (by decide)
  obtain ⟨M', rfl, d2⟩ := dX.app d1.bag.ltb d1.bag.lts
  have : ∃ y, x = .int y ∧ y ∈ [(1 : Int), 3, 5, 7, 9, 11] := by
    unfold six at mx
    simp only [List.mem_cons, List.not_mem_nil, or_false] at mx
    rcases mx with rfl | rfl | rfl | rfl | rfl | rfl <;> exact ⟨_, rfl, by decide⟩
  obtain ⟨y, rfl, hy⟩ := this
  exact ⟨f, y, M', f0, f1, hy, d1.trans d2, M1, e1, d1.len, e2⟩
theorem F_letters_eq {s : Nat} (h : BagAt M b s) : ∃ f y M', y ∈ [(1 : Int), 3, 5, 7, 9, 11] ∧ Dr b s M M' ∧ F_letters c [.ref b] M = .ok (.ref M.length) (M' ++ [.lst (((List.range 3).map (lett f y)).map fun d => .str [d])]) := by
  obtain ⟨f, y, M', f0, f1, hy, d, M1, e1, l1, e2⟩ := draw_fy (c := c) h
  refine ⟨f, y, M', hy, d, ?_⟩
  rw [R_letters]
  unfold B_letters
  have e3 : itR1 [.int 3] (M' ++ [.lst six]) = .ok ⟨(List.range 3).map fun i => PV.int (i : Nat), fun _ => True⟩ (M' ++ [.lst six]) := itR1_nat (n := 3) (by decide)
  have e2' : F_of c [.ref b, .ref M.length] (M1 ++ [.lst [.int 1, .int 3, .int 5, .int 7, .int 9, .int 11]]) = .ok (.int y) (M' ++ [.lst six]) := e2
  simp [e1, l1, e2', lim, e3]
  rw [lc_mapE (M' ++ [PO.lst six]) (fun k : Nat => .str [lett f y k]) (by simp) (by simp) (fun _ => trivial) (by rw [List.length_range]; decide) (fun k hk => ⟨_, rfl, fun acc => ⟨rfl, by
    have e4 : pIxS (.str [97, 98, 99, 100, 101, 102, 103, 104, 105, 106, 107, 108, 109, 110, 111, 112, 113, 114, 115, 116, 117, 118, 119, 120, 121, 122]) (.int ((f + y * (k : Int)) % 26)) (M' ++ [PO.lst six] ++ [.lst acc]) = _ := alphaL_ix
    have e5 := pI_mulc (M := M' ++ [PO.lst six] ++ [.lst acc]) (x := y) (y := (k : Int)) (by have := List.mem_range.mp hk; omega)
    have e6 := pI_mod (M := M' ++ [PO.lst six] ++ [.lst acc]) (x := f + y * (k : Int)) (y := 26) (by decide)
    simp only [wipeP, List.set_cons_succ, List.set_cons_zero, ev_fOp, ev_fVar0, ev_fVarS, ev_fC, bnd_ok, e5, pI0_int, e6, e4]⟩⟩)]
  rw [bnd_ok, go_ok, fnRes_rt, gc_drawLE (xs := (List.range 3).map fun k => PV.str [lett f y k]) [.lst six, .lst ((List.range 3).map fun k => PV.str [lett f y k])] h d (by simp) (by rw [d.len]; omega) (by simp) (wfs_iff.mpr fun x hx => by obtain ⟨k, _, rfl⟩ := List.mem_map.mp hx; simp)]
  simp [Function.comp_def]
theorem mJoin_at {k : Nat} {N : PM} {ts : List (List Nat)} (e : N[k]? = some (.lst (ts.map PV.str))) (h : (ts.map List.length).sum ≤ lim) : mJoin (.str []) [.ref k] N = .ok (.str ts.flatten) N := by
  have : lstAt N (.ref k) = some (ts.map PV.str) := lstAt_ref' _ _ _ e
  unfold mJoin seqAt
  simp only [this, Option.bind_some, asStrs_map, joinE]
  rw [if_pos (by rw [List.length_nil]; omega)]
end Pu
namespace Pu
open PySem PySem.Spec PyProof.Rows L2 LB
open Classical
variable {c : CA} {M M' M'' : PM} {b : Nat}
/-! ### a drawn plan -/
def qLetters : List Nat := [108, 101, 116, 116, 101, 114, 115]
def qMachines : List Nat := [109, 97, 99, 104, 105, 110, 101, 115]
def qRows : List Nat := [114, 111, 119, 115]
def qMoves : List Nat := [109, 111, 118, 101, 115]
def qStands : List Nat := [115, 116, 97, 110, 100, 115]
def planD (l m r v t : Nat) : List (PV × PV) := [(.str qLetters, .ref l), (.str qMachines, .ref m), (.str qRows, .ref r), (.str qMoves, .ref v), (.str qStands, .ref t)]
abbrev pairP (x : List Nat × List Nat) : PV := .tup [.str x.1, .str x.2]
abbrev mvP (x : List Nat × List Nat × List (List Nat) × List Nat) : PV := .tup [.str x.1, .str x.2.1, tS x.2.2.1, .str x.2.2.2]
def asV (M : PM) (o : Option (Option PV)) : Res PV := match o with
  | some (some v) => .ok v M
  | _ => .bad
@[simp] theorem asV_some (M : PM) (v : PV) : asV M (some (some v)) = .ok v M := id rfl
@[simp] theorem ev_fDGet (fd fk : FE) (σ : PS) (M : PM) : fDGet fd fk σ M = (fd σ M).bnd fun d M1 => (fk σ M1).bnd fun k M2 => asV M2 (dgetP M2 d k) := id rfl
/-- all but some is kept -/
structure Kp (E : Nat → Prop) (M M' : PM) : Prop where
  l : M.length ≤ M'.length
  k : ∀ i, i < M.length → ¬ E i → M'[i]? = M[i]?
theorem Kp.refl {E : Nat → Prop} : Kp E M M := ⟨Nat.le_refl _, fun _ _ _ => rfl⟩
theorem Kp.trans {E : Nat → Prop} (x : Kp E M M') (y : Kp E M' M'') : Kp E M M'' := ⟨Nat.le_trans x.l y.l, fun i hi h => (y.k i (Nat.lt_of_lt_of_le hi x.l) h).trans (x.k i hi h)⟩
theorem Kp.weak {E E' : Nat → Prop} (x : Kp E M M') (h : ∀ i, i < M.length → E i → E' i) : Kp E' M M' := ⟨x.l, fun i hi n => x.k i hi fun z => n (h i hi z)⟩
theorem Kp.at {E : Nat → Prop} (x : Kp E M M') {i : Nat} {o : PO} (e : M[i]? = some o) (h : ¬ E i) : M'[i]? = some o := (x.k i (List.getElem?_eq_some_iff.mp e).1 h).trans e
theorem Kp.app {E : Nat → Prop} {ex : PM} : Kp E M (M ++ ex) := ⟨by simp, fun i hi _ => List.getElem?_append_left hi⟩
theorem Dr.kp {s : Nat} {E : Nat → Prop} (x : Dr b s M M') (h : E b) : Kp E M M' := ⟨Nat.le_of_eq x.len.symm, fun i hi n => x.get fun z => n (z ▸ h)⟩
theorem Kp.set {E : Nat → Prop} {k : Nat} {o : PO} (h : E k) : Kp E M (M.set k o) := ⟨by simp, fun i hi n => List.getElem?_set_ne fun z : k = i => n (z ▸ h)⟩
/-- the plan p in the store; own: its places -/
structure PlanAt (M : PM) (d l m r v t : Nat) (ks : List Nat) (p : PD) : Prop where
  d : M[d]? = some (.dct (planD l m r v t))
  l : M[l]? = some (.lst (p.letters.map fun x => .str [x]))
  m : M[m]? = some (.lst (p.machines.map pairP))
  r : M[r]? = some (.lst (p.rows.map pairP))
  v : M[v]? = some (.lst (p.moves.map mvP))
  t : M[t]? = some (.lst (ks.map PV.ref))
  lk : ks.length = p.stands.length
  ss : ∀ (i : Nat) (k : Nat) (ss : List (List Nat)), ks[i]? = some k → p.stands[i]? = some ss → M[k]? = some (.lst (ss.map PV.str))
def plAd (d l m r v t : Nat) (ks : List Nat) : Nat → Prop := fun i => i = d ∨ i = l ∨ i = m ∨ i = r ∨ i = v ∨ i = t ∨ i ∈ ks
theorem PlanAt.kp {E : Nat → Prop} {d l m r v t : Nat} {ks : List Nat} {p : PD} (h : PlanAt M d l m r v t ks p) (x : Kp E M M') (n : ∀ i, plAd d l m r v t ks i → ¬ E i) : PlanAt M' d l m r v t ks p :=
  ⟨x.at h.d (n _ (.inl rfl)), x.at h.l (n _ (.inr (.inl rfl))), x.at h.m (n _ (.inr (.inr (.inl rfl)))), x.at h.r (n _ (.inr (.inr (.inr (.inl rfl))))), x.at h.v (n _ (.inr (.inr (.inr (.inr (.inl rfl)))))), x.at h.t (n _ (.inr (.inr (.inr (.inr (.inr (.inl rfl))))))), h.lk, fun i k ss h1 h2 => x.at (h.ss i k ss h1 h2) (n _ (.inr (.inr (.inr (.inr (.inr (.inr (List.mem_of_getElem? h1))))))))⟩
/-! ### a drawn act, a drawn move -/
/-! ### the plan while it is made -/
structure PB (M : PM) (b s : Nat) (N : PM) (nm d l m r v t : Nat) (ks : List Nat) (ns : List (List Nat)) (p : PD) : Prop where
  bag : BagAt N b s
  kp : Kp (· = b) M N
  P : PlanAt N d l m r v t ks p
  nms : N[nm]? = some (.lst (ns.map PV.str))
  new : ∀ i, plAd d l m r v t ks i → M.length ≤ i
  nn : M.length ≤ nm
  ne : nm ≠ d ∧ nm ≠ m ∧ nm ≠ r ∧ nm ≠ v ∧ nm ≠ t ∧ l ≠ d ∧ l ≠ m ∧ l ≠ r ∧ l ≠ v ∧ l ≠ t ∧ d ≠ m ∧ d ≠ r ∧ d ≠ v ∧ d ≠ t ∧ m ≠ r ∧ m ≠ v ∧ m ≠ t ∧ r ≠ v ∧ r ≠ t ∧ v ≠ t
  nk : ∀ k ∈ ks, k ≠ m ∧ k ≠ r ∧ k ≠ v ∧ k ≠ t ∧ k ≠ d
theorem PB.nb {s nm d l m r v t : Nat} {ks : List Nat} {ns : List (List Nat)} {p : PD} {N : PM} (h : PB M b s N nm d l m r v t ks ns p) (hb : b < M.length) : ∀ i, plAd d l m r v t ks i → i ≠ b := fun i hi z => by
  have := h.new i hi
  omega
/-- something made beside -/
theorem PB.app {s nm d l m r v t : Nat} {ks : List Nat} {ns : List (List Nat)} {p : PD} {N : PM} (h : PB M b s N nm d l m r v t ks ns p) (ex : PM) : PB M b s (N ++ ex) nm d l m r v t ks ns p :=
  ⟨h.bag.app, h.kp.trans .app, h.P.kp (E := fun _ => False) .app (fun _ _ z => z), (Kp.app (E := fun _ => False)).at h.nms (fun z => z), h.new, h.nn, h.ne, h.nk⟩
theorem BagAt.set {s k : Nat} {o : PO} (h : BagAt M b s) (h1 : k ≠ b) (h2 : k ≠ s) : BagAt (M.set k o) b s := by
  obtain ⟨n, ns, i, r, sd, ct, e1, e2, h0⟩ := h
  exact ⟨n, ns, i, r, sd, ct, (List.getElem?_set_ne h1).trans e1, (List.getElem?_set_ne h2).trans e2, h0⟩
end Pu
namespace Pu
open PySem PySem.Spec PyProof.Rows L2 LB
open Classical
variable {c : CA} {M M' M'' : PM} {b : Nat}
theorem mAppend_at {k : Nat} {xs : List PV} {y : PV} (e : M[k]? = some (.lst xs)) (h : xs.length < lim) : mAppend (.ref k) [y] M = .ok .non (M.set k (.lst (xs ++ [y]))) := by
  unfold mAppend chL
  simp only [e]
  rw [if_pos h]
end Pu
namespace Pu
open PySem PySem.Spec PyProof.Rows L2 LB
open Classical
variable {c : CA} {M M' M'' : PM} {b : Nat}
structure P1 (cs : List Nat) (ns : List (List Nat)) (st i : Nat) (p : PD) : Prop where
  l : p.letters = cs
  r : p.rows = []
  v : p.moves = []
  lm : p.machines.length = i
  ls : p.stands.length = i
  nm : p.machines.map (·.1) = ns.take i
  ms : ∀ (j : Nat) (x : List Nat × List Nat) (ss : List (List Nat)), p.machines[j]? = some x → p.stands[j]? = some ss → x.2 ∈ ss
  ss : ∀ s ∈ p.stands, NameL s ∧ 0 < s.length ∧ s.length ≤ st
end Pu
namespace Pu
open PySem PySem.Spec PyProof.Rows L2 LB
open Classical
variable {c : CA} {M M' M'' : PM} {b : Nat}
/-! ### a lab with many moves -/
/-! ### dicts of names -/
def asBo (g : Bool → Bool) (M : PM) (o : Option (Option PV)) : Res PV := match o with
  | some o => .ok (.bl (g o.isSome)) M
  | none => .bad
@[simp] theorem asBo_some (g : Bool → Bool) (M : PM) (o : Option PV) : asBo g M (some o) = .ok (.bl (g o.isSome)) M := id rfl
@[simp] theorem ev_fDIn (fd fk : FE) (σ : PS) (M : PM) : fDIn fk fd σ M = (fk σ M).bnd fun k M1 => (fd σ M1).bnd fun d M2 => asBo (fun z => z) M2 (dgetP M2 d k) := id rfl
@[simp] theorem ev_fDNotIn (fd fk : FE) (σ : PS) (M : PM) : fDNotIn fk fd σ M = (fk σ M).bnd fun k M1 => (fd σ M1).bnd fun d M2 => asBo (fun z => !z) M2 (dgetP M2 d k) := id rfl
@[simp] theorem ev_fDPut (fd fk fv : FE) (σ : PS) (M : PM) : fDPut fd fk fv σ M = (fv σ M).go fun v M1 => (fd σ M1).go fun d M2 => (fk σ M2).go fun k M3 => toM σ (dputP M3 d k v) := id rfl
theorem set_last {N : PM} {o o' : PO} : (N ++ [o]).set N.length o' = N ++ [o'] := by simp
/-! ### acts and moves -/
inductive ActP (has : List Nat → Prop) : List (List Nat) → Prop where
  | idle : ActP has [wIdle]
  | bare {r : List Nat} (h : has r) : ActP has [wBare, r]
  | send {r : List Nat} {x : Nat} (h : has r) (hx : 97 ≤ x ∧ x < 123) : ActP has [wSend, r, [x]]
  | take {r : List Nat} {x : Nat} (h : has r) (hx : 97 ≤ x ∧ x < 123) : ActP has [wTake, r, [x]]
/-! ### dict comprehensions -/
/-! ### places -/
def plcD (ps : List (List Nat × List Nat)) : List (PV × PV) := ps.zipIdx.map fun x => (PV.str x.1.1, PV.int (x.2 : Nat))
end Pu
namespace Pu
open PySem PySem.Spec PyProof.Rows L2 LB
open Classical
variable {c : CA} {M M' M'' : PM} {b : Nat}
@[simp] theorem lim0 : ((0 : Nat) ≤ lim) = True := eq_true (by decide)
@[simp] theorem lim1 : ((1 : Nat) ≤ lim) = True := eq_true (by decide)
@[simp] theorem lim2 : ((2 : Nat) ≤ lim) = True := eq_true (by decide)
@[simp] theorem lim3 : ((3 : Nat) ≤ lim) = True := eq_true (by decide)
@[simp] theorem lim4 : ((4 : Nat) ≤ lim) = True := eq_true (by decide)
@[simp] theorem lim5 : ((5 : Nat) ≤ lim) = True := eq_true (by decide)
@[simp] theorem lim6 : ((6 : Nat) ≤ lim) = True := eq_true (by decide)
theorem itL_at {k : Nat} {xs : List PV} (e : M[k]? = some (.lst xs)) : itL (.ref k) M = .ok ⟨xs, fun M' => M'[k]? = some (.lst xs)⟩ M := by
  unfold itL
  simp only [e]
end Pu
namespace Pu
open PySem PySem.Spec PyProof.Rows L2 LB
open Classical
variable {c : CA} {M M' M'' : PM} {b : Nat}
abbrev Mv := List Nat × List Nat × List (List Nat) × List Nat
abbrev Pr := List Nat × List Nat
/-! ### fields, dicts that are locked -/
def asF (M : PM) (o : Option PV) : Res PV := match o with
  | some x => .ok x M
  | none => .bad
@[simp] theorem asF_some (M : PM) (x : PV) : asF M (some x) = .ok x M := id rfl
@[simp] theorem ev_fFld (C : Addr) (f : String) (fa : FE) (σ : PS) (M : PM) : fFld C f fa σ M = (fa σ M).bnd fun p M1 => asF M1 (fldP M1 C f p) := id rfl
@[simp] theorem ev_fSetF (C : Addr) (f : String) (fo fv : FE) (σ : PS) (M : PM) : fSetF C f fo fv σ M = (fv σ M).go fun y M1 => (fo σ M1).go fun o M2 => toM σ (setF M2 C f o y) := id rfl
/-! ### the stands of each machine -/
def stOf (mv : List Mv) (x : Pr) : List (List Nat) := sortU (x.2 :: foundIn x.1 mv)
def stD (ms : List Pr) (mv : List Mv) : List (PV × PV) := ms.map fun x => (PV.str x.1, tS (stOf mv x))
end Pu
namespace Pu
open PySem PySem.Spec PyProof.Rows L2 LB
open Classical
variable {c : CA} {M M' M'' : PM} {b : Nat}
/-! ### steps -/
def plOf (ms : List Pr) (n : List Nat) : Nat := (ms.map (·.1)).idxOf n
def ActN (ns : List (List Nat)) : List (List Nat) → Prop := ActP (· ∈ ns)
def rowOf (rs : List Pr) (a : List (List Nat)) : Int := match a with
  | [_] => -1
  | _ :: r :: _ => (plOf rs r : Nat)
  | [] => -1
def stepOf (ms rs : List Pr) (m : Mv) : Stp := ⟨plOf ms m.1, m.2.1, m.2.2.1.headD [], rowOf rs m.2.2.1, (m.2.2.1.drop 2).headD [], m.2.2.2⟩
structure MvG (ms rs : List Pr) (m : Mv) : Prop where
  hm : m.1 ∈ ms.map (·.1)
  hs : isNm m.2.1
  ha : ActN (rs.map (·.1)) m.2.2.1
  he : isNm m.2.2.2
/-! ### too many -/
def overB (ms rs : List Pr) (mv : List Mv) : Bool := decide (3 < ms.length) || decide (3 < rs.length) || decide (24 < mv.length) || ms.any fun x => decide (6 < (stOf mv x).length)
/-! ### a lab -/
def labF (c : CA) (ms rs : List Pr) (mv : List Mv) (k1 k2 k3 : Nat) : List (String × PV) := [("machine_pairs", .tup (ms.map pairP)), ("row_pairs", .tup (rs.map pairP)), ("whole_moves", .tup (mv.map mvP)), ("machine_places", .ref k1), ("row_places", .ref k2), ("stand_lists", .ref k3), ("steps", .tup (mv.map fun m => (stepOf ms rs m).pv))]
structure LabAt (c : CA) (M : PM) (x : Nat) (ms rs : List Pr) (mv : List Mv) : Prop where
  ex : ∃ k1 k2 k3, M[x]? = some (.ins c.Lab (labF c ms rs mv k1 k2 k3)) ∧ M[k1]? = some (.dct (plcD ms)) ∧ M[k2]? = some (.dct (plcD rs)) ∧ M[k3]? = some (.dct (stD ms mv))
/-- what a lab may be made of -/
structure LabG (ms rs : List Pr) (mv : List Mv) : Prop where
  nd1 : (ms.map (·.1)).Nodup
  nd2 : (rs.map (·.1)).Nodup
  n1 : ∀ x ∈ ms, isNm x.1 ∧ isNm x.2
  n2 : ∀ x ∈ rs, isNm x.1 ∧ x.2.length ≤ 8 ∧ ∀ y ∈ x.2, 97 ≤ y ∧ y < 123
  hmv : ∀ m ∈ mv, MvG ms rs m
  ov : overB ms rs mv = false
theorem LabG.len {ms rs : List Pr} {mv : List Mv} (h : LabG ms rs mv) : ms.length ≤ 3 ∧ rs.length ≤ 3 ∧ mv.length ≤ 24 ∧ ∀ x ∈ ms, (stOf mv x).length ≤ 6 := by
  have := h.ov
  unfold overB at this
  rw [Bool.or_eq_false_iff, Bool.or_eq_false_iff, Bool.or_eq_false_iff, decide_eq_false_iff_not, decide_eq_false_iff_not, decide_eq_false_iff_not, List.any_eq_false] at this
  refine ⟨by omega, by omega, by omega, fun x hx => ?_⟩
  have := this.2 x hx
  simp at this
  exact this
end Pu
namespace Pu
open PySem PySem.Spec PyProof.Rows L2 LB
open Classical
variable {c : CA} {M M' M'' : PM} {b : Nat}
/-! ### what is drawn may be a lab -/
/-! ### the law's lab -/
theorem LabAt.kp {E : Nat → Prop} {x : Nat} {ms rs : List Pr} {mv : List Mv} (h : LabAt c M x ms rs mv) (k : Kp E M M') (n : ∀ i, E i → ∃ xs, M[i]? = some (.lst xs)) : LabAt c M' x ms rs mv := by
  obtain ⟨k1, k2, k3, e0, e1, e2, e3⟩ := h.ex
  have nl : ∀ {i : Nat} {o : PO}, M[i]? = some o → (∀ xs, o ≠ .lst xs) → ¬ E i := fun e q z => by
    obtain ⟨xs, e2⟩ := n _ z
    rw [e] at e2
    exact q xs (Option.some.inj e2)
  exact ⟨⟨k1, k2, k3, k.at e0 (nl e0 fun _ z => nomatch z), k.at e1 (nl e1 fun _ z => nomatch z), k.at e2 (nl e2 fun _ z => nomatch z), k.at e3 (nl e3 fun _ z => nomatch z)⟩⟩
theorem LabAt.app {x : Nat} {ms rs : List Pr} {mv : List Mv} {ex : PM} (h : LabAt c M x ms rs mv) : LabAt c (M ++ ex) x ms rs mv := h.kp (E := fun _ => False) .app fun _ z => z.elim
/-! ### scenes -/
end Pu
namespace Pu
open PySem PySem.Spec PyProof.Rows L2 LB
open Classical
/-! ### best scenes, ways -/
/-! ### a comprehension that leaves things behind -/
/-! ### a drawn scene -/
end Pu
namespace Pu
open PySem PySem.Spec PyProof.Rows L2 LB
open Classical
variable {c : CA} {M M' M'' : PM} {b : Nat}
/-! ### lists held against the empty one -/
/-! ### the law's within -/
/-! ### a scene made greater -/
theorem cut_dropS (w : List Nat) (k : Nat) : pSlS (.str w) (some (k : Int)) none M = if w.length ≤ lim then .ok (.str (w.drop k)) M else .bad := by
  unfold pSlS
  simp only [cut_drop]
end Pu
namespace Pu
open PySem PySem.Spec PyProof.Rows L2 LB
open Classical
variable {c : CA} {M : PM}
/-! ### which are products -/
/-- each sign below the next one -/
def ris : List Nat → Bool
  | [] => true
  | [_] => true
  | a :: b :: r => decide (a < b) && ris (b :: r)
def okA (a : List Nat × Bool) : Bool := decide (a.1 ≠ []) && (a.1.all low && ris a.1) && (a.2 || decide (a.1.length = 1))
def atP (a : List Nat × Bool) : PV := .tup [.str a.1, .bl a.2]
theorem ris_zip : ∀ (s : List Nat), ((s.zip (s.drop 1)).all fun p => decide (([p.1] : List Nat) < [p.2])) = ris s
  | [] => rfl
  | [_] => rfl
  | a :: b :: r => by
    have ih := ris_zip (b :: r)
    unfold ris
    rw [← ih]
    simp [List.cons_lt_cons_iff]
theorem zip_sg (s t : List Nat) : zipP (s.map fun d => PV.str [d]) (t.map fun d => PV.str [d]) = (s.zip t).map fun p => PV.tup [.str [p.1], .str [p.2]] := by
  unfold zipP
  rw [List.zip_map, List.map_map]
  rfl
theorem F_is_rising_eq {s : List Nat} (h : s.length < lim) : F_p_is_rising c [.str s] M = .ok (.bl (s.all low && ris s)) M := by
  rw [R_p_is_rising]
  unfold B_p_is_rising
  have cs : pSlS (.str s) (some 1) none M = .ok (.str (s.drop 1)) M := by
    have := cut_dropS (M := M) s 1
    rw [if_pos (by omega)] at this
    exact this
  have run : (lcP (fun _ => True) (gTp (gsCons (gNm 1) (gsCons (gNm 2) gsNil))) fYes (fOp pLtS (fVar 1) (fVar 2)) M.length (wipeP [some (PV.str s), none, none] [1, 2]) ((s.zip (s.drop 1)).map fun p => PV.tup [.str [p.1], .str [p.2]]) (M ++ [PO.lst []])) =
      .ok () (M ++ [.lst ([] ++ (s.zip (s.drop 1)).map fun p => PV.bl (decide (([p.1] : List Nat) < [p.2])))]) :=
    lc_mapF (h := fun p : Nat × Nat => PV.bl (decide (([p.1] : List Nat) < [p.2]))) (fun _ => trivial) (by simp [List.length_zip]; omega) (fun p _ => ⟨_, rfl, fun acc => ⟨rfl, rfl⟩⟩)
  simp only [List.nil_append] at run
  have iz : itZS [.str s, .str (s.drop 1)] M = .ok ⟨(s.zip (s.drop 1)).map fun p => PV.tup [.str [p.1], .str [p.2]], fun _ => True⟩ M := by
    unfold itZS
    simp only
    rw [zip_sg]
  simp only [ev_fRet, ev_fAndV, ev_fCall, ev_fCons, ev_fVar0, ev_fNil, bnd_ok, List.append_nil, List.nil_append, F_is_word_eq h, asB]
  by_cases hw : s.all low = true
  · rw [if_pos hw, hw, Bool.true_and]
    have e : (fGc (fB bAll (fCons (fLc (fIA itZS (fCons (fVar 0) (fCons (fSl pSlS (fVar 0) (fPart (fC (.int 1))) fNoPart) fNil))) (gTp (gsCons (gNm 1) (gsCons (gNm 2) gsNil))) fYes (fOp pLtS (fVar 1) (fVar 2)) [1, 2]) fNil))) [some (.str s), none, none] M = .ok (.bl (ris s)) M := by
      have e1 : (fLc (fIA itZS (fCons (fVar 0) (fCons (fSl pSlS (fVar 0) (fPart (fC (.int 1))) fNoPart) fNil))) (gTp (gsCons (gNm 1) (gsCons (gNm 2) gsNil))) fYes (fOp pLtS (fVar 1) (fVar 2)) [1, 2]) [some (.str s), none, none] M = .ok (.ref M.length) (M ++ [.lst ((s.zip (s.drop 1)).map fun p => PV.bl (decide (([p.1] : List Nat) < [p.2])))]) := by
        have e0 : (fIA itZS (fCons (fVar 0) (fCons (fSl pSlS (fVar 0) (fPart (fC (.int 1))) fNoPart) fNil))) [some (.str s), none, none] M = .ok ⟨(s.zip (s.drop 1)).map fun p => PV.tup [.str [p.1], .str [p.2]], fun _ => True⟩ M := by
          show ((((pSlS (.str s) (some 1) none M).bnd fun p M1 => Res.ok [p] M1).bnd fun ps M2 => Res.ok (PV.str s :: ps) M2).bnd itZS) = _
          rw [cs]
          exact iz
        rw [ev_fLc, e0, bnd_ok, run, bnd_ok]
      rw [ev_fGc, ev_fB, ev_fCons, e1, bnd_ok, ev_fNil, bnd_ok, bnd_ok, bAll_atF, ris_zip]
      simp [gc_flat]
    rw [e]
    simp [gc_flat]
  · have hw : s.all low = false := by simpa using hw
    rw [hw]
    simp [gc_flat]
theorem F_is_atom_eq {s : List Nat} {b : Bool} (h : s.length < lim) : F_p_is_atom c [.str s, .bl b] M = .ok (.bl (okA (s, b))) M := by
  rw [R_p_is_atom]
  unfold B_p_is_atom okA
  simp [F_is_rising_eq h, bLenS_str (show s.length ≤ lim by omega)]
  by_cases h0 : s = []
  · rw [if_pos h0, h0]
    simp
  · rw [if_neg h0]
    have e : ((∃ x, x ∈ s ∧ low x = false) ∨ ris s = false) ↔ (s.all low && ris s) = false := by
      rw [Bool.and_eq_false_iff]
      simp
    by_cases h1 : (s.all low && ris s) = true
    · have h2 : ¬ ((∃ x, x ∈ s ∧ low x = false) ∨ ris s = false) := fun z => by rw [e.mp z] at h1; cases h1
      rw [if_neg h2, h1]
      cases b with
      | true => simp [h0]
      | false =>
        have : decide ((s.length : Int) = 1) = decide (s.length = 1) := decide_eq_decide.mpr (by omega)
        simp [h0, this]
    · have h1 : (s.all low && ris s) = false := by simpa using h1
      rw [if_pos (e.mpr h1), h1]
      simp
theorem F_is_product_eq {as : List (List Nat × Bool)} (h : ∀ a ∈ as, a.1.length < 64) (l : as.length < 1000) : F_p_is_product c [.tup (as.map atP)] M = .ok (.bl (as.all okA)) M := by
  rw [R_p_is_product]
  unfold B_p_is_product
  simp
  have hl : (1000 : Nat) ≤ lim := by decide
  rw [lc_mapF (h := fun a => .bl (okA a)) (fun _ => trivial) (by simp; omega) (fun a ha => ⟨_, rfl, fun acc => ⟨rfl, by
    have e := F_is_atom_eq (c := c) (M := M ++ [.lst acc]) (s := a.1) (b := a.2) (by have := h a ha; omega)
    simp only [ev_fCallN, ev_fCons, ev_fNil, ev_fVar0, ev_fVarS, bnd_ok, wipeP, List.set_cons_succ, List.set_cons_zero, List.append_nil, e, nox_ok]⟩⟩)]
  simp [gc_flat]
theorem ris_pw : ∀ {s : List Nat}, ris s = true ↔ s.Pairwise (· < ·)
  | [] => by simp [ris]
  | [_] => by simp [ris]
  | a :: b :: r => by
    unfold ris
    rw [Bool.and_eq_true, decide_eq_true_iff, ris_pw (s := b :: r)]
    constructor
    · rintro ⟨h1, h2⟩
      refine List.pairwise_cons.mpr ⟨fun x hx => ?_, h2⟩
      rcases List.mem_cons.mp hx with e | e
      · rw [e]; exact h1
      · exact Nat.lt_trans h1 ((List.pairwise_cons.mp h2).1 x e)
    · intro h
      have h' := List.pairwise_cons.mp h
      exact ⟨h'.1 b List.mem_cons_self, h'.2⟩
theorem flat_one (s : List Nat) : (s.map fun d => [d]).flatten = s := by
  induction s with
  | nil => rfl
  | cons a r ih => simp [ih]
theorem join_ris {t : List Nat} : (sortU (t.map fun d => [d])).flatten = t ↔ ris t = true := by
  rw [ris_pw]
  have ones : ∀ l : List (List Nat), (∀ x ∈ l, ∃ d, x = [d]) → l = l.flatten.map fun d => [d] := by
    intro l
    induction l with
    | nil => intro _; rfl
    | cons x r ih =>
      intro h
      obtain ⟨d, rfl⟩ := h x List.mem_cons_self
      have := ih fun y hy => h y (List.mem_cons_of_mem _ hy)
      simp only [List.flatten_cons, List.map_append, List.map_cons, List.map_nil, List.singleton_append]
      rw [← this]
  constructor
  · intro e
    have l := ones (sortU (t.map fun d => [d])) fun x hx => by
      obtain ⟨d, _, rfl⟩ := List.mem_map.mp (mem_sortU.mp hx)
      exact ⟨d, rfl⟩
    rw [e] at l
    have s1 := sorted_sortU (l := t.map fun d => [d])
    have s2 := nodup_sortU (l := t.map fun d => [d])
    rw [l] at s1 s2
    have s1 := List.pairwise_map.mp s1
    have s2 := List.pairwise_map.mp s2
    refine (s1.and s2).imp fun {a b} hab => ?_
    have h1 : ¬ b < a := fun z => by
      have : ([b] : List Nat) < [a] := by simp [List.cons_lt_cons_iff, z]
      exact absurd hab.1 (List.not_le.mpr this)
    have h2 : a ≠ b := fun z => hab.2 (by rw [z])
    omega
  · intro h
    have e : (t.map fun d => [d]) = sortU (t.map fun d => [d]) := by
      refine sortU_of (List.pairwise_map.mpr (h.imp fun {a b} hab z => ?_)) (fun _ => Iff.rfl) (List.pairwise_map.mpr (h.imp fun {a b} hab => ?_))
      · have := List.cons.inj z
        omega
      · exact List.le_of_lt (by simp [List.cons_lt_cons_iff, hab])
    rw [← e, flat_one]
theorem sum_one (s : List Nat) : ∀ l : List (List Nat), (∀ x ∈ l, x.length = 1) → (l.map List.length).sum = l.length := fun l h => by
  induction l with
  | nil => rfl
  | cons x r ih =>
    rw [List.map_cons, List.sum_cons, ih fun y hy => h y (List.mem_cons_of_mem _ hy), h x List.mem_cons_self, List.length_cons]
    omega
theorem len_dedup : ∀ l : List (List Nat), (dedup l).length ≤ l.length
  | [] => Nat.le_refl _
  | x :: r => by
    unfold dedup
    have := len_dedup r
    split
    · rw [List.length_cons]; omega
    · rw [List.length_cons, List.length_cons]; omega
theorem join_run {k : Nat} {N : PM} {σ : PS} {t : List Nat} (e : σ[k]? = some (some (.str t))) (h : t.length < 64) : (fM1 mJoin (fC (.str [])) (fSortSetS (fVar k))) σ N = .ok (.str (sortU (t.map fun d => [d])).flatten) (N ++ [.lst ((sortU (t.map fun d => [d])).map .str)]) := by
  have v : fVar k σ N = .ok (.str t) N := by
    unfold fVar
    rw [e]
  have sz : ((sortU (t.map fun d => [d])).map List.length).sum ≤ lim := by
    rw [sum_one [] _ fun x hx => by obtain ⟨d, _, rfl⟩ := List.mem_map.mp (mem_sortU.mp hx); rfl]
    have h1 : (sortU (t.map fun d => [d])).length ≤ t.length := by
      have := len_dedup (t.map fun d => [d])
      unfold sortU
      rw [(List.mergeSort_perm _ _).length_eq]
      simpa using this
    have : (64 : Nat) ≤ lim := by decide
    omega
  simp only [ev_fM1, ev_fC, ev_fSortSetS, v, bnd_ok]
  unfold bSortSetS
  rw [if_pos (show isS (PV.str []) = true from rfl)]
  simp only [if_pos h, bnd_ok]
  exact mJoin_at (by simp) sz
/-- what the law asks of one atom -/
noncomputable abbrev goodB : FS := (fSeq (fIfS (fOr (fTest (fOp pEq (fVar 1) (fC (.str [])))) (fOr (fTest (fOp pNe (fM1 mJoin (fC (.str [])) (fSortSetS (fVar 1))) (fVar 1))) (fAnd (fNot (fTest (fVar 2))) (fTest (fOp (pI0 fun i j => .bl (decide (j < i))) (fB bLenS (fCons (fVar 1) fNil)) (fC (.int 1))))))) (fRet (fC (.bl false))) fNext)
  (fIfS (fNot (fTest (fGc (fB bAll (fCons (fLc (fI itS (fVar 1)) (gNm 3) fYes (fOp pInS (fVar 3) (fC (.str [97, 98, 99, 100, 101, 102, 103, 104, 105, 106, 107, 108, 109, 110, 111, 112, 113, 114, 115, 116, 117, 118, 119, 120, 121, 122]))) [3]) fNil))))) (fRet (fC (.bl false))) fNext))
theorem good_step {N : PM} {p : PV} {x3 : Option PV} {t : List Nat} {b : Bool} (h : t.length < 64) : ∃ ex, goodB [some p, some (.str t), some (.bl b), x3] N = if okA (t, b) = true then .nx [some p, some (.str t), some (.bl b), x3] (N ++ ex) else .rt (.bl false) (N ++ ex) := by
  have L : ∀ N : PM, (fGc (fB bAll (fCons (fLc (fI itS (fVar 1)) (gNm 3) fYes (fOp pInS (fVar 3) (fC (.str [97, 98, 99, 100, 101, 102, 103, 104, 105, 106, 107, 108, 109, 110, 111, 112, 113, 114, 115, 116, 117, 118, 119, 120, 121, 122]))) [3]) fNil))) [some p, some (.str t), some (.bl b), x3] N = .ok (.bl (t.all low)) N := fun N => by
    simp
    rw [lc_mapF (h := fun d => .bl (low d)) (fun _ => trivial) (by have : (64 : Nat) ≤ lim := by decide
                                                                   simp; omega) (fun d _ => ⟨_, rfl, fun acc => ⟨rfl, by rw [← low_in]; rfl⟩⟩)]
    simp [gc_flat]
  have J := join_run (k := 1) (N := N) (σ := [some p, some (.str t), some (.bl b), x3]) (t := t) rfl h
  unfold goodB
  by_cases h0 : t = []
  · subst h0
    exact ⟨[], by simp [okA]⟩
  · have hj : (fTest (fOp pNe (fM1 mJoin (fC (.str [])) (fSortSetS (fVar 1))) (fVar 1))) [some p, some (.str t), some (.bl b), x3] N = .ok (!ris t) (N ++ [.lst ((sortU (t.map fun d => [d])).map .str)]) := by
      have e : decide ((sortU (t.map fun d => [d])).flatten = t) = ris t := by
        by_cases hr : ris t = true
        · rw [hr]; exact decide_eq_true (join_ris.mpr hr)
        · have : ¬ (sortU (t.map fun d => [d])).flatten = t := fun z => hr (join_ris.mp z)
          rw [decide_eq_false this]
          simpa using hr
      rw [ev_fTest, ev_fOp, J, bnd_ok, ev_fVarS, ev_fVar0, bnd_ok]
      simp [← e]
    have hl : (fTest (fOp (pI0 fun i j => .bl (decide (j < i))) (fB bLenS (fCons (fVar 1) fNil)) (fC (.int 1)))) [some p, some (.str t), some (.bl b), x3] = fun N => .ok (decide (1 < t.length)) N := by
      funext N
      have : (t.length : Nat) ≤ lim := by
        have : (64 : Nat) ≤ lim := by decide
        omega
      simp [bLenS_str this]
      omega
    obtain ⟨N1, hN⟩ : ∃ N1, N ++ [.lst ((sortU (t.map fun d => [d])).map .str)] = N1 := ⟨_, rfl⟩
    have c1 : (fOr (fTest (fOp pEq (fVar 1) (fC (.str [])))) (fOr (fTest (fOp pNe (fM1 mJoin (fC (.str [])) (fSortSetS (fVar 1))) (fVar 1))) (fAnd (fNot (fTest (fVar 2))) (fTest (fOp (pI0 fun i j => .bl (decide (j < i))) (fB bLenS (fCons (fVar 1) fNil)) (fC (.int 1))))))) [some p, some (.str t), some (.bl b), x3] N = .ok (!ris t || (!b && decide (1 < t.length))) N1 := by
      have e0 : (fTest (fOp pEq (fVar 1) (fC (.str [])))) [some p, some (.str t), some (.bl b), x3] N = .ok false N := by simp [h0]
      have e2 : (fNot (fTest (fVar 2))) [some p, some (.str t), some (.bl b), x3] N1 = .ok (!b) N1 := by simp
      rw [ev_fOr, e0, bnd_ok, if_neg (by decide), ev_fOr, hj, hN, bnd_ok]
      cases ris t with
      | false => simp
      | true =>
        rw [if_neg (by decide), ev_fAnd, e2, bnd_ok, hl]
        cases b <;> simp
    have pos : 0 < t.length := List.length_pos_iff.mpr h0
    have ok : okA (t, b) = ((!(!ris t || (!b && decide (1 < t.length)))) && t.all low) := by
      unfold okA
      have e : decide (t.length = 1) = !decide (1 < t.length) := by
        by_cases z : 1 < t.length
        · have : ¬ t.length = 1 := by omega
          simp [z, this]
        · have : t.length = 1 := by omega
          simp [this]
      rw [e]
      simp only [ne_eq, h0, not_false_eq_true, decide_true, Bool.true_and]
      cases ris t <;> cases b <;> cases t.all low <;> cases decide (1 < t.length) <;> rfl
    refine ⟨[.lst ((sortU (t.map fun d => [d])).map .str)], ?_⟩
    rw [hN, ok, ev_fSeq, ev_fIfS, c1, go_ok]
    by_cases z : (!ris t || (!b && decide (1 < t.length))) = true
    · rw [if_pos z, z]
      rfl
    · have z' : (!ris t || (!b && decide (1 < t.length))) = false := by simpa using z
      rw [if_neg z, z']
      show then2 (fIfS _ _ _) (.nx _ N1) = _
      have e3 : (fNot (fTest (fGc (fB bAll (fCons (fLc (fI itS (fVar 1)) (gNm 3) fYes (fOp pInS (fVar 3) (fC (.str [97, 98, 99, 100, 101, 102, 103, 104, 105, 106, 107, 108, 109, 110, 111, 112, 113, 114, 115, 116, 117, 118, 119, 120, 121, 122]))) [3]) fNil))))) [some p, some (.str t), some (.bl b), x3] N1 = .ok (!t.all low) N1 := by
        rw [ev_fNot, ev_fTest, L]
        simp
      rw [then2_nx, ev_fIfS, e3, go_ok]
      cases t.all low <;> rfl
theorem good_loop {p : PV} : ∀ (as : List (List Nat × Bool)) {N : PM} {x1 x2 x3 : Option PV}, (∀ a ∈ as, a.1.length < 64) →
    ∃ ex y1 y2 y3, forP (fun _ => True) (gTp (gsCons (gNm 1) (gsCons (gNm 2) gsNil))) goodB (as.map atP) [some p, x1, x2, x3] N = if as.all okA = true then .nx [some p, y1, y2, y3] (N ++ ex) else .rt (.bl false) (N ++ ex)
  | [], N, x1, x2, x3, _ => ⟨[], x1, x2, x3, by simp [forP]⟩
  | a :: as, N, x1, x2, x3, h => by
    obtain ⟨ex, e⟩ := good_step (N := N) (p := p) (x3 := x3) (t := a.1) (b := a.2) (h a List.mem_cons_self)
    have g : gTp (gsCons (gNm 1) (gsCons (gNm 2) gsNil)) (atP a) [some p, x1, x2, x3] = some [some p, some (.str a.1), some (.bl a.2), x3] := rfl
    rw [List.map_cons]
    unfold forP
    rw [if_pos trivial, g]
    simp only
    rw [e]
    by_cases hk : okA (a.1, a.2) = true
    · rw [if_pos hk]
      simp only
      obtain ⟨ex2, y1, y2, y3, e2⟩ := good_loop as (N := N ++ ex) (x1 := some (.str a.1)) (x2 := some (.bl a.2)) (x3 := x3) fun b hb => h b (List.mem_cons_of_mem _ hb)
      refine ⟨ex ++ ex2, y1, y2, y3, ?_⟩
      rw [e2, List.all_cons, show okA a = true from hk, Bool.true_and, List.append_assoc]
    · rw [if_neg hk]
      refine ⟨ex, x1, x2, x3, ?_⟩
      rw [List.all_cons, show okA a = false by simpa using hk, Bool.false_and]
      rfl
theorem F_atoms_good_eq {as : List (List Nat × Bool)} (h : ∀ a ∈ as, a.1.length < 64) : F_atoms_good c [.tup (as.map atP)] M = .ok (.bl (as.all okA)) M := by
  rw [R_atoms_good]
  unfold B_atoms_good
  obtain ⟨ex, y1, y2, y3, e⟩ := good_loop (p := .tup (as.map atP)) as (N := M) (x1 := none) (x2 := none) (x3 := none) h
  have e1 : (fFor (fI itT (fVar 0)) (gTp (gsCons (gNm 1) (gsCons (gNm 2) gsNil))) goodB) [some (.tup (as.map atP)), none, none, none] M = if as.all okA = true then .nx [some (.tup (as.map atP)), y1, y2, y3] (M ++ ex) else .rt (.bl false) (M ++ ex) := e
  rw [ev_fSeq, e1]
  cases as.all okA with
  | true =>
    simp [gc_flat]
  | false =>
    simp [gc_flat]
/-! ### refusals -/
@[simp] theorem gc_exc0 {x : Xc} : gc M (.exc x M) = .exc x M := by
  show (if keepOk M M then Res.exc x (M.take M.length) else Res.exc x M) = _
  split
  · rw [List.take_length]
  · rfl
abbrev xAt (c : CA) : Xc := ⟨c.BadAtom, Str.ofString "badatom", -1⟩
abbrev xWd (c : CA) : Xc := ⟨c.BadWord, Str.ofString "badword", -1⟩
section
variable {as bs : List (List Nat × Bool)}
theorem check_bad (h : ∀ a ∈ as, a.1.length < 64) (l : as.length < 1000) (g : as.all okA = false) : F_p_check_product c [.tup (as.map atP)] M = .exc (xAt c) M := by
  rw [R_p_check_product]
  unfold B_p_check_product
  rw [ev_fIfS, ev_fNot, ev_fTest, ev_fCall, ev_fCons, ev_fVar0, bnd_ok, ev_fNil, bnd_ok, bnd_ok, List.append_nil, F_is_product_eq h l, g]
  exact gc_exc0
theorem check_ok (h : ∀ a ∈ as, a.1.length < 64) (l : as.length < 1000) (g : as.all okA = true) : F_p_check_product c [.tup (as.map atP)] M = .ok .non M := by
  rw [R_p_check_product]
  unfold B_p_check_product
  rw [ev_fIfS, ev_fNot, ev_fTest, ev_fCall, ev_fCons, ev_fVar0, bnd_ok, ev_fNil, bnd_ok, bnd_ok, List.append_nil, F_is_product_eq h l, g]
  simp
theorem check_let {s : List Nat} (h : s.length < lim) (g : (decide (s.length = 1) && s.all low) = false) : F_p_check_letter c [.str s] M = .exc (xWd c) M := by
  rw [R_p_check_letter]
  unfold B_p_check_letter
  rw [ev_fIfS, ev_fNot, ev_fTest, ev_fCall, ev_fCons, ev_fVar0, bnd_ok, ev_fNil, bnd_ok, bnd_ok, List.append_nil, F_is_letter_eq h, g]
  exact gc_exc0
theorem first_exc {C : FF} {g : FS} {σ : PS} {a : PV} {x : Xc} (ha : fVar 0 σ M = .ok a M) (h : C [a] M = .exc x M) : gc M (fnRes (fSeq (fDrop (fCall C [] (fCons (fVar 0) fNil))) g σ M)) = .exc x M := by
  rw [ev_fSeq, ev_fDrop, ev_fCall, ev_fCons, ha, bnd_ok, ev_fNil, bnd_ok, bnd_ok, List.append_nil, h]
  exact gc_exc0
variable (h : ∀ a ∈ as, a.1.length < 64) (l : as.length < 1000) (g : as.all okA = false)
include h l g
theorem holds_bad {w : PV} : F_p_holds c [.tup (as.map atP), w] M = .exc (xAt c) M := by
  rw [R_p_holds]
  exact first_exc rfl (check_bad h l g)
theorem inside_bad {w : PV} : F_p_inside c [.tup (as.map atP), w] M = .exc (xAt c) M := by
  rw [R_p_inside]
  exact first_exc rfl (check_bad h l g)
theorem plain_bad : F_p_plain c [.tup (as.map atP)] M = .exc (xAt c) M := by
  rw [R_p_plain]
  exact first_exc rfl (check_bad h l g)
theorem sent_bad {w : PV} : F_p_sent c [.tup (as.map atP), w] M = .exc (xAt c) M := by
  rw [R_p_sent]
  exact first_exc rfl (check_bad h l g)
theorem taken_bad {w : PV} : F_p_taken c [.tup (as.map atP), w] M = .exc (xAt c) M := by
  rw [R_p_taken]
  exact first_exc rfl (check_bad h l g)
theorem swollen_bad {w : PV} : F_p_swollen c [.tup (as.map atP), w] M = .exc (xAt c) M := by
  rw [R_p_swollen]
  exact first_exc rfl (check_bad h l g)
theorem text_bad : F_p_product_text c [.tup (as.map atP)] M = .exc (xAt c) M := by
  rw [R_p_product_text]
  exact first_exc rfl (check_bad h l g)
theorem inside_bad2 (h2 : ∀ a ∈ bs, a.1.length < 64) (l2 : bs.length < 1000) (g2 : bs.all okA = true) : F_p_inside c [.tup (bs.map atP), .tup (as.map atP)] M = .exc (xAt c) M := by
  rw [R_p_inside]
  unfold B_p_inside
  rw [ev_fSeq, ev_fDrop, ev_fCall, ev_fCons, ev_fVar0, bnd_ok, ev_fNil, bnd_ok, bnd_ok, List.append_nil, check_ok h2 l2 g2, go_ok, then2_nx, ev_fSeq, ev_fDrop, ev_fCall, ev_fCons]
  show gc M (fnRes (then2 _ ((F_p_check_product c [.tup (as.map atP)] M).go _))) = _
  rw [check_bad h l g]
  exact gc_exc0
end
section
variable {as : List (List Nat × Bool)} (h : ∀ a ∈ as, a.1.length < 64) (l : as.length < 1000) (g : as.all okA = true)
include h l g
theorem second_exc {g2 : FS} {σ : PS} {x : Xc} (h0 : fVar 0 σ M = .ok (.tup (as.map atP)) M) (h1 : g2 σ M = .exc x M) : gc M (fnRes (fSeq (fDrop (fCall (F_p_check_product c) [] (fCons (fVar 0) fNil))) g2 σ M)) = .exc x M := by
  rw [ev_fSeq, ev_fDrop, ev_fCall, ev_fCons, h0, bnd_ok, ev_fNil, bnd_ok, bnd_ok, List.append_nil, check_ok h l g, go_ok, then2_nx, h1]
  exact gc_exc0
theorem sent_word {s : List Nat} (hs : s.length < lim) (q : (decide (s.length = 1) && s.all low) = false) : F_p_sent c [.tup (as.map atP), .str s] M = .exc (xWd c) M := by
  rw [R_p_sent]
  refine second_exc h l g rfl ?_
  rw [ev_fSeq, ev_fDrop]
  show then2 _ ((F_p_check_letter c [.str s] M).go _) = _
  rw [check_let hs q]
  rfl
theorem taken_word {s : List Nat} (hs : s.length < lim) (q : (decide (s.length = 1) && s.all low) = false) : F_p_taken c [.tup (as.map atP), .str s] M = .exc (xWd c) M := by
  rw [R_p_taken]
  refine second_exc h l g rfl ?_
  rw [ev_fSeq, ev_fDrop]
  show then2 _ ((F_p_check_letter c [.str s] M).go _) = _
  rw [check_let hs q]
  rfl
theorem holds_word {s : List Nat} (hs : s.length < lim) (q : s.all low = false) : F_p_holds c [.tup (as.map atP), .str s] M = .exc (xWd c) M := by
  rw [R_p_holds]
  refine second_exc h l g rfl ?_
  rw [ev_fSeq, ev_fIfS, ev_fNot, ev_fTest]
  show then2 _ (((((F_p_is_word c [.str s] M).bnd asB).bnd _)).go _) = _
  rw [F_is_word_eq hs, q]
  rfl
theorem swollen_word {s : List Nat} (hs : s.length < lim) (q : (s.all low && ris s) = false) : F_p_swollen c [.tup (as.map atP), .str s] M = .exc (xWd c) M := by
  rw [R_p_swollen]
  refine second_exc h l g rfl ?_
  rw [ev_fSeq, ev_fIfS, ev_fNot, ev_fTest]
  show then2 _ (((((F_p_is_rising c [.str s] M).bnd asB).bnd _)).go _) = _
  rw [F_is_rising_eq hs, q]
  rfl
end
theorem product_of_word {s : List Nat} (hs : s.length < lim) (q : s.all low = false) : F_p_product_of c [.str s] M = .exc (xWd c) M := by
  rw [R_p_product_of]
  unfold B_p_product_of
  rw [ev_fSeq, ev_fIfS, ev_fNot, ev_fTest]
  show gc M (fnRes (then2 _ (((((F_p_is_word c [.str s] M).bnd asB).bnd _)).go _))) = _
  rw [F_is_word_eq hs, q]
  exact gc_exc0
end Pu
namespace Pu
open PySem PySem.Spec PyProof.Rows L2 LB
open Classical
variable {c : CA} {M M1 M' : PM} {b : Nat}
theorem lc_drawF {α : Type} {s : Nat} {ok : PM → Prop} {g : FG} {ft : FT} {fe : FE} {σ : PS} {e : α → PV} {d : Nat} {N0 : PM} {zs : List α} (M : PM) (Good : α → PV → Prop) (hd : d = M.length) (hN : N0 = M ++ [.lst []]) (hb : BagAt M b s) (hl : zs.length ≤ lim) (hok : ∀ N ys, Dr b s M N → ok (N ++ [.lst ys]))
    (hs : ∀ z ∈ zs, ∃ σ1, g (e z) σ = some σ1 ∧ ∀ N ys, Dr b s M N → ∃ t N1, ft σ1 (N ++ [.lst ys]) = .ok t (N1 ++ [.lst ys]) ∧ Dr b s N N1 ∧ (t = true → ∃ y N2, fe σ1 (N1 ++ [.lst ys]) = .ok y (N2 ++ [.lst ys]) ∧ Dr b s N1 N2 ∧ Good z y)) :
    ∃ M' ys zs', lcP ok g ft fe d σ (zs.map e) N0 = .ok () (M' ++ [.lst ys]) ∧ Dr b s M M' ∧ zs'.Sublist zs ∧ Paired Good zs' ys := by
  subst hd hN
  have go : ∀ (zs : List α) (N : PM) (acc : List PV), Dr b s M N → acc.length + zs.length ≤ lim → (∀ z ∈ zs, ∃ σ1, g (e z) σ = some σ1 ∧ ∀ N ys, Dr b s M N → ∃ t N1, ft σ1 (N ++ [.lst ys]) = .ok t (N1 ++ [.lst ys]) ∧ Dr b s N N1 ∧ (t = true → ∃ y N2, fe σ1 (N1 ++ [.lst ys]) = .ok y (N2 ++ [.lst ys]) ∧ Dr b s N1 N2 ∧ Good z y)) →
      ∃ M' ys zs', lcP ok g ft fe M.length σ (zs.map e) (N ++ [.lst acc]) = .ok () (M' ++ [.lst (acc ++ ys)]) ∧ Dr b s M M' ∧ zs'.Sublist zs ∧ Paired Good zs' ys := by
    intro zs
    induction zs with
    | nil =>
      intro N acc d _ _
      refine ⟨N, [], [], ?_, d, .slnil, .nil⟩
      rw [List.map_nil, List.append_nil]
      unfold lcP
      rw [if_pos (hok N acc d)]
    | cons z zs ih =>
      intro N acc d hl hs
      obtain ⟨σ1, e1, h1⟩ := hs z List.mem_cons_self
      obtain ⟨t, N1, e2, d1, h2⟩ := h1 N acc d
      rw [List.length_cons] at hl
      have dN := d.trans d1
      rw [List.map_cons]
      unfold lcP
      rw [if_pos (hok N acc d), e1]
      simp only
      rw [e2, nox_ok, bnd_ok]
      cases t with
      | false =>
        rw [if_neg (by decide)]
        obtain ⟨M', ys, zs', e4, d4, s4, p4⟩ := ih N1 acc dN (by omega) (fun w hw => hs w (List.mem_cons_of_mem _ hw))
        exact ⟨M', ys, zs', e4, d4, s4.cons _, p4⟩
      | true =>
        obtain ⟨y, N2, e3, d2, gd⟩ := h2 rfl
        have dN2 := dN.trans d2
        have lN : N2.length = M.length := dN2.len
        rw [if_pos rfl, e3, nox_ok, bnd_ok]
        have e4 : (N2 ++ [PO.lst acc])[M.length]? = some (.lst acc) := by rw [← lN]; exact List.getElem?_concat_length ..
        rw [e4]
        simp only
        rw [if_pos (by omega : acc.length < lim)]
        have e5 : (N2 ++ [PO.lst acc]).set M.length (.lst (acc ++ [y])) = N2 ++ [.lst (acc ++ [y])] := by rw [← lN]; exact set_last
        rw [e5]
        obtain ⟨M', ys, zs', e6, d6, s6, p6⟩ := ih N2 (acc ++ [y]) dN2 (by rw [List.length_append, List.length_singleton]; omega) (fun w hw => hs w (List.mem_cons_of_mem _ hw))
        exact ⟨M', y :: ys, z :: zs', by rw [e6, List.append_assoc]; rfl, d6, s6.cons₂ _, .cons gd p6⟩
  obtain ⟨M', ys, zs', h⟩ := go zs M [] (.refl hb) (by simpa using hl) hs
  exact ⟨M', ys, zs', by simpa using h⟩
/-- some of the letters, drawn, rising -/
theorem ones_ris {zs : List (List Nat)} (h1 : ∀ x ∈ zs, ∃ d, x = [d]) (h2 : zs.Pairwise (· ≤ ·)) (h3 : zs.Nodup) : ris zs.flatten = true := by
  have l : zs = zs.flatten.map fun d => [d] := by
    clear h2 h3
    induction zs with
    | nil => rfl
    | cons x r ih =>
      obtain ⟨d, rfl⟩ := h1 x List.mem_cons_self
      have := ih fun y hy => h1 y (List.mem_cons_of_mem _ hy)
      simp only [List.flatten_cons, List.map_append, List.map_cons, List.map_nil, List.singleton_append]
      rw [← this]
  rw [l] at h2 h3
  have s1 := List.pairwise_map.mp h2
  have s2 := List.pairwise_map.mp h3
  refine ris_pw.mpr ((s1.and s2).imp fun {a b} hab => ?_)
  have k1 : ¬ b < a := fun z => by
    have : ([b] : List Nat) < [a] := by simp [List.cons_lt_cons_iff, z]
    exact absurd hab.1 (List.not_le.mpr this)
  have k2 : a ≠ b := fun z => hab.2 (by rw [z])
  omega
noncomputable abbrev someE : FE := (fGc (fM1 mJoin (fC (.str [])) (fLc (fI itL (fB bSortS (fCons (fVar 1) fNil))) (gNm 7) (fTest (fOp pEq (fCallN (F_pull c) [] (fCons (fVar 0) (fCons (fC (.int 2)) fNil))) (fC (.int 0)))) (fVar 7) [7])))
theorem some_eq {s k : Nat} {N : PM} {cs : List Nat} {x2 x3 x4 x5 x6 x7 : Option PV} (h : BagAt N b s) (hk : k ≠ b) (e : N[k]? = some (.lst (cs.map fun d => PV.str [d]))) (nd : cs.Nodup) (lc : cs.length < 60) :
    ∃ t N', someE (c := c) [some (.ref b), some (.ref k), x2, x3, x4, x5, x6, x7] N = .ok (.str t) N' ∧ Dr b s N N' ∧ t.length ≤ cs.length ∧ (∀ d ∈ t, d ∈ cs) ∧ ris t = true := by
  obtain ⟨zs, ez⟩ : ∃ zs, sortS (cs.map fun d => [d]) = zs := ⟨_, rfl⟩
  have pz : zs.Perm (cs.map fun d => [d]) := by rw [← ez]; exact List.mergeSort_perm _ _
  have sz : zs.Pairwise (· ≤ ·) := by rw [← ez]; exact sorted_sortS
  have nz : zs.Nodup := pz.nodup_iff.mpr (List.pairwise_map.mpr (nd.imp fun ne z => ne (List.cons.inj z).1))
  have mz : ∀ x ∈ zs, ∃ d ∈ cs, x = [d] := fun x hx => by
    obtain ⟨d, hd, rfl⟩ := List.mem_map.mp (pz.mem_iff.mp hx)
    exact ⟨d, hd, rfl⟩
  have lz : zs.length = cs.length := by rw [pz.length_eq, List.length_map]
  have bl := h.ltb
  have h1 : BagAt (N ++ [.lst (zs.map .str)]) b s := h.app
  have l64 : (64 : Nat) ≤ lim := by decide
  obtain ⟨M2, ys, zs', e2, d2, sb, pr⟩ := lc_drawF (ok := fun M' => M'[N.length]? = some (.lst (zs.map .str))) (g := gNm 7) (ft := fTest (fOp pEq (fCallN (F_pull c) [] (fCons (fVar 0) (fCons (fC (.int 2)) fNil))) (fC (.int 0)))) (fe := fVar 7)
    (σ := wipeP [some (.ref b), some (.ref k), x2, x3, x4, x5, x6, x7] [7]) (e := PV.str) (zs := zs) (N ++ [.lst (zs.map .str)]) (fun z y => y = .str z) rfl rfl h1 (by omega) (fun N' ys d => by
      rw [List.getElem?_append_left (by rw [d.len]; simp), d.get (by omega)]
      simp) (fun z hz => ⟨_, rfl, fun N' ys d => by
      obtain ⟨q, X, eq, q0, q1, dX⟩ := F_pull_eq (c := c) (d.bag.app (ex := [.lst ys])) (n := 2) (by decide) (by decide)
      obtain ⟨N1, rfl, dN⟩ := dX.app d.bag.ltb d.bag.lts
      refine ⟨decide (PV.int q = PV.int 0), N1, ?_, dN, fun _ => ⟨.str z, N1, rfl, .refl dN.bag, rfl⟩⟩
      have eq' : (fCallN (F_pull c) [] (fCons (fVar 0) (fCons (fC (.int 2)) fNil))) ((wipeP [some (.ref b), some (.ref k), x2, x3, x4, x5, x6, x7] [7]).set 7 (some (.str z))) (N' ++ [.lst ys]) = .ok (.int q) (N1 ++ [.lst ys]) := by
        show ((F_pull c [.ref b, .int 2] (N' ++ [.lst ys]))).nox = _
        rw [eq]
        rfl
      rw [ev_fTest, ev_fOp, eq', bnd_ok, ev_fC, bnd_ok]
      simp⟩)
  have ey : ys = zs'.map PV.str := by
    clear e2 sb
    induction pr with
    | nil => rfl
    | cons a _ ih => rw [a, ih]; rfl
  subst ey
  have mz' : ∀ x ∈ zs', ∃ d ∈ cs, x = [d] := fun x hx => mz x (sb.subset hx)
  have l1 : (zs'.map List.length).sum = zs'.length := sum_one [] _ fun x hx => by obtain ⟨d, _, rfl⟩ := mz' x hx; rfl
  have l2 : zs'.length ≤ cs.length := by rw [← lz]; exact sb.length_le
  have lf : zs'.flatten.length = zs'.length := by rw [List.length_flatten, l1]
  obtain ⟨N2, eN, dN⟩ := d2.app h.ltb h.lts
  subst eN
  refine ⟨zs'.flatten, N2, ?_, dN, by rw [lf]; exact l2, fun d hd => ?_, ones_ris (fun x hx => by obtain ⟨d, _, rfl⟩ := mz' x hx; exact ⟨d, rfl⟩) (sz.sublist sb) (nz.sublist sb)⟩
  · have v1 : (fI itL (fB bSortS (fCons (fVar 1) fNil))) [some (.ref b), some (.ref k), x2, x3, x4, x5, x6, x7] N = .ok ⟨zs.map .str, fun M' => M'[N.length]? = some (.lst (zs.map .str))⟩ (N ++ [.lst (zs.map .str)]) := by
      have q : bSortS [.ref k] N = .ok (.ref N.length) (N ++ [.lst (zs.map .str)]) := by
        have a : lstAt N (.ref k) = some (cs.map fun d => PV.str [d]) := lstAt_ref' _ _ _ e
        have a2 : asStrs (cs.map fun d => PV.str [d]) = some (cs.map fun d => [d]) := by
          have := asStrs_map (cs.map fun d => [d])
          rw [List.map_map] at this
          exact this
        unfold bSortS
        simp only [a, Option.bind_some, a2]
        rw [if_pos (by simp; omega), ez]
      rw [ev_fI, ev_fB]
      show ((bSortS [.ref k] N)).bnd itL = _
      rw [q, bnd_ok]
      exact itL_at (by simp)
    unfold someE
    rw [ev_fGc, ev_fM1, ev_fC, bnd_ok, ev_fLc, v1, bnd_ok, e2, bnd_ok]
    rw [if_pos (show isS (PV.str []) = true from rfl), bnd_ok]
    rw [mJoin_at (ts := zs') (by rw [show (N ++ [PO.lst (zs.map .str)]).length = (N2 ++ [PO.lst (zs.map .str)]).length by simp [dN.len]]; exact List.getElem?_concat_length ..) (by omega)]
    exact gc_drawE (.lst (zs.map .str) :: [.lst (zs'.map .str)]) h dN (by simp) (by simp [PV.wf])
  · obtain ⟨x, hx, hd⟩ := List.mem_flatten.mp hd
    obtain ⟨y, hy, rfl⟩ := mz' x hx
    rw [List.mem_singleton.mp hd]
    exact hy
/-- a product drawn -/
theorem F_product_eq {s k n : Nat} {cs : List Nat} (h : BagAt M b s) (hk : k ≠ b) (e : M[k]? = some (.lst (cs.map fun d => PV.str [d]))) (nd : cs.Nodup) (lw : ∀ x ∈ cs, low x = true) (l0 : 0 < cs.length) (lc : cs.length < 60) (hn : n < 1000) :
    ∃ (as : List (List Nat × Bool)) (M' : PM), F_product c [.ref b, .ref k, .int (n : Nat)] M = .ok (.tup (as.map atP)) M' ∧ as.length ≤ n ∧ (∀ a ∈ as, okA a = true ∧ a.1.length < 60) ∧ Dr b s M M' := by
  obtain ⟨j, M1, e1, j0, j1, d1⟩ := F_pull_eq (c := c) (h.app (ex := [.lst []])) (n := (n : Int) + 1) (by omega) (by omega)
  obtain ⟨m, rfl⟩ := Int.eq_ofNat_of_zero_le j0
  obtain ⟨N1, rfl, f1⟩ := d1.app h.ltb h.lts
  have lb := h.ltb
  have loop : Goes (fFor (fIA itR1 (fCons (fCall (F_pull c) [] (fCons (fVar 0) (fCons (fOp (pI0 fun i j => .int (i + j)) (fVar 2) (fC (.int 1))) fNil))) fNil)) (gNm 4) (fSeq (fAsg (someE (c := c)) (gNm 5))
      (fSeq (fAsg (fAndV (fOp pNe (fVar 5) (fC (.str []))) (fOp (pI0 fun i j => .bl (decide (j < i))) (fCall (F_pull c) [] (fCons (fVar 0) (fCons (fC (.int 3)) fNil))) (fC (.int 0)))) (gNm 6))
      (fDrop (fBM "list" mAppend (fVar 3) (fCons (fIf (fTest (fVar 6)) (fTup (fCons (fVar 5) (fCons (fC (.bl true)) fNil))) (fTup (fCons (fCall (F_of c) [] (fCons (fVar 0) (fCons (fVar 1) fNil))) (fCons (fC (.bl false)) fNil)))) fNil))))))
      [some (.ref b), some (.ref k), some (.int (n : Nat)), some (.ref M.length), none, none, none, none] (M ++ [.lst []])
      (fun σ N => ∃ x4 x5 x6 x7, ∃ (as : List (List Nat × Bool)) (N0 : PM), σ = [some (.ref b), some (.ref k), some (.int (n : Nat)), some (.ref M.length), x4, x5, x6, x7] ∧ N = N0 ++ [.lst (as.map atP)] ∧ as.length = m ∧ (∀ a ∈ as, okA a = true ∧ a.1.length < 60) ∧ Dr b s M N0) := by
    refine goes_for (zs := List.range m) (e := fun i : Nat => PV.int (i : Nat)) (fun i σ N => ∃ x4 x5 x6 x7, ∃ (as : List (List Nat × Bool)) (N0 : PM), σ = [some (.ref b), some (.ref k), some (.int (n : Nat)), some (.ref M.length), x4, x5, x6, x7] ∧ N = N0 ++ [.lst (as.map atP)] ∧ as.length = i ∧ (∀ a ∈ as, okA a = true ∧ a.1.length < 60) ∧ Dr b s M N0) (M1 := N1 ++ [.lst []]) ?_ ⟨_, _, _, _, [], N1, rfl, rfl, rfl, fun a ha => absurd ha (by simp), f1⟩ (fun _ _ _ _ => trivial) ?_ (fun σ N hI => by
      obtain ⟨x4, x5, x6, x7, as, N0, q⟩ := hI
      exact ⟨x4, x5, x6, x7, as, N0, by simpa using q⟩)
    · simp only [ev_fIA, ev_fCons, ev_fCall, ev_fOp, ev_fVar0, ev_fVarS, ev_fC, ev_fNil, bnd_ok, List.append_nil, pI0_int, e1]
      exact itR1_nat (by omega)
    · rintro i z σ N hz ⟨x4, x5, x6, x7, as, N0, rfl, rfl, la, ga, d0⟩
      have l0' := d0.len
      have hil : i < lim := by
        have q := (List.getElem?_eq_some_iff.mp hz).1
        rw [List.length_range] at q
        have : (1000 : Nat) < lim := by decide
        omega
      have ek : (N0 ++ [PO.lst (as.map atP)])[k]? = some (.lst (cs.map fun d => PV.str [d])) := by
        rw [List.getElem?_append_left (by rw [l0']; exact (List.getElem?_eq_some_iff.mp e).1), d0.get hk, e]
      obtain ⟨t, N', e2, d2, t1, t2, t3⟩ := some_eq (c := c) (x2 := some (.int (n : Nat))) (x3 := some (.ref M.length)) (x4 := some (.int (z : Nat))) (x5 := x5) (x6 := x6) (x7 := x7) (d0.bag.app (ex := [.lst (as.map atP)])) hk ek nd lc
      obtain ⟨N2, rfl, f2⟩ := d2.app d0.bag.ltb d0.bag.lts
      refine ⟨_, rfl, goes_seq (goes_asg (p := .str t) (M1 := N2 ++ [PO.lst (as.map atP)]) e2 rfl ?_)⟩
      simp only [List.set_cons_succ, List.set_cons_zero]
      have tall : t.all low = true := List.all_eq_true.mpr fun d hd => lw d (t2 d hd)
      have d02 := d0.trans f2
      -- whether it is many
      have many : ∃ q N3, (fAndV (fOp pNe (fVar 5) (fC (.str []))) (fOp (pI0 fun i j => .bl (decide (j < i))) (fCall (F_pull c) [] (fCons (fVar 0) (fCons (fC (.int 3)) fNil))) (fC (.int 0)))) [some (.ref b), some (.ref k), some (.int (n : Nat)), some (.ref M.length), some (.int (z : Nat)), some (.str t), x6, x7] (N2 ++ [.lst (as.map atP)]) = .ok (.bl q) (N3 ++ [.lst (as.map atP)]) ∧ Dr b s N2 N3 ∧ (q = true → t ≠ []) := by
        have p1 : (fOp pNe (fVar 5) (fC (.str []))) [some (.ref b), some (.ref k), some (.int (n : Nat)), some (.ref M.length), some (.int (z : Nat)), some (.str t), x6, x7] (N2 ++ [.lst (as.map atP)]) = .ok (.bl (!decide (t = []))) (N2 ++ [.lst (as.map atP)]) := by simp
        obtain ⟨q, X, eq, q0, q1, dX⟩ := F_pull_eq (c := c) (d02.bag.app (ex := [.lst (as.map atP)])) (n := 3) (by decide) (by decide)
        obtain ⟨N3, rfl, d3⟩ := dX.app d02.bag.ltb d02.bag.lts
        by_cases ht : t = []
        · refine ⟨false, N2, ?_, .refl d02.bag, fun z => by cases z⟩
          rw [ev_fAndV, p1, bnd_ok, asB_bl, bnd_ok, ht]
          rfl
        · refine ⟨decide (0 < q), N3, ?_, d3, fun _ => ht⟩
          rw [ev_fAndV, p1, bnd_ok, asB_bl, bnd_ok, decide_eq_false ht]
          have e3 : (fCall (F_pull c) [] (fCons (fVar 0) (fCons (fC (.int 3)) fNil))) [some (.ref b), some (.ref k), some (.int (n : Nat)), some (.ref M.length), some (.int (z : Nat)), some (.str t), x6, x7] (N2 ++ [.lst (as.map atP)]) = .ok (.int q) (N3 ++ [.lst (as.map atP)]) := eq
          show (fOp (pI0 fun i j => .bl (decide (j < i))) (fCall (F_pull c) [] (fCons (fVar 0) (fCons (fC (.int 3)) fNil))) (fC (.int 0))) _ _ = _
          rw [ev_fOp, e3, bnd_ok, ev_fC, bnd_ok]
          rfl
      obtain ⟨q, N3, e3, d3, hq⟩ := many
      refine goes_seq (goes_asg (p := .bl q) (M1 := N3 ++ [PO.lst (as.map atP)]) e3 rfl ?_)
      simp only [List.set_cons_succ, List.set_cons_zero]
      have d03 := d02.trans d3
      have l3 := d03.len
      have app : ∀ (a : List Nat × Bool) (N4 : PM), Dr b s M N4 → mAppend (.ref M.length) [atP a] (N4 ++ [.lst (as.map atP)]) = .ok .non (N4 ++ [.lst ((as ++ [a]).map atP)]) := fun a N4 d4 => by
        have l4 := d4.len
        have q := mAppend_at (M := N4 ++ [PO.lst (as.map atP)]) (k := M.length) (xs := as.map atP) (y := atP a) (by rw [← l4]; exact List.getElem?_concat_length ..) (by rw [List.length_map, la]; exact hil)
        rw [q, ← l4, set_last]
        simp
      have tyL : ∀ N4 : PM, Dr b s M N4 → isTyP (N4 ++ [PO.lst (as.map atP)]) "list" (.ref M.length) = true := fun N4 d4 => by
        have l4 := d4.len
        unfold isTyP
        simp [← l4]
      cases q with
      | true =>
        refine goes_drop (p := .non) (M1 := N3 ++ [PO.lst ((as ++ [(t, true)]).map atP)]) ?_ ⟨_, _, _, _, as ++ [(t, true)], N3, rfl, rfl, by simp [la], fun a ha => ?_, d03⟩
        · rw [ev_fBM, ev_fVarS]
          show (if isTyP (N3 ++ [PO.lst (as.map atP)]) "list" (.ref M.length) = true then (Res.ok [atP (t, true)] (N3 ++ [PO.lst (as.map atP)])).bnd (fun qs M2 => mAppend (.ref M.length) qs M2) else .bad) = _
          rw [if_pos (tyL N3 d03), bnd_ok]
          exact app (t, true) N3 d03
        · rcases List.mem_append.mp ha with ha | ha
          · exact ga a ha
          · rw [List.mem_singleton.mp ha]
            have := hq rfl
            exact ⟨by simp [okA, this, tall, t3], by show t.length < 60; omega⟩
      | false =>
        have ek3 : (N3 ++ [PO.lst (as.map atP)])[k]? = some (.lst (cs.map fun d => PV.str [d])) := by
          rw [List.getElem?_append_left (by rw [l3]; exact (List.getElem?_eq_some_iff.mp e).1), d03.get hk, e]
        obtain ⟨y, X, e4, my, dX⟩ := F_of_lst (c := c) (d03.bag.app (ex := [.lst (as.map atP)])) hk ek3 (by rw [List.length_map]; exact l0) (by rw [List.length_map]; omega)
        obtain ⟨N4, rfl, d4⟩ := dX.app d03.bag.ltb d03.bag.lts
        obtain ⟨y, hy, rfl⟩ := List.mem_map.mp my
        have d04 := d03.trans d4
        refine goes_drop (p := .non) (M1 := N4 ++ [PO.lst ((as ++ [([y], false)]).map atP)]) ?_ ⟨_, _, _, _, as ++ [([y], false)], N4, rfl, rfl, by simp [la], fun a ha => ?_, d04⟩
        · have e5 : (fIf (fTest (fVar 6)) (fTup (fCons (fVar 5) (fCons (fC (.bl true)) fNil))) (fTup (fCons (fCall (F_of c) [] (fCons (fVar 0) (fCons (fVar 1) fNil))) (fCons (fC (.bl false)) fNil)))) [some (.ref b), some (.ref k), some (.int (n : Nat)), some (.ref M.length), some (.int (z : Nat)), some (.str t), some (.bl false), x7] (N3 ++ [PO.lst (as.map atP)]) = .ok (atP ([y], false)) (N4 ++ [PO.lst (as.map atP)]) := by
            have e6 : (fCall (F_of c) [] (fCons (fVar 0) (fCons (fVar 1) fNil))) [some (.ref b), some (.ref k), some (.int (n : Nat)), some (.ref M.length), some (.int (z : Nat)), some (.str t), some (.bl false), x7] (N3 ++ [PO.lst (as.map atP)]) = .ok (.str [y]) (N4 ++ [PO.lst (as.map atP)]) := e4
            show (fTup (fCons (fCall (F_of c) [] (fCons (fVar 0) (fCons (fVar 1) fNil))) (fCons (fC (.bl false)) fNil))) _ _ = _
            rw [ev_fTup, ev_fCons, e6]
            rfl
          rw [ev_fBM, ev_fVarS]
          show (if isTyP (N3 ++ [PO.lst (as.map atP)]) "list" (.ref M.length) = true then ((fCons (fIf (fTest (fVar 6)) (fTup (fCons (fVar 5) (fCons (fC (.bl true)) fNil))) (fTup (fCons (fCall (F_of c) [] (fCons (fVar 0) (fCons (fVar 1) fNil))) (fCons (fC (.bl false)) fNil)))) fNil) [some (.ref b), some (.ref k), some (.int (n : Nat)), some (.ref M.length), some (.int (z : Nat)), some (.str t), some (.bl false), x7] (N3 ++ [PO.lst (as.map atP)])).bnd (fun qs M2 => mAppend (.ref M.length) qs M2) else .bad) = _
          rw [if_pos (tyL N3 d03), ev_fCons, e5, bnd_ok, ev_fNil, bnd_ok, bnd_ok]
          exact app ([y], false) N4 d04
        · rcases List.mem_append.mp ha with ha | ha
          · exact ga a ha
          · rw [List.mem_singleton.mp ha]
            exact ⟨by simp [okA, ris, lw y hy], by show 1 < 60; decide⟩
  obtain ⟨σ2, N2, e2, x4, x5, x6, x7, as, N0, rfl, rfl, la, ga, d0⟩ := loop
  refine ⟨as, N0, ?_, by omega, ga, d0⟩
  rw [R_product]
  unfold B_product
  have e0 : (fAsg (fLst fNil) (gNm 3)) [some (.ref b), some (.ref k), some (.int (n : Nat)), none, none, none, none, none] M = .nx [some (.ref b), some (.ref k), some (.int (n : Nat)), some (.ref M.length), none, none, none, none] (M ++ [.lst []]) := rfl
  rw [ev_fSeq, e0, then2_nx, ev_fSeq, e2, then2_nx]
  have l0 := d0.len
  have e9 : (fRet (fB bTup (fCons (fVar 3) fNil))) [some (.ref b), some (.ref k), some (.int (n : Nat)), some (.ref M.length), x4, x5, x6, x7] (N0 ++ [.lst (as.map atP)]) = .rt (.tup (as.map atP)) (N0 ++ [.lst (as.map atP)]) := by
    rw [ev_fRet, ev_fB]
    show ((bTup [.ref M.length] (N0 ++ [.lst (as.map atP)]))).go _ = _
    rw [bTup_lst (xs := as.map atP) (by rw [← l0]; exact List.getElem?_concat_length ..)]
    rfl
  rw [e9]
  refine gc_draw h d0 ?_
  unfold PV.wf
  clear e2 e9 ga la
  induction as with
  | nil => unfold PV.wfs; trivial
  | cons a r ih =>
    rw [List.map_cons]
    unfold PV.wfs
    exact ⟨by simp [atP, PV.wf, PV.wfs], ih⟩
end Pu
namespace Pu
open PySem PySem.Spec PyProof.Rows L2 LB
open Classical
variable {c : CA} {M M1 M' : PM} {b : Nat}
def odds : List (List Nat × Bool) := [([], true), ([], false), ([98, 97], true), ([97, 97], true), ([65], false), ([97, 98], false), ([97, 49], true)]
theorem odds_bad : ∀ o ∈ odds, okA o = false ∧ o.1.length < 60 := by decide
/-- a product bent -/
theorem F_bent_product_eq {s : Nat} {as : List (List Nat × Bool)} (h : BagAt M b s) (l : as.length < 100) (g : ∀ a ∈ as, a.1.length < 60) :
    ∃ (bs : List (List Nat × Bool)) (M' : PM), F_bent_product c [.ref b, .tup (as.map atP)] M = .ok (.tup (bs.map atP)) M' ∧ Dr b s M M' ∧ bs.all okA = false ∧ bs.length < 102 ∧ ∀ a ∈ bs, a.1.length < 60 := by
  have l1 : (1000000 : Nat) = lim := rfl
  obtain ⟨j, M1, e1, j0, j1, d1⟩ := F_pull_eq (c := c) h (n := (as.length : Int) + 1) (by omega) (by omega)
  obtain ⟨m, rfl⟩ := Int.eq_ofNat_of_zero_le j0
  have lb := d1.bag.ltb
  obtain ⟨x, X, e2, mx, dX⟩ := F_of_lst (c := c) (d1.bag.app (ex := [.lst (odds.map atP)])) (k := M1.length) (by omega) (List.getElem?_concat_length ..) (by decide) (by decide)
  obtain ⟨M2, rfl, d2⟩ := dX.app d1.bag.ltb d1.bag.lts
  obtain ⟨o, ho, rfl⟩ := List.mem_map.mp mx
  have d12 := d1.trans d2
  refine ⟨as.take m ++ [o] ++ as.drop m, M2, ?_, d12, ?_, ?_, fun a ha => ?_⟩
  · rw [R_bent_product]
    unfold B_bent_product
    have s1 : (fAsg (fCall (F_pull c) [] (fCons (fVar 0) (fCons (fOp (pI0 fun i j => .int (i + j)) (fB bLen (fCons (fVar 1) fNil)) (fC (.int 1))) fNil))) (gNm 2)) [some (.ref b), some (.tup (as.map atP)), none, none] M = .nx [some (.ref b), some (.tup (as.map atP)), some (.int (m : Nat)), none] M1 := by
      have q : (fB bLen (fCons (fVar 1) fNil)) [some (.ref b), some (.tup (as.map atP)), none, none] M = .ok (.int (as.length : Nat)) M := by
        show bLen [.tup (as.map atP)] M = _
        unfold bLen seqAt
        simp
      rw [ev_fAsg, ev_fCall, ev_fCons, ev_fVar0, bnd_ok, ev_fCons, ev_fOp, q, bnd_ok, ev_fC, bnd_ok]
      show (((F_pull c [.ref b, .int ((as.length : Nat) + 1)] M)).go _) = _
      rw [e1]
      rfl
    rw [ev_fSeq, s1, then2_nx, ev_fSeq]
    have s2 : ∀ f : FS, then2 f ((fAsg (fLst (fCons (fTup (fCons (fC (.str [])) (fCons (fC (.bl true)) fNil))) (fCons (fTup (fCons (fC (.str [])) (fCons (fC (.bl false)) fNil))) (fCons (fTup (fCons (fC (.str [98, 97])) (fCons (fC (.bl true)) fNil))) (fCons (fTup (fCons (fC (.str [97, 97])) (fCons (fC (.bl true)) fNil))) (fCons (fTup (fCons (fC (.str [65])) (fCons (fC (.bl false)) fNil))) (fCons (fTup (fCons (fC (.str [97, 98])) (fCons (fC (.bl false)) fNil))) (fCons (fTup (fCons (fC (.str [97, 49])) (fCons (fC (.bl true)) fNil))) fNil)))))))) (gNm 3)) [some (.ref b), some (.tup (as.map atP)), some (.int (m : Nat)), none] M1) = f [some (.ref b), some (.tup (as.map atP)), some (.int (m : Nat)), some (.ref M1.length)] (M1 ++ [.lst (odds.map atP)]) := fun f => rfl
    rw [s2, ev_fRet, ev_fOp, ev_fOp]
    have a1 : (fSl pSlT (fVar 1) fNoPart (fPart (fVar 2))) [some (.ref b), some (.tup (as.map atP)), some (.int (m : Nat)), some (.ref M1.length)] (M1 ++ [.lst (odds.map atP)]) = .ok (.tup ((as.take m).map atP)) (M1 ++ [.lst (odds.map atP)]) := by
      show pSlT (.tup (as.map atP)) none (some (m : Nat)) _ = _
      rw [pSlT_tup, cut_take', List.map_take]
    have a2 : (fTup (fCons (fCall (F_of c) [] (fCons (fVar 0) (fCons (fVar 3) fNil))) fNil)) [some (.ref b), some (.tup (as.map atP)), some (.int (m : Nat)), some (.ref M1.length)] (M1 ++ [.lst (odds.map atP)]) = .ok (.tup [atP o]) (M2 ++ [.lst (odds.map atP)]) := by
      have q : (fCall (F_of c) [] (fCons (fVar 0) (fCons (fVar 3) fNil))) [some (.ref b), some (.tup (as.map atP)), some (.int (m : Nat)), some (.ref M1.length)] (M1 ++ [.lst (odds.map atP)]) = .ok (atP o) (M2 ++ [.lst (odds.map atP)]) := e2
      rw [ev_fTup, ev_fCons, q]
      rfl
    have a3 : (fSl pSlT (fVar 1) (fPart (fVar 2)) fNoPart) [some (.ref b), some (.tup (as.map atP)), some (.int (m : Nat)), some (.ref M1.length)] (M2 ++ [.lst (odds.map atP)]) = .ok (.tup ((as.drop m).map atP)) (M2 ++ [.lst (odds.map atP)]) := by
      show pSlT (.tup (as.map atP)) (some (m : Nat)) none _ = _
      rw [pSlT_tup, cut_drop, List.map_drop]
    have t1 := List.length_take_le m as
    have t2 : (as.drop m).length ≤ as.length := by rw [List.length_drop]; omega
    have t3 : (as.take m).length ≤ as.length := by rw [List.length_take]; omega
    rw [a1, bnd_ok, a2, bnd_ok, pAddT_tup (by simp; omega), bnd_ok, a3, bnd_ok, pAddT_tup (by simp; omega)]
    have e : (as.take m).map atP ++ [atP o] ++ (as.drop m).map atP = (as.take m ++ [o] ++ as.drop m).map atP := by simp
    rw [e]
    refine gc_draw h d12 ?_
    unfold PV.wf
    generalize as.take m ++ [o] ++ as.drop m = ws
    induction ws with
    | nil => unfold PV.wfs; trivial
    | cons a r ih =>
      rw [List.map_cons]
      unfold PV.wfs
      exact ⟨by simp [atP, PV.wf, PV.wfs], ih⟩
  · rw [List.all_append, List.all_append]
    simp [(odds_bad o ho).1]
  · have t3 : (as.take m).length ≤ as.length := by rw [List.length_take]; omega
    have t2 : (as.drop m).length ≤ as.length := by rw [List.length_drop]; omega
    have t4 : (as.take m).length + (as.drop m).length = as.length := by rw [List.length_take, List.length_drop]; omega
    simp only [List.length_append, List.length_singleton]
    omega
  · simp only [List.mem_append, List.mem_singleton] at ha
    rcases ha with (ha | ha) | ha
    · exact g a (List.mem_of_mem_take ha)
    · rw [ha]; exact (odds_bad o ho).2
    · exact g a (List.mem_of_mem_drop ha)
end Pu
namespace Puk29
open PySem PySem.Spec PyProof.Rows L2 LB Pu
open Classical
variable {c : CA} {M M1 M' : PM} {b : Nat}
theorem told_x {cs : List Addr} {x : Xc} (h : x.C ∈ cs) : toldP cs (.exc x M) = .ok (.tup [.str x.w.cps.toList, .int x.n]) M := if_pos h
theorem dat_lstO {k : Nat} {xs : List PV} {n : Nat} (e : M[k]? = some (.lst xs)) (hd : ∀ x ∈ xs, Dat n x) : datF M (n + 1) (.ref k) = some (.list (dvs xs)) := by
  unfold datF
  rw [e]
  simp only
  rw [mapM_dv fun x hx => datF_dv (hd x hx)]
  rfl
theorem ne_same {k j : Nat} {xs : List PV} (e : M[k]? = some (.lst xs)) (e2 : M[j]? = some (.lst xs)) (hd : ∀ x ∈ xs, Dat 59 x) : pNeD (.ref k) (.ref j) M = .ok (.bl false) M := by
  unfold pNeD
  rw [dat_lstO e hd, dat_lstO e2 hd]
  simp only
  have := eqv_dv (.tup xs) (.tup xs) 60 60 (by rw [dat_tup]; exact hd) (by rw [dat_tup]; exact hd)
  have t : PyData.eqv (.list (dvs xs)) (.list (dvs xs)) = true := by
    have h2 : PyData.eqv (dv (.tup xs)) (dv (.tup xs)) = true := by rw [this]; simp
    unfold dv at h2
    simpa [PyData.eqv] using h2
  rw [t]
  rfl
/-- all are told alike -/
theorem asks_go {cs : List Addr} {σ : PS} {v : PV} : ∀ {fes : List FE} {acc : List PV}, (∀ fe ∈ fes, ∀ acc, toldP cs (fe σ (M ++ [.lst acc])) = .ok v (M ++ [.lst acc])) → acc.length + fes.length < lim →
    asksP cs M.length σ fes (M ++ [.lst acc]) = .ok () (M ++ [.lst (acc ++ List.replicate fes.length v)])
  | [], acc, _, _ => by
    unfold asksP
    simp
  | fe :: fes, acc, h, l => by
    rw [List.length_cons] at l
    unfold asksP
    have e : fRef cs fe σ (M ++ [.lst acc]) = .ok v (M ++ [.lst acc]) := h fe List.mem_cons_self acc
    rw [e, nox_ok, bnd_ok, List.getElem?_concat_length]
    simp only
    rw [if_pos (by omega), set_last, asks_go (fun f hf => h f (List.mem_cons_of_mem _ hf)) (by rw [List.length_append, List.length_singleton]; omega)]
    rw [List.append_assoc, List.length_cons, List.replicate_succ]
    rfl
theorem asks_run {cs : List Addr} {ia : Nat} {σ : PS} {v : PV} {fes : List FE} (hi : ia < σ.length) (h : ∀ fe ∈ fes, ∀ acc, toldP cs (fe σ (M ++ [.lst acc])) = .ok v (M ++ [.lst acc])) (l : fes.length < 1000) :
    fAsksL cs ia fes σ M = .ok (.ref M.length) (M ++ [.lst (List.replicate fes.length v)]) := by
  unfold fAsksL
  have : (1000 : Nat) < lim := by decide
  rw [if_pos hi, asks_go h (by simp; omega), bnd_ok]
  rfl
theorem asks_test {cs : List Addr} {ia n : Nat} {σ : PS} {w : List Nat} {fes : List FE} (hi : ia < σ.length) (h : ∀ fe ∈ fes, ∀ acc, toldP cs (fe σ (M ++ [.lst acc])) = .ok (.tup [.str w, .int (-1)]) (M ++ [.lst acc])) (l : fes.length = n) (ln : n < 100) (hw : asc w) :
    ∃ ex, (fTest (fOp pNeD (fAsksL cs ia fes) (fOp pRepL (fLst (fCons (fTup (fCons (fC (.str w)) (fCons (fUn (pU fun i => .int (-i)) (fC (.int 1))) fNil))) fNil)) (fC (.int (n : Nat)))))) σ M = .ok false (M ++ ex) := by
  have l1 : (1000000 : Nat) = lim := rfl
  have e1 := asks_run (M := M) (cs := cs) (v := .tup [.str w, .int (-1)]) hi h (by omega)
  rw [l] at e1
  have e2 : (fOp pRepL (fLst (fCons (fTup (fCons (fC (.str w)) (fCons (fUn (pU fun i => .int (-i)) (fC (.int 1))) fNil))) fNil)) (fC (.int (n : Nat)))) σ (M ++ [.lst (List.replicate n (.tup [.str w, .int (-1)]))]) =
      .ok (.ref (M.length + 2)) (M ++ [.lst (List.replicate n (.tup [.str w, .int (-1)]))] ++ [.lst [.tup [.str w, .int (-1)]]] ++ [.lst (List.replicate n (.tup [.str w, .int (-1)]))]) := by
    have q : (fLst (fCons (fTup (fCons (fC (.str w)) (fCons (fUn (pU fun i => .int (-i)) (fC (.int 1))) fNil))) fNil)) σ (M ++ [.lst (List.replicate n (.tup [.str w, .int (-1)]))]) = .ok (.ref (M.length + 1)) (M ++ [.lst (List.replicate n (.tup [.str w, .int (-1)]))] ++ [.lst [.tup [.str w, .int (-1)]]]) := by
      show Res.ok (PV.ref (M ++ [PO.lst (List.replicate n (PV.tup [.str w, .int (-1)]))]).length) _ = _
      simp
    rw [ev_fOp, q, bnd_ok, ev_fC, bnd_ok]
    unfold pRepL
    have a : lstAt (M ++ [.lst (List.replicate n (.tup [.str w, .int (-1)]))] ++ [.lst [.tup [.str w, .int (-1)]]]) (.ref (M.length + 1)) = some [.tup [.str w, .int (-1)]] := lstAt_ref' _ _ _ (by
      have : M.length + 1 = (M ++ [PO.lst (List.replicate n (PV.tup [.str w, .int (-1)]))]).length := by simp
      rw [this]
      exact List.getElem?_concat_length ..)
    rw [a]
    simp only
    rw [if_pos ⟨by omega, by omega, by simp; omega⟩]
    have fl : (List.replicate (Int.toNat (n : Nat)) [PV.tup [.str w, .int (-1)]]).flatten = List.replicate n (.tup [.str w, .int (-1)]) := by
      rw [Int.toNat_natCast]
      clear e1 a q l ln
      induction n with
      | zero => rfl
      | succ k ih => rw [List.replicate_succ, List.flatten_cons, ih, List.replicate_succ]; rfl
    rw [fl]
    simp
  refine ⟨[.lst (List.replicate n (.tup [.str w, .int (-1)])), .lst [.tup [.str w, .int (-1)]], .lst (List.replicate n (.tup [.str w, .int (-1)]))], ?_⟩
  have hd : ∀ x ∈ List.replicate n (PV.tup [.str w, .int (-1)]), Dat 59 x := fun x hx => by
    rw [(List.mem_replicate.mp hx).2, dat_tup]
    intro y hy
    simp only [List.mem_cons, List.not_mem_nil, or_false] at hy
    rcases hy with rfl | rfl
    · rw [dat_str]; exact hw
    · trivial
  rw [ev_fTest, ev_fOp, e1, bnd_ok, e2, bnd_ok, ne_same (xs := List.replicate n (.tup [.str w, .int (-1)])) (by simp) (by simp) hd]
  simp
theorem goes_hide {i : Nat} {f : FS} {σ : PS} {Q : PS → PM → Prop} (hi : i < σ.length) (h : Goes f (σ.set i none) M Q) : Goes (fHide i f) σ M Q := by
  obtain ⟨σ', N, e, q⟩ := h
  refine ⟨σ', N, ?_, q⟩
  unfold fHide
  rw [if_pos hi, e]
theorem w_at : (Str.ofString "badatom").cps.toList = [98, 97, 100, 97, 116, 111, 109] := by decide +kernel
theorem w_wd : (Str.ofString "badword").cps.toList = [98, 97, 100, 119, 111, 114, 100] := by decide +kernel
theorem tell_at : toldP (exCs c) (.exc (xAt c) M) = .ok (.tup [.str [98, 97, 100, 97, 116, 111, 109], .int (-1)]) M := by
  rw [told_x (by simp [exCs])]
  show Res.ok (PV.tup [.str (Str.ofString "badatom").cps.toList, .int (-1)]) M = _
  rw [w_at]
theorem tell_wd : toldP (exCs c) (.exc (xWd c) M) = .ok (.tup [.str [98, 97, 100, 119, 111, 114, 100], .int (-1)]) M := by
  rw [told_x (by simp [exCs])]
  show Res.ok (PV.tup [.str (Str.ofString "badword").cps.toList, .int (-1)]) M = _
  rw [w_wd]
theorem asc_all {l : List Nat} (h : (l.all fun x => Nat.blt x 128) = true) : asc l := fun x hx => Nat.le_of_ble_eq_true (List.all_eq_true.mp h x hx)
theorem asc_at : asc [98, 97, 100, 97, 116, 111, 109] := asc_all rfl
theorem asc_wd : asc [98, 97, 100, 119, 111, 114, 100] := asc_all rfl
theorem goes_end {B : FS} {e : FE} {σ : PS} (h : Goes B σ M fun _ _ => True) (he : ∀ σ' N, e σ' N = .ok (.bl true) N) : ∃ M', fSeq B (fRet e) σ M = .rt (.bl true) M' := by
  obtain ⟨σ', N, e1, _⟩ := h
  exact ⟨N, by rw [ev_fSeq, e1, then2_nx, ev_fRet, he, go_ok]⟩
theorem law_pure (c : CA) (ns : List Int) (i r sd ct : Int) (h0 : 0 ≤ i) : ∃ M', B_law c (none :: some (.ref 1) :: List.replicate 8 none) [.lst (ns.map PV.int), .lst [.ref 0, .int i, .int r, .int sd, .int ct]] = .rt (.bl true) M' := by
  unfold B_law
  have hB : BagAt [PO.lst (ns.map PV.int), .lst [.ref 0, .int i, .int r, .int sd, .int ct]] 1 0 := ⟨by decide, ns, i, r, sd, ct, rfl, rfl, h0⟩
  have l2 : [PO.lst (ns.map PV.int), .lst [.ref 0, .int i, .int r, .int sd, .int ct]].length = 2 := rfl
  generalize [PO.lst (ns.map PV.int), .lst [.ref 0, .int i, .int r, .int sd, .int ct]] = M0 at hB l2
  obtain ⟨f, y, M1, hy, d1, e1⟩ := F_letters_eq (c := c) hB
  obtain ⟨cs, hcs⟩ : ∃ cs, (List.range 3).map (lett f y) = cs := ⟨_, rfl⟩
  rw [hcs] at e1
  have lcs : cs.length = 3 := by rw [← hcs]; simp
  have ncs : cs.Nodup := by
    rw [← hcs]
    exact List.pairwise_map.mpr ((List.nodup_range (n := 3)).imp_of_mem fun {i j} hi hj ne h => ne (lett_inj hy (by have := List.mem_range.mp hi; omega) (by have := List.mem_range.mp hj; omega) h))
  have wcs : ∀ x ∈ cs, low x = true := fun x hx => by
    rw [← hcs] at hx
    obtain ⟨k, _, rfl⟩ := List.mem_map.mp hx
    exact decide_eq_true (lett_bd f y k)
  have ld1 := d1.len
  have s1 : (fAsg (fCallN (F_letters c) [] (fCons (fVar 1) fNil)) (gNm 2)) (none :: some (.ref 1) :: List.replicate 8 none) M0 = .nx [none, some (.ref 1), some (.ref M0.length), none, none, none, none, none, none, none] (M1 ++ [.lst (cs.map fun d => .str [d])]) := by
    rw [ev_fAsg, ev_fCallN]
    show ((((F_letters c [.ref 1] M0)).nox).go _) = _
    rw [e1]
    rfl
  have ek0 : (M1 ++ [PO.lst (cs.map fun d => PV.str [d])])[M0.length]? = some (.lst (cs.map fun d => .str [d])) := by
    rw [← ld1]
    exact List.getElem?_concat_length ..
  have kb : M0.length ≠ 1 := by omega
  have hB1 : BagAt (M1 ++ [PO.lst (cs.map fun d => PV.str [d])]) 1 0 := d1.bag.app
  rw [ev_fSeq, s1, then2_nx]
  generalize M1 ++ [PO.lst (cs.map fun d => PV.str [d])] = N0 at ek0 hB1
  generalize M0.length = k at ek0 kb
  refine goes_end ?_ fun σ' N => ?_
  · skip
    refine goes_each (zs := List.range 4) (e := fun i : Nat => PV.int (i : Nat)) (fun σ N => ∃ x3 x4 x5 x6 x7 x8 x9, σ = [none, some (.ref 1), some (.ref k), x3, x4, x5, x6, x7, x8, x9] ∧ BagAt N 1 0 ∧ N[k]? = some (.lst (cs.map fun d => PV.str [d])))
      (by simp only [ev_fIA, ev_fCons, ev_fC, ev_fNil, bnd_ok]; exact itR1_nat (n := 4) (by decide)) ⟨_, _, _, _, _, _, _, rfl, hB1, ek0⟩ (fun _ _ _ => trivial) (fun z _ σ N hI => ?_) (fun _ _ _ => trivial)
    obtain ⟨x3, x4, x5, x6, x7, x8, x9, rfl, hb, ek⟩ := hI
    obtain ⟨as, N1, e2, las, gas, d2⟩ := F_product_eq (c := c) (n := 5) hb kb ek ncs wcs (by omega) (by omega) (by decide)
    have ga : ∀ a ∈ as, a.1.length < 60 := fun a ha => (gas a ha).2
    have oka : as.all okA = true := List.all_eq_true.mpr fun a ha => (gas a ha).1
    obtain ⟨bs, N2, e3, d3, okb, lbs, gb⟩ := F_bent_product_eq (c := c) d2.bag (by omega) ga
    have d23 := d2.trans d3
    obtain ⟨x, X, e4, mx, dX⟩ := F_of_lst (c := c) (d23.bag.app (ex := [.lst [.tup (as.map atP), .tup (bs.map atP)]])) (k := N2.length) (by have := d23.bag.ltb; omega) (List.getElem?_concat_length ..) (Nat.le_of_ble_eq_true rfl) (Nat.le_of_ble_eq_true rfl)
    obtain ⟨N3, rfl, d4⟩ := dX.app d23.bag.ltb d23.bag.lts
    obtain ⟨ts, rfl, gt, lt⟩ : ∃ ts : List (List Nat × Bool), x = .tup (ts.map atP) ∧ (∀ a ∈ ts, a.1.length < 60) ∧ ts.length < 102 := by
      simp only [List.mem_cons, List.not_mem_nil, or_false] at mx
      rcases mx with rfl | rfl
      · exact ⟨as, rfl, ga, by omega⟩
      · exact ⟨bs, rfl, gb, lbs⟩
    have d24 := d23.trans d4
    have ek3 : (N3 ++ [PO.lst [.tup (as.map atP), .tup (bs.map atP)]])[k]? = some (.lst (cs.map fun d => PV.str [d])) := by
      rw [List.getElem?_append_left (by rw [d24.len]; exact (List.getElem?_eq_some_iff.mp ek).1), d24.get kb, ek]
    have hb3 : BagAt (N3 ++ [PO.lst [.tup (as.map atP), .tup (bs.map atP)]]) 1 0 := d24.bag.app
    refine ⟨_, rfl, goes_seq (goes_asg (p := .tup (as.map atP)) (M1 := N1) ?_ rfl ?_)⟩
    · rw [ev_fCallN]
      show ((F_product c [.ref 1, .ref k, .int (5 : Nat)] N)).nox = _
      rw [e2]
      rfl
    simp only [List.set_cons_succ, List.set_cons_zero]
    refine goes_seq (goes_asg (p := .tup (bs.map atP)) (M1 := N2) ?_ rfl ?_)
    · rw [ev_fCallN]
      show ((F_bent_product c [.ref 1, .tup (as.map atP)] N1)).nox = _
      rw [e3]
      rfl
    simp only [List.set_cons_succ, List.set_cons_zero]
    refine goes_seq (goes_asg (p := .tup (ts.map atP)) (M1 := N3 ++ [PO.lst [.tup (as.map atP), .tup (bs.map atP)]]) ?_ rfl ?_)
    · rw [ev_fCallN]
      show ((F_of c [.ref 1, .ref N2.length] (N2 ++ [PO.lst [.tup (as.map atP), .tup (bs.map atP)]]))).nox = _
      rw [e4]
      rfl
    simp only [List.set_cons_succ, List.set_cons_zero]
    generalize N3 ++ [PO.lst [.tup (as.map atP), .tup (bs.map atP)]] = N4 at ek3 hb3
    have g64 : ∀ {ws : List (List Nat × Bool)}, (∀ a ∈ ws, a.1.length < 60) → ∀ a ∈ ws, a.1.length < 64 := fun h a ha => by have := h a ha; omega
    refine goes_seq (goes_no (M1 := N4) ?_ ?_)
    · have q1 : (fCallN (F_p_is_product c) [] (fCons (fVar 4) fNil)) [none, some (.ref 1), some (.ref k), some (.int (z : Nat)), some (.tup (ts.map atP)), x5, some (.tup (bs.map atP)), some (.tup (as.map atP)), x8, x9] N4 = .ok (.bl (ts.all okA)) N4 := by
        rw [ev_fCallN]
        show ((F_p_is_product c [.tup (ts.map atP)] N4)).nox = _
        rw [F_is_product_eq (g64 gt) (by omega)]
        rfl
      have q2 : (fCallN (F_atoms_good c) [] (fCons (fVar 4) fNil)) [none, some (.ref 1), some (.ref k), some (.int (z : Nat)), some (.tup (ts.map atP)), x5, some (.tup (bs.map atP)), some (.tup (as.map atP)), x8, x9] N4 = .ok (.bl (ts.all okA)) N4 := by
        rw [ev_fCallN]
        show ((F_atoms_good c [.tup (ts.map atP)] N4)).nox = _
        rw [F_atoms_good_eq (g64 gt)]
        rfl
      have q3 : (fCallN (F_same 3) [] (fCons (fCallN (F_p_is_product c) [] (fCons (fVar 4) fNil)) (fCons (fCallN (F_atoms_good c) [] (fCons (fVar 4) fNil)) fNil))) [none, some (.ref 1), some (.ref k), some (.int (z : Nat)), some (.tup (ts.map atP)), x5, some (.tup (bs.map atP)), some (.tup (as.map atP)), x8, x9] N4 = .ok (.bl true) N4 := by
        rw [ev_fCallN, ev_fCons, q1, bnd_ok, ev_fCons, q2, bnd_ok, ev_fNil, bnd_ok, bnd_ok, bnd_ok, List.append_nil, F_same_refl (by unfold Flt; trivial)]
        rfl
      rw [ev_fNot, ev_fTest, q3]
      rfl
    refine goes_hide (Nat.le_of_ble_eq_true rfl) (goes_hide (Nat.le_of_ble_eq_true rfl) (goes_hide (Nat.le_of_ble_eq_true rfl) ?_))
    simp only [List.set_cons_succ, List.set_cons_zero]
    obtain ⟨ex, e5⟩ := asks_test (M := N4) (cs := exCs c) (ia := 9) (n := 8) (w := [98, 97, 100, 97, 116, 111, 109])
      (σ := [none, some (.ref 1), some (.ref k), some (.int (z : Nat)), some (.tup (ts.map atP)), none, some (.tup (bs.map atP)), some (.tup (as.map atP)), x8, x9])
      (fes := (([(fCall (F_p_holds c) [] (fCons (fVar 6) (fCons (fC (.str [65])) fNil))), (fCall (F_p_inside c) [] (fCons (fVar 6) (fCons (fVar 7) fNil))), (fCall (F_p_inside c) [] (fCons (fVar 7) (fCons (fVar 6) fNil)))] ++ [(fCall (F_p_plain c) [] (fCons (fVar 6) fNil)), (fCall (F_p_sent c) [] (fCons (fVar 6) (fCons (fC (.str [])) fNil))), (fCall (F_p_taken c) [] (fCons (fVar 6) (fCons (fC (.str [65, 66])) fNil)))]) ++ [(fCall (F_p_swollen c) [] (fCons (fVar 6) (fCons (fC (.str [98, 97])) fNil))), (fCall (F_p_product_text c) [] (fCons (fVar 6) fNil))]))
      (Nat.le_of_ble_eq_true rfl) (fun fe hfe acc => by
        simp only [List.cons_append, List.nil_append, List.mem_cons, List.not_mem_nil, or_false] at hfe
        rcases hfe with rfl | rfl | rfl | rfl | rfl | rfl | rfl | rfl
        · show toldP _ (F_p_holds c [.tup (bs.map atP), .str [65]] _) = _
          rw [holds_bad (g64 gb) (by omega) okb, tell_at]
        · show toldP _ (F_p_inside c [.tup (bs.map atP), .tup (as.map atP)] _) = _
          rw [inside_bad (g64 gb) (by omega) okb, tell_at]
        · show toldP _ (F_p_inside c [.tup (as.map atP), .tup (bs.map atP)] _) = _
          rw [inside_bad2 (g64 gb) (by omega) okb (g64 ga) (by omega) oka, tell_at]
        · show toldP _ (F_p_plain c [.tup (bs.map atP)] _) = _
          rw [plain_bad (g64 gb) (by omega) okb, tell_at]
        · show toldP _ (F_p_sent c [.tup (bs.map atP), .str []] _) = _
          rw [sent_bad (g64 gb) (by omega) okb, tell_at]
        · show toldP _ (F_p_taken c [.tup (bs.map atP), .str [65, 66]] _) = _
          rw [taken_bad (g64 gb) (by omega) okb, tell_at]
        · show toldP _ (F_p_swollen c [.tup (bs.map atP), .str [98, 97]] _) = _
          rw [swollen_bad (g64 gb) (by omega) okb, tell_at]
        · show toldP _ (F_p_product_text c [.tup (bs.map atP)] _) = _
          rw [text_bad (g64 gb) (by omega) okb, tell_at]) rfl (by decide) asc_at
    refine goes_seq (goes_no (M1 := N4 ++ ex) e5 ?_)
    have hb5 : BagAt (N4 ++ ex) 1 0 := hb3.app
    have ek5 : (N4 ++ ex)[k]? = some (.lst (cs.map fun d => PV.str [d])) := by
      rw [List.getElem?_append_left (List.getElem?_eq_some_iff.mp ek3).1, ek3]
    generalize N4 ++ ex = N5 at hb5 ek5
    have kk : k < N5.length := (List.getElem?_eq_some_iff.mp ek5).1
    obtain ⟨q, Y, e6, mq, dY⟩ := F_of_lst (c := c) (hb5.app (ex := [.lst [.str [], .str [97, 98], .str [65], .str [49], .str [32]]])) (k := N5.length) (by have := hb5.ltb; omega) (List.getElem?_concat_length ..) (by decide) (by decide)
    obtain ⟨t, rfl, ht⟩ : ∃ t : List Nat, q = .str t ∧ ((decide (t.length = 1) && t.all low) = false ∧ t.length < lim) := by
      simp only [List.mem_cons, List.not_mem_nil, or_false] at mq
      rcases mq with rfl | rfl | rfl | rfl | rfl <;> exact ⟨_, rfl, by decide, by decide⟩
    have hb6 := dY.bag
    have ek6 : Y[k]? = some (.lst (cs.map fun d => PV.str [d])) := by
      rw [dY.get kb, List.getElem?_append_left kk, ek5]
    refine goes_seq (goes_asg (p := .str t) (M1 := Y) ?_ rfl ?_)
    · rw [ev_fCallN]
      show ((F_of c [.ref 1, .ref N5.length] (N5 ++ [PO.lst [.str [], .str [97, 98], .str [65], .str [49], .str [32]]]))).nox = _
      rw [e6]
      rfl
    simp only [List.set_cons_succ, List.set_cons_zero]
    refine goes_hide (Nat.le_of_ble_eq_true rfl) (goes_hide (Nat.le_of_ble_eq_true rfl) ?_)
    simp only [List.set_cons_succ, List.set_cons_zero]
    obtain ⟨ex2, e7⟩ := asks_test (M := Y) (cs := exCs c) (ia := 9) (n := 7) (w := [98, 97, 100, 119, 111, 114, 100])
      (σ := [none, some (.ref 1), some (.ref k), some (.int (z : Nat)), some (.tup (ts.map atP)), none, some (.tup (bs.map atP)), some (.tup (as.map atP)), some (.str t), x9])
      (fes := (([(fCall (F_p_sent c) [] (fCons (fVar 7) (fCons (fVar 8) fNil))), (fCall (F_p_taken c) [] (fCons (fVar 7) (fCons (fVar 8) fNil))), (fCall (F_p_holds c) [] (fCons (fVar 7) (fCons (fC (.str [97, 66])) fNil)))] ++ [(fCall (F_p_swollen c) [] (fCons (fVar 7) (fCons (fC (.str [98, 97])) fNil))), (fCall (F_p_swollen c) [] (fCons (fVar 7) (fCons (fC (.str [97, 97])) fNil))), (fCall (F_p_swollen c) [] (fCons (fVar 7) (fCons (fC (.str [65])) fNil)))]) ++ [(fCall (F_p_product_of c) [] (fCons (fC (.str [97, 32, 98])) fNil))]))
      (Nat.le_of_ble_eq_true rfl) (fun fe hfe acc => by
        simp only [List.cons_append, List.nil_append, List.mem_cons, List.not_mem_nil, or_false] at hfe
        rcases hfe with rfl | rfl | rfl | rfl | rfl | rfl | rfl
        · show toldP _ (F_p_sent c [.tup (as.map atP), .str t] _) = _
          rw [sent_word (g64 ga) (by omega) oka ht.2 ht.1, tell_wd]
        · show toldP _ (F_p_taken c [.tup (as.map atP), .str t] _) = _
          rw [taken_word (g64 ga) (by omega) oka ht.2 ht.1, tell_wd]
        · show toldP _ (F_p_holds c [.tup (as.map atP), .str [97, 66]] _) = _
          rw [holds_word (g64 ga) (by omega) oka (by decide) (by decide), tell_wd]
        · show toldP _ (F_p_swollen c [.tup (as.map atP), .str [98, 97]] _) = _
          rw [swollen_word (g64 ga) (by omega) oka (by decide) (by decide), tell_wd]
        · show toldP _ (F_p_swollen c [.tup (as.map atP), .str [97, 97]] _) = _
          rw [swollen_word (g64 ga) (by omega) oka (by decide) (by decide), tell_wd]
        · show toldP _ (F_p_swollen c [.tup (as.map atP), .str [65]] _) = _
          rw [swollen_word (g64 ga) (by omega) oka (by decide) (by decide), tell_wd]
        · show toldP _ (F_p_product_of c [.str [97, 32, 98]] _) = _
          rw [product_of_word (by decide) (by decide), tell_wd]) rfl (by decide) asc_wd
    refine goes_no (M1 := Y ++ ex2) e7 ⟨_, _, _, _, _, _, _, rfl, hb6.app, ?_⟩
    rw [List.getElem?_append_left (List.getElem?_eq_some_iff.mp ek6).1, ek6]
  · rw [ev_fOp, ev_fCallN]
    show (((F_p_is_product c [.tup (([] : List (List Nat × Bool)).map atP)] N)).nox.bnd _) = _
    rw [F_is_product_eq (by simp) (by decide)]
    rfl
end Puk29
namespace K29
open PySem PySem.Spec PyProof.Rows L2 LB Pu Puk29
set_option maxHeartbeats 0 in
structure Tx (K : PySem.W.Frag) (mg : Str → Option Value) (w : World) where
  C_LeakError : Addr
  gC_LeakError : mg "LeakError" = some (.ref C_LeakError)
  C_BadWord : Addr
  gC_BadWord : mg "BadWord" = some (.ref C_BadWord)
  C_BadAtom : Addr
  gC_BadAtom : mg "BadAtom" = some (.ref C_BadAtom)
  f_LeakError_init : Addr
  fd_LeakError_init : FuncData
  F_LeakError_init : FunD K "__init__" "LeakError.__init__" (defArgs s_LeakError_init) (defBody s_LeakError_init) (defScope s_LeakError_init) [V.int (-1), V.str (PySem.Str.ofString "leakerror")] [] f_LeakError_init fd_LeakError_init
  ds_LeakError_init_1 : List Value
  dv_LeakError_init_1 : Vals [V.int (-1), V.str (PySem.Str.ofString "leakerror")] ds_LeakError_init_1
  b_LeakError_init_1 : L2.Binds K fd_LeakError_init P_LeakError_init ds_LeakError_init_1
  ds_LeakError_init_2 : List Value
  dv_LeakError_init_2 : Vals [V.str (PySem.Str.ofString "leakerror")] ds_LeakError_init_2
  b_LeakError_init_2 : L2.Binds K fd_LeakError_init P_LeakError_init ds_LeakError_init_2
  ds_LeakError_init_3 : List Value
  dv_LeakError_init_3 : Vals [] ds_LeakError_init_3
  b_LeakError_init_3 : L2.Binds K fd_LeakError_init P_LeakError_init ds_LeakError_init_3
  f_BadWord_init : Addr
  fd_BadWord_init : FuncData
  F_BadWord_init : FunD K "__init__" "BadWord.__init__" (defArgs s_BadWord_init) (defBody s_BadWord_init) (defScope s_BadWord_init) [V.int (-1)] [] f_BadWord_init fd_BadWord_init
  ds_BadWord_init_1 : List Value
  dv_BadWord_init_1 : Vals [V.int (-1)] ds_BadWord_init_1
  b_BadWord_init_1 : L2.Binds K fd_BadWord_init P_BadWord_init ds_BadWord_init_1
  ds_BadWord_init_2 : List Value
  dv_BadWord_init_2 : Vals [] ds_BadWord_init_2
  b_BadWord_init_2 : L2.Binds K fd_BadWord_init P_BadWord_init ds_BadWord_init_2
  f_BadAtom_init : Addr
  fd_BadAtom_init : FuncData
  F_BadAtom_init : FunD K "__init__" "BadAtom.__init__" (defArgs s_BadAtom_init) (defBody s_BadAtom_init) (defScope s_BadAtom_init) [V.int (-1)] [] f_BadAtom_init fd_BadAtom_init
  ds_BadAtom_init_1 : List Value
  dv_BadAtom_init_1 : Vals [V.int (-1)] ds_BadAtom_init_1
  b_BadAtom_init_1 : L2.Binds K fd_BadAtom_init P_BadAtom_init ds_BadAtom_init_1
  ds_BadAtom_init_2 : List Value
  dv_BadAtom_init_2 : Vals [] ds_BadAtom_init_2
  b_BadAtom_init_2 : L2.Binds K fd_BadAtom_init P_BadAtom_init ds_BadAtom_init_2
  f_p_is_word : Addr
  fd_p_is_word : FuncData
  F_p_is_word : Fun K "is_word" "is_word" s_p_is_word f_p_is_word fd_p_is_word
  b_p_is_word : L2.Binds K fd_p_is_word P_p_is_word []
  g_p_is_word : mg "is_word" = some (.ref f_p_is_word)
  f_p_is_letter : Addr
  fd_p_is_letter : FuncData
  F_p_is_letter : Fun K "is_letter" "is_letter" s_p_is_letter f_p_is_letter fd_p_is_letter
  b_p_is_letter : L2.Binds K fd_p_is_letter P_p_is_letter []
  g_p_is_letter : mg "is_letter" = some (.ref f_p_is_letter)
  f_p_is_rising : Addr
  fd_p_is_rising : FuncData
  F_p_is_rising : Fun K "is_rising" "is_rising" s_p_is_rising f_p_is_rising fd_p_is_rising
  b_p_is_rising : L2.Binds K fd_p_is_rising P_p_is_rising []
  g_p_is_rising : mg "is_rising" = some (.ref f_p_is_rising)
  f_p_is_atom : Addr
  fd_p_is_atom : FuncData
  F_p_is_atom : Fun K "is_atom" "is_atom" s_p_is_atom f_p_is_atom fd_p_is_atom
  b_p_is_atom : L2.Binds K fd_p_is_atom P_p_is_atom []
  g_p_is_atom : mg "is_atom" = some (.ref f_p_is_atom)
  f_p_is_product : Addr
  fd_p_is_product : FuncData
  F_p_is_product : Fun K "is_product" "is_product" s_p_is_product f_p_is_product fd_p_is_product
  b_p_is_product : L2.Binds K fd_p_is_product P_p_is_product []
  g_p_is_product : mg "is_product" = some (.ref f_p_is_product)
  f_p_check_product : Addr
  fd_p_check_product : FuncData
  F_p_check_product : Fun K "check_product" "check_product" s_p_check_product f_p_check_product fd_p_check_product
  b_p_check_product : L2.Binds K fd_p_check_product P_p_check_product []
  g_p_check_product : mg "check_product" = some (.ref f_p_check_product)
  f_p_check_letter : Addr
  fd_p_check_letter : FuncData
  F_p_check_letter : Fun K "check_letter" "check_letter" s_p_check_letter f_p_check_letter fd_p_check_letter
  b_p_check_letter : L2.Binds K fd_p_check_letter P_p_check_letter []
  g_p_check_letter : mg "check_letter" = some (.ref f_p_check_letter)
  f_p_takes_in : Addr
  fd_p_takes_in : FuncData
  F_p_takes_in : Fun K "takes_in" "takes_in" s_p_takes_in f_p_takes_in fd_p_takes_in
  b_p_takes_in : L2.Binds K fd_p_takes_in P_p_takes_in []
  g_p_takes_in : mg "takes_in" = some (.ref f_p_takes_in)
  f_p_has_word : Addr
  fd_p_has_word : FuncData
  F_p_has_word : Fun K "has_word" "has_word" s_p_has_word f_p_has_word fd_p_has_word
  b_p_has_word : L2.Binds K fd_p_has_word P_p_has_word []
  g_p_has_word : mg "has_word" = some (.ref f_p_has_word)
  f_p_holds : Addr
  fd_p_holds : FuncData
  F_p_holds : Fun K "holds" "holds" s_p_holds f_p_holds fd_p_holds
  b_p_holds : L2.Binds K fd_p_holds P_p_holds []
  g_p_holds : mg "holds" = some (.ref f_p_holds)
  f_p_lies_inside : Addr
  fd_p_lies_inside : FuncData
  F_p_lies_inside : Fun K "lies_inside" "lies_inside" s_p_lies_inside f_p_lies_inside fd_p_lies_inside
  b_p_lies_inside : L2.Binds K fd_p_lies_inside P_p_lies_inside []
  g_p_lies_inside : mg "lies_inside" = some (.ref f_p_lies_inside)
  f_p_inside : Addr
  fd_p_inside : FuncData
  F_p_inside : Fun K "inside" "inside" s_p_inside f_p_inside fd_p_inside
  b_p_inside : L2.Binds K fd_p_inside P_p_inside []
  g_p_inside : mg "inside" = some (.ref f_p_inside)
  f_p_made_plain : Addr
  fd_p_made_plain : FuncData
  F_p_made_plain : Fun K "made_plain" "made_plain" s_p_made_plain f_p_made_plain fd_p_made_plain
  b_p_made_plain : L2.Binds K fd_p_made_plain P_p_made_plain []
  g_p_made_plain : mg "made_plain" = some (.ref f_p_made_plain)
  f_p_plain : Addr
  fd_p_plain : FuncData
  F_p_plain : Fun K "plain" "plain" s_p_plain f_p_plain fd_p_plain
  b_p_plain : L2.Binds K fd_p_plain P_p_plain []
  g_p_plain : mg "plain" = some (.ref f_p_plain)
  f_p_with_letter : Addr
  fd_p_with_letter : FuncData
  F_p_with_letter : Fun K "with_letter" "with_letter" s_p_with_letter f_p_with_letter fd_p_with_letter
  b_p_with_letter : L2.Binds K fd_p_with_letter P_p_with_letter []
  g_p_with_letter : mg "with_letter" = some (.ref f_p_with_letter)
  f_p_sent : Addr
  fd_p_sent : FuncData
  F_p_sent : Fun K "sent" "sent" s_p_sent f_p_sent fd_p_sent
  b_p_sent : L2.Binds K fd_p_sent P_p_sent []
  g_p_sent : mg "sent" = some (.ref f_p_sent)
  f_p_left_behind : Addr
  fd_p_left_behind : FuncData
  F_p_left_behind : Fun K "left_behind" "left_behind" s_p_left_behind f_p_left_behind fd_p_left_behind
  b_p_left_behind : L2.Binds K fd_p_left_behind P_p_left_behind []
  g_p_left_behind : mg "left_behind" = some (.ref f_p_left_behind)
  f_p_taken : Addr
  fd_p_taken : FuncData
  F_p_taken : Fun K "taken" "taken" s_p_taken f_p_taken fd_p_taken
  b_p_taken : L2.Binds K fd_p_taken P_p_taken []
  g_p_taken : mg "taken" = some (.ref f_p_taken)
  f_p_with_any : Addr
  fd_p_with_any : FuncData
  F_p_with_any : Fun K "with_any" "with_any" s_p_with_any f_p_with_any fd_p_with_any
  b_p_with_any : L2.Binds K fd_p_with_any P_p_with_any []
  g_p_with_any : mg "with_any" = some (.ref f_p_with_any)
  f_p_swollen : Addr
  fd_p_swollen : FuncData
  F_p_swollen : Fun K "swollen" "swollen" s_p_swollen f_p_swollen fd_p_swollen
  b_p_swollen : L2.Binds K fd_p_swollen P_p_swollen []
  g_p_swollen : mg "swollen" = some (.ref f_p_swollen)
  f_p_product_of : Addr
  fd_p_product_of : FuncData
  F_p_product_of : Fun K "product_of" "product_of" s_p_product_of f_p_product_of fd_p_product_of
  b_p_product_of : L2.Binds K fd_p_product_of P_p_product_of []
  g_p_product_of : mg "product_of" = some (.ref f_p_product_of)
  f_p_product_text : Addr
  fd_p_product_text : FuncData
  F_p_product_text : Fun K "product_text" "product_text" s_p_product_text f_p_product_text fd_p_product_text
  b_p_product_text : L2.Binds K fd_p_product_text P_p_product_text []
  g_p_product_text : mg "product_text" = some (.ref f_p_product_text)
  f_bag : Addr
  fd_bag : FuncData
  F_bag : Fun K "_law_bag" "_law_bag" s_bag f_bag fd_bag
  b_bag : L2.Binds K fd_bag P_bag []
  g_bag : mg "_law_bag" = some (.ref f_bag)
  f_pull : Addr
  fd_pull : FuncData
  F_pull : Fun K "_law_pull" "_law_pull" s_pull f_pull fd_pull
  b_pull : L2.Binds K fd_pull P_pull []
  g_pull : mg "_law_pull" = some (.ref f_pull)
  f_of : Addr
  fd_of : FuncData
  F_of : Fun K "_law_of" "_law_of" s_of f_of fd_of
  b_of : L2.Binds K fd_of P_of []
  g_of : mg "_law_of" = some (.ref f_of)
  f_same : Addr
  fd_same : FuncData
  F_same : Fun K "_law_same" "_law_same" s_same f_same fd_same
  b_same : L2.Binds K fd_same P_same []
  g_same : mg "_law_same" = some (.ref f_same)
  f_letters : Addr
  fd_letters : FuncData
  F_letters : Fun K "_law_letters" "_law_letters" s_letters f_letters fd_letters
  b_letters : L2.Binds K fd_letters P_letters []
  g_letters : mg "_law_letters" = some (.ref f_letters)
  f_refusal : Addr
  fd_refusal : FuncData
  F_refusal : Fun K "_law_refusal" "_law_refusal" s_refusal f_refusal fd_refusal
  b_refusal : L2.Binds K fd_refusal P_refusal []
  g_refusal : mg "_law_refusal" = some (.ref f_refusal)
  f_product : Addr
  fd_product : FuncData
  F_product : Fun K "_law_product" "_law_product" s_product f_product fd_product
  b_product : L2.Binds K fd_product P_product []
  g_product : mg "_law_product" = some (.ref f_product)
  f_bent_product : Addr
  fd_bent_product : FuncData
  F_bent_product : Fun K "_law_bent_product" "_law_bent_product" s_bent_product f_bent_product fd_bent_product
  b_bent_product : L2.Binds K fd_bent_product P_bent_product []
  g_bent_product : mg "_law_bent_product" = some (.ref f_bent_product)
  f_atoms_good : Addr
  fd_atoms_good : FuncData
  F_atoms_good : Fun K "_law_atoms_good" "_law_atoms_good" s_atoms_good f_atoms_good fd_atoms_good
  b_atoms_good : L2.Binds K fd_atoms_good P_atoms_good []
  g_atoms_good : mg "_law_atoms_good" = some (.ref f_atoms_good)
  f_law : Addr
  fd_law : FuncData
  F_law : Fun K "law" "law" s_law f_law fd_law
  b_law : L2.Binds K fd_law P_law []
  g_law : mg "law" = some (.ref f_law)
  ox_LeakError : OexC K C_LeakError
  iC_LeakError : PySem.W.findIn K (.ref C_LeakError) "__init__" = some (some (.ref f_LeakError_init))
  tI_LeakError : PySem.W.typeIn K (.ref f_LeakError_init) = some (.type "function")
  cf_LeakError_init : LB.CFn K C_LeakError "__init__" f_LeakError_init
  xc_LeakError : LB.XC K C_LeakError
  no_LeakError_word : PySem.W.findIn K (.ref C_LeakError) "word" = some none
  no_LeakError_at : PySem.W.findIn K (.ref C_LeakError) "at" = some none
  em_LeakError : PySem.W.exmOne K (.ref C_LeakError) (.ref C_LeakError) = some true
  kv_LeakError : PySem.W.kitOne K (.ref C_LeakError) (.type "ValueError") = some true
  kl_LeakError : PySem.W.kitOne K (.ref C_LeakError) (.type "LookupError") = some false
  ox_BadWord : OexC K C_BadWord
  iC_BadWord : PySem.W.findIn K (.ref C_BadWord) "__init__" = some (some (.ref f_BadWord_init))
  tI_BadWord : PySem.W.typeIn K (.ref f_BadWord_init) = some (.type "function")
  cf_BadWord_init : LB.CFn K C_BadWord "__init__" f_BadWord_init
  xc_BadWord : LB.XC K C_BadWord
  no_BadWord_word : PySem.W.findIn K (.ref C_BadWord) "word" = some none
  no_BadWord_at : PySem.W.findIn K (.ref C_BadWord) "at" = some none
  em_BadWord : PySem.W.exmOne K (.ref C_BadWord) (.ref C_LeakError) = some true
  kv_BadWord : PySem.W.kitOne K (.ref C_BadWord) (.type "ValueError") = some true
  kl_BadWord : PySem.W.kitOne K (.ref C_BadWord) (.type "LookupError") = some false
  ox_BadAtom : OexC K C_BadAtom
  iC_BadAtom : PySem.W.findIn K (.ref C_BadAtom) "__init__" = some (some (.ref f_BadAtom_init))
  tI_BadAtom : PySem.W.typeIn K (.ref f_BadAtom_init) = some (.type "function")
  cf_BadAtom_init : LB.CFn K C_BadAtom "__init__" f_BadAtom_init
  xc_BadAtom : LB.XC K C_BadAtom
  no_BadAtom_word : PySem.W.findIn K (.ref C_BadAtom) "word" = some none
  no_BadAtom_at : PySem.W.findIn K (.ref C_BadAtom) "at" = some none
  em_BadAtom : PySem.W.exmOne K (.ref C_BadAtom) (.ref C_LeakError) = some true
  kv_BadAtom : PySem.W.kitOne K (.ref C_BadAtom) (.type "ValueError") = some true
  kl_BadAtom : PySem.W.kitOne K (.ref C_BadAtom) (.type "LookupError") = some false
  vV : PySem.W.findCls K (.type "ValueError") (.type "type") "__init__" = some (.val (.builtin "ValueError.__init__"))
  m_LookupError : mg "LookupError" = none
  m_ValueError : mg "ValueError" = none
  m_all : mg "all" = none
  m_bool : mg "bool" = none
  m_enumerate : mg "enumerate" = none
  m_int : mg "int" = none
  m_isinstance : mg "isinstance" = none
  m_len : mg "len" = none
  m_list : mg "list" = none
  m_range : mg "range" = none
  m_set : mg "set" = none
  m_sorted : mg "sorted" = none
  m_str : mg "str" = none
  m_tuple : mg "tuple" = none
  m_zip : mg "zip" = none
  u_LETTERS : Value
  c_LETTERS : mg "LETTERS" = some u_LETTERS
  r_LETTERS : RelV (V.str (PySem.Str.ofString "abcdefghijklmnopqrstuvwxyz")) u_LETTERS
abbrev Tx.ca {K : PySem.W.Frag} {mg : Str → Option Value} {w : World} (T : Tx K mg w) : CA := { LeakError := T.C_LeakError, BadWord := T.C_BadWord, BadAtom := T.C_BadAtom }
section
variable {P : Program} {w : World} {K : PySem.W.Frag} {mg : Str → Option Value} {base : Heap}
/-! ### the refusals: what their making does -/
abbrev xdOf (n : Int) (w : Str) : List (Str × V) := xdOf' n w
def sp_leak (K : PySem.W.Frag) : Sp := fun vs H Q _ => ∃ (a C : Addr) (n : Int) (w : Str), vs = [.ref a, .int n, .str w] ∧ OexC K C ∧ PySem.W.findIn K (.ref C) "word" = some none ∧ PySem.W.findIn K (.ref C) "at" = some none ∧ H a = some (exo a C none) ∧ w.length < 1000 ∧ (n < 0 ∨ (0 ≤ n ∧ n < 512)) ∧ n.natAbs.log2 < 1920 ∧
  ∀ d, H d = none → d ≠ a → Q .non (upd (upd (upd H d (exd d [(Str.ofString "word", .str w)])) a (exo a C (some d))) d (exd d (xdOf n w)))
theorem small_text {n : Int} (h0 : 0 ≤ n) (h1 : n < 512) : (toString n : Str).length ≤ 100 := by
  obtain ⟨k, rfl⟩ := Int.eq_ofNat_of_zero_le h0
  have all : ∀ j : Fin 512, (toString ((j.val : Nat) : Int) : Str).length ≤ 100 := by decide +kernel
  exact all ⟨k, by omega⟩
theorem ok_LeakError_init (T : Tx K mg w) : FnOk P w K mg base CX0 1 T.f_LeakError_init T.fd_LeakError_init P_LeakError_init (sp_leak K) := by
  refine T.F_LeakError_init.ok sc_LeakError_init (fun vs H Q E h => ?_) (fun cdv A outer s H vs Q E hr h => ?_)
  · obtain ⟨a, C, n, w, rfl, _⟩ := h
    rfl
  · obtain ⟨a, C, n, w, rfl, oc, nw, na, ha, lw, sn, ln, q⟩ := h
    refine ⟨_, PSs.nox 
      (pss_cons (ps_expr (pe_veinit (by rfl) T.m_ValueError T.vV (pa_cons (L2.pv 0) (pa_cons (pe_ifExp (pt_cmpR op_lt (L2.pv 1) pe_int (nomark _)) (L2.pv 2) (pe_joined (PJ.cons (pe_fmt (L2.pv 2)) (PJ.cons pe_str (PJ.cons (pe_fmt (L2.pv 1)) PJ.nil))))) pa_nil))))
      (pss_cons (ps_ost (L2.pv 0) (L2.pv 2))
      (pss_one (ps_ost (L2.pv 0) (L2.pv 1))))), ?_⟩
    have sw : w.length ≤ sizeLine := by rw [sizeLine_eq]; omega
    have at0 : ∀ d, d ≠ a → (upd (upd H d (exd d [(Str.ofString "word", .str w)])) a (exo a C (some d))) d = some (exd d [(Str.ofString "word", .str w)]) := fun d nda => (upd_ne nda).trans upd_same
    refine ⟨.ref a, rfl, .int n, rfl, n, 0, rfl, rfl, _, rfl, ite2 (fun _ => ?_) (fun hn => ?_)⟩
    · refine ⟨.str w, rfl, a, C, [.str w], rfl, by show 1 ≤ 1000; decide, oc, ha, ?_⟩
      refine ⟨.str w, rfl, .ref a, rfl, a, C, rfl, oc, nw, .inl ⟨ha, fun d nd nda => ?_⟩⟩
      exact ⟨.int n, rfl, .ref a, rfl, a, C, rfl, oc, na, .inr ⟨d, _, upd_same, at0 d nda, by show 1 ≤ 900; decide, q d nd nda⟩⟩
    · have hn0 : 0 ≤ n ∧ n < 512 := by
        rcases sn with h | h
        · exact absurd (decide_eq_true h) hn
        · exact h
      have tl := small_text hn0.1 hn0.2
      have la : ∀ x y : Str, (x ++ y).length = x.length + y.length := fun x y => by
        show (x.cps ++ y.cps).size = x.cps.size + y.cps.size
        exact Array.size_append
      have l4 : (Str.ofString " at ").length = 4 := by decide +kernel
      have le : Str.empty.length = 0 := rfl
      refine ⟨.str w, rfl, .inl ⟨w, rfl, sw, w, rfl, by rw [la, le, sizeLine_eq]; omega, _, rfl, by rw [la, la, le, l4, sizeLine_eq]; omega, .int n, rfl, .inr ⟨n, rfl, ln, _, rfl, by rw [la, la, la, le, l4, sizeLine_eq]; omega, ?_⟩⟩⟩
      refine ⟨a, C, [.str _], rfl, by show 1 ≤ 1000; decide, oc, ha, ?_⟩
      refine ⟨.str w, rfl, .ref a, rfl, a, C, rfl, oc, nw, .inl ⟨ha, fun d nd nda => ?_⟩⟩
      exact ⟨.int n, rfl, .ref a, rfl, a, C, rfl, oc, na, .inr ⟨d, _, upd_same, at0 d nda, by show 1 ≤ 900; decide, q d nd nda⟩⟩
theorem ok_BadWord_init (T : Tx K mg w) : FnOk P w K mg base CX0 2 T.f_BadWord_init T.fd_BadWord_init P_BadWord_init (spErr K (Str.ofString "badword")) := by
  have G_LeakError_init : FnOk P w K mg base CX0 1 T.f_LeakError_init T.fd_LeakError_init P_LeakError_init (sp_leak K) := ok_LeakError_init T
  refine T.F_BadWord_init.ok sc_BadWord_init (fun vs H Q E h => ?_) (fun cdv A outer s H vs Q E hr h => ?_)
  · obtain ⟨a, C, n, rfl, _⟩ := h
    rfl
  · obtain ⟨a, C, n, rfl, oc, nw, na, ha, sn, ln, q⟩ := h
    refine ⟨_, PSs.nox 
      (pss_one (ps_expr (LB.pe_cfn T.cf_LeakError_init G_LeakError_init (hr.mono (by decide)) (by rfl) T.gC_LeakError T.b_LeakError_init_3 T.dv_LeakError_init_3 pass0 (pa_cons (L2.pv 0) (pa_cons (L2.pv 1) (pa_cons pe_str pa_nil)))))), ?_⟩
    exact ⟨.ref a, rfl, .int n, rfl, a, C, n, _, rfl, oc, nw, na, ha, (by decide), sn, ln, q⟩
theorem ok_BadAtom_init (T : Tx K mg w) : FnOk P w K mg base CX0 2 T.f_BadAtom_init T.fd_BadAtom_init P_BadAtom_init (spErr K (Str.ofString "badatom")) := by
  have G_LeakError_init : FnOk P w K mg base CX0 1 T.f_LeakError_init T.fd_LeakError_init P_LeakError_init (sp_leak K) := ok_LeakError_init T
  refine T.F_BadAtom_init.ok sc_BadAtom_init (fun vs H Q E h => ?_) (fun cdv A outer s H vs Q E hr h => ?_)
  · obtain ⟨a, C, n, rfl, _⟩ := h
    rfl
  · obtain ⟨a, C, n, rfl, oc, nw, na, ha, sn, ln, q⟩ := h
    refine ⟨_, PSs.nox 
      (pss_one (ps_expr (LB.pe_cfn T.cf_LeakError_init G_LeakError_init (hr.mono (by decide)) (by rfl) T.gC_LeakError T.b_LeakError_init_3 T.dv_LeakError_init_3 pass0 (pa_cons (L2.pv 0) (pa_cons (L2.pv 1) (pa_cons pe_str pa_nil)))))), ?_⟩
    exact ⟨.ref a, rfl, .int n, rfl, a, C, n, _, rfl, oc, nw, na, ha, (by decide), sn, ln, q⟩
/-! ### a refusal, told -/
open LamX in
theorem refusal_gives {X : Cx} {CS g : Addr} {cdg : Value} {q : Str} (hme : X.mg "LeakError" = some (.ref CS)) (hi : X.mg "isinstance" = none) (hv : X.mg "ValueError" = none) (hl : X.mg "LookupError" = none) :
    GivesTo X N_refusal "_law_refusal" (defScope s_refusal) g cdg (defBody s_refusal) "_law_ask" q (TRef X.K CS) := by
  intro f c' s H Q tl act hc h
  refine ⟨_, (pss_cons (ps_set (i := 1) sc_refusal.nd rfl (.inl rfl) (pe_tup (pa_cons pe_str (pa_cons (pe_un un_neg pe_int) pa_nil))))
    (pss_cons (ps_try_as (X := (cxOf C8.CX0 X.prog X.w X.K X.mg X.base N_refusal "_law_refusal" (defScope s_refusal) g cdg X.A X.stack s H C8.E0).nox) (c := .ref CS) (i := 2)
      (tb := fun W D σ H => ∃ Ech : XK, (∀ cls d σ' H', σ'.length = 3 → Ech cls d H' → W cls d σ' H') ∧ σ[0]? = some (some (.ref f)) ∧ H c' = some (CodeO c' q) ∧ tl Ech H (fun _ H' => D.nx σ H'))
      rfl rfl sc_refusal.nd rfl rfl ⟨(by rfl), (by decide), .inl hme⟩ L2.takes0 (fun W pn xe tk _ => ?_)
      (fun a oe cls d pn hz hf => (pss_cons (ps_set (i := 1) sc_refusal.nd rfl (.inl rfl) (pe_tup (pa_cons pe_str (pa_cons (pe_un un_neg pe_int) pa_nil))))
        (pss_one (ps_if (PW.pt (pw_and (pt_val (pe_callB (call_isX hz hf) (by rfl) hi (by decide +kernel) (pa_cons (L2.pv 2) (pa_cons (pe_bltn (v := .ty "ValueError") (by rfl) hv (by decide +kernel) rfl) pa_nil))))
            (pw_and1 (pt_not (pt_val (pe_callB (call_isX hz hf) (by rfl) hi (by decide +kernel) (pa_cons (L2.pv 2) (pa_cons (pe_bltn (v := .ty "LookupError") (by rfl) hl (by decide +kernel) rfl) pa_nil))))))))
          (pss_one (ps_set (i := 1) sc_refusal.nd rfl (.inl rfl) (pe_tup (pa_cons (pe_xfX hz hf (L2.pv 2)) (pa_cons (pe_xfX hz hf (L2.pv 2)) pa_nil)))))
          pss_nil)))))
    (pss_one (ps_ret (L2.pv 1))))), ?_⟩
  · refine ⟨fun pins s' σ H' D I h' => ?_⟩
    obtain ⟨Ech, hW, h1, h2, h3⟩ := h'
    have tk' : Takes ((cxOf C8.CX0 X.prog X.w X.K X.mg X.base N_refusal "_law_refusal" (defScope s_refusal) g cdg X.A X.stack s H C8.E0).tr pn xe) (fun c d σ H => σ.length = 3 → W c d σ H) := fun u s2 ⟨a, B, sI, pins, σ, H, cls, d, e, J, nb, up, sky, na, os, ag, w⟩ =>
      tk u s2 ⟨a, B, sI, pins, σ, H, cls, d, e, J, nb, up, sky, na, os, ag, w J.len⟩
    exact (pss_one (ps_expr (act _ pn xe Ech _ _ tk' (fun cls d σ' H' e l => hW cls d σ' H' l e)))).run pins s' σ H' D I ⟨h1, h2, h3⟩
  · refine ⟨1, rfl, (by show 2 ≤ sizeLine; decide), fun p0 np0 => ?_⟩
    refine ⟨_, fun cls d σ' H' hl he => ?_, rfl, (upd_ne (ne_of_none hc np0)).trans hc, h p0 np0⟩
    obtain ⟨D, dd, fs, w, n, rfl, rfl, xc, em, kv, kl, fw, fa, hdd, lw, la, hq⟩ := he
    refine ⟨true, em, fun _ a na => ?_, fun z => nomatch z⟩
    obtain ⟨z0, z1, z2, rfl⟩ : ∃ z0 z1 z2, σ' = [z0, z1, z2] := by
      match σ', hl with
      | [z0, z1, z2], _ => exact ⟨z0, z1, z2, rfl⟩
    refine ⟨1, rfl, (by show 2 ≤ sizeLine; decide), fun p1 np1 => ?_⟩
    have hdd1 : upd H' p1 (.tup [.str "odd", .int (-1)]) dd = some (.xd fs) := (upd_ne (ne_of_none hdd np1)).trans hdd
    refine ⟨.ref a, rfl, D, dd, fs, .ty "ValueError", .type "ValueError", true, rfl, xc, rfl, hdd1, rfl, (fun u r => r), kv, true, rfl, iteT ?_⟩
    refine ⟨.ref a, rfl, D, dd, fs, .ty "LookupError", .type "LookupError", false, rfl, xc, rfl, hdd1, rfl, (fun u r => r), kl, false, rfl, iteT ?_⟩
    refine ⟨.ref a, rfl, rfl, D, dd, fs, w, rfl, xc, fw, rfl, hdd1, lw, .ref a, rfl, rfl, D, dd, fs, n, rfl, xc, fa, rfl, hdd1, la, (by show 2 ≤ sizeLine; decide), fun p2 np2 => ?_⟩
    exact ⟨.ref p2, rfl, hq p1 np1 p2 np2⟩
/-! ### the bag: made, drawn from -/
def sp_bag (K : PySem.W.Frag) : Sp := fun vs H Q _ => ∃ (a : Addr) (ns : List Int), vs = [.ref a] ∧ SqL K H a (ns.map V.int) ∧ ns.length ≤ 63 ∧ ∀ H' b s, Same H H' → Bag b s H' → H b = none → Q (.ref b) H'
theorem ok_bag (T : Tx K mg w) : FnOk P w K mg base CX0 1 T.f_bag T.fd_bag P_bag (sp_bag K) := by
  refine T.F_bag.ok sc_bag (fun vs H Q E h => ?_) (fun cdv A outer s H vs Q E hr h => ?_)
  · obtain ⟨a, ns, rfl, _⟩ := h
    rfl
  · obtain ⟨a, ns, rfl, hS, hlen, q⟩ := h
    refine ⟨_, 
      (pss_cons (ps_set (i := 1) sc_bag.nd rfl (.inl rfl) pe_int)
      (pss_cons (ps_for PassesOwn.never rfl (pi_list (pe_slice sl_list (L2.pv 0) po_none (po_some pe_int))) (pg_name (i := 2) sc_bag.nd rfl (.inl rfl))
        (pss_one (ps_set (i := 1) sc_bag.nd rfl (.inl rfl) (pe_op op_mod (pe_op op_add (pe_op op_add (pe_op op_mul (L2.pv 1) pe_int) (L2.pv 2)) pe_int) pe_int))))
      (pss_one (ps_ret (pe_lst (pa_cons (pe_callTy call_list_of (by rfl) T.m_list (by decide +kernel) (pa_cons (pe_slice sl_list (L2.pv 0) po_none (po_some pe_int)) pa_nil)) (pa_cons pe_int (pa_cons pe_int (pa_cons (L2.pv 1) (pa_cons pe_int pa_nil)))))))))), ?_⟩
    refine ⟨.ref a, rfl, 63, rfl, a, ns.map V.int, rfl, hS, fun c nc => ?_⟩
    have ec : cutV (ns.map V.int) none (some 63) = ns.map V.int := by
      rw [show (63 : Int) = ((63 : Nat) : Int) from rfl, LB.cut_take, List.take_of_length_le (by rw [List.length_map]; exact hlen)]
    rw [ec]
    have s1 : Same H (upd H c (.lst (ns.map V.int))) := LB.same_new nc
    refine ⟨c, rfl, ⟨_, .of upd_same⟩, for_list (xs := ns.map V.int) (fun _ σ H' => ∃ (sd : Int) (y : Option V), σ = [some (.ref a), some (.int sd), y] ∧ H' = upd H c (.lst (ns.map V.int))) ⟨_, _, rfl, rfl⟩ (fun i σ H' _ h => ?_) (fun i x σ H' hx h => ?_) (fun σ H' h => ?_)⟩
    · obtain ⟨sd, y, _, rfl⟩ := h
      exact .of upd_same
    · obtain ⟨sd, y, rfl, rfl⟩ := h
      obtain ⟨n, _, rfl⟩ : ∃ n, ns[i]? = some n ∧ V.int n = x := by
        rw [List.getElem?_map] at hx
        cases e : ns[i]? with
        | none => rw [e] at hx; cases hx
        | some n => rw [e] at hx; exact ⟨n, rfl, Option.some.inj hx⟩
      refine ⟨.int sd, rfl, sd, 65539, rfl, rfl, .inr ⟨by decide, by decide⟩, .int n, rfl, _, n, rfl, rfl, _, 7, rfl, rfl, _, 2147483629, rfl, rfl, (by show (0 : Int) < 2147483629; decide), _, _, rfl, rfl⟩
    · obtain ⟨sd, y, rfl, rfl⟩ := h
      refine ⟨.ref a, rfl, 63, rfl, a, ns.map V.int, rfl, s1.seq hS, fun d nd => ?_⟩
      rw [ec]
      have s2 := LB.same_new (o := .lst (ns.map V.int)) nd
      refine ⟨d, _, rfl, .inl (.of upd_same), fun l nl => ?_⟩
      have s3 := LB.same_new (o := .lst (ns.map V.int)) nl
      refine ⟨.int sd, rfl, (by show 5 ≤ sizeLine; decide), fun b nb => ?_⟩
      have s4 := LB.same_new (o := .lst [.ref l, .int 0, .int 0, .int sd, .int 0]) nb
      have nlb : l ≠ b := ne_of_none upd_same nb
      refine q _ b l (s1.trans (s2.trans (s3.trans s4))) ⟨nlb, ns, 0, 0, sd, 0, upd_same, ?_, hlen, Int.le_refl _⟩ ((s1.trans (s2.trans s3)).free nb)
      rw [upd_ne nlb, upd_same]
/-! ### the same data -/
def sp_same (K : PySem.W.Frag) (n : Nat) : Sp := fun vs H Q _ => ∃ v w, vs = [v, w] ∧ Sam K H n v w ∧ ∀ H', Same H H' → Q (.bl true) H'
theorem same_flat (T : Tx K mg w) {k n : Nat} {cdv : Value} {A : Around} {outer : List Env} {s : Shared} {H : Hp} {Q : VK} {E : XK} {v : V} (hv : flat1 v = true) (q : ∀ H', Same H H' → Q (.bl true) H') :
    ∃ t, PSs (cxOf CX0 P w K mg base N_same "_law_same" (defScope s_same) T.f_same cdv A outer s H E).nox (defBody s_same) t ∧ t { nx := fun _ H' => Q .non H', rt := Q } (start N_same [v, v]) H := by
  refine ⟨_, 
      (pss_cons (ps_if (pt_val (pe_callB call_isiT (by rfl) T.m_isinstance (by decide +kernel) (pa_cons (L2.pv 1) (pa_cons (pe_tup (pa_cons (pe_bltn (v := .ty "list") (by rfl) T.m_list (by decide +kernel) rfl) (pa_cons (pe_bltn (v := .ty "tuple") (by rfl) T.m_tuple (by decide +kernel) rfl) pa_nil))) pa_nil))))
        pss_never
        pss_nil)
      (pss_cons (ps_if (PW.pt (pw_or (pt_cmpR op_isN (L2.pv 1) pe_non (nomark _)) (pw_or1 (pt_cmpR op_isN (L2.pv 0) pe_non (nomark _)))))
        (pss_one (ps_ret (pe_and (pe_cmpR op_isN (L2.pv 0) pe_non (nomark _)) (pe_one (pe_cmpR op_isN (L2.pv 1) pe_non (nomark _))))))
        pss_nil)
      (pss_cons (ps_if (PW.pt (pw_or (pt_cmpR op_ne (pe_callB call_isi (by rfl) T.m_isinstance (by decide +kernel) (pa_cons (L2.pv 0) (pa_cons (pe_bltn (v := .ty "bool") (by rfl) T.m_bool (by decide +kernel) rfl) pa_nil))) (pe_callB call_isi (by rfl) T.m_isinstance (by decide +kernel) (pa_cons (L2.pv 1) (pa_cons (pe_bltn (v := .ty "bool") (by rfl) T.m_bool (by decide +kernel) rfl) pa_nil))) (nomark _)) (pw_or1 (pt_cmpR op_ne (pe_callB call_isi (by rfl) T.m_isinstance (by decide +kernel) (pa_cons (L2.pv 0) (pa_cons (pe_bltn (v := .ty "int") (by rfl) T.m_int (by decide +kernel) rfl) pa_nil))) (pe_callB call_isi (by rfl) T.m_isinstance (by decide +kernel) (pa_cons (L2.pv 1) (pa_cons (pe_bltn (v := .ty "int") (by rfl) T.m_int (by decide +kernel) rfl) pa_nil))) (nomark _)))))
        (pss_one (ps_ret pe_bl))
        pss_nil)
      (pss_one (ps_ret (pe_and (pe_cmpR op_eq (pe_callB call_isi (by rfl) T.m_isinstance (by decide +kernel) (pa_cons (L2.pv 0) (pa_cons (pe_bltn (v := .ty "str") (by rfl) T.m_str (by decide +kernel) rfl) pa_nil))) (pe_callB call_isi (by rfl) T.m_isinstance (by decide +kernel) (pa_cons (L2.pv 1) (pa_cons (pe_bltn (v := .ty "str") (by rfl) T.m_str (by decide +kernel) rfl) pa_nil))) (nomark _)) (pe_one (pe_cmpR op_eq (L2.pv 0) (L2.pv 1) (nomark _))))))))), ?_⟩
  cases v with
  | byt _ => cases hv
  | flt _ => cases hv
  | ref _ => cases hv
  | ty _ => cases hv
  | non =>
    refine ⟨.non, rfl, (by show 2 ≤ sizeLine; decide), fun p np => ?_⟩
    refine ⟨.non, p, _, _, _, false, rfl, upd_same, .cons (.ty "list") (.cons (.ty "tuple") .nil), .base .non, kit_seq (by decide +kernel) (by decide +kernel), false, rfl, iteF ?_⟩
    refine ⟨.non, rfl, rfl, _, rfl, iteT (iteT ?_)⟩
    refine ⟨.non, rfl, rfl, _, rfl, iteT ?_⟩
    exact ⟨.non, rfl, rfl, q _ (same_new np)⟩
  | bl y =>
    refine ⟨.bl y, rfl, (by show 2 ≤ sizeLine; decide), fun p np => ?_⟩
    refine ⟨.bl y, p, _, _, _, false, rfl, upd_same, .cons (.ty "list") (.cons (.ty "tuple") .nil), .base (.bl y), kit_seq (by decide +kernel) (by decide +kernel), false, rfl, iteF ?_⟩
    refine ⟨.bl y, rfl, rfl, _, rfl, iteF ⟨.bl y, rfl, rfl, _, rfl, iteF ?_⟩⟩
    refine ⟨.bl y, rfl, .bl y, .ty "bool", _, _, true, rfl, .ty _, .base (.bl y), kit_ty (by decide +kernel), .bl y, rfl, .bl y, .ty "bool", _, _, true, rfl, .ty _, .base (.bl y), kit_ty (by decide +kernel), rfl, _, rfl, iteF ⟨.bl y, rfl, .bl y, .ty "int", _, _, true, rfl, .ty _, .base (.bl y), kit_ty (by decide +kernel), .bl y, rfl, .bl y, .ty "int", _, _, true, rfl, .ty _, .base (.bl y), kit_ty (by decide +kernel), rfl, _, rfl, iteF ?_⟩⟩
    refine ⟨.bl y, rfl, .bl y, .ty "str", _, _, false, rfl, .ty _, .base (.bl y), kit_ty (by decide +kernel), .bl y, rfl, .bl y, .ty "str", _, _, false, rfl, .ty _, .base (.bl y), kit_ty (by decide +kernel), rfl, _, rfl, iteT ⟨.bl y, rfl, .bl y, rfl, rfl, ?_⟩⟩
    rw [decide_eq_true rfl]
    exact q _ (same_new np)
  | int y =>
    refine ⟨.int y, rfl, (by show 2 ≤ sizeLine; decide), fun p np => ?_⟩
    refine ⟨.int y, p, _, _, _, false, rfl, upd_same, .cons (.ty "list") (.cons (.ty "tuple") .nil), .base (.int y), kit_seq (by decide +kernel) (by decide +kernel), false, rfl, iteF ?_⟩
    refine ⟨.int y, rfl, rfl, _, rfl, iteF ⟨.int y, rfl, rfl, _, rfl, iteF ?_⟩⟩
    refine ⟨.int y, rfl, .int y, .ty "bool", _, _, false, rfl, .ty _, .base (.int y), kit_ty (by decide +kernel), .int y, rfl, .int y, .ty "bool", _, _, false, rfl, .ty _, .base (.int y), kit_ty (by decide +kernel), rfl, _, rfl, iteF ⟨.int y, rfl, .int y, .ty "int", _, _, true, rfl, .ty _, .base (.int y), kit_ty (by decide +kernel), .int y, rfl, .int y, .ty "int", _, _, true, rfl, .ty _, .base (.int y), kit_ty (by decide +kernel), rfl, _, rfl, iteF ?_⟩⟩
    refine ⟨.int y, rfl, .int y, .ty "str", _, _, false, rfl, .ty _, .base (.int y), kit_ty (by decide +kernel), .int y, rfl, .int y, .ty "str", _, _, false, rfl, .ty _, .base (.int y), kit_ty (by decide +kernel), rfl, _, rfl, iteT ⟨.int y, rfl, .int y, rfl, rfl, ?_⟩⟩
    rw [decide_eq_true rfl]
    exact q _ (same_new np)
  | str y =>
    refine ⟨.str y, rfl, (by show 2 ≤ sizeLine; decide), fun p np => ?_⟩
    refine ⟨.str y, p, _, _, _, false, rfl, upd_same, .cons (.ty "list") (.cons (.ty "tuple") .nil), .base (.str y), kit_seq (by decide +kernel) (by decide +kernel), false, rfl, iteF ?_⟩
    refine ⟨.str y, rfl, rfl, _, rfl, iteF ⟨.str y, rfl, rfl, _, rfl, iteF ?_⟩⟩
    refine ⟨.str y, rfl, .str y, .ty "bool", _, _, false, rfl, .ty _, .base (.str y), kit_ty (by decide +kernel), .str y, rfl, .str y, .ty "bool", _, _, false, rfl, .ty _, .base (.str y), kit_ty (by decide +kernel), rfl, _, rfl, iteF ⟨.str y, rfl, .str y, .ty "int", _, _, false, rfl, .ty _, .base (.str y), kit_ty (by decide +kernel), .str y, rfl, .str y, .ty "int", _, _, false, rfl, .ty _, .base (.str y), kit_ty (by decide +kernel), rfl, _, rfl, iteF ?_⟩⟩
    refine ⟨.str y, rfl, .str y, .ty "str", _, _, true, rfl, .ty _, .base (.str y), kit_ty (by decide +kernel), .str y, rfl, .str y, .ty "str", _, _, true, rfl, .ty _, .base (.str y), kit_ty (by decide +kernel), rfl, _, rfl, iteT ⟨.str y, rfl, .str y, rfl, rfl, ?_⟩⟩
    rw [decide_eq_true rfl]
    exact q _ (same_new np)
theorem ok_same (T : Tx K mg w) : ∀ n : Nat, FnOk P w K mg base CX0 (n + 1) T.f_same T.fd_same P_same (sp_same K n)
  | 0 => by
    refine T.F_same.ok sc_same (fun vs H Q E h => ?_) (fun cdv A outer s H vs Q E hr h => ?_)
    · obtain ⟨v, w, rfl, _⟩ := h
      rfl
    · obtain ⟨v, w, rfl, ⟨hf, rfl⟩, q⟩ := h
      exact same_flat T (k := 0) (n := 0) hf q
  | n + 1 => by
    have G_same : FnOk P w K mg base CX0 (n + 1) T.f_same T.fd_same P_same (sp_same K n) := ok_same T n
    refine T.F_same.ok sc_same (fun vs H Q E h => ?_) (fun cdv A outer s H vs Q E hr h => ?_)
    · obtain ⟨v, w, rfl, _⟩ := h
      rfl
    · obtain ⟨v, w, rfl, ⟨hf, rfl⟩ | ⟨a, c, xs, ys, rfl, rfl, h, hz, p'⟩, q⟩ := h
      · exact same_flat T (k := 0) (n := 0) hf q
      have pl : xs.length = ys.length := Paired.length p'
      rcases h with ⟨h1, h2⟩ | ⟨h1, h2⟩
      · -- two lists
        refine ⟨_, 
      (pss_cons (ps_if (pt_val (pe_callB call_isiT (by rfl) T.m_isinstance (by decide +kernel) (pa_cons (L2.pv 1) (pa_cons (pe_tup (pa_cons (pe_bltn (v := .ty "list") (by rfl) T.m_list (by decide +kernel) rfl) (pa_cons (pe_bltn (v := .ty "tuple") (by rfl) T.m_tuple (by decide +kernel) rfl) pa_nil))) pa_nil))))
        (pss_cons (ps_if (PW.pt (pw_or (pt_cmpR op_ne (pe_callB call_isi (by rfl) T.m_isinstance (by decide +kernel) (pa_cons (L2.pv 0) (pa_cons (pe_bltn (v := .ty "list") (by rfl) T.m_list (by decide +kernel) rfl) pa_nil))) (pe_callB call_isi (by rfl) T.m_isinstance (by decide +kernel) (pa_cons (L2.pv 1) (pa_cons (pe_bltn (v := .ty "list") (by rfl) T.m_list (by decide +kernel) rfl) pa_nil))) (nomark _)) (pw_or1 (pt_cmpR op_ne (pe_callB call_isi (by rfl) T.m_isinstance (by decide +kernel) (pa_cons (L2.pv 0) (pa_cons (pe_bltn (v := .ty "tuple") (by rfl) T.m_tuple (by decide +kernel) rfl) pa_nil))) (pe_callB call_isi (by rfl) T.m_isinstance (by decide +kernel) (pa_cons (L2.pv 1) (pa_cons (pe_bltn (v := .ty "tuple") (by rfl) T.m_tuple (by decide +kernel) rfl) pa_nil))) (nomark _)))))
          (pss_one (ps_ret pe_bl))
          pss_nil)
        (pss_one (ps_ret (pe_and (pe_cmpR op_eq (pe_callB call_len_seq (by rfl) T.m_len PySem.boot_len (pa_cons (L2.pv 0) pa_nil)) (pe_callB call_len_seq (by rfl) T.m_len PySem.boot_len (pa_cons (L2.pv 1) pa_nil)) (nomark _)) (pe_one (pe_callB (cr_all rfl) (by rfl) T.m_all (by decide +kernel) (pa_cons (pe_lc (own := [("_law_a", 2), ("_law_b", 3)]) (g := (gTup K 2 (gCons (gName 2) (gCons (gName 3) gNil)))) (tt := tYes) (by rfl) sc_same.nd (RZ.pi_zipA (by rfl) T.m_zip (pa_cons (L2.pv 0) (pa_cons (L2.pv 1) pa_nil))) (blkOk_by (own := [("_law_a", 2), ("_law_b", 3)]) (N := N_same) (sc := defScope s_same) (by decide +kernel)) (fun _ _ _ _ _ => (pg_tup (by rfl) (pgs_cons (pg_name (i := 2) sc_same.nd rfl (.inl rfl)) (pgs_cons (pg_name (i := 3) sc_same.nd rfl (.inl rfl)) pgs_nil)))) (fun _ _ _ _ _ => pts_nil) (fun _ _ _ _ _ => (pe_call G_same hr (by rfl) T.g_same T.F_same.kp T.b_same .nil pass0 (pa_cons (L2.pv 2) (pa_cons (L2.pv 3) pa_nil))))) pa_nil)))))))
        pss_nil)
      pss_never), ?_⟩
        refine ⟨.ref c, rfl, (by show 2 ≤ sizeLine; decide), fun p np => ?_⟩
        have s1 : Same H (upd H p (.tup [.ty "list", .ty "tuple"])) := same_new np
        have k1 := s1 _ _ h1
        have k2 := s1 _ _ h2
        refine ⟨.ref c, p, _, _, _, true, rfl, upd_same, .cons (.ty "list") (.cons (.ty "tuple") .nil), .base (.lst k2), kit_lst, true, rfl, iteT ?_⟩
        refine ⟨.ref a, rfl, .ref a, .ty "list", _, _, true, rfl, .ty _, .base (.lst k1), kit_ty (by decide +kernel), .ref c, rfl, .ref c, .ty "list", _, _, true, rfl, .ty _, .base (.lst k2), kit_ty (by decide +kernel), rfl, _, rfl, iteF ?_⟩
        refine ⟨.ref a, rfl, .ref a, .ty "tuple", _, _, false, rfl, .ty _, .base (.lst k1), kit_ty (by decide +kernel), .ref c, rfl, .ref c, .ty "tuple", _, _, false, rfl, .ty _, .base (.lst k2), kit_ty (by decide +kernel), rfl, _, rfl, iteF ?_⟩
        refine ⟨.ref a, rfl, a, xs, rfl, .inl (.of k1), .ref c, rfl, c, ys, rfl, .inl (.of k2), rfl, _, rfl, ?_⟩
        rw [← pl, decide_eq_true rfl]
        refine iteT ?_
        refine ⟨.ref a, rfl, .ref c, rfl, a, c, xs, ys, rfl, .inl ⟨.of k1, .of k2, fun D nD => ?_⟩⟩
        have nD0 : H D = none := s1.free nD
        refine lc_it (walk_zip (n := xs.length) (by rw [← pl, Nat.min_self])) (fun i H' => Same H H' ∧ H' D = some (.lst ((List.replicate i true).map V.bl)))
          ⟨same_mut s1 nD0, upd_same⟩ (fun i H' _ h => ⟨.of (h.1 _ _ h1), .of (h.1 _ _ h2)⟩) (fun i x H1 H' hi h y => ?_) (fun H' h => ?_)
        · obtain ⟨sm, eD⟩ := h
          obtain ⟨U, u, v, rfl, nU, rfl, gu, gv⟩ := y
          have sU : Same H (upd H1 U (.tup [u, v])) := sm.trans (same_new nU)
          refine ⟨U, [u, v], rfl, .of upd_same, rfl, u, [v], rfl, v, [], rfl, rfl, ?_⟩
          refine ⟨rfl, u, rfl, v, rfl, u, v, rfl, (paired_get p' gu gv).mono sU, fun H3 s3 => ?_⟩
          have eD3 : H3 D = some (.lst ((List.replicate i true).map V.bl)) := s3 _ _ (by rw [upd_ne (ne_of_none eD nU)]; exact eD)
          refine ⟨_, eD3, ?_, same_mut (sU.trans s3) nD0, ?_⟩
          · rw [List.length_map, List.length_replicate]
            exact Nat.lt_trans hi (Nat.lt_of_lt_of_le hz (by decide))
          · rw [upd_same, List.replicate_succ', List.map_append]
            rfl
        · obtain ⟨sm, eD⟩ := h
          refine ⟨D, _, rfl, .of eD, ?_⟩
          rw [show (List.replicate xs.length true).all id = true from by rw [List.all_replicate]; simp]
          exact q _ sm
      · -- two tuples
        refine ⟨_, 
      (pss_cons (ps_if (pt_val (pe_callB call_isiT (by rfl) T.m_isinstance (by decide +kernel) (pa_cons (L2.pv 1) (pa_cons (pe_tup (pa_cons (pe_bltn (v := .ty "list") (by rfl) T.m_list (by decide +kernel) rfl) (pa_cons (pe_bltn (v := .ty "tuple") (by rfl) T.m_tuple (by decide +kernel) rfl) pa_nil))) pa_nil))))
        (pss_cons (ps_if (PW.pt (pw_or (pt_cmpR op_ne (pe_callB call_isi (by rfl) T.m_isinstance (by decide +kernel) (pa_cons (L2.pv 0) (pa_cons (pe_bltn (v := .ty "list") (by rfl) T.m_list (by decide +kernel) rfl) pa_nil))) (pe_callB call_isi (by rfl) T.m_isinstance (by decide +kernel) (pa_cons (L2.pv 1) (pa_cons (pe_bltn (v := .ty "list") (by rfl) T.m_list (by decide +kernel) rfl) pa_nil))) (nomark _)) (pw_or1 (pt_cmpR op_ne (pe_callB call_isi (by rfl) T.m_isinstance (by decide +kernel) (pa_cons (L2.pv 0) (pa_cons (pe_bltn (v := .ty "tuple") (by rfl) T.m_tuple (by decide +kernel) rfl) pa_nil))) (pe_callB call_isi (by rfl) T.m_isinstance (by decide +kernel) (pa_cons (L2.pv 1) (pa_cons (pe_bltn (v := .ty "tuple") (by rfl) T.m_tuple (by decide +kernel) rfl) pa_nil))) (nomark _)))))
          (pss_one (ps_ret pe_bl))
          pss_nil)
        (pss_one (ps_ret (pe_and (pe_cmpR op_eq (pe_callB call_len_seq (by rfl) T.m_len PySem.boot_len (pa_cons (L2.pv 0) pa_nil)) (pe_callB call_len_seq (by rfl) T.m_len PySem.boot_len (pa_cons (L2.pv 1) pa_nil)) (nomark _)) (pe_one (pe_callB (cr_all rfl) (by rfl) T.m_all (by decide +kernel) (pa_cons (pe_lc (own := [("_law_a", 2), ("_law_b", 3)]) (g := (gTup K 2 (gCons (gName 2) (gCons (gName 3) gNil)))) (tt := tYes) (by rfl) sc_same.nd (RZ.pi_zipA (by rfl) T.m_zip (pa_cons (L2.pv 0) (pa_cons (L2.pv 1) pa_nil))) (blkOk_by (own := [("_law_a", 2), ("_law_b", 3)]) (N := N_same) (sc := defScope s_same) (by decide +kernel)) (fun _ _ _ _ _ => (pg_tup (by rfl) (pgs_cons (pg_name (i := 2) sc_same.nd rfl (.inl rfl)) (pgs_cons (pg_name (i := 3) sc_same.nd rfl (.inl rfl)) pgs_nil)))) (fun _ _ _ _ _ => pts_nil) (fun _ _ _ _ _ => (pe_call G_same hr (by rfl) T.g_same T.F_same.kp T.b_same .nil pass0 (pa_cons (L2.pv 2) (pa_cons (L2.pv 3) pa_nil))))) pa_nil)))))))
        pss_nil)
      pss_never), ?_⟩
        refine ⟨.ref c, rfl, (by show 2 ≤ sizeLine; decide), fun p np => ?_⟩
        have s1 : Same H (upd H p (.tup [.ty "list", .ty "tuple"])) := same_new np
        have k1 := s1 _ _ h1
        have k2 := s1 _ _ h2
        refine ⟨.ref c, p, _, _, _, true, rfl, upd_same, .cons (.ty "list") (.cons (.ty "tuple") .nil), .base (.tup k2), kit_tup, true, rfl, iteT ?_⟩
        refine ⟨.ref a, rfl, .ref a, .ty "list", _, _, false, rfl, .ty _, .base (.tup k1), kit_ty (by decide +kernel), .ref c, rfl, .ref c, .ty "list", _, _, false, rfl, .ty _, .base (.tup k2), kit_ty (by decide +kernel), rfl, _, rfl, iteF ?_⟩
        refine ⟨.ref a, rfl, .ref a, .ty "tuple", _, _, true, rfl, .ty _, .base (.tup k1), kit_ty (by decide +kernel), .ref c, rfl, .ref c, .ty "tuple", _, _, true, rfl, .ty _, .base (.tup k2), kit_ty (by decide +kernel), rfl, _, rfl, iteF ?_⟩
        refine ⟨.ref a, rfl, a, xs, rfl, .inr (.of k1), .ref c, rfl, c, ys, rfl, .inr (.of k2), rfl, _, rfl, ?_⟩
        rw [← pl, decide_eq_true rfl]
        refine iteT ?_
        refine ⟨.ref a, rfl, .ref c, rfl, a, c, xs, ys, rfl, .inr ⟨.of k1, .of k2, fun D nD => ?_⟩⟩
        have nD0 : H D = none := s1.free nD
        refine lc_it (walk_zipT (n := xs.length) (by rw [← pl, Nat.min_self])) (fun i H' => Same H H' ∧ H' D = some (.lst ((List.replicate i true).map V.bl)))
          ⟨same_mut s1 nD0, upd_same⟩ (fun i H' _ h => ⟨.of (h.1 _ _ h1), .of (h.1 _ _ h2)⟩) (fun i x H1 H' hi h y => ?_) (fun H' h => ?_)
        · obtain ⟨sm, eD⟩ := h
          obtain ⟨U, u, v, rfl, nU, rfl, gu, gv⟩ := y
          have sU : Same H (upd H1 U (.tup [u, v])) := sm.trans (same_new nU)
          refine ⟨U, [u, v], rfl, .of upd_same, rfl, u, [v], rfl, v, [], rfl, rfl, ?_⟩
          refine ⟨rfl, u, rfl, v, rfl, u, v, rfl, (paired_get p' gu gv).mono sU, fun H3 s3 => ?_⟩
          have eD3 : H3 D = some (.lst ((List.replicate i true).map V.bl)) := s3 _ _ (by rw [upd_ne (ne_of_none eD nU)]; exact eD)
          refine ⟨_, eD3, ?_, same_mut (sU.trans s3) nD0, ?_⟩
          · rw [List.length_map, List.length_replicate]
            exact Nat.lt_trans hi (Nat.lt_of_lt_of_le hz (by decide))
          · rw [upd_same, List.replicate_succ', List.map_append]
            rfl
        · obtain ⟨sm, eD⟩ := h
          refine ⟨D, _, rfl, .of eD, ?_⟩
          rw [show (List.replicate xs.length true).all id = true from by rw [List.all_replicate]; simp]
          exact q _ sm
variable {tb : List (Addr × Str)}
theorem ok_sameP (T : Tx K mg w) : FnP P w K mg base tb 4 T.f_same T.fd_same P_same (F_same 3) := (fn_any (ok_same T 3)).imp fun vs H Q E h => same_imp h
theorem xf_all (T : Tx K mg w) : ∀ C ∈ exCs T.ca, XF K T.C_LeakError C := List.forall_mem_cons.mpr ⟨⟨T.xc_BadWord, T.em_BadWord, T.kv_BadWord, T.kl_BadWord, T.no_BadWord_word, T.no_BadWord_at⟩, List.forall_mem_cons.mpr ⟨⟨T.xc_BadAtom, T.em_BadAtom, T.kv_BadAtom, T.kl_BadAtom, T.no_BadAtom_word, T.no_BadAtom_at⟩, fun _ h => (List.not_mem_nil h).elim⟩⟩
/-! #### is_word -/
set_option maxHeartbeats 0 in
theorem ok_p_is_word (T : Tx K mg w) : FnP P w K mg base tb 1 T.f_p_is_word T.fd_p_is_word P_p_is_word (F_p_is_word T.ca) := by
  exact FnP.of T.F_p_is_word sc_p_is_word fun cdv A outer s H E hr => ⟨_, (pss_one (ps_ret (pe_callB (cr_all rfl) (by rfl) T.m_all (by decide +kernel) (pa_cons (pe_lc (own := [("sign", 1)]) (g := (gName 1)) (tt := tYes) (by rfl) sc_p_is_word.nd (pi_str (L2.pv 0)) (blkOk_by (own := [("sign", 1)]) (N := N_p_is_word) (sc := defScope s_p_is_word) (by decide +kernel)) (fun _ _ _ _ _ => (pg_name (i := 1) sc_p_is_word.nd rfl (.inl rfl))) (fun _ _ _ _ _ => pts_nil) (fun _ _ _ _ _ => (pe_cmpR op_in_sign (L2.pv 1) (pe_glob (by rfl) T.c_LETTERS T.r_LETTERS) rfl))) pa_nil)))),
    (sm_ret (sm_gc (sm_B sb_all (sm_cons (sm_lc (sm_iS sm_var) sg_nm sm_yes (sm_op smr_inS sm_var (sm_c (cv_str (by decide +kernel)))) (by decide)) sm_nil))))⟩
/-! #### is_letter -/
set_option maxHeartbeats 0 in
theorem ok_p_is_letter (T : Tx K mg w) : FnP P w K mg base tb 2 T.f_p_is_letter T.fd_p_is_letter P_p_is_letter (F_p_is_letter T.ca) := by
  have G_p_is_word : FnP P w K mg base tb 1 T.f_p_is_word T.fd_p_is_word P_p_is_word (F_p_is_word T.ca) := ok_p_is_word T
  exact FnP.of T.F_p_is_letter sc_p_is_letter fun cdv A outer s H E hr => ⟨_, (pss_one (ps_ret (pe_and (pe_cmpR op_eq (pe_callB call_len_str (by rfl) T.m_len PySem.boot_len (pa_cons (L2.pv 0) pa_nil)) pe_int (nomark _)) (pe_one (pe_call G_p_is_word (hr.mono (by decide)) (by rfl) T.g_p_is_word T.F_p_is_word.kp T.b_p_is_word .nil (passes_call (takes_of rfl rfl rfl rfl) (fun _ _ _ _ h => h)) (pa_cons (L2.pv 0) pa_nil)))))),
    (sm_ret (sm_andV (sm_op smr_eq (sm_B sb_lenS (sm_cons sm_var sm_nil)) (sm_c cv_int)) (sm_call cvs_nil (sm_cons sm_var sm_nil))))⟩
/-! #### is_rising -/
set_option maxHeartbeats 0 in
theorem ok_p_is_rising (T : Tx K mg w) : FnP P w K mg base tb 2 T.f_p_is_rising T.fd_p_is_rising P_p_is_rising (F_p_is_rising T.ca) := by
  have G_p_is_word : FnP P w K mg base tb 1 T.f_p_is_word T.fd_p_is_word P_p_is_word (F_p_is_word T.ca) := ok_p_is_word T
  exact FnP.of T.F_p_is_rising sc_p_is_rising fun cdv A outer s H E hr => ⟨_, (pss_one (ps_ret (pe_and (pe_call G_p_is_word (hr.mono (by decide)) (by rfl) T.g_p_is_word T.F_p_is_word.kp T.b_p_is_word .nil (passes_call (takes_of rfl rfl rfl rfl) (fun _ _ _ _ h => h)) (pa_cons (L2.pv 0) pa_nil)) (pe_one (pe_callB (cr_all rfl) (by rfl) T.m_all (by decide +kernel) (pa_cons (pe_lc (own := [("low", 1), ("high", 2)]) (g := (gTup K 2 (gCons (gName 1) (gCons (gName 2) gNil)))) (tt := tYes) (by rfl) sc_p_is_rising.nd (LB.pi_zipS (by rfl) T.m_zip (pa_cons (L2.pv 0) (pa_cons (pe_slice sl_str (L2.pv 0) (po_some pe_int) po_none) pa_nil))) (blkOk_by (own := [("low", 1), ("high", 2)]) (N := N_p_is_rising) (sc := defScope s_p_is_rising) (by decide +kernel)) (fun _ _ _ _ _ => (pg_tup (by rfl) (pgs_cons (pg_name (i := 1) sc_p_is_rising.nd rfl (.inl rfl)) (pgs_cons (pg_name (i := 2) sc_p_is_rising.nd rfl (.inl rfl)) pgs_nil)))) (fun _ _ _ _ _ => pts_nil) (fun _ _ _ _ _ => (pe_cmpR op_lt_str (L2.pv 1) (L2.pv 2) (nomark _)))) pa_nil)))))),
    (sm_ret (sm_andV (sm_call cvs_nil (sm_cons sm_var sm_nil)) (sm_gc (sm_B sb_all (sm_cons (sm_lc (sm_iZS (sm_cons sm_var (sm_cons (sm_sl sms_S sm_var (sm_part (sm_c cv_int)) sm_noPart) sm_nil))) (sg_tup (sg_cons sg_nm (sg_cons sg_nm sg_nil)) (cnt_cons (cnt_cons cnt_nil))) sm_yes (sm_op smr_ltS sm_var sm_var) (by decide)) sm_nil)))))⟩
/-! #### is_atom -/
set_option maxHeartbeats 0 in
theorem ok_p_is_atom (T : Tx K mg w) : FnP P w K mg base tb 3 T.f_p_is_atom T.fd_p_is_atom P_p_is_atom (F_p_is_atom T.ca) := by
  have G_p_is_rising : FnP P w K mg base tb 2 T.f_p_is_rising T.fd_p_is_rising P_p_is_rising (F_p_is_rising T.ca) := ok_p_is_rising T
  exact FnP.of T.F_p_is_atom sc_p_is_atom fun cdv A outer s H E hr => ⟨_, (pss_cons (ps_if (PW.pt (pw_or (pt_cmpR op_eq (L2.pv 0) pe_str (nomark _)) (pw_or1 (pt_not (pt_val (pe_call G_p_is_rising (hr.mono (by decide)) (by rfl) T.g_p_is_rising T.F_p_is_rising.kp T.b_p_is_rising .nil (passes_call (takes_of rfl rfl rfl rfl) (fun _ _ _ _ h => h)) (pa_cons (L2.pv 0) pa_nil)))))))
        (pss_one (ps_ret pe_bl))
        pss_nil)
      (pss_one (ps_ret (pe_or (L2.pv 1) (pe_one (pe_cmpR op_eq (pe_callB call_len_str (by rfl) T.m_len PySem.boot_len (pa_cons (L2.pv 0) pa_nil)) pe_int (nomark _))))))),
    (sm_seq (sm_ifS (sm_or (sm_test (sm_op smr_eq sm_var (sm_c (cv_str (by decide +kernel))))) (sm_not (sm_tB (sm_call cvs_nil (sm_cons sm_var sm_nil))))) (sm_ret (sm_c cv_bl)) sm_next)
      (sm_ret (sm_orV sm_var (sm_op smr_eq (sm_B sb_lenS (sm_cons sm_var sm_nil)) (sm_c cv_int)))))⟩
/-! #### is_product -/
set_option maxHeartbeats 0 in
theorem ok_p_is_product (T : Tx K mg w) : FnP P w K mg base tb 4 T.f_p_is_product T.fd_p_is_product P_p_is_product (F_p_is_product T.ca) := by
  have G_p_is_atom : FnP P w K mg base tb 3 T.f_p_is_atom T.fd_p_is_atom P_p_is_atom (F_p_is_atom T.ca) := ok_p_is_atom T
  exact FnP.of T.F_p_is_product sc_p_is_product fun cdv A outer s H E hr => ⟨_, (pss_one (ps_ret (pe_callB (cr_all rfl) (by rfl) T.m_all (by decide +kernel) (pa_cons (pe_lc (own := [("letters", 1), ("many", 2)]) (g := (gTup K 2 (gCons (gName 1) (gCons (gName 2) gNil)))) (tt := tYes) (by rfl) sc_p_is_product.nd (pi_tup (L2.pv 0)) (blkOk_by (own := [("letters", 1), ("many", 2)]) (N := N_p_is_product) (sc := defScope s_p_is_product) (by decide +kernel)) (fun _ _ _ _ _ => (pg_tup (by rfl) (pgs_cons (pg_name (i := 1) sc_p_is_product.nd rfl (.inl rfl)) (pgs_cons (pg_name (i := 2) sc_p_is_product.nd rfl (.inl rfl)) pgs_nil)))) (fun _ _ _ _ _ => pts_nil) (fun _ _ _ _ _ => (pe_call G_p_is_atom (hr.mono (by decide)) (by rfl) T.g_p_is_atom T.F_p_is_atom.kp T.b_p_is_atom .nil passL (pa_cons (L2.pv 1) (pa_cons (L2.pv 2) pa_nil))))) pa_nil)))),
    (sm_ret (sm_gc (sm_B sb_all (sm_cons (sm_lc (sm_iT sm_var) (sg_tup (sg_cons sg_nm (sg_cons sg_nm sg_nil)) (cnt_cons (cnt_cons cnt_nil))) sm_yes (sm_callN cvs_nil (sm_cons sm_var (sm_cons sm_var sm_nil))) (by decide)) sm_nil))))⟩
/-! #### check_product -/
set_option maxHeartbeats 0 in
theorem ok_p_check_product (T : Tx K mg w) : FnP P w K mg base tb 5 T.f_p_check_product T.fd_p_check_product P_p_check_product (F_p_check_product T.ca) := by
  have G_p_is_product : FnP P w K mg base tb 4 T.f_p_is_product T.fd_p_is_product P_p_is_product (F_p_is_product T.ca) := ok_p_is_product T
  have G_BadAtom_init : FnOk P w K mg base CX0 2 T.f_BadAtom_init T.fd_BadAtom_init P_BadAtom_init (spErr K (Str.ofString "badatom")) := ok_BadAtom_init T
  exact FnP.of T.F_p_check_product sc_p_check_product fun cdv A outer s H E hr => ⟨_, (pss_one (ps_if (pt_not (pt_val (pe_call G_p_is_product (hr.mono (by decide)) (by rfl) T.g_p_is_product T.F_p_is_product.kp T.b_p_is_product .nil (passes_call (takes_of rfl rfl rfl rfl) (fun _ _ _ _ h => h)) (pa_cons (L2.pv 0) pa_nil))))
        (pss_one (ps_raise rfl (takes_of rfl rfl rfl rfl) (LB.pmk_oex0 T.ox_BadAtom T.iC_BadAtom T.tI_BadAtom G_BadAtom_init (hr.mono (by decide)) T.b_BadAtom_init_1 T.dv_BadAtom_init_1 pass0 (by rfl) T.gC_BadAtom)))
        pss_nil)),
    (sm_ifS (sm_not (sm_tB (sm_call cvs_nil (sm_cons sm_var sm_nil)))) (sm_raise T.ox_BadAtom T.no_BadAtom_word T.no_BadAtom_at (cvs_cons cv_int cvs_nil) sm_nil) sm_next)⟩
/-! #### check_letter -/
set_option maxHeartbeats 0 in
theorem ok_p_check_letter (T : Tx K mg w) : FnP P w K mg base tb 4 T.f_p_check_letter T.fd_p_check_letter P_p_check_letter (F_p_check_letter T.ca) := by
  have G_p_is_letter : FnP P w K mg base tb 2 T.f_p_is_letter T.fd_p_is_letter P_p_is_letter (F_p_is_letter T.ca) := ok_p_is_letter T
  have G_BadWord_init : FnOk P w K mg base CX0 2 T.f_BadWord_init T.fd_BadWord_init P_BadWord_init (spErr K (Str.ofString "badword")) := ok_BadWord_init T
  exact FnP.of T.F_p_check_letter sc_p_check_letter fun cdv A outer s H E hr => ⟨_, (pss_one (ps_if (pt_not (pt_val (pe_call G_p_is_letter (hr.mono (by decide)) (by rfl) T.g_p_is_letter T.F_p_is_letter.kp T.b_p_is_letter .nil (passes_call (takes_of rfl rfl rfl rfl) (fun _ _ _ _ h => h)) (pa_cons (L2.pv 0) pa_nil))))
        (pss_one (ps_raise rfl (takes_of rfl rfl rfl rfl) (LB.pmk_oex0 T.ox_BadWord T.iC_BadWord T.tI_BadWord G_BadWord_init (hr.mono (by decide)) T.b_BadWord_init_1 T.dv_BadWord_init_1 pass0 (by rfl) T.gC_BadWord)))
        pss_nil)),
    (sm_ifS (sm_not (sm_tB (sm_call cvs_nil (sm_cons sm_var sm_nil)))) (sm_raise T.ox_BadWord T.no_BadWord_word T.no_BadWord_at (cvs_cons cv_int cvs_nil) sm_nil) sm_next)⟩
/-! #### takes_in -/
set_option maxHeartbeats 0 in
theorem ok_p_takes_in (T : Tx K mg w) : FnP P w K mg base tb 1 T.f_p_takes_in T.fd_p_takes_in P_p_takes_in (F_p_takes_in T.ca) := by
  exact FnP.of T.F_p_takes_in sc_p_takes_in fun cdv A outer s H E hr => ⟨_, (pss_cons (ps_if (pt_not (pt_val (pe_ix ix_tup (L2.pv 0) pe_int (fun _ _ => rfl))))
        (pss_one (ps_ret pe_bl))
        pss_nil)
      (pss_cons (ps_for (passes_of rfl) rfl (pi_str (pe_ix ix_tup (L2.pv 1) pe_int (fun _ _ => rfl))) (pg_name (i := 2) sc_p_takes_in.nd rfl (.inl rfl))
        (pss_one (ps_if (pt_cmpR op_notIn_sign (L2.pv 2) (pe_ix ix_tup (L2.pv 0) pe_int (fun _ _ => rfl)) rfl)
          (pss_one (ps_ret pe_bl))
          pss_nil)))
      (pss_one (ps_ret pe_bl)))),
    (sm_seq (sm_ifS (sm_not (sm_tB (sm_op smr_ixT sm_var (sm_c cv_int)))) (sm_ret (sm_c cv_bl)) sm_next)
      (sm_seq (sm_for (sm_iS (sm_op smr_ixT sm_var (sm_c cv_int))) sg_nm (sm_ifS (sm_test (sm_op smr_notInS sm_var (sm_op smr_ixT sm_var (sm_c cv_int)))) (sm_ret (sm_c cv_bl)) sm_next))
      (sm_ret (sm_c cv_bl))))⟩
/-! #### has_word -/
set_option maxHeartbeats 0 in
theorem ok_p_has_word (T : Tx K mg w) : FnP P w K mg base tb 1 T.f_p_has_word T.fd_p_has_word P_p_has_word (F_p_has_word T.ca) := by
  exact FnP.of T.F_p_has_word sc_p_has_word fun cdv A outer s H E hr => ⟨_, (pss_cons (ps_set (i := 2) sc_p_has_word.nd rfl (.inl rfl) pe_int)
      (pss_cons (ps_for (passes_of rfl) rfl (pi_tup (L2.pv 0)) (pg_tup (by rfl) (pgs_cons (pg_name (i := 3) sc_p_has_word.nd rfl (.inl rfl)) (pgs_cons (pg_name (i := 4) sc_p_has_word.nd rfl (.inl rfl)) pgs_nil)))
        (pss_one (ps_if (pt_val (L2.pv 4))
          (pss_one (ps_while (passes_of rfl) (PW.pt (pw_and (pt_cmpR op_lt (L2.pv 2) (pe_callB call_len_str (by rfl) T.m_len PySem.boot_len (pa_cons (L2.pv 1) pa_nil)) (nomark _)) (pw_and1 (pt_cmpR op_in_sign (pe_ix ix_str (L2.pv 1) (L2.pv 2) (fun _ _ => rfl)) (L2.pv 3) rfl))))
            (pss_one (ps_aug (i := 2) sc_p_has_word.nd rfl (.inl rfl) pe_int ip_add))))
          (pss_one (ps_if (pt_cmpR op_eq (pe_slice sl_str (L2.pv 1) (po_some (L2.pv 2)) (po_some (pe_op op_add (L2.pv 2) pe_int))) (L2.pv 3) (nomark _))
            (pss_one (ps_aug (i := 2) sc_p_has_word.nd rfl (.inl rfl) pe_int ip_add))
            pss_nil)))))
      (pss_one (ps_ret (pe_cmpR op_eq (L2.pv 2) (pe_callB call_len_str (by rfl) T.m_len PySem.boot_len (pa_cons (L2.pv 1) pa_nil)) (nomark _)))))),
    (sm_seq (sm_asg (sm_c cv_int) sg_nm)
      (sm_seq (sm_for (sm_iT sm_var) (sg_tup (sg_cons sg_nm (sg_cons sg_nm sg_nil)) (cnt_cons (cnt_cons cnt_nil))) (sm_ifS (sm_tB sm_var) (sm_while (sm_and (sm_test (sm_op (smr_I0 fun _ _ => cv_bl) sm_var (sm_B sb_lenS (sm_cons sm_var sm_nil)))) (sm_test (sm_op smr_inS (sm_op smr_ixS sm_var sm_var) sm_var))) (sm_aug (sm_c cv_int) smr_ip)) (sm_ifS (sm_test (sm_op smr_eq (sm_sl sms_S sm_var (sm_part sm_var) (sm_part (sm_op (smr_I0 fun _ _ => cv_int) sm_var (sm_c cv_int)))) sm_var)) (sm_aug (sm_c cv_int) smr_ip) sm_next)))
      (sm_ret (sm_op smr_eq sm_var (sm_B sb_lenS (sm_cons sm_var sm_nil))))))⟩
/-! #### holds -/
set_option maxHeartbeats 0 in
theorem ok_p_holds (T : Tx K mg w) : FnP P w K mg base tb 6 T.f_p_holds T.fd_p_holds P_p_holds (F_p_holds T.ca) := by
  have G_p_check_product : FnP P w K mg base tb 5 T.f_p_check_product T.fd_p_check_product P_p_check_product (F_p_check_product T.ca) := ok_p_check_product T
  have G_p_has_word : FnP P w K mg base tb 1 T.f_p_has_word T.fd_p_has_word P_p_has_word (F_p_has_word T.ca) := ok_p_has_word T
  have G_p_is_word : FnP P w K mg base tb 1 T.f_p_is_word T.fd_p_is_word P_p_is_word (F_p_is_word T.ca) := ok_p_is_word T
  have G_BadWord_init : FnOk P w K mg base CX0 2 T.f_BadWord_init T.fd_BadWord_init P_BadWord_init (spErr K (Str.ofString "badword")) := ok_BadWord_init T
  exact FnP.of T.F_p_holds sc_p_holds fun cdv A outer s H E hr => ⟨_, (pss_cons (ps_expr (pe_call G_p_check_product (hr.mono (by decide)) (by rfl) T.g_p_check_product T.F_p_check_product.kp T.b_p_check_product .nil (passes_call (takes_of rfl rfl rfl rfl) (fun _ _ _ _ h => h)) (pa_cons (L2.pv 0) pa_nil)))
      (pss_cons (ps_if (pt_not (pt_val (pe_call G_p_is_word (hr.mono (by decide)) (by rfl) T.g_p_is_word T.F_p_is_word.kp T.b_p_is_word .nil (passes_call (takes_of rfl rfl rfl rfl) (fun _ _ _ _ h => h)) (pa_cons (L2.pv 1) pa_nil))))
        (pss_one (ps_raise rfl (takes_of rfl rfl rfl rfl) (LB.pmk_oex0 T.ox_BadWord T.iC_BadWord T.tI_BadWord G_BadWord_init (hr.mono (by decide)) T.b_BadWord_init_1 T.dv_BadWord_init_1 pass0 (by rfl) T.gC_BadWord)))
        pss_nil)
      (pss_one (ps_ret (pe_call G_p_has_word (hr.mono (by decide)) (by rfl) T.g_p_has_word T.F_p_has_word.kp T.b_p_has_word .nil (passes_call (takes_of rfl rfl rfl rfl) (fun _ _ _ _ h => h)) (pa_cons (L2.pv 0) (pa_cons (L2.pv 1) pa_nil))))))),
    (sm_seq (sm_drop (sm_call cvs_nil (sm_cons sm_var sm_nil)))
      (sm_seq (sm_ifS (sm_not (sm_tB (sm_call cvs_nil (sm_cons sm_var sm_nil)))) (sm_raise T.ox_BadWord T.no_BadWord_word T.no_BadWord_at (cvs_cons cv_int cvs_nil) sm_nil) sm_next)
      (sm_ret (sm_call cvs_nil (sm_cons sm_var (sm_cons sm_var sm_nil))))))⟩
/-! #### lies_inside -/
set_option maxHeartbeats 0 in
theorem ok_p_lies_inside (T : Tx K mg w) : FnP P w K mg base tb 2 T.f_p_lies_inside T.fd_p_lies_inside P_p_lies_inside (F_p_lies_inside T.ca) := by
  have G_p_takes_in : FnP P w K mg base tb 1 T.f_p_takes_in T.fd_p_takes_in P_p_takes_in (F_p_takes_in T.ca) := ok_p_takes_in T
  exact FnP.of T.F_p_lies_inside sc_p_lies_inside fun cdv A outer s H E hr => ⟨_, (pss_cons (ps_set (i := 2) sc_p_lies_inside.nd rfl (.inl rfl) (pe_callB call_len_seq (by rfl) T.m_len PySem.boot_len (pa_cons (L2.pv 0) pa_nil)))
      (pss_cons (ps_set (i := 3) sc_p_lies_inside.nd rfl (.inl rfl) pe_int)
      (pss_cons (ps_for (passes_of rfl) rfl (pi_tup (L2.pv 1)) (pg_name (i := 4) sc_p_lies_inside.nd rfl (.inl rfl))
        (pss_cons (ps_if (pt_cmpR op_eq (L2.pv 3) (L2.pv 2) (nomark _))
          (pss_one (ps_ret pe_bl))
          pss_nil)
        (pss_one (ps_if (pt_val (pe_ix ix_tup (L2.pv 4) pe_int (fun _ _ => rfl)))
          (pss_one (ps_while (passes_of rfl) (PW.pt (pw_and (pt_cmpR op_lt (L2.pv 3) (L2.pv 2) (nomark _)) (pw_and1 (pt_val (pe_call G_p_takes_in (hr.mono (by decide)) (by rfl) T.g_p_takes_in T.F_p_takes_in.kp T.b_p_takes_in .nil (passes_call (takes_of rfl rfl rfl rfl) (fun _ _ _ _ h => h)) (pa_cons (L2.pv 4) (pa_cons (pe_ix ix_tup (L2.pv 0) (L2.pv 3) (fun _ _ => rfl)) pa_nil)))))))
            (pss_one (ps_aug (i := 3) sc_p_lies_inside.nd rfl (.inl rfl) pe_int ip_add))))
          (pss_one (ps_if (pt_cmpR (op_eqD hr.units) (pe_ix ix_tup (L2.pv 0) (L2.pv 3) (fun _ _ => rfl)) (L2.pv 4) (nomark _))
            (pss_one (ps_aug (i := 3) sc_p_lies_inside.nd rfl (.inl rfl) pe_int ip_add))
            pss_nil))))))
      (pss_one (ps_ret (pe_cmpR op_eq (L2.pv 3) (L2.pv 2) (nomark _))))))),
    (sm_seq (sm_asg (sm_B sb_len (sm_cons sm_var sm_nil)) sg_nm)
      (sm_seq (sm_asg (sm_c cv_int) sg_nm)
      (sm_seq (sm_for (sm_iT sm_var) sg_nm (sm_seq (sm_ifS (sm_test (sm_op smr_eq sm_var sm_var)) (sm_ret (sm_c cv_bl)) sm_next)
      (sm_ifS (sm_tB (sm_op smr_ixT sm_var (sm_c cv_int))) (sm_while (sm_and (sm_test (sm_op (smr_I0 fun _ _ => cv_bl) sm_var sm_var)) (sm_tB (sm_call cvs_nil (sm_cons sm_var (sm_cons (sm_op smr_ixT sm_var sm_var) sm_nil))))) (sm_aug (sm_c cv_int) smr_ip)) (sm_ifS (sm_test (sm_op smr_eqD (sm_op smr_ixT sm_var sm_var) sm_var)) (sm_aug (sm_c cv_int) smr_ip) sm_next))))
      (sm_ret (sm_op smr_eq sm_var sm_var)))))⟩
/-! #### inside -/
set_option maxHeartbeats 0 in
theorem ok_p_inside (T : Tx K mg w) : FnP P w K mg base tb 6 T.f_p_inside T.fd_p_inside P_p_inside (F_p_inside T.ca) := by
  have G_p_check_product : FnP P w K mg base tb 5 T.f_p_check_product T.fd_p_check_product P_p_check_product (F_p_check_product T.ca) := ok_p_check_product T
  have G_p_lies_inside : FnP P w K mg base tb 2 T.f_p_lies_inside T.fd_p_lies_inside P_p_lies_inside (F_p_lies_inside T.ca) := ok_p_lies_inside T
  exact FnP.of T.F_p_inside sc_p_inside fun cdv A outer s H E hr => ⟨_, (pss_cons (ps_expr (pe_call G_p_check_product (hr.mono (by decide)) (by rfl) T.g_p_check_product T.F_p_check_product.kp T.b_p_check_product .nil (passes_call (takes_of rfl rfl rfl rfl) (fun _ _ _ _ h => h)) (pa_cons (L2.pv 0) pa_nil)))
      (pss_cons (ps_expr (pe_call G_p_check_product (hr.mono (by decide)) (by rfl) T.g_p_check_product T.F_p_check_product.kp T.b_p_check_product .nil (passes_call (takes_of rfl rfl rfl rfl) (fun _ _ _ _ h => h)) (pa_cons (L2.pv 1) pa_nil)))
      (pss_one (ps_ret (pe_call G_p_lies_inside (hr.mono (by decide)) (by rfl) T.g_p_lies_inside T.F_p_lies_inside.kp T.b_p_lies_inside .nil (passes_call (takes_of rfl rfl rfl rfl) (fun _ _ _ _ h => h)) (pa_cons (L2.pv 0) (pa_cons (L2.pv 1) pa_nil))))))),
    (sm_seq (sm_drop (sm_call cvs_nil (sm_cons sm_var sm_nil)))
      (sm_seq (sm_drop (sm_call cvs_nil (sm_cons sm_var sm_nil)))
      (sm_ret (sm_call cvs_nil (sm_cons sm_var (sm_cons sm_var sm_nil))))))⟩
/-! #### made_plain -/
set_option maxHeartbeats 0 in
theorem ok_p_made_plain (T : Tx K mg w) : FnP P w K mg base tb 2 T.f_p_made_plain T.fd_p_made_plain P_p_made_plain (F_p_made_plain T.ca) := by
  have G_p_takes_in : FnP P w K mg base tb 1 T.f_p_takes_in T.fd_p_takes_in P_p_takes_in (F_p_takes_in T.ca) := ok_p_takes_in T
  exact FnP.of T.F_p_made_plain sc_p_made_plain fun cdv A outer s H E hr => ⟨_, (pss_cons (ps_set (i := 1) sc_p_made_plain.nd rfl (.inl rfl) (pe_lst pa_nil))
      (pss_cons (ps_for (passes_of rfl) rfl (pi_tup (L2.pv 0)) (pg_name (i := 2) sc_p_made_plain.nd rfl (.inl rfl))
        (pss_cons (ps_while (passes_of rfl) (PW.pt (pw_and (pt_truth (L2.pv 1) (by intro _; rfl)) (pw_and1 (pt_val (pe_call G_p_takes_in (hr.mono (by decide)) (by rfl) T.g_p_takes_in T.F_p_takes_in.kp T.b_p_takes_in .nil (passes_call (takes_of rfl rfl rfl rfl) (fun _ _ _ _ h => h)) (pa_cons (L2.pv 2) (pa_cons (pe_ix ix_list (L2.pv 1) (pe_un un_neg pe_int) (fun _ _ => rfl)) pa_nil)))))))
          (pss_one (ps_expr (pe_bm0 PySem.F.plainAttrs_list PySem.F.slot_list_pop PySem.F.type_list_pop mt_pop (L2.pv 1)))))
        (pss_one (ps_if (PW.pt (pw_or (pt_not (pt_truth (L2.pv 1) (by intro _; rfl))) (pw_or1 (pt_not (pt_val (pe_call G_p_takes_in (hr.mono (by decide)) (by rfl) T.g_p_takes_in T.F_p_takes_in.kp T.b_p_takes_in .nil (passes_call (takes_of rfl rfl rfl rfl) (fun _ _ _ _ h => h)) (pa_cons (pe_ix ix_list (L2.pv 1) (pe_un un_neg pe_int) (fun _ _ => rfl)) (pa_cons (L2.pv 2) pa_nil))))))))
          (pss_one (ps_expr (pe_bm PySem.F.plainAttrs_list PySem.F.slot_list_append PySem.F.type_list_append mt_append (L2.pv 1) (pa_cons (L2.pv 2) pa_nil))))
          pss_nil))))
      (pss_one (ps_ret (pe_callTy call_tuple_of (by rfl) T.m_tuple (by decide +kernel) (pa_cons (L2.pv 1) pa_nil)))))),
    (sm_seq (sm_asg (sm_lst sm_nil) sg_nm)
      (sm_seq (sm_for (sm_iT sm_var) sg_nm (sm_seq (sm_while (sm_and (sm_truth sm_var) (sm_tB (sm_call cvs_nil (sm_cons sm_var (sm_cons (sm_op smr_ixL sm_var (sm_un (smu_U fun _ => cv_int) (sm_c cv_int))) sm_nil))))) (sm_drop (sm_BM0 mm_pop sm_var)))
      (sm_ifS (sm_or (sm_not (sm_truth sm_var)) (sm_not (sm_tB (sm_call cvs_nil (sm_cons (sm_op smr_ixL sm_var (sm_un (smu_U fun _ => cv_int) (sm_c cv_int))) (sm_cons sm_var sm_nil)))))) (sm_drop (sm_BM mm_append sm_var (sm_cons sm_var sm_nil))) sm_next)))
      (sm_ret (sm_B sb_tup (sm_cons sm_var sm_nil)))))⟩
/-! #### plain -/
set_option maxHeartbeats 0 in
theorem ok_p_plain (T : Tx K mg w) : FnP P w K mg base tb 6 T.f_p_plain T.fd_p_plain P_p_plain (F_p_plain T.ca) := by
  have G_p_check_product : FnP P w K mg base tb 5 T.f_p_check_product T.fd_p_check_product P_p_check_product (F_p_check_product T.ca) := ok_p_check_product T
  have G_p_made_plain : FnP P w K mg base tb 2 T.f_p_made_plain T.fd_p_made_plain P_p_made_plain (F_p_made_plain T.ca) := ok_p_made_plain T
  exact FnP.of T.F_p_plain sc_p_plain fun cdv A outer s H E hr => ⟨_, (pss_cons (ps_expr (pe_call G_p_check_product (hr.mono (by decide)) (by rfl) T.g_p_check_product T.F_p_check_product.kp T.b_p_check_product .nil (passes_call (takes_of rfl rfl rfl rfl) (fun _ _ _ _ h => h)) (pa_cons (L2.pv 0) pa_nil)))
      (pss_one (ps_ret (pe_call G_p_made_plain (hr.mono (by decide)) (by rfl) T.g_p_made_plain T.F_p_made_plain.kp T.b_p_made_plain .nil (passes_call (takes_of rfl rfl rfl rfl) (fun _ _ _ _ h => h)) (pa_cons (L2.pv 0) pa_nil))))),
    (sm_seq (sm_drop (sm_call cvs_nil (sm_cons sm_var sm_nil)))
      (sm_ret (sm_call cvs_nil (sm_cons sm_var sm_nil))))⟩
/-! #### with_letter -/
set_option maxHeartbeats 0 in
theorem ok_p_with_letter (T : Tx K mg w) : FnP P w K mg base tb 3 T.f_p_with_letter T.fd_p_with_letter P_p_with_letter (F_p_with_letter T.ca) := by
  have G_p_made_plain : FnP P w K mg base tb 2 T.f_p_made_plain T.fd_p_made_plain P_p_made_plain (F_p_made_plain T.ca) := ok_p_made_plain T
  exact FnP.of T.F_p_with_letter sc_p_with_letter fun cdv A outer s H E hr => ⟨_, (pss_one (ps_ret (pe_call G_p_made_plain (hr.mono (by decide)) (by rfl) T.g_p_made_plain T.F_p_made_plain.kp T.b_p_made_plain .nil (passes_call (takes_of rfl rfl rfl rfl) (fun _ _ _ _ h => h)) (pa_cons (pe_op op_catA (L2.pv 0) (pe_tup (pa_cons (pe_tup (pa_cons (L2.pv 1) (pa_cons pe_bl pa_nil))) pa_nil))) pa_nil)))),
    (sm_ret (sm_call cvs_nil (sm_cons (sm_op smr_addT sm_var (sm_tup (sm_cons (sm_tup (sm_cons sm_var (sm_cons (sm_c cv_bl) sm_nil))) sm_nil))) sm_nil)))⟩
/-! #### sent -/
set_option maxHeartbeats 0 in
theorem ok_p_sent (T : Tx K mg w) : FnP P w K mg base tb 6 T.f_p_sent T.fd_p_sent P_p_sent (F_p_sent T.ca) := by
  have G_p_check_product : FnP P w K mg base tb 5 T.f_p_check_product T.fd_p_check_product P_p_check_product (F_p_check_product T.ca) := ok_p_check_product T
  have G_p_check_letter : FnP P w K mg base tb 4 T.f_p_check_letter T.fd_p_check_letter P_p_check_letter (F_p_check_letter T.ca) := ok_p_check_letter T
  have G_p_with_letter : FnP P w K mg base tb 3 T.f_p_with_letter T.fd_p_with_letter P_p_with_letter (F_p_with_letter T.ca) := ok_p_with_letter T
  exact FnP.of T.F_p_sent sc_p_sent fun cdv A outer s H E hr => ⟨_, (pss_cons (ps_expr (pe_call G_p_check_product (hr.mono (by decide)) (by rfl) T.g_p_check_product T.F_p_check_product.kp T.b_p_check_product .nil (passes_call (takes_of rfl rfl rfl rfl) (fun _ _ _ _ h => h)) (pa_cons (L2.pv 0) pa_nil)))
      (pss_cons (ps_expr (pe_call G_p_check_letter (hr.mono (by decide)) (by rfl) T.g_p_check_letter T.F_p_check_letter.kp T.b_p_check_letter .nil (passes_call (takes_of rfl rfl rfl rfl) (fun _ _ _ _ h => h)) (pa_cons (L2.pv 1) pa_nil)))
      (pss_one (ps_ret (pe_call G_p_with_letter (hr.mono (by decide)) (by rfl) T.g_p_with_letter T.F_p_with_letter.kp T.b_p_with_letter .nil (passes_call (takes_of rfl rfl rfl rfl) (fun _ _ _ _ h => h)) (pa_cons (L2.pv 0) (pa_cons (L2.pv 1) pa_nil))))))),
    (sm_seq (sm_drop (sm_call cvs_nil (sm_cons sm_var sm_nil)))
      (sm_seq (sm_drop (sm_call cvs_nil (sm_cons sm_var sm_nil)))
      (sm_ret (sm_call cvs_nil (sm_cons sm_var (sm_cons sm_var sm_nil))))))⟩
/-! #### left_behind -/
set_option maxHeartbeats 0 in
theorem ok_p_left_behind (T : Tx K mg w) : FnP P w K mg base tb 3 T.f_p_left_behind T.fd_p_left_behind P_p_left_behind (F_p_left_behind T.ca) := by
  have G_p_made_plain : FnP P w K mg base tb 2 T.f_p_made_plain T.fd_p_made_plain P_p_made_plain (F_p_made_plain T.ca) := ok_p_made_plain T
  exact FnP.of T.F_p_left_behind sc_p_left_behind fun cdv A outer s H E hr => ⟨_, (pss_cons (ps_for (passes_of rfl) rfl (LB.pi_enumT (by rfl) T.m_enumerate (pa_cons (L2.pv 0) pa_nil)) (pg_tup (by rfl) (pgs_cons (pg_name (i := 2) sc_p_left_behind.nd rfl (.inl rfl)) (pgs_cons (pg_tup (by rfl) (pgs_cons (pg_name (i := 3) sc_p_left_behind.nd rfl (.inl rfl)) (pgs_cons (pg_name (i := 4) sc_p_left_behind.nd rfl (.inl rfl)) pgs_nil))) pgs_nil)))
        (pss_one (ps_if (pt_cmpR op_in_sign (L2.pv 1) (L2.pv 3) rfl)
          (pss_one (ps_ret (pe_call G_p_made_plain (hr.mono (by decide)) (by rfl) T.g_p_made_plain T.F_p_made_plain.kp T.b_p_made_plain .nil (passes_call (takes_of rfl rfl rfl rfl) (fun _ _ _ _ h => h)) (pa_cons (pe_ifExp (pt_val (L2.pv 4)) (pe_slice sl_tupA (L2.pv 0) (po_some (L2.pv 2)) po_none) (pe_slice sl_tupA (L2.pv 0) (po_some (pe_op op_add (L2.pv 2) pe_int)) po_none)) pa_nil))))
          pss_nil)))
      (pss_one (ps_ret pe_non))),
    (sm_seq (sm_for (sm_iET (sm_cons sm_var sm_nil)) (sg_tup (sg_cons sg_nm (sg_cons (sg_tup (sg_cons sg_nm (sg_cons sg_nm sg_nil)) (cnt_cons (cnt_cons cnt_nil))) sg_nil)) (cnt_cons (cnt_cons cnt_nil))) (sm_ifS (sm_test (sm_op smr_inS sm_var sm_var)) (sm_ret (sm_call cvs_nil (sm_cons (sm_if (sm_tB sm_var) (sm_sl sms_T sm_var (sm_part sm_var) sm_noPart) (sm_sl sms_T sm_var (sm_part (sm_op (smr_I0 fun _ _ => cv_int) sm_var (sm_c cv_int))) sm_noPart)) sm_nil))) sm_next))
      (sm_ret (sm_c cv_non)))⟩
/-! #### taken -/
set_option maxHeartbeats 0 in
theorem ok_p_taken (T : Tx K mg w) : FnP P w K mg base tb 6 T.f_p_taken T.fd_p_taken P_p_taken (F_p_taken T.ca) := by
  have G_p_check_product : FnP P w K mg base tb 5 T.f_p_check_product T.fd_p_check_product P_p_check_product (F_p_check_product T.ca) := ok_p_check_product T
  have G_p_check_letter : FnP P w K mg base tb 4 T.f_p_check_letter T.fd_p_check_letter P_p_check_letter (F_p_check_letter T.ca) := ok_p_check_letter T
  have G_p_left_behind : FnP P w K mg base tb 3 T.f_p_left_behind T.fd_p_left_behind P_p_left_behind (F_p_left_behind T.ca) := ok_p_left_behind T
  exact FnP.of T.F_p_taken sc_p_taken fun cdv A outer s H E hr => ⟨_, (pss_cons (ps_expr (pe_call G_p_check_product (hr.mono (by decide)) (by rfl) T.g_p_check_product T.F_p_check_product.kp T.b_p_check_product .nil (passes_call (takes_of rfl rfl rfl rfl) (fun _ _ _ _ h => h)) (pa_cons (L2.pv 0) pa_nil)))
      (pss_cons (ps_expr (pe_call G_p_check_letter (hr.mono (by decide)) (by rfl) T.g_p_check_letter T.F_p_check_letter.kp T.b_p_check_letter .nil (passes_call (takes_of rfl rfl rfl rfl) (fun _ _ _ _ h => h)) (pa_cons (L2.pv 1) pa_nil)))
      (pss_one (ps_ret (pe_call G_p_left_behind (hr.mono (by decide)) (by rfl) T.g_p_left_behind T.F_p_left_behind.kp T.b_p_left_behind .nil (passes_call (takes_of rfl rfl rfl rfl) (fun _ _ _ _ h => h)) (pa_cons (L2.pv 0) (pa_cons (L2.pv 1) pa_nil))))))),
    (sm_seq (sm_drop (sm_call cvs_nil (sm_cons sm_var sm_nil)))
      (sm_seq (sm_drop (sm_call cvs_nil (sm_cons sm_var sm_nil)))
      (sm_ret (sm_call cvs_nil (sm_cons sm_var (sm_cons sm_var sm_nil))))))⟩
/-! #### with_any -/
set_option maxHeartbeats 0 in
theorem ok_p_with_any (T : Tx K mg w) : FnP P w K mg base tb 3 T.f_p_with_any T.fd_p_with_any P_p_with_any (F_p_with_any T.ca) := by
  have G_p_made_plain : FnP P w K mg base tb 2 T.f_p_made_plain T.fd_p_made_plain P_p_made_plain (F_p_made_plain T.ca) := ok_p_made_plain T
  exact FnP.of T.F_p_with_any sc_p_with_any fun cdv A outer s H E hr => ⟨_, (pss_one (ps_ret (pe_ifExp (pt_truth (L2.pv 1) (by intro _; rfl)) (pe_call G_p_made_plain (hr.mono (by decide)) (by rfl) T.g_p_made_plain T.F_p_made_plain.kp T.b_p_made_plain .nil (passes_call (takes_of rfl rfl rfl rfl) (fun _ _ _ _ h => h)) (pa_cons (pe_op op_catA (L2.pv 0) (pe_tup (pa_cons (pe_tup (pa_cons (L2.pv 1) (pa_cons pe_bl pa_nil))) pa_nil))) pa_nil)) (pe_call G_p_made_plain (hr.mono (by decide)) (by rfl) T.g_p_made_plain T.F_p_made_plain.kp T.b_p_made_plain .nil (passes_call (takes_of rfl rfl rfl rfl) (fun _ _ _ _ h => h)) (pa_cons (L2.pv 0) pa_nil))))),
    (sm_ret (sm_if (sm_truth sm_var) (sm_call cvs_nil (sm_cons (sm_op smr_addT sm_var (sm_tup (sm_cons (sm_tup (sm_cons sm_var (sm_cons (sm_c cv_bl) sm_nil))) sm_nil))) sm_nil)) (sm_call cvs_nil (sm_cons sm_var sm_nil))))⟩
/-! #### swollen -/
set_option maxHeartbeats 0 in
theorem ok_p_swollen (T : Tx K mg w) : FnP P w K mg base tb 6 T.f_p_swollen T.fd_p_swollen P_p_swollen (F_p_swollen T.ca) := by
  have G_p_check_product : FnP P w K mg base tb 5 T.f_p_check_product T.fd_p_check_product P_p_check_product (F_p_check_product T.ca) := ok_p_check_product T
  have G_p_with_any : FnP P w K mg base tb 3 T.f_p_with_any T.fd_p_with_any P_p_with_any (F_p_with_any T.ca) := ok_p_with_any T
  have G_p_is_rising : FnP P w K mg base tb 2 T.f_p_is_rising T.fd_p_is_rising P_p_is_rising (F_p_is_rising T.ca) := ok_p_is_rising T
  have G_BadWord_init : FnOk P w K mg base CX0 2 T.f_BadWord_init T.fd_BadWord_init P_BadWord_init (spErr K (Str.ofString "badword")) := ok_BadWord_init T
  exact FnP.of T.F_p_swollen sc_p_swollen fun cdv A outer s H E hr => ⟨_, (pss_cons (ps_expr (pe_call G_p_check_product (hr.mono (by decide)) (by rfl) T.g_p_check_product T.F_p_check_product.kp T.b_p_check_product .nil (passes_call (takes_of rfl rfl rfl rfl) (fun _ _ _ _ h => h)) (pa_cons (L2.pv 0) pa_nil)))
      (pss_cons (ps_if (pt_not (pt_val (pe_call G_p_is_rising (hr.mono (by decide)) (by rfl) T.g_p_is_rising T.F_p_is_rising.kp T.b_p_is_rising .nil (passes_call (takes_of rfl rfl rfl rfl) (fun _ _ _ _ h => h)) (pa_cons (L2.pv 1) pa_nil))))
        (pss_one (ps_raise rfl (takes_of rfl rfl rfl rfl) (LB.pmk_oex0 T.ox_BadWord T.iC_BadWord T.tI_BadWord G_BadWord_init (hr.mono (by decide)) T.b_BadWord_init_1 T.dv_BadWord_init_1 pass0 (by rfl) T.gC_BadWord)))
        pss_nil)
      (pss_one (ps_ret (pe_call G_p_with_any (hr.mono (by decide)) (by rfl) T.g_p_with_any T.F_p_with_any.kp T.b_p_with_any .nil (passes_call (takes_of rfl rfl rfl rfl) (fun _ _ _ _ h => h)) (pa_cons (L2.pv 0) (pa_cons (L2.pv 1) pa_nil))))))),
    (sm_seq (sm_drop (sm_call cvs_nil (sm_cons sm_var sm_nil)))
      (sm_seq (sm_ifS (sm_not (sm_tB (sm_call cvs_nil (sm_cons sm_var sm_nil)))) (sm_raise T.ox_BadWord T.no_BadWord_word T.no_BadWord_at (cvs_cons cv_int cvs_nil) sm_nil) sm_next)
      (sm_ret (sm_call cvs_nil (sm_cons sm_var (sm_cons sm_var sm_nil))))))⟩
/-! #### product_of -/
set_option maxHeartbeats 0 in
theorem ok_p_product_of (T : Tx K mg w) : FnP P w K mg base tb 4 T.f_p_product_of T.fd_p_product_of P_p_product_of (F_p_product_of T.ca) := by
  have G_p_is_word : FnP P w K mg base tb 1 T.f_p_is_word T.fd_p_is_word P_p_is_word (F_p_is_word T.ca) := ok_p_is_word T
  have G_BadWord_init : FnOk P w K mg base CX0 2 T.f_BadWord_init T.fd_BadWord_init P_BadWord_init (spErr K (Str.ofString "badword")) := ok_BadWord_init T
  exact FnP.of T.F_p_product_of sc_p_product_of fun cdv A outer s H E hr => ⟨_, (pss_cons (ps_if (pt_not (pt_val (pe_call G_p_is_word (hr.mono (by decide)) (by rfl) T.g_p_is_word T.F_p_is_word.kp T.b_p_is_word .nil (passes_call (takes_of rfl rfl rfl rfl) (fun _ _ _ _ h => h)) (pa_cons (L2.pv 0) pa_nil))))
        (pss_one (ps_raise rfl (takes_of rfl rfl rfl rfl) (LB.pmk_oex0 T.ox_BadWord T.iC_BadWord T.tI_BadWord G_BadWord_init (hr.mono (by decide)) T.b_BadWord_init_1 T.dv_BadWord_init_1 pass0 (by rfl) T.gC_BadWord)))
        pss_nil)
      (pss_one (ps_ret (pe_callTy call_tuple_of (by rfl) T.m_tuple (by decide +kernel) (pa_cons (pe_lc (own := [("letter", 1)]) (g := (gName 1)) (tt := tYes) (by rfl) sc_p_product_of.nd (pi_str (L2.pv 0)) (blkOk_by (own := [("letter", 1)]) (N := N_p_product_of) (sc := defScope s_p_product_of) (by decide +kernel)) (fun _ _ _ _ _ => (pg_name (i := 1) sc_p_product_of.nd rfl (.inl rfl))) (fun _ _ _ _ _ => pts_nil) (fun _ _ _ _ _ => (pe_tup (pa_cons (L2.pv 1) (pa_cons pe_bl pa_nil))))) pa_nil))))),
    (sm_seq (sm_ifS (sm_not (sm_tB (sm_call cvs_nil (sm_cons sm_var sm_nil)))) (sm_raise T.ox_BadWord T.no_BadWord_word T.no_BadWord_at (cvs_cons cv_int cvs_nil) sm_nil) sm_next)
      (sm_ret (sm_gc (sm_B sb_tup (sm_cons (sm_lc (sm_iS sm_var) sg_nm sm_yes (sm_tup (sm_cons sm_var (sm_cons (sm_c cv_bl) sm_nil))) (by decide)) sm_nil)))))⟩
/-! #### product_text -/
set_option maxHeartbeats 0 in
theorem ok_p_product_text (T : Tx K mg w) : FnP P w K mg base tb 6 T.f_p_product_text T.fd_p_product_text P_p_product_text (F_p_product_text T.ca) := by
  have G_p_check_product : FnP P w K mg base tb 5 T.f_p_check_product T.fd_p_check_product P_p_check_product (F_p_check_product T.ca) := ok_p_check_product T
  exact FnP.of T.F_p_product_text sc_p_product_text fun cdv A outer s H E hr => ⟨_, (pss_cons (ps_expr (pe_call G_p_check_product (hr.mono (by decide)) (by rfl) T.g_p_check_product T.F_p_check_product.kp T.b_p_check_product .nil (passes_call (takes_of rfl rfl rfl rfl) (fun _ _ _ _ h => h)) (pa_cons (L2.pv 0) pa_nil)))
      (pss_cons (ps_if (pt_cmpR op_eq (pe_callB call_len_seq (by rfl) T.m_len PySem.boot_len (pa_cons (L2.pv 0) pa_nil)) pe_int (nomark _))
        (pss_one (ps_ret pe_str))
        pss_nil)
      (pss_one (ps_ret (pe_join pe_str (pe_lc (own := [("letters", 1), ("many", 2)]) (g := (gTup K 2 (gCons (gName 1) (gCons (gName 2) gNil)))) (tt := tYes) (by rfl) sc_p_product_text.nd (pi_tup (L2.pv 0)) (blkOk_by (own := [("letters", 1), ("many", 2)]) (N := N_p_product_text) (sc := defScope s_p_product_text) (by decide +kernel)) (fun _ _ _ _ _ => (pg_tup (by rfl) (pgs_cons (pg_name (i := 1) sc_p_product_text.nd rfl (.inl rfl)) (pgs_cons (pg_name (i := 2) sc_p_product_text.nd rfl (.inl rfl)) pgs_nil)))) (fun _ _ _ _ _ => pts_nil) (fun _ _ _ _ _ => (pe_ifExp (pt_val (L2.pv 2)) (pe_op op_add_str (L2.pv 1) pe_str) (L2.pv 1))))))))),
    (sm_seq (sm_drop (sm_call cvs_nil (sm_cons sm_var sm_nil)))
      (sm_seq (sm_ifS (sm_test (sm_op smr_eq (sm_B sb_len (sm_cons sm_var sm_nil)) (sm_c cv_int))) (sm_ret (sm_c (cv_str (by decide +kernel)))) sm_next)
      (sm_ret (sm_gc (sm_M1 mm_join (sm_c (cv_str (by decide +kernel))) (sm_lc (sm_iT sm_var) (sg_tup (sg_cons sg_nm (sg_cons sg_nm sg_nil)) (cnt_cons (cnt_cons cnt_nil))) sm_yes (sm_if (sm_tB sm_var) (sm_op smr_addS sm_var (sm_c (cv_str (by decide +kernel)))) sm_var) (by decide)))))))⟩
/-! #### law: pull -/
set_option maxHeartbeats 0 in
theorem ok_pull (T : Tx K mg w) : FnP P w K mg base tb 1 T.f_pull T.fd_pull P_pull (F_pull T.ca) := by
  exact FnP.of T.F_pull sc_pull fun cdv A outer s H E hr => ⟨_, (pss_cons (ps_augS (L2.pv 0) pe_int LB.get_list pe_int ip_add set_list)
      (pss_cons (ps_if (pt_cmpR op_gt (pe_ix ix_list (L2.pv 0) pe_int (fun _ _ => rfl)) pe_int (nomark _))
        (pss_cons (ps_set (i := 2) sc_pull.nd rfl (.inl rfl) (pe_ix ix_list (L2.pv 0) pe_int (fun _ _ => rfl)))
        (pss_cons (ps_asg (pe_op op_fdiv (L2.pv 2) (L2.pv 1)) (pg_sub (L2.pv 0) pe_int set_list))
        (pss_one (ps_ret (pe_op op_mod (L2.pv 2) (L2.pv 1))))))
        pss_nil)
      (pss_cons (ps_set (i := 3) sc_pull.nd rfl (.inl rfl) (pe_ix ix_list (L2.pv 0) pe_int (fun _ _ => rfl)))
      (pss_cons (ps_if (pt_cmpR op_lt (pe_ix ix_list (L2.pv 0) pe_int (fun _ _ => rfl)) (pe_callB call_len_seq (by rfl) T.m_len PySem.boot_len (pa_cons (pe_ix ix_list (L2.pv 0) pe_int (fun _ _ => rfl)) pa_nil)) (nomark _))
        (pss_cons (ps_set (i := 3) sc_pull.nd rfl (.inl rfl) (pe_ix ix_list (pe_ix ix_list (L2.pv 0) pe_int (fun _ _ => rfl)) (pe_ix ix_list (L2.pv 0) pe_int (fun _ _ => rfl)) (fun _ _ => rfl)))
        (pss_one (ps_augS (L2.pv 0) pe_int LB.get_list pe_int ip_add set_list)))
        pss_nil)
      (pss_cons (ps_if (pt_cmpR op_ge (L2.pv 3) (pe_op op_pow pe_int pe_int) (nomark _))
        (pss_cons (ps_asg (pe_op op_fdiv (L2.pv 3) (L2.pv 1)) (pg_sub (L2.pv 0) pe_int set_list))
        (pss_one (ps_ret (pe_op op_mod (L2.pv 3) (L2.pv 1)))))
        pss_nil)
      (pss_cons (ps_set (i := 4) sc_pull.nd rfl (.inl rfl) (pe_op op_mod (pe_op op_add (pe_op op_add (pe_op op_add (pe_op op_mul (L2.pv 3) pe_int) (pe_op op_mul (pe_ix ix_list (L2.pv 0) pe_int (fun _ _ => rfl)) pe_int)) (pe_op op_mul (pe_ix ix_list (L2.pv 0) pe_int (fun _ _ => rfl)) pe_int)) pe_int) pe_int))
      (pss_cons (ps_set (i := 5) sc_pull.nd rfl (.inl rfl) (pe_op op_mod (pe_op op_add (pe_op op_add (pe_op op_mul (L2.pv 4) (pe_op op_add (pe_op op_mod (L2.pv 4) pe_int) pe_int)) (pe_op op_mul (pe_ix ix_list (L2.pv 0) pe_int (fun _ _ => rfl)) pe_int)) (pe_op op_mod (pe_ix ix_list (L2.pv 0) pe_int (fun _ _ => rfl)) pe_int)) pe_int))
      (pss_cons (ps_asg (pe_op op_mod (pe_op op_add (pe_op op_mul (pe_ix ix_list (L2.pv 0) pe_int (fun _ _ => rfl)) pe_int) (L2.pv 5)) pe_int) (pg_sub (L2.pv 0) pe_int set_list))
      (pss_one (ps_ret (pe_op op_mod (pe_op op_fdiv (L2.pv 5) pe_int) (L2.pv 1)))))))))))),
    (sm_seq (sm_augL sm_var (sm_c cv_int) (sm_c cv_int) smr_ip)
      (sm_seq (sm_ifS (sm_test (sm_op (smr_I0 fun _ _ => cv_bl) (sm_op smr_ixL sm_var (sm_c cv_int)) (sm_c cv_int))) (sm_seq (sm_asg (sm_op smr_ixL sm_var (sm_c cv_int)) sg_nm)
      (sm_seq (sm_asgL (sm_op (smr_I fun _ _ => cv_int) sm_var sm_var) sm_var (sm_c cv_int))
      (sm_ret (sm_op (smr_I fun _ _ => cv_int) sm_var sm_var)))) sm_next)
      (sm_seq (sm_asg (sm_op smr_ixL sm_var (sm_c cv_int)) sg_nm)
      (sm_seq (sm_ifS (sm_test (sm_op (smr_I0 fun _ _ => cv_bl) (sm_op smr_ixL sm_var (sm_c cv_int)) (sm_B sb_len (sm_cons (sm_op smr_ixL sm_var (sm_c cv_int)) sm_nil)))) (sm_seq (sm_asg (sm_op smr_ixL (sm_op smr_ixL sm_var (sm_c cv_int)) (sm_op smr_ixL sm_var (sm_c cv_int))) sg_nm)
      (sm_augL sm_var (sm_c cv_int) (sm_c cv_int) smr_ip)) sm_next)
      (sm_seq (sm_ifS (sm_test (sm_op (smr_I0 fun _ _ => cv_bl) sm_var (sm_op (smr_I fun _ _ => cv_int) (sm_c cv_int) (sm_c cv_int)))) (sm_seq (sm_asgL (sm_op (smr_I fun _ _ => cv_int) sm_var sm_var) sm_var (sm_c cv_int))
      (sm_ret (sm_op (smr_I fun _ _ => cv_int) sm_var sm_var))) sm_next)
      (sm_seq (sm_asg (sm_op (smr_I fun _ _ => cv_int) (sm_op (smr_I0 fun _ _ => cv_int) (sm_op (smr_I0 fun _ _ => cv_int) (sm_op (smr_I0 fun _ _ => cv_int) (sm_op (smr_I fun _ _ => cv_int) sm_var (sm_c cv_int)) (sm_op (smr_I fun _ _ => cv_int) (sm_op smr_ixL sm_var (sm_c cv_int)) (sm_c cv_int))) (sm_op (smr_I fun _ _ => cv_int) (sm_op smr_ixL sm_var (sm_c cv_int)) (sm_c cv_int))) (sm_c cv_int)) (sm_c cv_int)) sg_nm)
      (sm_seq (sm_asg (sm_op (smr_I fun _ _ => cv_int) (sm_op (smr_I0 fun _ _ => cv_int) (sm_op (smr_I0 fun _ _ => cv_int) (sm_op (smr_I fun _ _ => cv_int) sm_var (sm_op (smr_I0 fun _ _ => cv_int) (sm_op (smr_I fun _ _ => cv_int) sm_var (sm_c cv_int)) (sm_c cv_int))) (sm_op (smr_I fun _ _ => cv_int) (sm_op smr_ixL sm_var (sm_c cv_int)) (sm_c cv_int))) (sm_op (smr_I fun _ _ => cv_int) (sm_op smr_ixL sm_var (sm_c cv_int)) (sm_c cv_int))) (sm_c cv_int)) sg_nm)
      (sm_seq (sm_asgL (sm_op (smr_I fun _ _ => cv_int) (sm_op (smr_I0 fun _ _ => cv_int) (sm_op (smr_I fun _ _ => cv_int) (sm_op smr_ixL sm_var (sm_c cv_int)) (sm_c cv_int)) sm_var) (sm_c cv_int)) sm_var (sm_c cv_int))
      (sm_ret (sm_op (smr_I fun _ _ => cv_int) (sm_op (smr_I fun _ _ => cv_int) sm_var (sm_c cv_int)) sm_var))))))))))⟩
/-! #### law: of -/
set_option maxHeartbeats 0 in
theorem ok_of (T : Tx K mg w) : FnP P w K mg base tb 2 T.f_of T.fd_of P_of (F_of T.ca) := by
  have G_pull : FnP P w K mg base tb 1 T.f_pull T.fd_pull P_pull (F_pull T.ca) := ok_pull T
  exact FnP.of T.F_of sc_of fun cdv A outer s H E hr => ⟨_, (pss_one (ps_ret (pe_ix ix_seq (L2.pv 1) (pe_call G_pull (hr.mono (by decide)) (by rfl) T.g_pull T.F_pull.kp T.b_pull .nil (passes_call (takes_of rfl rfl rfl rfl) (fun _ _ _ _ h => h)) (pa_cons (L2.pv 0) (pa_cons (pe_callB (CallR.or call_len_seq call_len_str) (by rfl) T.m_len PySem.boot_len (pa_cons (L2.pv 1) pa_nil)) pa_nil))) (fun _ _ => rfl)))),
    (sm_ret (sm_op smr_ixQ sm_var (sm_call cvs_nil (sm_cons sm_var (sm_cons (sm_B sb_lenQ (sm_cons sm_var sm_nil)) sm_nil)))))⟩
/-! #### law: letters -/
set_option maxHeartbeats 0 in
theorem ok_letters (T : Tx K mg w) : FnP P w K mg base tb 3 T.f_letters T.fd_letters P_letters (F_letters T.ca) := by
  have G_pull : FnP P w K mg base tb 1 T.f_pull T.fd_pull P_pull (F_pull T.ca) := ok_pull T
  have G_of : FnP P w K mg base tb 2 T.f_of T.fd_of P_of (F_of T.ca) := ok_of T
  exact FnP.of T.F_letters sc_letters fun cdv A outer s H E hr => ⟨_, (pss_cons (ps_set (i := 1) sc_letters.nd rfl (.inr rfl) pe_str)
      (pss_cons (ps_set (i := 2) sc_letters.nd rfl (.inr rfl) (pe_call G_pull (hr.mono (by decide)) (by rfl) T.g_pull T.F_pull.kp T.b_pull .nil (passes_call (takes_of rfl rfl rfl rfl) (fun _ _ _ _ h => h)) (pa_cons (L2.pv 0) (pa_cons pe_int pa_nil))))
      (pss_cons (ps_set (i := 3) sc_letters.nd rfl (.inr rfl) (pe_call G_of (hr.mono (by decide)) (by rfl) T.g_of T.F_of.kp T.b_of .nil (passes_call (takes_of rfl rfl rfl rfl) (fun _ _ _ _ h => h)) (pa_cons (L2.pv 0) (pa_cons (pe_lst (pa_cons pe_int (pa_cons pe_int (pa_cons pe_int (pa_cons pe_int (pa_cons pe_int (pa_cons pe_int pa_nil))))))) pa_nil))))
      (pss_one (ps_ret (pe_lc (own := [("_law_k", 4)]) (g := (gName 4)) (tt := tYes) (by rfl) sc_letters.nd (pi_range1 (by rfl) T.m_range (pa_cons pe_int pa_nil)) (blkOk_by (own := [("_law_k", 4)]) (N := N_letters) (sc := defScope s_letters) (by decide +kernel)) (fun _ _ _ _ _ => (pg_name (i := 4) sc_letters.nd rfl (.inl rfl))) (fun _ _ _ _ _ => pts_nil) (fun _ _ _ _ _ => (pe_ix ix_str (L2.pv 1) (pe_op op_mod (pe_op op_add (L2.pv 2) (pe_op op_mul (L2.pv 3) (L2.pv 4))) pe_int) (fun _ _ => rfl))))))))),
    (sm_seq (sm_asg (sm_c (cv_str (by decide +kernel))) sg_nm)
      (sm_seq (sm_asg (sm_call cvs_nil (sm_cons sm_var (sm_cons (sm_c cv_int) sm_nil))) sg_nm)
      (sm_seq (sm_asg (sm_call cvs_nil (sm_cons sm_var (sm_cons (sm_lst (sm_cons (sm_c cv_int) (sm_cons (sm_c cv_int) (sm_cons (sm_c cv_int) (sm_cons (sm_c cv_int) (sm_cons (sm_c cv_int) (sm_cons (sm_c cv_int) sm_nil))))))) sm_nil))) sg_nm)
      (sm_ret (sm_lc (sm_iR1 (sm_cons (sm_c cv_int) sm_nil)) sg_nm sm_yes (sm_op smr_ixS sm_var (sm_op (smr_I fun _ _ => cv_int) (sm_op (smr_I0 fun _ _ => cv_int) sm_var (sm_op (smr_I fun _ _ => cv_int) sm_var sm_var)) (sm_c cv_int))) (by decide))))))⟩
/-! #### law: product -/
set_option maxHeartbeats 0 in
theorem ok_product (T : Tx K mg w) : FnP P w K mg base tb 3 T.f_product T.fd_product P_product (F_product T.ca) := by
  have G_pull : FnP P w K mg base tb 1 T.f_pull T.fd_pull P_pull (F_pull T.ca) := ok_pull T
  have G_of : FnP P w K mg base tb 2 T.f_of T.fd_of P_of (F_of T.ca) := ok_of T
  exact FnP.of T.F_product sc_product fun cdv A outer s H E hr => ⟨_, (pss_cons (ps_set (i := 3) sc_product.nd rfl (.inl rfl) (pe_lst pa_nil))
      (pss_cons (ps_for (passes_of rfl) rfl (pi_range1 (by rfl) T.m_range (pa_cons (pe_call G_pull (hr.mono (by decide)) (by rfl) T.g_pull T.F_pull.kp T.b_pull .nil (passes_call (takes_of rfl rfl rfl rfl) (fun _ _ _ _ h => h)) (pa_cons (L2.pv 0) (pa_cons (pe_op op_add (L2.pv 2) pe_int) pa_nil))) pa_nil)) (pg_name (i := 4) sc_product.nd rfl (.inl rfl))
        (pss_cons (ps_set (i := 5) sc_product.nd rfl (.inl rfl) (pe_join pe_str (pe_lc (own := [("_law_letter", 7)]) (g := (gName 7)) (by rfl) sc_product.nd (pi_list (pe_callB cr_sortedS (by rfl) T.m_sorted (by decide +kernel) (pa_cons (L2.pv 1) pa_nil))) (blkOk_by (own := [("_law_letter", 7)]) (N := N_product) (sc := defScope s_product) (by decide +kernel)) (fun _ _ _ _ _ => (pg_name (i := 7) sc_product.nd rfl (.inl rfl))) (fun _ _ _ _ _ => (pts_one (pt_cmpR op_eq (pe_call G_pull (hr.mono (by decide)) (by rfl) T.g_pull T.F_pull.kp T.b_pull .nil passL (pa_cons (L2.pv 0) (pa_cons pe_int pa_nil))) pe_int (nomark _)))) (fun _ _ _ _ _ => (L2.pv 7)))))
        (pss_cons (ps_set (i := 6) sc_product.nd rfl (.inl rfl) (pe_and (pe_cmpR op_ne (L2.pv 5) pe_str (nomark _)) (pe_one (pe_cmpR op_gt (pe_call G_pull (hr.mono (by decide)) (by rfl) T.g_pull T.F_pull.kp T.b_pull .nil (passes_call (takes_of rfl rfl rfl rfl) (fun _ _ _ _ h => h)) (pa_cons (L2.pv 0) (pa_cons pe_int pa_nil))) pe_int (nomark _)))))
        (pss_one (ps_expr (pe_bm PySem.F.plainAttrs_list PySem.F.slot_list_append PySem.F.type_list_append mt_append (L2.pv 3) (pa_cons (pe_ifExp (pt_val (L2.pv 6)) (pe_tup (pa_cons (L2.pv 5) (pa_cons pe_bl pa_nil))) (pe_tup (pa_cons (pe_call G_of (hr.mono (by decide)) (by rfl) T.g_of T.F_of.kp T.b_of .nil (passes_call (takes_of rfl rfl rfl rfl) (fun _ _ _ _ h => h)) (pa_cons (L2.pv 0) (pa_cons (L2.pv 1) pa_nil))) (pa_cons pe_bl pa_nil)))) pa_nil)))))))
      (pss_one (ps_ret (pe_callTy call_tuple_of (by rfl) T.m_tuple (by decide +kernel) (pa_cons (L2.pv 3) pa_nil)))))),
    (sm_seq (sm_asg (sm_lst sm_nil) sg_nm)
      (sm_seq (sm_for (sm_iR1 (sm_cons (sm_call cvs_nil (sm_cons sm_var (sm_cons (sm_op (smr_I0 fun _ _ => cv_int) sm_var (sm_c cv_int)) sm_nil))) sm_nil)) sg_nm (sm_seq (sm_asg (sm_gc (sm_M1 mm_join (sm_c (cv_str (by decide +kernel))) (sm_lc (sm_iL (sm_B sb_sortS (sm_cons sm_var sm_nil))) sg_nm (sm_test (sm_op smr_eq (sm_callN cvs_nil (sm_cons sm_var (sm_cons (sm_c cv_int) sm_nil))) (sm_c cv_int))) sm_var (by decide)))) sg_nm)
      (sm_seq (sm_asg (sm_andV (sm_op smr_ne sm_var (sm_c (cv_str (by decide +kernel)))) (sm_op (smr_I0 fun _ _ => cv_bl) (sm_call cvs_nil (sm_cons sm_var (sm_cons (sm_c cv_int) sm_nil))) (sm_c cv_int))) sg_nm)
      (sm_drop (sm_BM mm_append sm_var (sm_cons (sm_if (sm_tB sm_var) (sm_tup (sm_cons sm_var (sm_cons (sm_c cv_bl) sm_nil))) (sm_tup (sm_cons (sm_call cvs_nil (sm_cons sm_var (sm_cons sm_var sm_nil))) (sm_cons (sm_c cv_bl) sm_nil)))) sm_nil))))))
      (sm_ret (sm_B sb_tup (sm_cons sm_var sm_nil)))))⟩
/-! #### law: bent_product -/
set_option maxHeartbeats 0 in
theorem ok_bent_product (T : Tx K mg w) : FnP P w K mg base tb 3 T.f_bent_product T.fd_bent_product P_bent_product (F_bent_product T.ca) := by
  have G_pull : FnP P w K mg base tb 1 T.f_pull T.fd_pull P_pull (F_pull T.ca) := ok_pull T
  have G_of : FnP P w K mg base tb 2 T.f_of T.fd_of P_of (F_of T.ca) := ok_of T
  exact FnP.of T.F_bent_product sc_bent_product fun cdv A outer s H E hr => ⟨_, (pss_cons (ps_set (i := 2) sc_bent_product.nd rfl (.inl rfl) (pe_call G_pull (hr.mono (by decide)) (by rfl) T.g_pull T.F_pull.kp T.b_pull .nil (passes_call (takes_of rfl rfl rfl rfl) (fun _ _ _ _ h => h)) (pa_cons (L2.pv 0) (pa_cons (pe_op op_add (pe_callB call_len_seq (by rfl) T.m_len PySem.boot_len (pa_cons (L2.pv 1) pa_nil)) pe_int) pa_nil))))
      (pss_cons (ps_set (i := 3) sc_bent_product.nd rfl (.inl rfl) (pe_lst (pa_cons (pe_tup (pa_cons pe_str (pa_cons pe_bl pa_nil))) (pa_cons (pe_tup (pa_cons pe_str (pa_cons pe_bl pa_nil))) (pa_cons (pe_tup (pa_cons pe_str (pa_cons pe_bl pa_nil))) (pa_cons (pe_tup (pa_cons pe_str (pa_cons pe_bl pa_nil))) (pa_cons (pe_tup (pa_cons pe_str (pa_cons pe_bl pa_nil))) (pa_cons (pe_tup (pa_cons pe_str (pa_cons pe_bl pa_nil))) (pa_cons (pe_tup (pa_cons pe_str (pa_cons pe_bl pa_nil))) pa_nil)))))))))
      (pss_one (ps_ret (pe_op op_catA (pe_op op_catA (pe_slice sl_tupA (L2.pv 1) po_none (po_some (L2.pv 2))) (pe_tup (pa_cons (pe_call G_of (hr.mono (by decide)) (by rfl) T.g_of T.F_of.kp T.b_of .nil (passes_call (takes_of rfl rfl rfl rfl) (fun _ _ _ _ h => h)) (pa_cons (L2.pv 0) (pa_cons (L2.pv 3) pa_nil))) pa_nil))) (pe_slice sl_tupA (L2.pv 1) (po_some (L2.pv 2)) po_none)))))),
    (sm_seq (sm_asg (sm_call cvs_nil (sm_cons sm_var (sm_cons (sm_op (smr_I0 fun _ _ => cv_int) (sm_B sb_len (sm_cons sm_var sm_nil)) (sm_c cv_int)) sm_nil))) sg_nm)
      (sm_seq (sm_asg (sm_lst (sm_cons (sm_tup (sm_cons (sm_c (cv_str (by decide +kernel))) (sm_cons (sm_c cv_bl) sm_nil))) (sm_cons (sm_tup (sm_cons (sm_c (cv_str (by decide +kernel))) (sm_cons (sm_c cv_bl) sm_nil))) (sm_cons (sm_tup (sm_cons (sm_c (cv_str (by decide +kernel))) (sm_cons (sm_c cv_bl) sm_nil))) (sm_cons (sm_tup (sm_cons (sm_c (cv_str (by decide +kernel))) (sm_cons (sm_c cv_bl) sm_nil))) (sm_cons (sm_tup (sm_cons (sm_c (cv_str (by decide +kernel))) (sm_cons (sm_c cv_bl) sm_nil))) (sm_cons (sm_tup (sm_cons (sm_c (cv_str (by decide +kernel))) (sm_cons (sm_c cv_bl) sm_nil))) (sm_cons (sm_tup (sm_cons (sm_c (cv_str (by decide +kernel))) (sm_cons (sm_c cv_bl) sm_nil))) sm_nil)))))))) sg_nm)
      (sm_ret (sm_op smr_addT (sm_op smr_addT (sm_sl sms_T sm_var sm_noPart (sm_part sm_var)) (sm_tup (sm_cons (sm_call cvs_nil (sm_cons sm_var (sm_cons sm_var sm_nil))) sm_nil))) (sm_sl sms_T sm_var (sm_part sm_var) sm_noPart)))))⟩
/-! #### law: atoms_good -/
set_option maxHeartbeats 0 in
theorem ok_atoms_good (T : Tx K mg w) : FnP P w K mg base tb 1 T.f_atoms_good T.fd_atoms_good P_atoms_good (F_atoms_good T.ca) := by
  exact FnP.of T.F_atoms_good sc_atoms_good fun cdv A outer s H E hr => ⟨_, (pss_cons (ps_for (passes_of rfl) rfl (pi_tup (L2.pv 0)) (pg_tup (by rfl) (pgs_cons (pg_name (i := 1) sc_atoms_good.nd rfl (.inl rfl)) (pgs_cons (pg_name (i := 2) sc_atoms_good.nd rfl (.inl rfl)) pgs_nil)))
        (pss_cons (ps_if (PW.pt (pw_or (pt_cmpR op_eq (L2.pv 1) pe_str (nomark _)) (pw_or (pt_cmpR op_ne (pe_join pe_str (pe_callB (LB.cr_sortX (by rfl)) (by rfl) T.m_sorted (by decide +kernel) (pa_cons (pe_callTy (LB.cr_setZ (by rfl)) (by rfl) T.m_set (by decide +kernel) (pa_cons (L2.pv 1) pa_nil)) pa_nil))) (L2.pv 1) (nomark _)) (pw_or1 (PW.pt (pw_and (pt_not (pt_val (L2.pv 2))) (pw_and1 (pt_cmpR op_gt (pe_callB call_len_str (by rfl) T.m_len PySem.boot_len (pa_cons (L2.pv 1) pa_nil)) pe_int (nomark _)))))))))
          (pss_one (ps_ret pe_bl))
          pss_nil)
        (pss_one (ps_if (pt_not (pt_val (pe_callB (cr_all rfl) (by rfl) T.m_all (by decide +kernel) (pa_cons (pe_lc (own := [("_law_letter", 3)]) (g := (gName 3)) (tt := tYes) (by rfl) sc_atoms_good.nd (pi_str (L2.pv 1)) (blkOk_by (own := [("_law_letter", 3)]) (N := N_atoms_good) (sc := defScope s_atoms_good) (by decide +kernel)) (fun _ _ _ _ _ => (pg_name (i := 3) sc_atoms_good.nd rfl (.inl rfl))) (fun _ _ _ _ _ => pts_nil) (fun _ _ _ _ _ => (pe_cmpR op_in_sign (L2.pv 3) pe_str rfl))) pa_nil))))
          (pss_one (ps_ret pe_bl))
          pss_nil))))
      (pss_one (ps_ret pe_bl))),
    (sm_seq (sm_for (sm_iT sm_var) (sg_tup (sg_cons sg_nm (sg_cons sg_nm sg_nil)) (cnt_cons (cnt_cons cnt_nil))) (sm_seq (sm_ifS (sm_or (sm_test (sm_op smr_eq sm_var (sm_c (cv_str (by decide +kernel))))) (sm_or (sm_test (sm_op smr_ne (sm_M1 mm_join (sm_c (cv_str (by decide +kernel))) (sm_sortsetS sm_var)) sm_var)) (sm_and (sm_not (sm_tB sm_var)) (sm_test (sm_op (smr_I0 fun _ _ => cv_bl) (sm_B sb_lenS (sm_cons sm_var sm_nil)) (sm_c cv_int)))))) (sm_ret (sm_c cv_bl)) sm_next)
      (sm_ifS (sm_not (sm_tB (sm_gc (sm_B sb_all (sm_cons (sm_lc (sm_iS sm_var) sg_nm sm_yes (sm_op smr_inS sm_var (sm_c (cv_str (by decide +kernel)))) (by decide)) sm_nil))))) (sm_ret (sm_c cv_bl)) sm_next)))
      (sm_ret (sm_c cv_bl)))⟩
abbrev lamQ : Str := (envOfC (Str.ofString "law") (defScope s_law) 0 0 .none).qual ++ "<lambda>"
def sp_law (K : PySem.W.Frag) (P1 : Addr) : Sp := fun vs H Q _ => ∃ (a : Addr) (ns : List Int), vs = [.ref a] ∧ SqL K H a (ns.map V.int) ∧ ns.length ≤ 63 ∧ H P1 = some (.tbl #[]) ∧ ∀ H', Q (.bl true) H'
set_option maxHeartbeats 0 in
theorem ok_law_at {P : Program} {w : World} {K : PySem.W.Frag} {mg : Str → Option Value} {base : Heap} {c1 P1 : Addr} (T : Tx K mg w) (TB : LamX.TabB base mg c1 P1) (hcode : T.fd_law.code = .ref c1) : FnOk P w K mg base CX0 13 T.f_law T.fd_law P_law (sp_law K P1) := by
  have G_bag : FnOk P w K mg base (L2.CX P w) 1 T.f_bag T.fd_bag P_bag (sp_bag K) := fn_any (ok_bag T)
  have G_letters : FnOk P w K mg base (L2.CX P w) 3 T.f_letters T.fd_letters P_letters (spF [(P1, lamQ)] (F_letters T.ca)) := ok_letters T
  have G_product : FnOk P w K mg base (L2.CX P w) 3 T.f_product T.fd_product P_product (spF [(P1, lamQ)] (F_product T.ca)) := ok_product T
  have G_bent_product : FnOk P w K mg base (L2.CX P w) 3 T.f_bent_product T.fd_bent_product P_bent_product (spF [(P1, lamQ)] (F_bent_product T.ca)) := ok_bent_product T
  have G_of : FnOk P w K mg base (L2.CX P w) 2 T.f_of T.fd_of P_of (spF [(P1, lamQ)] (F_of T.ca)) := ok_of T
  have G_p_is_product : FnOk P w K mg base (L2.CX P w) 4 T.f_p_is_product T.fd_p_is_product P_p_is_product (spF [(P1, lamQ)] (F_p_is_product T.ca)) := ok_p_is_product T
  have G_same : FnOk P w K mg base (L2.CX P w) 4 T.f_same T.fd_same P_same (spF [(P1, lamQ)] (F_same 3)) := ok_sameP T
  have G_atoms_good : FnOk P w K mg base (L2.CX P w) 1 T.f_atoms_good T.fd_atoms_good P_atoms_good (spF [(P1, lamQ)] (F_atoms_good T.ca)) := ok_atoms_good T
  have G_p_holds : FnOk P w K mg base (L2.CX P w) 6 T.f_p_holds T.fd_p_holds P_p_holds (spF [(P1, lamQ)] (F_p_holds T.ca)) := ok_p_holds T
  have G_p_inside : FnOk P w K mg base (L2.CX P w) 6 T.f_p_inside T.fd_p_inside P_p_inside (spF [(P1, lamQ)] (F_p_inside T.ca)) := ok_p_inside T
  have G_p_sent : FnOk P w K mg base (L2.CX P w) 6 T.f_p_sent T.fd_p_sent P_p_sent (spF [(P1, lamQ)] (F_p_sent T.ca)) := ok_p_sent T
  have G_p_taken : FnOk P w K mg base (L2.CX P w) 6 T.f_p_taken T.fd_p_taken P_p_taken (spF [(P1, lamQ)] (F_p_taken T.ca)) := ok_p_taken T
  have G_p_product_of : FnOk P w K mg base (L2.CX P w) 4 T.f_p_product_of T.fd_p_product_of P_p_product_of (spF [(P1, lamQ)] (F_p_product_of T.ca)) := ok_p_product_of T
  have G_p_plain : FnOk P w K mg base (L2.CX P w) 6 T.f_p_plain T.fd_p_plain P_p_plain (spF [(P1, lamQ)] (F_p_plain T.ca)) := ok_p_plain T
  have G_p_swollen : FnOk P w K mg base (L2.CX P w) 6 T.f_p_swollen T.fd_p_swollen P_p_swollen (spF [(P1, lamQ)] (F_p_swollen T.ca)) := ok_p_swollen T
  have G_p_product_text : FnOk P w K mg base (L2.CX P w) 6 T.f_p_product_text T.fd_p_product_text P_p_product_text (spF [(P1, lamQ)] (F_p_product_text T.ca)) := ok_p_product_text T
  obtain ⟨oR, dR, kR, mR, pR, aR, cR, tR, sR, eR, lR, hR⟩ := T.F_refusal.ex
  have bR := T.b_refusal
  rw [eR] at lR bR
  refine okC T.F_law sc_law (fun vs H Q E h => ?_) (fun cdv hcd A outer s H vs Q E hr h => ?_)
  · obtain ⟨a, ns, rfl, _⟩ := h
    rfl
  · obtain ⟨a, ns, rfl, hS, hlen, hT0, q⟩ := h
    obtain rfl : cdv = .ref c1 := hcd.symm.trans hcode
    refine law_cut (tb := [(P1, lamQ)]) (E := E) (B := B_law T.ca) (ps_set (i := 1) sc_law.nd rfl (.inl rfl) (pe_call G_bag (hr.mono (by decide)) (by rfl) T.g_bag T.F_bag.kp T.b_bag .nil passL (pa_cons (L2.pv 0) pa_nil))) ?_ fun tr hsm => ?_
    · refine ⟨_, (pss_cons (ps_set (i := 2) sc_law.nd rfl (.inl rfl) (pe_call G_letters (hr.mono (by decide)) (by rfl) T.g_letters T.F_letters.kp T.b_letters .nil passL (pa_cons (L2.pv 1) pa_nil)))
      (pss_cons (ps_for PassesOwn.never rfl (pi_range1 (by rfl) T.m_range (pa_cons pe_int pa_nil)) (pg_name (i := 3) sc_law.nd rfl (.inl rfl))
        (pss_cons (ps_set (i := 7) sc_law.nd rfl (.inr rfl) (pe_call G_product (hr.mono (by decide)) (by rfl) T.g_product T.F_product.kp T.b_product .nil passL (pa_cons (L2.pv 1) (pa_cons (L2.pv 2) (pa_cons pe_int pa_nil)))))
        (pss_cons (ps_set (i := 6) sc_law.nd rfl (.inr rfl) (pe_call G_bent_product (hr.mono (by decide)) (by rfl) T.g_bent_product T.F_bent_product.kp T.b_bent_product .nil passL (pa_cons (L2.pv 1) (pa_cons (L2.pv 7) pa_nil))))
        (pss_cons (ps_set (i := 4) sc_law.nd rfl (.inl rfl) (pe_call G_of (hr.mono (by decide)) (by rfl) T.g_of T.F_of.kp T.b_of .nil passL (pa_cons (L2.pv 1) (pa_cons (pe_lst (pa_cons (L2.pv 7) (pa_cons (L2.pv 6) pa_nil))) pa_nil))))
        (pss_cons (ps_if (pt_not (pt_val (pe_call G_same (hr.mono (by decide)) (by rfl) T.g_same T.F_same.kp T.b_same .nil passL (pa_cons (pe_call G_p_is_product (hr.mono (by decide)) (by rfl) T.g_p_is_product T.F_p_is_product.kp T.b_p_is_product .nil passL (pa_cons (L2.pv 4) pa_nil)) (pa_cons (pe_call G_atoms_good (hr.mono (by decide)) (by rfl) T.g_atoms_good T.F_atoms_good.kp T.b_atoms_good .nil passL (pa_cons (L2.pv 4) pa_nil)) pa_nil)))))
          (pss_one (ps_ret pe_bl))
          pss_nil)
        (pss_askBeg (n := 6) (q := lamQ) TB rfl rfl sc_law.nd (i := 5) rfl (.inl rfl) (lamEs0 (by show LamW.lamDB N_law (defScope s_law) _ = true; decide +kernel) (fun _ _ _ _ _ _ => rfl) rfl (fun A2 o2 s2 H2 E2 f2 c2 hr2 => (pe_call G_p_holds (hr2.mono (by decide)) (by rfl) T.g_p_holds T.F_p_holds.kp T.b_p_holds .nil (passes_call (takes_of rfl rfl rfl rfl) (fun _ _ _ _ h => h)) (pa_cons (L2.pv 6) (pa_cons pe_str pa_nil)))) (lamEs1 (by show LamW.lamDB N_law (defScope s_law) _ = true; decide +kernel) rfl (fun _ _ _ _ _ _ _ _ => ⟨_, rfl, rfl⟩) rfl (fun A2 o2 s2 H2 E2 f2 c2 hr2 => (pe_call G_p_inside (hr2.mono (by decide)) (by rfl) T.g_p_inside T.F_p_inside.kp T.b_p_inside .nil (passes_call (takes_of rfl rfl rfl rfl) (fun _ _ _ _ h => h)) (pa_cons (L2.pv 6) (pa_cons (L2.pv 7) pa_nil)))) (lamEs1 (by show LamW.lamDB N_law (defScope s_law) _ = true; decide +kernel) rfl (fun _ _ _ _ _ _ _ _ => ⟨_, rfl, rfl⟩) rfl (fun A2 o2 s2 H2 E2 f2 c2 hr2 => (pe_call G_p_inside (hr2.mono (by decide)) (by rfl) T.g_p_inside T.F_p_inside.kp T.b_p_inside .nil (passes_call (takes_of rfl rfl rfl rfl) (fun _ _ _ _ h => h)) (pa_cons (L2.pv 7) (pa_cons (L2.pv 6) pa_nil)))) .nil))) (fun hA =>
        (pss_askCat (n := 6) (q := lamQ) TB rfl rfl sc_law.nd (i := 5) rfl (.inl rfl) (L2.pv 5) hA (lamEs0 (by show LamW.lamDB N_law (defScope s_law) _ = true; decide +kernel) (fun _ _ _ _ _ _ => rfl) rfl (fun A2 o2 s2 H2 E2 f2 c2 hr2 => (pe_call G_p_plain (hr2.mono (by decide)) (by rfl) T.g_p_plain T.F_p_plain.kp T.b_p_plain .nil (passes_call (takes_of rfl rfl rfl rfl) (fun _ _ _ _ h => h)) (pa_cons (L2.pv 6) pa_nil))) (lamEs1 (by show LamW.lamDB N_law (defScope s_law) _ = true; decide +kernel) rfl (fun _ _ _ _ _ _ _ _ => ⟨_, rfl, rfl⟩) rfl (fun A2 o2 s2 H2 E2 f2 c2 hr2 => (pe_call G_p_sent (hr2.mono (by decide)) (by rfl) T.g_p_sent T.F_p_sent.kp T.b_p_sent .nil (passes_call (takes_of rfl rfl rfl rfl) (fun _ _ _ _ h => h)) (pa_cons (L2.pv 6) (pa_cons pe_str pa_nil)))) (lamEs1 (by show LamW.lamDB N_law (defScope s_law) _ = true; decide +kernel) rfl (fun _ _ _ _ _ _ _ _ => ⟨_, rfl, rfl⟩) rfl (fun A2 o2 s2 H2 E2 f2 c2 hr2 => (pe_call G_p_taken (hr2.mono (by decide)) (by rfl) T.g_p_taken T.F_p_taken.kp T.b_p_taken .nil (passes_call (takes_of rfl rfl rfl rfl) (fun _ _ _ _ h => h)) (pa_cons (L2.pv 6) (pa_cons pe_str pa_nil)))) .nil))) (fun hA =>
        (pss_askCat (n := 6) (q := lamQ) TB rfl rfl sc_law.nd (i := 5) rfl (.inl rfl) (L2.pv 5) hA (lamEs0 (by show LamW.lamDB N_law (defScope s_law) _ = true; decide +kernel) (fun _ _ _ _ _ _ => rfl) rfl (fun A2 o2 s2 H2 E2 f2 c2 hr2 => (pe_call G_p_swollen (hr2.mono (by decide)) (by rfl) T.g_p_swollen T.F_p_swollen.kp T.b_p_swollen .nil (passes_call (takes_of rfl rfl rfl rfl) (fun _ _ _ _ h => h)) (pa_cons (L2.pv 6) (pa_cons pe_str pa_nil)))) (lamEs1 (by show LamW.lamDB N_law (defScope s_law) _ = true; decide +kernel) rfl (fun _ _ _ _ _ _ _ _ => ⟨_, rfl, rfl⟩) rfl (fun A2 o2 s2 H2 E2 f2 c2 hr2 => (pe_call G_p_product_text (hr2.mono (by decide)) (by rfl) T.g_p_product_text T.F_p_product_text.kp T.b_p_product_text .nil (passes_call (takes_of rfl rfl rfl rfl) (fun _ _ _ _ h => h)) (pa_cons (L2.pv 6) pa_nil))) .nil)) (fun hA =>
        (pss_cons (ps_if (pt_cmpR (op_neD hr.units) (LamW.pe_lcA (own := [("_law_ask", 9)]) (g := gName 9) (wi := iList K (tVar 5)) (by rfl) sc_law.nd (pi_list (L2.pv 5)) (blkOk_by (own := [("_law_ask", 9)]) (N := N_law) (sc := defScope s_law) (by decide +kernel)) (fun _ _ _ _ _ => (pg_name (i := 9) sc_law.nd rfl (.inl rfl))) (fun pins3 σ3 sB3 HB3 fp3 IB3 hf3 => LamW.pe_ask (n := 6) (Ng := N_refusal) IB3 hf3 hA (by rfl) T.g_refusal T.F_refusal.kp lR hR bR sc_refusal rfl (.inl rfl) (refusal_gives T.gC_LeakError T.m_isinstance T.m_ValueError T.m_LookupError) (hr.mono (by decide)) (L2.pv 9))) (pe_op op_rep (pe_lst (pa_cons (pe_tup (pa_cons pe_str (pa_cons (pe_un un_neg pe_int) pa_nil))) pa_nil)) pe_int) (nomark _))
          (pss_one (ps_ret pe_bl))
          pss_nil)
        (pss_cons (ps_set (i := 8) sc_law.nd rfl (.inr rfl) (pe_call G_of (hr.mono (by decide)) (by rfl) T.g_of T.F_of.kp T.b_of .nil passL (pa_cons (L2.pv 1) (pa_cons (pe_lst (pa_cons pe_str (pa_cons pe_str (pa_cons pe_str (pa_cons pe_str (pa_cons pe_str pa_nil)))))) pa_nil))))
        (pss_askBeg (n := 6) (q := lamQ) TB rfl rfl sc_law.nd (i := 5) rfl (.inl rfl) (lamEs0 (by show LamW.lamDB N_law (defScope s_law) _ = true; decide +kernel) (fun _ _ _ _ _ _ => rfl) rfl (fun A2 o2 s2 H2 E2 f2 c2 hr2 => (pe_call G_p_sent (hr2.mono (by decide)) (by rfl) T.g_p_sent T.F_p_sent.kp T.b_p_sent .nil (passes_call (takes_of rfl rfl rfl rfl) (fun _ _ _ _ h => h)) (pa_cons (L2.pv 7) (pa_cons (L2.pv 8) pa_nil)))) (lamEs1 (by show LamW.lamDB N_law (defScope s_law) _ = true; decide +kernel) rfl (fun _ _ _ _ _ _ _ _ => ⟨_, rfl, rfl⟩) rfl (fun A2 o2 s2 H2 E2 f2 c2 hr2 => (pe_call G_p_taken (hr2.mono (by decide)) (by rfl) T.g_p_taken T.F_p_taken.kp T.b_p_taken .nil (passes_call (takes_of rfl rfl rfl rfl) (fun _ _ _ _ h => h)) (pa_cons (L2.pv 7) (pa_cons (L2.pv 8) pa_nil)))) (lamEs1 (by show LamW.lamDB N_law (defScope s_law) _ = true; decide +kernel) rfl (fun _ _ _ _ _ _ _ _ => ⟨_, rfl, rfl⟩) rfl (fun A2 o2 s2 H2 E2 f2 c2 hr2 => (pe_call G_p_holds (hr2.mono (by decide)) (by rfl) T.g_p_holds T.F_p_holds.kp T.b_p_holds .nil (passes_call (takes_of rfl rfl rfl rfl) (fun _ _ _ _ h => h)) (pa_cons (L2.pv 7) (pa_cons pe_str pa_nil)))) .nil))) (fun hA =>
        (pss_askCatU (n := 6) (q := lamQ) TB rfl rfl sc_law.nd (i := 5) rfl (.inl rfl) (L2.pv 5) hA (lamEs0 (by show LamW.lamDB N_law (defScope s_law) _ = true; decide +kernel) (fun _ _ _ _ _ _ => rfl) rfl (fun A2 o2 s2 H2 E2 f2 c2 hr2 => (pe_call G_p_swollen (hr2.mono (by decide)) (by rfl) T.g_p_swollen T.F_p_swollen.kp T.b_p_swollen .nil (passes_call (takes_of rfl rfl rfl rfl) (fun _ _ _ _ h => h)) (pa_cons (L2.pv 7) (pa_cons pe_str pa_nil)))) (lamEs1 (by show LamW.lamDB N_law (defScope s_law) _ = true; decide +kernel) rfl (fun _ _ _ _ _ _ _ _ => ⟨_, rfl, rfl⟩) rfl (fun A2 o2 s2 H2 E2 f2 c2 hr2 => (pe_call G_p_swollen (hr2.mono (by decide)) (by rfl) T.g_p_swollen T.F_p_swollen.kp T.b_p_swollen .nil (passes_call (takes_of rfl rfl rfl rfl) (fun _ _ _ _ h => h)) (pa_cons (L2.pv 7) (pa_cons pe_str pa_nil)))) (lamEs1 (by show LamW.lamDB N_law (defScope s_law) _ = true; decide +kernel) rfl (fun _ _ _ _ _ _ _ _ => ⟨_, rfl, rfl⟩) rfl (fun A2 o2 s2 H2 E2 f2 c2 hr2 => (pe_call G_p_swollen (hr2.mono (by decide)) (by rfl) T.g_p_swollen T.F_p_swollen.kp T.b_p_swollen .nil (passes_call (takes_of rfl rfl rfl rfl) (fun _ _ _ _ h => h)) (pa_cons (L2.pv 7) (pa_cons pe_str pa_nil)))) .nil))) (fun hA => (pss_askApp (n := 6) (q := lamQ) (i := 5) TB rfl rfl hA (lamEs0 (by show LamW.lamDB N_law (defScope s_law) _ = true; decide +kernel) (fun _ _ _ _ _ _ => rfl) rfl (fun A2 o2 s2 H2 E2 f2 c2 hr2 => (pe_call G_p_product_of (hr2.mono (by decide)) (by rfl) T.g_p_product_of T.F_p_product_of.kp T.b_p_product_of .nil (passes_call (takes_of rfl rfl rfl rfl) (fun _ _ _ _ h => h)) (pa_cons pe_str pa_nil))) .nil) (fun pa => ps_expr (pe_bm PySem.F.plainAttrs_list PySem.F.slot_list_append PySem.F.type_list_append mt_appendK (L2.pv 5) pa)) (fun hA =>
        (pss_one (ps_if (pt_cmpR (op_neD hr.units) (LamW.pe_lcA (own := [("_law_ask", 9)]) (g := gName 9) (wi := iList K (tVar 5)) (by rfl) sc_law.nd (pi_list (L2.pv 5)) (blkOk_by (own := [("_law_ask", 9)]) (N := N_law) (sc := defScope s_law) (by decide +kernel)) (fun _ _ _ _ _ => (pg_name (i := 9) sc_law.nd rfl (.inl rfl))) (fun pins3 σ3 sB3 HB3 fp3 IB3 hf3 => LamW.pe_ask (n := 6) (Ng := N_refusal) IB3 hf3 hA (by rfl) T.g_refusal T.F_refusal.kp lR hR bR sc_refusal rfl (.inl rfl) (refusal_gives T.gC_LeakError T.m_isinstance T.m_ValueError T.m_LookupError) (hr.mono (by decide)) (L2.pv 9))) (pe_op op_rep (pe_lst (pa_cons (pe_tup (pa_cons pe_str (pa_cons (pe_un un_neg pe_int) pa_nil))) pa_nil)) pe_int) (nomark _))
          (pss_one (ps_ret pe_bl))
          pss_nil)))))))))))))))))))))
      (pss_one (ps_ret (pe_cmpR op_isBl (pe_call G_p_is_product (hr.mono (by decide)) (by rfl) T.g_p_is_product T.F_p_is_product.kp T.b_p_is_product .nil passL (pa_cons (pe_tup pa_nil) pa_nil)) pe_bl (nomark _)))))), ?_⟩
      exact (sm_seq (sm_asg (sm_callN cvs_nil (sm_cons sm_var sm_nil)) sg_nm)
      (sm_seq (sm_for (sm_iR1 (sm_cons (sm_c cv_int) sm_nil)) sg_nm (sm_seq (sm_asg (sm_callN cvs_nil (sm_cons sm_var (sm_cons sm_var (sm_cons (sm_c cv_int) sm_nil)))) sg_nm)
      (sm_seq (sm_asg (sm_callN cvs_nil (sm_cons sm_var (sm_cons sm_var sm_nil))) sg_nm)
      (sm_seq (sm_asg (sm_callN cvs_nil (sm_cons sm_var (sm_cons (sm_lst (sm_cons sm_var (sm_cons sm_var sm_nil))) sm_nil))) sg_nm)
      (sm_seq (sm_ifS (sm_not (sm_tB (sm_callN cvs_nil (sm_cons (sm_callN cvs_nil (sm_cons sm_var sm_nil)) (sm_cons (sm_callN cvs_nil (sm_cons sm_var sm_nil)) sm_nil))))) (sm_ret (sm_c cv_bl)) sm_next)
      (sm_askB (Nat.le_of_ble_eq_true rfl)
      (sm_askC (Nat.le_of_ble_eq_true rfl)
      (sm_askC (Nat.le_of_ble_eq_true rfl)
      (sm_gSeq (sm_gIf (sm_gTest smr_neD (sm_asks (xf_all T) (paired_app (paired_app (.cons (fun _ => (sm_call cvs_nil (sm_cons sm_var (sm_cons (sm_c (cv_str (by decide +kernel))) sm_nil)))) (.cons (fun _ => (sm_call cvs_nil (sm_cons sm_var (sm_cons sm_var sm_nil)))) (.cons (fun _ => (sm_call cvs_nil (sm_cons sm_var (sm_cons sm_var sm_nil)))) .nil))) (.cons (fun _ => (sm_call cvs_nil (sm_cons sm_var sm_nil))) (.cons (fun _ => (sm_call cvs_nil (sm_cons sm_var (sm_cons (sm_c (cv_str (by decide +kernel))) sm_nil)))) (.cons (fun _ => (sm_call cvs_nil (sm_cons sm_var (sm_cons (sm_c (cv_str (by decide +kernel))) sm_nil)))) .nil)))) (.cons (fun _ => (sm_call cvs_nil (sm_cons sm_var (sm_cons (sm_c (cv_str (by decide +kernel))) sm_nil)))) (.cons (fun _ => (sm_call cvs_nil (sm_cons sm_var sm_nil))) .nil)))) (sm_op smr_repL (sm_lst (sm_cons (sm_tup (sm_cons (sm_c (cv_str (by decide +kernel))) (sm_cons (sm_un (smu_U fun _ => cv_int) (sm_c cv_int)) sm_nil))) sm_nil)) (sm_c cv_int))) (sm_ret (sm_c cv_bl)) sm_next)
      (sm_seq (sm_asg (sm_callN cvs_nil (sm_cons sm_var (sm_cons (sm_lst (sm_cons (sm_c (cv_str (by decide +kernel))) (sm_cons (sm_c (cv_str (by decide +kernel))) (sm_cons (sm_c (cv_str (by decide +kernel))) (sm_cons (sm_c (cv_str (by decide +kernel))) (sm_cons (sm_c (cv_str (by decide +kernel))) sm_nil)))))) sm_nil))) sg_nm)
      (sm_askB (Nat.le_of_ble_eq_true rfl)
      (sm_askCA (Nat.le_of_ble_eq_true rfl)
      (sm_gIf (sm_gTest smr_neD (sm_asks (xf_all T) (paired_app (paired_app (.cons (fun _ => (sm_call cvs_nil (sm_cons sm_var (sm_cons sm_var sm_nil)))) (.cons (fun _ => (sm_call cvs_nil (sm_cons sm_var (sm_cons sm_var sm_nil)))) (.cons (fun _ => (sm_call cvs_nil (sm_cons sm_var (sm_cons (sm_c (cv_str (by decide +kernel))) sm_nil)))) .nil))) (.cons (fun _ => (sm_call cvs_nil (sm_cons sm_var (sm_cons (sm_c (cv_str (by decide +kernel))) sm_nil)))) (.cons (fun _ => (sm_call cvs_nil (sm_cons sm_var (sm_cons (sm_c (cv_str (by decide +kernel))) sm_nil)))) (.cons (fun _ => (sm_call cvs_nil (sm_cons sm_var (sm_cons (sm_c (cv_str (by decide +kernel))) sm_nil)))) .nil)))) (.cons (fun _ => (sm_call cvs_nil (sm_cons (sm_c (cv_str (by decide +kernel))) sm_nil))) .nil))) (sm_op smr_repL (sm_lst (sm_cons (sm_tup (sm_cons (sm_c (cv_str (by decide +kernel))) (sm_cons (sm_un (smu_U fun _ => cv_int) (sm_c cv_int)) sm_nil))) sm_nil)) (sm_c cv_int))) (sm_ret (sm_c cv_bl)) sm_next)))))))))))))
      (sm_ret (sm_op smr_isB (sm_callN cvs_nil (sm_cons (sm_tup sm_nil) sm_nil)) (sm_c cv_bl)))))
    refine ⟨.ref a, rfl, a, ns, rfl, hS, hlen, fun H1 b cl s1 hB nb => ?_⟩
    have hT1 : LamX.Tabs [(P1, lamQ)] H1 := fun z hz => by
      rw [List.mem_singleton.mp hz]
      exact LamX.TabS.nil (s1 _ _ hT0)
    exact Pu.law_end (t := tr) (tb := [(P1, lamQ)]) (n := 8) (B := B_law T.ca) hsm hB hT1 (law_pure T.ca) q
end
set_option maxHeartbeats 0 in
theorem all_mk {l : PySem.W.OpenLaw} {w : World} {K : PySem.W.Frag} {h : Heap} {mg : Str → Option Value} {fa : Addr} (X : K.In h) (G : h.Ns mainGlobals mg) (hfa : mg "law" = some (.ref fa))
    {cC PC : Addr} {eC : Value} {dC : Option Addr} {vC : Array Value} {sC : Array (Option Value)}
    {f0 : Addr} {od0 an0 : Option Addr} {sl0 : Array (Option Value)} {oc0 kV0 dc0 pm0 cd0 ct0 : Value}
    {td0 : Addr} {ot0 : Value} {ht0 : Option Addr} {st0 : Array (Option Value)} {nt0 : Nat}
    {w0_0 : Tok}
    {w0_1 : Tok}
    {f1 : Addr} {od1 an1 : Option Addr} {sl1 : Array (Option Value)} {oc1 kV1 dc1 pm1 cd1 ct1 : Value}
    {td1 : Addr} {ot1 : Value} {ht1 : Option Addr} {st1 : Array (Option Value)} {nt1 : Nat}
    {w1_0 : Tok}
    {f2 : Addr} {od2 an2 : Option Addr} {sl2 : Array (Option Value)} {oc2 kV2 dc2 pm2 cd2 ct2 : Value}
    {td2 : Addr} {ot2 : Value} {ht2 : Option Addr} {st2 : Array (Option Value)} {nt2 : Nat}
    {w2_0 : Tok}
    {f3 : Addr} {od3 an3 : Option Addr} {sl3 : Array (Option Value)} {oc3 kV3 dc3 pm3 cd3 ct3 : Value}
    {f4 : Addr} {od4 an4 : Option Addr} {sl4 : Array (Option Value)} {oc4 kV4 dc4 pm4 cd4 ct4 : Value}
    {f5 : Addr} {od5 an5 : Option Addr} {sl5 : Array (Option Value)} {oc5 kV5 dc5 pm5 cd5 ct5 : Value}
    {f6 : Addr} {od6 an6 : Option Addr} {sl6 : Array (Option Value)} {oc6 kV6 dc6 pm6 cd6 ct6 : Value}
    {f7 : Addr} {od7 an7 : Option Addr} {sl7 : Array (Option Value)} {oc7 kV7 dc7 pm7 cd7 ct7 : Value}
    {f8 : Addr} {od8 an8 : Option Addr} {sl8 : Array (Option Value)} {oc8 kV8 dc8 pm8 cd8 ct8 : Value}
    {f9 : Addr} {od9 an9 : Option Addr} {sl9 : Array (Option Value)} {oc9 kV9 dc9 pm9 cd9 ct9 : Value}
    {f10 : Addr} {od10 an10 : Option Addr} {sl10 : Array (Option Value)} {oc10 kV10 dc10 pm10 cd10 ct10 : Value}
    {f11 : Addr} {od11 an11 : Option Addr} {sl11 : Array (Option Value)} {oc11 kV11 dc11 pm11 cd11 ct11 : Value}
    {f12 : Addr} {od12 an12 : Option Addr} {sl12 : Array (Option Value)} {oc12 kV12 dc12 pm12 cd12 ct12 : Value}
    {f13 : Addr} {od13 an13 : Option Addr} {sl13 : Array (Option Value)} {oc13 kV13 dc13 pm13 cd13 ct13 : Value}
    {f14 : Addr} {od14 an14 : Option Addr} {sl14 : Array (Option Value)} {oc14 kV14 dc14 pm14 cd14 ct14 : Value}
    {f15 : Addr} {od15 an15 : Option Addr} {sl15 : Array (Option Value)} {oc15 kV15 dc15 pm15 cd15 ct15 : Value}
    {f16 : Addr} {od16 an16 : Option Addr} {sl16 : Array (Option Value)} {oc16 kV16 dc16 pm16 cd16 ct16 : Value}
    {f17 : Addr} {od17 an17 : Option Addr} {sl17 : Array (Option Value)} {oc17 kV17 dc17 pm17 cd17 ct17 : Value}
    {f18 : Addr} {od18 an18 : Option Addr} {sl18 : Array (Option Value)} {oc18 kV18 dc18 pm18 cd18 ct18 : Value}
    {f19 : Addr} {od19 an19 : Option Addr} {sl19 : Array (Option Value)} {oc19 kV19 dc19 pm19 cd19 ct19 : Value}
    {f20 : Addr} {od20 an20 : Option Addr} {sl20 : Array (Option Value)} {oc20 kV20 dc20 pm20 cd20 ct20 : Value}
    {f21 : Addr} {od21 an21 : Option Addr} {sl21 : Array (Option Value)} {oc21 kV21 dc21 pm21 cd21 ct21 : Value}
    {f22 : Addr} {od22 an22 : Option Addr} {sl22 : Array (Option Value)} {oc22 kV22 dc22 pm22 cd22 ct22 : Value}
    {f23 : Addr} {od23 an23 : Option Addr} {sl23 : Array (Option Value)} {oc23 kV23 dc23 pm23 cd23 ct23 : Value}
    {f24 : Addr} {od24 an24 : Option Addr} {sl24 : Array (Option Value)} {oc24 kV24 dc24 pm24 cd24 ct24 : Value}
    {f25 : Addr} {od25 an25 : Option Addr} {sl25 : Array (Option Value)} {oc25 kV25 dc25 pm25 cd25 ct25 : Value}
    {f26 : Addr} {od26 an26 : Option Addr} {sl26 : Array (Option Value)} {oc26 kV26 dc26 pm26 cd26 ct26 : Value}
    {f27 : Addr} {od27 an27 : Option Addr} {sl27 : Array (Option Value)} {oc27 kV27 dc27 pm27 cd27 ct27 : Value}
    {f28 : Addr} {od28 an28 : Option Addr} {sl28 : Array (Option Value)} {oc28 kV28 dc28 pm28 cd28 ct28 : Value}
    {f29 : Addr} {od29 an29 : Option Addr} {sl29 : Array (Option Value)} {oc29 kV29 dc29 pm29 cd29 ct29 : Value}
    {f30 : Addr} {od30 an30 : Option Addr} {sl30 : Array (Option Value)} {oc30 kV30 dc30 pm30 cd30 ct30 : Value}
    {f31 : Addr} {od31 an31 : Option Addr} {sl31 : Array (Option Value)} {oc31 kV31 dc31 pm31 cd31 ct31 : Value}
    {f32 : Addr} {od32 an32 : Option Addr} {sl32 : Array (Option Value)} {oc32 kV32 dc32 pm32 cd32 ct32 : Value}
    {f33 : Addr} {od33 an33 : Option Addr} {sl33 : Array (Option Value)} {oc33 kV33 dc33 pm33 cd33 ct33 : Value}
    {f34 : Addr} {od34 an34 : Option Addr} {sl34 : Array (Option Value)} {oc34 kV34 dc34 pm34 ct34 : Value}
    {q0 : Addr}
    {q1 : Addr}
    {q2 : Addr}
    {q0nm q0qn : Str} {q0N : Addr} {q0bs q0sub : List Value} {q0sn : List Str} {q0ab : Bool} {q0col : Option Bool} {q0dd : Option Addr} {q0m0 q0m1 q0m2 q0m3 q0m5 : Option Value}
    {q1nm q1qn : Str} {q1N : Addr} {q1bs q1sub : List Value} {q1sn : List Str} {q1ab : Bool} {q1col : Option Bool} {q1dd : Option Addr} {q1m0 q1m1 q1m2 q1m3 q1m5 : Option Value}
    {q2nm q2qn : Str} {q2N : Addr} {q2bs q2sub : List Value} {q2sn : List Str} {q2ab : Bool} {q2col : Option Bool} {q2dd : Option Addr} {q2m0 q2m1 q2m2 q2m3 q2m5 : Option Value}
    (q0C : PySem.W.nsIn K mainGlobals "LeakError" = some (some (.ref q0)))
    (q0XX : K.lookup q0 = some (excClassObj q0nm q0qn q0 q0N q0bs [.type "ValueError", .type "Exception", .type "BaseException", .type "object"] true q0sn q0sub q0ab q0col q0dd q0m0 q0m1 q0m2 q0m3 q0m5 "ValueError.__new__"))
    (q0sa : PySem.W.findIn K (.ref q0) "__setattr__" = some (some (.builtin "object.__setattr__")))
    (q0ec : PySem.W.subIn K (.ref q0) (.type "BaseException") = some true)
    (q0ty : PySem.W.typeIn K (.ref q0) = some (.type "type"))
    (q0kc : PySem.W.keepIn K (.ref q0) = true)
    (q0rd : PySem.W.readsIn K q0 (.type "type") = true)
    (q0ga : PySem.W.specialIn K (.ref q0) "__getattribute__" = some (some (.builtin "type.__getattribute__")))
    (q0x1 : (PySem.W.clsIn K q0).isSome = true)
    (q0x2 : PySem.W.findIn K (.ref q0) "__getattribute__" = some (some (.builtin "BaseException.__getattribute__")))
    (q0x3 : PySem.W.findIn K (.ref q0) "__getattr__" = some none)
    (q0x5 : PySem.W.findIn K (.ref q0) "__class__" = some (some (.builtin "object.__class__")))
    (q0x6 : PySem.W.specialIn K (.builtin "object.__class__") "__get__" = some (some (.builtin "getset_descriptor.__get__")))
    (q0x7 : PySem.W.takesIn K (.builtin "object.__class__") = some true)
    (q0x8 : PySem.W.mroIn K q0 (.type "object") = some true)
    (q0x9 : PySem.W.hasDictIn K q0 = true)
    (q0nw : PySem.W.findIn K (.ref q0) "word" = some none)
    (q0na : PySem.W.findIn K (.ref q0) "at" = some none)
    (q0kv : PySem.W.kitOne K (.ref q0) (.type "ValueError") = some true)
    (q0kl : PySem.W.kitOne K (.ref q0) (.type "LookupError") = some false)
    (q1C : PySem.W.nsIn K mainGlobals "BadWord" = some (some (.ref q1)))
    (q1XX : K.lookup q1 = some (excClassObj q1nm q1qn q1 q1N q1bs [.ref q0, .type "ValueError", .type "Exception", .type "BaseException", .type "object"] true q1sn q1sub q1ab q1col q1dd q1m0 q1m1 q1m2 q1m3 q1m5 "ValueError.__new__"))
    (q1sa : PySem.W.findIn K (.ref q1) "__setattr__" = some (some (.builtin "object.__setattr__")))
    (q1ec : PySem.W.subIn K (.ref q1) (.type "BaseException") = some true)
    (q1ty : PySem.W.typeIn K (.ref q1) = some (.type "type"))
    (q1kc : PySem.W.keepIn K (.ref q1) = true)
    (q1rd : PySem.W.readsIn K q1 (.type "type") = true)
    (q1ga : PySem.W.specialIn K (.ref q1) "__getattribute__" = some (some (.builtin "type.__getattribute__")))
    (q1x1 : (PySem.W.clsIn K q1).isSome = true)
    (q1x2 : PySem.W.findIn K (.ref q1) "__getattribute__" = some (some (.builtin "BaseException.__getattribute__")))
    (q1x3 : PySem.W.findIn K (.ref q1) "__getattr__" = some none)
    (q1x5 : PySem.W.findIn K (.ref q1) "__class__" = some (some (.builtin "object.__class__")))
    (q1x6 : PySem.W.specialIn K (.builtin "object.__class__") "__get__" = some (some (.builtin "getset_descriptor.__get__")))
    (q1x7 : PySem.W.takesIn K (.builtin "object.__class__") = some true)
    (q1x8 : PySem.W.mroIn K q1 (.type "object") = some true)
    (q1x9 : PySem.W.hasDictIn K q1 = true)
    (q1nw : PySem.W.findIn K (.ref q1) "word" = some none)
    (q1na : PySem.W.findIn K (.ref q1) "at" = some none)
    (q1kv : PySem.W.kitOne K (.ref q1) (.type "ValueError") = some true)
    (q1kl : PySem.W.kitOne K (.ref q1) (.type "LookupError") = some false)
    (q2C : PySem.W.nsIn K mainGlobals "BadAtom" = some (some (.ref q2)))
    (q2XX : K.lookup q2 = some (excClassObj q2nm q2qn q2 q2N q2bs [.ref q0, .type "ValueError", .type "Exception", .type "BaseException", .type "object"] true q2sn q2sub q2ab q2col q2dd q2m0 q2m1 q2m2 q2m3 q2m5 "ValueError.__new__"))
    (q2sa : PySem.W.findIn K (.ref q2) "__setattr__" = some (some (.builtin "object.__setattr__")))
    (q2ec : PySem.W.subIn K (.ref q2) (.type "BaseException") = some true)
    (q2ty : PySem.W.typeIn K (.ref q2) = some (.type "type"))
    (q2kc : PySem.W.keepIn K (.ref q2) = true)
    (q2rd : PySem.W.readsIn K q2 (.type "type") = true)
    (q2ga : PySem.W.specialIn K (.ref q2) "__getattribute__" = some (some (.builtin "type.__getattribute__")))
    (q2x1 : (PySem.W.clsIn K q2).isSome = true)
    (q2x2 : PySem.W.findIn K (.ref q2) "__getattribute__" = some (some (.builtin "BaseException.__getattribute__")))
    (q2x3 : PySem.W.findIn K (.ref q2) "__getattr__" = some none)
    (q2x5 : PySem.W.findIn K (.ref q2) "__class__" = some (some (.builtin "object.__class__")))
    (q2x6 : PySem.W.specialIn K (.builtin "object.__class__") "__get__" = some (some (.builtin "getset_descriptor.__get__")))
    (q2x7 : PySem.W.takesIn K (.builtin "object.__class__") = some true)
    (q2x8 : PySem.W.mroIn K q2 (.type "object") = some true)
    (q2x9 : PySem.W.hasDictIn K q2 = true)
    (q2nw : PySem.W.findIn K (.ref q2) "word" = some none)
    (q2na : PySem.W.findIn K (.ref q2) "at" = some none)
    (q2kv : PySem.W.kitOne K (.ref q2) (.type "ValueError") = some true)
    (q2kl : PySem.W.kitOne K (.ref q2) (.type "LookupError") = some false)
    (vV : PySem.W.findCls K (.type "ValueError") (.type "type") "__init__" = some (.val (.builtin "ValueError.__init__")))
    (a0 : PySem.W.findIn K (.ref q0) "__init__" = some (some (.ref f0)))
    (i0 : PySem.W.isFn K (.ref f0) = true)
    (l0 : K.lookup f0 = some ⟨oc0, od0, .func (PySem.W.fnOf "__init__" "LeakError.__init__" (defArgs s_LeakError_init) (defBody s_LeakError_init) (defScope s_LeakError_init) (.ref td0) kV0 dc0 pm0 an0 cd0 ct0), sl0⟩)
    (c0 : PySem.W.codeIn K cd0 "LeakError.__init__" = true)
    (k0 : PySem.W.keepIn K (.ref f0) = true)
    (t0 : K.lookup td0 = some ⟨ot0, ht0, .seq ([.int (-1) w0_0, .str (PySem.Str.ofString "leakerror") w0_1] : List Value).toArray nt0, st0⟩)
    (a1 : PySem.W.findIn K (.ref q1) "__init__" = some (some (.ref f1)))
    (i1 : PySem.W.isFn K (.ref f1) = true)
    (l1 : K.lookup f1 = some ⟨oc1, od1, .func (PySem.W.fnOf "__init__" "BadWord.__init__" (defArgs s_BadWord_init) (defBody s_BadWord_init) (defScope s_BadWord_init) (.ref td1) kV1 dc1 pm1 an1 cd1 ct1), sl1⟩)
    (c1 : PySem.W.codeIn K cd1 "BadWord.__init__" = true)
    (k1 : PySem.W.keepIn K (.ref f1) = true)
    (t1 : K.lookup td1 = some ⟨ot1, ht1, .seq ([.int (-1) w1_0] : List Value).toArray nt1, st1⟩)
    (a2 : PySem.W.findIn K (.ref q2) "__init__" = some (some (.ref f2)))
    (i2 : PySem.W.isFn K (.ref f2) = true)
    (l2 : K.lookup f2 = some ⟨oc2, od2, .func (PySem.W.fnOf "__init__" "BadAtom.__init__" (defArgs s_BadAtom_init) (defBody s_BadAtom_init) (defScope s_BadAtom_init) (.ref td2) kV2 dc2 pm2 an2 cd2 ct2), sl2⟩)
    (c2 : PySem.W.codeIn K cd2 "BadAtom.__init__" = true)
    (k2 : PySem.W.keepIn K (.ref f2) = true)
    (t2 : K.lookup td2 = some ⟨ot2, ht2, .seq ([.int (-1) w2_0] : List Value).toArray nt2, st2⟩)
    (a3 : PySem.W.nsIn K mainGlobals "is_word" = some (some (.ref f3)))
    (l3 : K.lookup f3 = some ⟨oc3, od3, .func (PySem.W.fnOf "is_word" "is_word" (defArgs s_p_is_word) (defBody s_p_is_word) (defScope s_p_is_word) .none kV3 dc3 pm3 an3 cd3 ct3), sl3⟩)
    (c3 : PySem.W.codeIn K cd3 "is_word" = true)
    (k3 : PySem.W.keepIn K (.ref f3) = true)
    (a4 : PySem.W.nsIn K mainGlobals "is_letter" = some (some (.ref f4)))
    (l4 : K.lookup f4 = some ⟨oc4, od4, .func (PySem.W.fnOf "is_letter" "is_letter" (defArgs s_p_is_letter) (defBody s_p_is_letter) (defScope s_p_is_letter) .none kV4 dc4 pm4 an4 cd4 ct4), sl4⟩)
    (c4 : PySem.W.codeIn K cd4 "is_letter" = true)
    (k4 : PySem.W.keepIn K (.ref f4) = true)
    (a5 : PySem.W.nsIn K mainGlobals "is_rising" = some (some (.ref f5)))
    (l5 : K.lookup f5 = some ⟨oc5, od5, .func (PySem.W.fnOf "is_rising" "is_rising" (defArgs s_p_is_rising) (defBody s_p_is_rising) (defScope s_p_is_rising) .none kV5 dc5 pm5 an5 cd5 ct5), sl5⟩)
    (c5 : PySem.W.codeIn K cd5 "is_rising" = true)
    (k5 : PySem.W.keepIn K (.ref f5) = true)
    (a6 : PySem.W.nsIn K mainGlobals "is_atom" = some (some (.ref f6)))
    (l6 : K.lookup f6 = some ⟨oc6, od6, .func (PySem.W.fnOf "is_atom" "is_atom" (defArgs s_p_is_atom) (defBody s_p_is_atom) (defScope s_p_is_atom) .none kV6 dc6 pm6 an6 cd6 ct6), sl6⟩)
    (c6 : PySem.W.codeIn K cd6 "is_atom" = true)
    (k6 : PySem.W.keepIn K (.ref f6) = true)
    (a7 : PySem.W.nsIn K mainGlobals "is_product" = some (some (.ref f7)))
    (l7 : K.lookup f7 = some ⟨oc7, od7, .func (PySem.W.fnOf "is_product" "is_product" (defArgs s_p_is_product) (defBody s_p_is_product) (defScope s_p_is_product) .none kV7 dc7 pm7 an7 cd7 ct7), sl7⟩)
    (c7 : PySem.W.codeIn K cd7 "is_product" = true)
    (k7 : PySem.W.keepIn K (.ref f7) = true)
    (a8 : PySem.W.nsIn K mainGlobals "check_product" = some (some (.ref f8)))
    (l8 : K.lookup f8 = some ⟨oc8, od8, .func (PySem.W.fnOf "check_product" "check_product" (defArgs s_p_check_product) (defBody s_p_check_product) (defScope s_p_check_product) .none kV8 dc8 pm8 an8 cd8 ct8), sl8⟩)
    (c8 : PySem.W.codeIn K cd8 "check_product" = true)
    (k8 : PySem.W.keepIn K (.ref f8) = true)
    (a9 : PySem.W.nsIn K mainGlobals "check_letter" = some (some (.ref f9)))
    (l9 : K.lookup f9 = some ⟨oc9, od9, .func (PySem.W.fnOf "check_letter" "check_letter" (defArgs s_p_check_letter) (defBody s_p_check_letter) (defScope s_p_check_letter) .none kV9 dc9 pm9 an9 cd9 ct9), sl9⟩)
    (c9 : PySem.W.codeIn K cd9 "check_letter" = true)
    (k9 : PySem.W.keepIn K (.ref f9) = true)
    (a10 : PySem.W.nsIn K mainGlobals "takes_in" = some (some (.ref f10)))
    (l10 : K.lookup f10 = some ⟨oc10, od10, .func (PySem.W.fnOf "takes_in" "takes_in" (defArgs s_p_takes_in) (defBody s_p_takes_in) (defScope s_p_takes_in) .none kV10 dc10 pm10 an10 cd10 ct10), sl10⟩)
    (c10 : PySem.W.codeIn K cd10 "takes_in" = true)
    (k10 : PySem.W.keepIn K (.ref f10) = true)
    (a11 : PySem.W.nsIn K mainGlobals "has_word" = some (some (.ref f11)))
    (l11 : K.lookup f11 = some ⟨oc11, od11, .func (PySem.W.fnOf "has_word" "has_word" (defArgs s_p_has_word) (defBody s_p_has_word) (defScope s_p_has_word) .none kV11 dc11 pm11 an11 cd11 ct11), sl11⟩)
    (c11 : PySem.W.codeIn K cd11 "has_word" = true)
    (k11 : PySem.W.keepIn K (.ref f11) = true)
    (a12 : PySem.W.nsIn K mainGlobals "holds" = some (some (.ref f12)))
    (l12 : K.lookup f12 = some ⟨oc12, od12, .func (PySem.W.fnOf "holds" "holds" (defArgs s_p_holds) (defBody s_p_holds) (defScope s_p_holds) .none kV12 dc12 pm12 an12 cd12 ct12), sl12⟩)
    (c12 : PySem.W.codeIn K cd12 "holds" = true)
    (k12 : PySem.W.keepIn K (.ref f12) = true)
    (a13 : PySem.W.nsIn K mainGlobals "lies_inside" = some (some (.ref f13)))
    (l13 : K.lookup f13 = some ⟨oc13, od13, .func (PySem.W.fnOf "lies_inside" "lies_inside" (defArgs s_p_lies_inside) (defBody s_p_lies_inside) (defScope s_p_lies_inside) .none kV13 dc13 pm13 an13 cd13 ct13), sl13⟩)
    (c13 : PySem.W.codeIn K cd13 "lies_inside" = true)
    (k13 : PySem.W.keepIn K (.ref f13) = true)
    (a14 : PySem.W.nsIn K mainGlobals "inside" = some (some (.ref f14)))
    (l14 : K.lookup f14 = some ⟨oc14, od14, .func (PySem.W.fnOf "inside" "inside" (defArgs s_p_inside) (defBody s_p_inside) (defScope s_p_inside) .none kV14 dc14 pm14 an14 cd14 ct14), sl14⟩)
    (c14 : PySem.W.codeIn K cd14 "inside" = true)
    (k14 : PySem.W.keepIn K (.ref f14) = true)
    (a15 : PySem.W.nsIn K mainGlobals "made_plain" = some (some (.ref f15)))
    (l15 : K.lookup f15 = some ⟨oc15, od15, .func (PySem.W.fnOf "made_plain" "made_plain" (defArgs s_p_made_plain) (defBody s_p_made_plain) (defScope s_p_made_plain) .none kV15 dc15 pm15 an15 cd15 ct15), sl15⟩)
    (c15 : PySem.W.codeIn K cd15 "made_plain" = true)
    (k15 : PySem.W.keepIn K (.ref f15) = true)
    (a16 : PySem.W.nsIn K mainGlobals "plain" = some (some (.ref f16)))
    (l16 : K.lookup f16 = some ⟨oc16, od16, .func (PySem.W.fnOf "plain" "plain" (defArgs s_p_plain) (defBody s_p_plain) (defScope s_p_plain) .none kV16 dc16 pm16 an16 cd16 ct16), sl16⟩)
    (c16 : PySem.W.codeIn K cd16 "plain" = true)
    (k16 : PySem.W.keepIn K (.ref f16) = true)
    (a17 : PySem.W.nsIn K mainGlobals "with_letter" = some (some (.ref f17)))
    (l17 : K.lookup f17 = some ⟨oc17, od17, .func (PySem.W.fnOf "with_letter" "with_letter" (defArgs s_p_with_letter) (defBody s_p_with_letter) (defScope s_p_with_letter) .none kV17 dc17 pm17 an17 cd17 ct17), sl17⟩)
    (c17 : PySem.W.codeIn K cd17 "with_letter" = true)
    (k17 : PySem.W.keepIn K (.ref f17) = true)
    (a18 : PySem.W.nsIn K mainGlobals "sent" = some (some (.ref f18)))
    (l18 : K.lookup f18 = some ⟨oc18, od18, .func (PySem.W.fnOf "sent" "sent" (defArgs s_p_sent) (defBody s_p_sent) (defScope s_p_sent) .none kV18 dc18 pm18 an18 cd18 ct18), sl18⟩)
    (c18 : PySem.W.codeIn K cd18 "sent" = true)
    (k18 : PySem.W.keepIn K (.ref f18) = true)
    (a19 : PySem.W.nsIn K mainGlobals "left_behind" = some (some (.ref f19)))
    (l19 : K.lookup f19 = some ⟨oc19, od19, .func (PySem.W.fnOf "left_behind" "left_behind" (defArgs s_p_left_behind) (defBody s_p_left_behind) (defScope s_p_left_behind) .none kV19 dc19 pm19 an19 cd19 ct19), sl19⟩)
    (c19 : PySem.W.codeIn K cd19 "left_behind" = true)
    (k19 : PySem.W.keepIn K (.ref f19) = true)
    (a20 : PySem.W.nsIn K mainGlobals "taken" = some (some (.ref f20)))
    (l20 : K.lookup f20 = some ⟨oc20, od20, .func (PySem.W.fnOf "taken" "taken" (defArgs s_p_taken) (defBody s_p_taken) (defScope s_p_taken) .none kV20 dc20 pm20 an20 cd20 ct20), sl20⟩)
    (c20 : PySem.W.codeIn K cd20 "taken" = true)
    (k20 : PySem.W.keepIn K (.ref f20) = true)
    (a21 : PySem.W.nsIn K mainGlobals "with_any" = some (some (.ref f21)))
    (l21 : K.lookup f21 = some ⟨oc21, od21, .func (PySem.W.fnOf "with_any" "with_any" (defArgs s_p_with_any) (defBody s_p_with_any) (defScope s_p_with_any) .none kV21 dc21 pm21 an21 cd21 ct21), sl21⟩)
    (c21 : PySem.W.codeIn K cd21 "with_any" = true)
    (k21 : PySem.W.keepIn K (.ref f21) = true)
    (a22 : PySem.W.nsIn K mainGlobals "swollen" = some (some (.ref f22)))
    (l22 : K.lookup f22 = some ⟨oc22, od22, .func (PySem.W.fnOf "swollen" "swollen" (defArgs s_p_swollen) (defBody s_p_swollen) (defScope s_p_swollen) .none kV22 dc22 pm22 an22 cd22 ct22), sl22⟩)
    (c22 : PySem.W.codeIn K cd22 "swollen" = true)
    (k22 : PySem.W.keepIn K (.ref f22) = true)
    (a23 : PySem.W.nsIn K mainGlobals "product_of" = some (some (.ref f23)))
    (l23 : K.lookup f23 = some ⟨oc23, od23, .func (PySem.W.fnOf "product_of" "product_of" (defArgs s_p_product_of) (defBody s_p_product_of) (defScope s_p_product_of) .none kV23 dc23 pm23 an23 cd23 ct23), sl23⟩)
    (c23 : PySem.W.codeIn K cd23 "product_of" = true)
    (k23 : PySem.W.keepIn K (.ref f23) = true)
    (a24 : PySem.W.nsIn K mainGlobals "product_text" = some (some (.ref f24)))
    (l24 : K.lookup f24 = some ⟨oc24, od24, .func (PySem.W.fnOf "product_text" "product_text" (defArgs s_p_product_text) (defBody s_p_product_text) (defScope s_p_product_text) .none kV24 dc24 pm24 an24 cd24 ct24), sl24⟩)
    (c24 : PySem.W.codeIn K cd24 "product_text" = true)
    (k24 : PySem.W.keepIn K (.ref f24) = true)
    (a25 : PySem.W.nsIn K mainGlobals "_law_bag" = some (some (.ref f25)))
    (l25 : K.lookup f25 = some ⟨oc25, od25, .func (PySem.W.fnOf "_law_bag" "_law_bag" (defArgs s_bag) (defBody s_bag) (defScope s_bag) .none kV25 dc25 pm25 an25 cd25 ct25), sl25⟩)
    (c25 : PySem.W.codeIn K cd25 "_law_bag" = true)
    (k25 : PySem.W.keepIn K (.ref f25) = true)
    (a26 : PySem.W.nsIn K mainGlobals "_law_pull" = some (some (.ref f26)))
    (l26 : K.lookup f26 = some ⟨oc26, od26, .func (PySem.W.fnOf "_law_pull" "_law_pull" (defArgs s_pull) (defBody s_pull) (defScope s_pull) .none kV26 dc26 pm26 an26 cd26 ct26), sl26⟩)
    (c26 : PySem.W.codeIn K cd26 "_law_pull" = true)
    (k26 : PySem.W.keepIn K (.ref f26) = true)
    (a27 : PySem.W.nsIn K mainGlobals "_law_of" = some (some (.ref f27)))
    (l27 : K.lookup f27 = some ⟨oc27, od27, .func (PySem.W.fnOf "_law_of" "_law_of" (defArgs s_of) (defBody s_of) (defScope s_of) .none kV27 dc27 pm27 an27 cd27 ct27), sl27⟩)
    (c27 : PySem.W.codeIn K cd27 "_law_of" = true)
    (k27 : PySem.W.keepIn K (.ref f27) = true)
    (a28 : PySem.W.nsIn K mainGlobals "_law_same" = some (some (.ref f28)))
    (l28 : K.lookup f28 = some ⟨oc28, od28, .func (PySem.W.fnOf "_law_same" "_law_same" (defArgs s_same) (defBody s_same) (defScope s_same) .none kV28 dc28 pm28 an28 cd28 ct28), sl28⟩)
    (c28 : PySem.W.codeIn K cd28 "_law_same" = true)
    (k28 : PySem.W.keepIn K (.ref f28) = true)
    (a29 : PySem.W.nsIn K mainGlobals "_law_letters" = some (some (.ref f29)))
    (l29 : K.lookup f29 = some ⟨oc29, od29, .func (PySem.W.fnOf "_law_letters" "_law_letters" (defArgs s_letters) (defBody s_letters) (defScope s_letters) .none kV29 dc29 pm29 an29 cd29 ct29), sl29⟩)
    (c29 : PySem.W.codeIn K cd29 "_law_letters" = true)
    (k29 : PySem.W.keepIn K (.ref f29) = true)
    (a30 : PySem.W.nsIn K mainGlobals "_law_refusal" = some (some (.ref f30)))
    (l30 : K.lookup f30 = some ⟨oc30, od30, .func (PySem.W.fnOf "_law_refusal" "_law_refusal" (defArgs s_refusal) (defBody s_refusal) (defScope s_refusal) .none kV30 dc30 pm30 an30 cd30 ct30), sl30⟩)
    (c30 : PySem.W.codeIn K cd30 "_law_refusal" = true)
    (k30 : PySem.W.keepIn K (.ref f30) = true)
    (a31 : PySem.W.nsIn K mainGlobals "_law_product" = some (some (.ref f31)))
    (l31 : K.lookup f31 = some ⟨oc31, od31, .func (PySem.W.fnOf "_law_product" "_law_product" (defArgs s_product) (defBody s_product) (defScope s_product) .none kV31 dc31 pm31 an31 cd31 ct31), sl31⟩)
    (c31 : PySem.W.codeIn K cd31 "_law_product" = true)
    (k31 : PySem.W.keepIn K (.ref f31) = true)
    (a32 : PySem.W.nsIn K mainGlobals "_law_bent_product" = some (some (.ref f32)))
    (l32 : K.lookup f32 = some ⟨oc32, od32, .func (PySem.W.fnOf "_law_bent_product" "_law_bent_product" (defArgs s_bent_product) (defBody s_bent_product) (defScope s_bent_product) .none kV32 dc32 pm32 an32 cd32 ct32), sl32⟩)
    (c32 : PySem.W.codeIn K cd32 "_law_bent_product" = true)
    (k32 : PySem.W.keepIn K (.ref f32) = true)
    (a33 : PySem.W.nsIn K mainGlobals "_law_atoms_good" = some (some (.ref f33)))
    (l33 : K.lookup f33 = some ⟨oc33, od33, .func (PySem.W.fnOf "_law_atoms_good" "_law_atoms_good" (defArgs s_atoms_good) (defBody s_atoms_good) (defScope s_atoms_good) .none kV33 dc33 pm33 an33 cd33 ct33), sl33⟩)
    (c33 : PySem.W.codeIn K cd33 "_law_atoms_good" = true)
    (k33 : PySem.W.keepIn K (.ref f33) = true)
    (a34 : PySem.W.nsIn K mainGlobals "law" = some (some (.ref f34)))
    (l34 : K.lookup f34 = some ⟨oc34, od34, .func (PySem.W.fnOf "law" "law" (defArgs s_law) (defBody s_law) (defScope s_law) .none kV34 dc34 pm34 an34 (.ref cC) ct34), sl34⟩)
    (c34 : PySem.W.codeIn K (.ref cC) "law" = true)
    (k34 : PySem.W.keepIn K (.ref f34) = true)
    (q0ti : PySem.W.typeIn K (.ref f0) = some (.type "function"))
    (q0fn : PySem.W.findCls K (.ref q0) (.type "type") "__init__" = some (.val (.ref f0)))
    (q0em : PySem.W.exmOne K (.ref q0) (.ref q0) = some true)
    (q1ti : PySem.W.typeIn K (.ref f1) = some (.type "function"))
    (q1fn : PySem.W.findCls K (.ref q1) (.type "type") "__init__" = some (.val (.ref f1)))
    (q1em : PySem.W.exmOne K (.ref q1) (.ref q0) = some true)
    (q2ti : PySem.W.typeIn K (.ref f2) = some (.type "function"))
    (q2fn : PySem.W.findCls K (.ref q2) (.type "type") "__init__" = some (.val (.ref f2)))
    (q2em : PySem.W.exmOne K (.ref q2) (.ref q0) = some true)
    (z0 : PySem.W.nsIn K mainGlobals "LookupError" = some none)
    (z1 : PySem.W.nsIn K mainGlobals "ValueError" = some none)
    (z2 : PySem.W.nsIn K mainGlobals "all" = some none)
    (z3 : PySem.W.nsIn K mainGlobals "bool" = some none)
    (z4 : PySem.W.nsIn K mainGlobals "enumerate" = some none)
    (z5 : PySem.W.nsIn K mainGlobals "int" = some none)
    (z6 : PySem.W.nsIn K mainGlobals "isinstance" = some none)
    (z7 : PySem.W.nsIn K mainGlobals "len" = some none)
    (z8 : PySem.W.nsIn K mainGlobals "list" = some none)
    (z9 : PySem.W.nsIn K mainGlobals "range" = some none)
    (z10 : PySem.W.nsIn K mainGlobals "set" = some none)
    (z11 : PySem.W.nsIn K mainGlobals "sorted" = some none)
    (z12 : PySem.W.nsIn K mainGlobals "str" = some none)
    (z13 : PySem.W.nsIn K mainGlobals "tuple" = some none)
    (z14 : PySem.W.nsIn K mainGlobals "zip" = some none)
    {u0 : Value}
    (d0 : PySem.W.nsIn K mainGlobals "LETTERS" = some (some u0))
    (e0 : RelV (V.str (PySem.Str.ofString "abcdefghijklmnopqrstuvwxyz")) u0)
    (kc1 : K.lookup cC = some ⟨eC, dC, .fields vC, sC⟩) (kc2 : vC[11]? = some (.ref PC)) (kc3 : K.lookup PC = none) (kc4 : PySem.W.codeHdIn K cC PC = true)
    (own : LamX.OwnTab K fa h) : LamX.LawAtS l w K CX0 13 63 "_law_script" mg fa h := by
  have e := hfa.symm.trans (PySem.W.mg_of X G a34)
  cases e
  have F0 : FunD K "__init__" "LeakError.__init__" (defArgs s_LeakError_init) (defBody s_LeakError_init) (defScope s_LeakError_init) [V.int (-1), V.str (PySem.Str.ofString "leakerror")] [] f0 _ := ⟨⟨oc0, od0, .ref td0, kV0, dc0, pm0, an0, cd0, ct0, sl0, rfl, l0, c0, .inr ⟨by simp, td0, _, _, nt0, rfl, t0, rfl, (.cons ⟨_, rfl⟩ (.cons ⟨_, rfl⟩ .nil))⟩, .inl rfl⟩, k0⟩
  obtain ⟨ds0_1, dv0_1, b0_1⟩ := F0.binds1 (ps := P_LeakError_init) 1 0 (by simp) rfl (fun _ _ _ _ _ _ _ us its h1 h2 => match us, its, h1, h2 with | [_], [_, _], _, _ => ⟨_, rfl, rfl⟩)
  obtain ⟨ds0_2, dv0_2, b0_2⟩ := F0.binds1 (ps := P_LeakError_init) 2 1 (by simp) rfl (fun _ _ _ _ _ _ _ us its h1 h2 => match us, its, h1, h2 with | [_, _], [_, _], _, _ => ⟨_, rfl, rfl⟩)
  obtain ⟨ds0_3, dv0_3, b0_3⟩ := F0.binds1 (ps := P_LeakError_init) 3 2 (by simp) rfl (fun _ _ _ _ _ _ _ us its h1 h2 => match us, its, h1, h2 with | [_, _, _], [_, _], _, _ => ⟨_, rfl, rfl⟩)
  have F1 : FunD K "__init__" "BadWord.__init__" (defArgs s_BadWord_init) (defBody s_BadWord_init) (defScope s_BadWord_init) [V.int (-1)] [] f1 _ := ⟨⟨oc1, od1, .ref td1, kV1, dc1, pm1, an1, cd1, ct1, sl1, rfl, l1, c1, .inr ⟨by simp, td1, _, _, nt1, rfl, t1, rfl, (.cons ⟨_, rfl⟩ .nil)⟩, .inl rfl⟩, k1⟩
  obtain ⟨ds1_1, dv1_1, b1_1⟩ := F1.binds1 (ps := P_BadWord_init) 1 0 (by simp) rfl (fun _ _ _ _ _ _ _ us its h1 h2 => match us, its, h1, h2 with | [_], [_], _, _ => ⟨_, rfl, rfl⟩)
  obtain ⟨ds1_2, dv1_2, b1_2⟩ := F1.binds1 (ps := P_BadWord_init) 2 1 (by simp) rfl (fun _ _ _ _ _ _ _ us its h1 h2 => match us, its, h1, h2 with | [_, _], [_], _, _ => ⟨_, rfl, rfl⟩)
  have F2 : FunD K "__init__" "BadAtom.__init__" (defArgs s_BadAtom_init) (defBody s_BadAtom_init) (defScope s_BadAtom_init) [V.int (-1)] [] f2 _ := ⟨⟨oc2, od2, .ref td2, kV2, dc2, pm2, an2, cd2, ct2, sl2, rfl, l2, c2, .inr ⟨by simp, td2, _, _, nt2, rfl, t2, rfl, (.cons ⟨_, rfl⟩ .nil)⟩, .inl rfl⟩, k2⟩
  obtain ⟨ds2_1, dv2_1, b2_1⟩ := F2.binds1 (ps := P_BadAtom_init) 1 0 (by simp) rfl (fun _ _ _ _ _ _ _ us its h1 h2 => match us, its, h1, h2 with | [_], [_], _, _ => ⟨_, rfl, rfl⟩)
  obtain ⟨ds2_2, dv2_2, b2_2⟩ := F2.binds1 (ps := P_BadAtom_init) 2 1 (by simp) rfl (fun _ _ _ _ _ _ _ us its h1 h2 => match us, its, h1, h2 with | [_, _], [_], _, _ => ⟨_, rfl, rfl⟩)
  have F3 := fun_mk (st := s_p_is_word) l3 c3 k3
  have b3 := F3.binds (ps := P_p_is_word) fun _ _ _ _ _ _ us hl => match us, hl with | [_], _ => rfl
  have F4 := fun_mk (st := s_p_is_letter) l4 c4 k4
  have b4 := F4.binds (ps := P_p_is_letter) fun _ _ _ _ _ _ us hl => match us, hl with | [_], _ => rfl
  have F5 := fun_mk (st := s_p_is_rising) l5 c5 k5
  have b5 := F5.binds (ps := P_p_is_rising) fun _ _ _ _ _ _ us hl => match us, hl with | [_], _ => rfl
  have F6 := fun_mk (st := s_p_is_atom) l6 c6 k6
  have b6 := F6.binds (ps := P_p_is_atom) fun _ _ _ _ _ _ us hl => match us, hl with | [_, _], _ => rfl
  have F7 := fun_mk (st := s_p_is_product) l7 c7 k7
  have b7 := F7.binds (ps := P_p_is_product) fun _ _ _ _ _ _ us hl => match us, hl with | [_], _ => rfl
  have F8 := fun_mk (st := s_p_check_product) l8 c8 k8
  have b8 := F8.binds (ps := P_p_check_product) fun _ _ _ _ _ _ us hl => match us, hl with | [_], _ => rfl
  have F9 := fun_mk (st := s_p_check_letter) l9 c9 k9
  have b9 := F9.binds (ps := P_p_check_letter) fun _ _ _ _ _ _ us hl => match us, hl with | [_], _ => rfl
  have F10 := fun_mk (st := s_p_takes_in) l10 c10 k10
  have b10 := F10.binds (ps := P_p_takes_in) fun _ _ _ _ _ _ us hl => match us, hl with | [_, _], _ => rfl
  have F11 := fun_mk (st := s_p_has_word) l11 c11 k11
  have b11 := F11.binds (ps := P_p_has_word) fun _ _ _ _ _ _ us hl => match us, hl with | [_, _], _ => rfl
  have F12 := fun_mk (st := s_p_holds) l12 c12 k12
  have b12 := F12.binds (ps := P_p_holds) fun _ _ _ _ _ _ us hl => match us, hl with | [_, _], _ => rfl
  have F13 := fun_mk (st := s_p_lies_inside) l13 c13 k13
  have b13 := F13.binds (ps := P_p_lies_inside) fun _ _ _ _ _ _ us hl => match us, hl with | [_, _], _ => rfl
  have F14 := fun_mk (st := s_p_inside) l14 c14 k14
  have b14 := F14.binds (ps := P_p_inside) fun _ _ _ _ _ _ us hl => match us, hl with | [_, _], _ => rfl
  have F15 := fun_mk (st := s_p_made_plain) l15 c15 k15
  have b15 := F15.binds (ps := P_p_made_plain) fun _ _ _ _ _ _ us hl => match us, hl with | [_], _ => rfl
  have F16 := fun_mk (st := s_p_plain) l16 c16 k16
  have b16 := F16.binds (ps := P_p_plain) fun _ _ _ _ _ _ us hl => match us, hl with | [_], _ => rfl
  have F17 := fun_mk (st := s_p_with_letter) l17 c17 k17
  have b17 := F17.binds (ps := P_p_with_letter) fun _ _ _ _ _ _ us hl => match us, hl with | [_, _], _ => rfl
  have F18 := fun_mk (st := s_p_sent) l18 c18 k18
  have b18 := F18.binds (ps := P_p_sent) fun _ _ _ _ _ _ us hl => match us, hl with | [_, _], _ => rfl
  have F19 := fun_mk (st := s_p_left_behind) l19 c19 k19
  have b19 := F19.binds (ps := P_p_left_behind) fun _ _ _ _ _ _ us hl => match us, hl with | [_, _], _ => rfl
  have F20 := fun_mk (st := s_p_taken) l20 c20 k20
  have b20 := F20.binds (ps := P_p_taken) fun _ _ _ _ _ _ us hl => match us, hl with | [_, _], _ => rfl
  have F21 := fun_mk (st := s_p_with_any) l21 c21 k21
  have b21 := F21.binds (ps := P_p_with_any) fun _ _ _ _ _ _ us hl => match us, hl with | [_, _], _ => rfl
  have F22 := fun_mk (st := s_p_swollen) l22 c22 k22
  have b22 := F22.binds (ps := P_p_swollen) fun _ _ _ _ _ _ us hl => match us, hl with | [_, _], _ => rfl
  have F23 := fun_mk (st := s_p_product_of) l23 c23 k23
  have b23 := F23.binds (ps := P_p_product_of) fun _ _ _ _ _ _ us hl => match us, hl with | [_], _ => rfl
  have F24 := fun_mk (st := s_p_product_text) l24 c24 k24
  have b24 := F24.binds (ps := P_p_product_text) fun _ _ _ _ _ _ us hl => match us, hl with | [_], _ => rfl
  have F25 := fun_mk (st := s_bag) l25 c25 k25
  have b25 := F25.binds (ps := P_bag) fun _ _ _ _ _ _ us hl => match us, hl with | [_], _ => rfl
  have F26 := fun_mk (st := s_pull) l26 c26 k26
  have b26 := F26.binds (ps := P_pull) fun _ _ _ _ _ _ us hl => match us, hl with | [_, _], _ => rfl
  have F27 := fun_mk (st := s_of) l27 c27 k27
  have b27 := F27.binds (ps := P_of) fun _ _ _ _ _ _ us hl => match us, hl with | [_, _], _ => rfl
  have F28 := fun_mk (st := s_same) l28 c28 k28
  have b28 := F28.binds (ps := P_same) fun _ _ _ _ _ _ us hl => match us, hl with | [_, _], _ => rfl
  have F29 := fun_mk (st := s_letters) l29 c29 k29
  have b29 := F29.binds (ps := P_letters) fun _ _ _ _ _ _ us hl => match us, hl with | [_], _ => rfl
  have F30 := fun_mk (st := s_refusal) l30 c30 k30
  have b30 := F30.binds (ps := P_refusal) fun _ _ _ _ _ _ us hl => match us, hl with | [_], _ => rfl
  have F31 := fun_mk (st := s_product) l31 c31 k31
  have b31 := F31.binds (ps := P_product) fun _ _ _ _ _ _ us hl => match us, hl with | [_, _, _], _ => rfl
  have F32 := fun_mk (st := s_bent_product) l32 c32 k32
  have b32 := F32.binds (ps := P_bent_product) fun _ _ _ _ _ _ us hl => match us, hl with | [_, _], _ => rfl
  have F33 := fun_mk (st := s_atoms_good) l33 c33 k33
  have b33 := F33.binds (ps := P_atoms_good) fun _ _ _ _ _ _ us hl => match us, hl with | [_], _ => rfl
  have F34 := fun_mk (st := s_law) l34 c34 k34
  have b34 := F34.binds (ps := P_law) fun _ _ _ _ _ _ us hl => match us, hl with | [_], _ => rfl
  have hTab := own cC PC _ _ _ _ _ _ l34 rfl rfl kc1 kc2
  refine ⟨PySem.W.fnOf "law" "law" (defArgs s_law) (defBody s_law) (defScope s_law) .none kV34 dc34 pm34 an34 (.ref cC) ct34, [(cC, PC)], sp_law K PC, ?_, ?_, ?_, fun s v => .of_eq rfl, ?_, fun base _ _ TB => ok_law_at ⟨q0, PySem.W.mg_of X G q0C, q1, PySem.W.mg_of X G q1C, q2, PySem.W.mg_of X G q2C, _, _, F0, ds0_1, dv0_1, b0_1, ds0_2, dv0_2, b0_2, ds0_3, dv0_3, b0_3, _, _, F1, ds1_1, dv1_1, b1_1, ds1_2, dv1_2, b1_2, _, _, F2, ds2_1, dv2_1, b2_1, ds2_2, dv2_2, b2_2, _, _, F3, b3, PySem.W.mg_of X G a3, _, _, F4, b4, PySem.W.mg_of X G a4, _, _, F5, b5, PySem.W.mg_of X G a5, _, _, F6, b6, PySem.W.mg_of X G a6, _, _, F7, b7, PySem.W.mg_of X G a7, _, _, F8, b8, PySem.W.mg_of X G a8, _, _, F9, b9, PySem.W.mg_of X G a9, _, _, F10, b10, PySem.W.mg_of X G a10, _, _, F11, b11, PySem.W.mg_of X G a11, _, _, F12, b12, PySem.W.mg_of X G a12, _, _, F13, b13, PySem.W.mg_of X G a13, _, _, F14, b14, PySem.W.mg_of X G a14, _, _, F15, b15, PySem.W.mg_of X G a15, _, _, F16, b16, PySem.W.mg_of X G a16, _, _, F17, b17, PySem.W.mg_of X G a17, _, _, F18, b18, PySem.W.mg_of X G a18, _, _, F19, b19, PySem.W.mg_of X G a19, _, _, F20, b20, PySem.W.mg_of X G a20, _, _, F21, b21, PySem.W.mg_of X G a21, _, _, F22, b22, PySem.W.mg_of X G a22, _, _, F23, b23, PySem.W.mg_of X G a23, _, _, F24, b24, PySem.W.mg_of X G a24, _, _, F25, b25, PySem.W.mg_of X G a25, _, _, F26, b26, PySem.W.mg_of X G a26, _, _, F27, b27, PySem.W.mg_of X G a27, _, _, F28, b28, PySem.W.mg_of X G a28, _, _, F29, b29, PySem.W.mg_of X G a29, _, _, F30, b30, PySem.W.mg_of X G a30, _, _, F31, b31, PySem.W.mg_of X G a31, _, _, F32, b32, PySem.W.mg_of X G a32, _, _, F33, b33, PySem.W.mg_of X G a33, _, _, F34, b34, PySem.W.mg_of X G a34, ⟨⟨_, _, _, _, _, _, _, _, _, _, _, _, _, _, _, q0XX, rfl⟩, q0sa, q0ec, q0ty, q0kc⟩, a0, q0ti, ⟨q0rd, q0ga, q0fn, k0⟩, ⟨q0x1, q0x2, q0x3, q0ec, q0x5, q0x6, q0x7, q0x8, q0x9⟩, q0nw, q0na, q0em, q0kv, q0kl, ⟨⟨_, _, _, _, _, _, _, _, _, _, _, _, _, _, _, q1XX, rfl⟩, q1sa, q1ec, q1ty, q1kc⟩, a1, q1ti, ⟨q1rd, q1ga, q1fn, k1⟩, ⟨q1x1, q1x2, q1x3, q1ec, q1x5, q1x6, q1x7, q1x8, q1x9⟩, q1nw, q1na, q1em, q1kv, q1kl, ⟨⟨_, _, _, _, _, _, _, _, _, _, _, _, _, _, _, q2XX, rfl⟩, q2sa, q2ec, q2ty, q2kc⟩, a2, q2ti, ⟨q2rd, q2ga, q2fn, k2⟩, ⟨q2x1, q2x2, q2x3, q2ec, q2x5, q2x6, q2x7, q2x8, q2x9⟩, q2nw, q2na, q2em, q2kv, q2kl, vV, PySem.W.mg_none_of X G z0, PySem.W.mg_none_of X G z1, PySem.W.mg_none_of X G z2, PySem.W.mg_none_of X G z3, PySem.W.mg_none_of X G z4, PySem.W.mg_none_of X G z5, PySem.W.mg_none_of X G z6, PySem.W.mg_none_of X G z7, PySem.W.mg_none_of X G z8, PySem.W.mg_none_of X G z9, PySem.W.mg_none_of X G z10, PySem.W.mg_none_of X G z11, PySem.W.mg_none_of X G z12, PySem.W.mg_none_of X G z13, PySem.W.mg_none_of X G z14, _, PySem.W.mg_of X G d0, e0⟩ (TB _ List.mem_cons_self) rfl⟩
  · intro p hp; rw [List.mem_singleton.mp hp]; exact hTab
  · intro p hp; rw [List.mem_singleton.mp hp]; exact kc3
  · intro p hp; rw [List.mem_singleton.mp hp]; exact PySem.W.codeHd_of_K X kc4
  · intro H a ns hl _ hT hS; exact ⟨a, ns, rfl, hS, hl, hT (cC, PC) List.mem_cons_self, fun _ => rfl⟩
end K29
theorem PySem.Challenge.cw_leakpost_k29_which_are_products_holds : PySem.Challenge.rw_leakpost_k29_which_are_products.Holds :=
  fin_of @K29.all_mk
