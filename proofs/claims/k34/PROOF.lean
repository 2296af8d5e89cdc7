import PyProof.Rows.All
import Wide.All
import OpenK.AllK
import Wide.FinOn
import HandS.ForMost
import HandS.Walk
import HandS.Zip
import HandS.IsInst
import HandS.StrMore
import HandS.Evl
import HandS.Style
import HandS.More
import HandS.Defaults
import HandS.WordsExc
import HandS.FStr
import HandS.Codes
import HandS.EndOwn
import KE.KExcIs
import HandS.ExcInit
import HandS.ExcField
import HandS.ExcIs
import HandS.Lambda
import HandS.Deep
import HandS.Text
import PyProof.StrLawsChain
import PyProof.P3In
import HandS.Set
import HandS.SetFor
import HandS.SetTxt0
import HandS.TupSets
import PyProof.Rows.SortShellAny
import PyProof.StrWalks
import HandS.TupMul
import HandS.TupAny
import PyProof.ListStr
import KE.KRevSl
import PySem.Challenge.RW_leakpost_k34_products_written_and_read
set_option Elab.async false
set_option linter.all false
set_option maxRecDepth 100000

namespace LB
open PySem PySem.Spec PyProof.Rows L2
/-! ### the bag of draws: a list of five at b, its cells at s -/
def bagL (s : Addr) (i r sd c : Int) : HO := .lst [.ref s, .int i, .int r, .int sd, .int c]
def Bag (b s : Addr) (H : Hp) : Prop := s ≠ b ∧ ∃ (ns : List Int) (i r sd c : Int), H b = some (bagL s i r sd c) ∧ H s = some (.lst (ns.map V.int)) ∧ ns.length ≤ 63 ∧ 0 ≤ i
/-- all but the bag is as it was -/
structure BX (b s : Addr) (H H' : Hp) : Prop where
  bag : Bag b s H'
  keep : ∀ a o, a ≠ b → H a = some o → H' a = some o
section
variable {b s p a : Addr} {H H' H'' : Hp} {o : HO} {K : PySem.W.Frag}
theorem Bag.nb (h : Bag b s H) (n : H p = none) : p ≠ b := by
  obtain ⟨_, ns, i, r, sd, c, e, _⟩ := h
  exact (ne_of_none e n).symm
theorem Bag.ns (h : Bag b s H) (n : H p = none) : p ≠ s := by
  obtain ⟨_, ns, i, r, sd, c, _, e, _⟩ := h
  exact (ne_of_none e n).symm
theorem BX.refl (h : Bag b s H) : BX b s H H := ⟨h, fun _ _ _ e => e⟩
theorem BX.trans (x : BX b s H H') (y : BX b s H' H'') : BX b s H H'' := ⟨y.bag, fun a o n e => y.keep a o n (x.keep a o n e)⟩
theorem Bag.same (h : Bag b s H) (x : Same H H') : Bag b s H' := by
  obtain ⟨n, ns, i, r, sd, c, e1, e2, l⟩ := h
  exact ⟨n, ns, i, r, sd, c, x _ _ e1, x _ _ e2, l⟩
theorem BX.same (h : Bag b s H) (x : Same H H') : BX b s H H' := ⟨h.same x, fun a o _ e => x a o e⟩
theorem BX.andSame (h : BX b s H H') (x : Same H' H'') : BX b s H H'' := h.trans (.same h.bag x)
theorem same_new (h : H p = none) : Same H (upd H p o) := fun c x e => by
  rw [upd_ne (ne_of_none e h)]
  exact e
theorem BX.new (h : Bag b s H) (n : H p = none) : BX b s H (upd H p o) := .same h (same_new n)
theorem BX.mut (x : BX b s H H') (h : Bag b s H) (n : H p = none) : BX b s H (upd H' p o) := by
  have n1 := h.nb n
  have n2 := h.ns n
  obtain ⟨ne, ns, i, r, sd, c, e1, e2, l⟩ := x.bag
  refine ⟨⟨ne, ns, i, r, sd, c, ?_, ?_, l⟩, fun a o na e => ?_⟩
  · rw [upd_ne n1.symm]; exact e1
  · rw [upd_ne n2.symm]; exact e2
  · rw [upd_ne (ne_of_none e n)]; exact x.keep a o na e
theorem BX.back (x : BX b s H H') (n : H' p = none) : H p = none := by
  cases e : H p with
  | none => rfl
  | some o =>
    by_cases hb : p = b
    · exact absurd hb (x.bag.nb n)
    · rw [x.keep p o hb e] at n
      cases n
theorem same_mut (x : Same H H') (n : H p = none) : Same H (upd H' p o) := fun a u e => by
  rw [upd_ne (ne_of_none e n)]
  exact x a u e
/-- an object that is not the bag -/
def At (b : Addr) (H : Hp) (a : Addr) (o : HO) : Prop := a ≠ b ∧ H a = some o
theorem At.mv (h : At b H a o) (x : BX b s H H') : At b H' a o := ⟨h.1, x.keep a o h.1 h.2⟩
theorem At.new (h : Bag b s H) (n : H p = none) : At b (upd H p o) p o := ⟨h.nb n, upd_same⟩
theorem At.l {xs : List V} (h : At b H a (.lst xs)) : SqL K H a xs := .of h.2
theorem At.t {xs : List V} (h : At b H a (.tup xs)) : SqT K H a xs := .of h.2
/-- xs[i] of a list, by values: for xs[i] op= e -/
theorem get_list {X : Cx} : PGet X (rIxL X.K) := by
  intro pins s σ H o i ov iv Q I ro ri h
  obtain ⟨p, xs, k, z, rfl, rfl, hq, he, q⟩ := h
  cases ro
  obtain ⟨t, rfl⟩ := ri
  obtain ⟨its, r, pl, hz⟩ := I.list hq
  obtain ⟨j, h1, h2, h3, h4, h5⟩ := atI_get he
  obtain ⟨w, ew, rw'⟩ := r.get h2
  have hl := r.length
  have hn := line63
  have fin : EP X pins σ Q w s := ⟨z, H, I, rw', q⟩
  by_cases h0 : 0 ≤ k
  · have hj : k.toNat = j := by
      rw [seqIndex_of h0 h5] at h1
      exact Option.some.inj h1
    exact wpAny_getItem_list pl.isList h0 (by omega) (by rw [hj]; simpa using ew) fin
  · have hj : (k + (its.toArray.size : Int)).toNat = j := by
      rw [seqIndex_neg (by omega) h4] at h1
      rw [List.size_toArray, ← hl]
      exact Option.some.inj h1
    exact wpAny_getItem_list_neg pl.isList (by omega) (by rw [List.size_toArray] <;> omega) (by omega) (by rw [hj]; simpa using ew) fin
end
theorem fmul (c : Int) (h : -(2 ^ 64) < c ∧ c < 2 ^ 64) (i : Int) : CMul i c := .inr h
theorem cut_take (xs : List V) (k : Nat) : cutV xs none (some (k : Int)) = xs.take k := by
  unfold cutV
  rw [HT.sIx_none, HT.sIx_nat]
  show (xs.drop 0).take (min k xs.length - 0) = xs.take k
  rw [List.drop_zero, Nat.sub_zero]
  by_cases h : k ≤ xs.length
  · rw [Nat.min_eq_left h]
  · rw [Nat.min_eq_right (by omega), List.take_length, List.take_of_length_le (by omega)]

theorem cut_takeI (xs : List V) {k : Int} (h : 0 ≤ k) : cutV xs none (some k) = xs.take k.toNat := by
  obtain ⟨n, rfl⟩ := Int.eq_ofNat_of_zero_le h
  exact cut_take xs n
/-! ### texts by their signs -/
abbrev sg (c : Nat) : Str := ⟨#[c]⟩
abbrev tx (l : List Nat) : Str := ⟨l.toArray⟩
theorem tx_app (a b : List Nat) : tx a ++ tx b = tx (a ++ b) := by
  show (⟨a.toArray ++ b.toArray⟩ : Str) = _
  rw [List.append_toArray]
theorem tx_len (a : List Nat) : (tx a).length = a.length := by
  show a.toArray.size = _
  rw [List.size_toArray]
theorem tx_cps (a : List Nat) : (tx a).cps.toList = a := rfl
theorem tx_of (z : Str) : z = tx z.cps.toList := by
  cases z
  rfl
theorem join_sg (cs : List Nat) : Txt.join (Str.ofString "") (cs.map sg) = tx cs := by
  show Builtin.Str.glued _ _ = _
  rw [StrLaws.glued_eq_join, show Str.ofString "" = (tx [] : Str) from by decide +kernel]
  induction cs with
  | nil => rfl
  | cons c r ih =>
    cases r with
    | nil => rfl
    | cons d t =>
      show sg c ++ tx [] ++ Str.join (tx []) ((d :: t).map sg) = _
      rw [ih, show sg c = tx [c] from rfl, tx_app, tx_app]
      rfl
theorem join_tx (ls : List (List Nat)) : Txt.join (Str.ofString "") (ls.map tx) = tx ls.flatten := by
  show Builtin.Str.glued _ _ = _
  rw [StrLaws.glued_eq_join, show Str.ofString "" = (tx [] : Str) from by decide +kernel]
  induction ls with
  | nil => rfl
  | cons c r ih =>
    cases r with
    | nil => simp [Str.join]
    | cons d t =>
      show tx c ++ tx [] ++ Str.join (tx []) ((d :: t).map tx) = _
      rw [ih, tx_app, tx_app]
      simp
theorem ones_sum (cs : List Nat) : ((cs.map sg).map (·.length)).sum = cs.length := by
  induction cs with
  | nil => rfl
  | cons c r ih =>
    rw [List.map_cons, List.map_cons, List.sum_cons, ih, List.length_cons]
    show 1 + r.length = _
    omega
abbrev alphabet : Str := Str.ofString "abcdefghijklmnopqrstuvwxyz"
theorem alpha_at {i : Int} (h0 : 0 ≤ i) (h1 : i < 26) : atI alphabet.cps.toList i = some (i.toNat + 97) := by
  obtain ⟨k, rfl⟩ := Int.eq_ofNat_of_zero_le h0
  have hk : k < 26 := by omega
  have all : ∀ j : Fin 26, atI alphabet.cps.toList ((j.val : Nat) : Int) = some (j.val + 97) := by decide +kernel
  exact all ⟨k, hk⟩
theorem alpha_codes : alphabet.cps.toList = (List.range 26).map (· + 97) := by decide +kernel
/-- the k-th of the letters drawn by (first, step) -/
def lett (f b : Int) (k : Nat) : Nat := ((f + b * (k : Int)) % 26).toNat + 97
theorem mem_get {α : Type} {xs : List α} {i : Int} {n : Nat} (hn : n = xs.length) (h0 : 0 ≤ i) (h1 : i < (n : Int)) : ∃ x, x ∈ xs ∧ atI xs i = some x := by
  obtain ⟨k, rfl⟩ := Int.eq_ofNat_of_zero_le h0
  have hk : k < xs.length := by omega
  exact ⟨xs[k], List.getElem_mem hk, atI_nat (List.getElem?_eq_getElem hk)⟩
/-! ### the same data, up to a depth -/
def flat1 : V → Bool
  | .non => true
  | .bl _ => true
  | .int _ => true
  | .str _ => true
  | _ => false
def Sam (K : PySem.W.Frag) (H : Hp) : Nat → V → V → Prop
  | 0, v, w => flat1 v = true ∧ v = w
  | n + 1, v, w => (flat1 v = true ∧ v = w) ∨ ∃ a c xs ys, v = .ref a ∧ w = .ref c ∧ ((H a = some (.lst xs) ∧ H c = some (.lst ys)) ∨ (H a = some (.tup xs) ∧ H c = some (.tup ys))) ∧ xs.length < 100000 ∧ Paired (Sam K H n) xs ys
theorem Sam.flat {K : PySem.W.Frag} {H : Hp} {v : V} (n : Nat) (h : flat1 v = true) : Sam K H n v v := by
  cases n with
  | zero => exact ⟨h, rfl⟩
  | succ n => exact .inl ⟨h, rfl⟩
theorem Sam.mono {K : PySem.W.Frag} {H H' : Hp} (x : Same H H') : ∀ {n : Nat} {v w : V}, Sam K H n v w → Sam K H' n v w
  | 0, _, _, h => h
  | n + 1, _, _, h => by
    rcases h with h | ⟨a, c, xs, ys, e1, e2, h, hz, p⟩
    · exact .inl h
    · refine .inr ⟨a, c, xs, ys, e1, e2, ?_, hz, Paired.mapP p fun _ _ q => Sam.mono x q⟩
      rcases h with ⟨h1, h2⟩ | ⟨h1, h2⟩
      · exact .inl ⟨x _ _ h1, x _ _ h2⟩
      · exact .inr ⟨x _ _ h1, x _ _ h2⟩
theorem paired_get {α β : Type} {F : α → β → Prop} : ∀ {xs : List α} {ys : List β} {i : Nat} {x : α} {y : β}, Paired F xs ys → xs[i]? = some x → ys[i]? = some y → F x y
  | _, _, _, _, _, .nil, h, _ => by simp at h
  | _, _, 0, _, _, .cons r _, h, h' => by
    simp at h h'
    subst h h'
    exact r
  | _, _, i + 1, _, _, .cons _ t, h, h' => paired_get (i := i) t (by simpa using h) (by simpa using h')
theorem sam_lst {K : PySem.W.Frag} {H : Hp} {n : Nat} {a c : Addr} {xs ys : List V} (h1 : H a = some (.lst xs)) (h2 : H c = some (.lst ys)) (hz : xs.length < 100000) (p : Paired (Sam K H n) xs ys) : Sam K H (n + 1) (.ref a) (.ref c) :=
  .inr ⟨a, c, xs, ys, rfl, rfl, .inl ⟨h1, h2⟩, hz, p⟩
theorem sam_tup {K : PySem.W.Frag} {H : Hp} {n : Nat} {a c : Addr} {xs ys : List V} (h1 : H a = some (.tup xs)) (h2 : H c = some (.tup ys)) (hz : xs.length < 100000) (p : Paired (Sam K H n) xs ys) : Sam K H (n + 1) (.ref a) (.ref c) :=
  .inr ⟨a, c, xs, ys, rfl, rfl, .inr ⟨h1, h2⟩, hz, p⟩
theorem paired_flat {K : PySem.W.Frag} {H : Hp} {n : Nat} : ∀ {xs : List V}, (∀ x ∈ xs, flat1 x = true) → Paired (Sam K H n) xs xs
  | [], _ => .nil
  | x :: r, h => .cons (.flat n (h x (by simp))) (paired_flat fun y hy => h y (by simp [hy]))
theorem kit_seq {K : PySem.W.Frag} {t : String} (h1 : kitB t "list" = some false) (h2 : kitB t "tuple" = some false) : PySem.W.kitAny K (.type t) [.type "list", .type "tuple"] = some false :=
  kitAny_cons (b := false) (kit_ty h1) (fun _ => kitAny_cons (b := false) (kit_ty h2) (fun _ => kitAny_nil) (fun z => nomatch z)) (fun z => nomatch z)
theorem kit_lst {K : PySem.W.Frag} : PySem.W.kitAny K (.type "list") [.type "list", .type "tuple"] = some true :=
  kitAny_cons (b := true) (kit_ty (by decide +kernel)) (fun z => nomatch z) (fun _ => rfl)
theorem kit_tup {K : PySem.W.Frag} : PySem.W.kitAny K (.type "tuple") [.type "list", .type "tuple"] = some true :=
  kitAny_cons (b := false) (kit_ty (by decide +kernel)) (fun _ => kitAny_cons (b := true) (kit_ty (by decide +kernel)) (fun z => nomatch z) (fun _ => rfl)) (fun z => nomatch z)
theorem kit_cls : Paired ClsV [V.ty "list", V.ty "tuple"] [.type "list", .type "tuple"] := .cons (.ty "list") (.cons (.ty "tuple") .nil)
theorem walk_zipT {K : PySem.W.Frag} {a b : Addr} {xs ys : List V} {n : Nat} (hn : n = min xs.length ys.length) : Walk (RZ.ItzT K a b) n (fun H => SqT K H a xs ∧ SqT K H b ys) (YPair (fun i => xs[i]?) (fun i => ys[i]?)) := by
  subst hn
  refine ⟨fun i _ hi q => ?_, fun _ q => ⟨xs, ys, q.1, q.2, by omega⟩, fun i H v H' _ q y => ?_⟩
  · have u1 : i < xs.length := Nat.lt_of_lt_of_le hi (Nat.min_le_left _ _)
    have u2 : i < ys.length := Nat.lt_of_lt_of_le hi (Nat.min_le_right _ _)
    exact ⟨xs, ys, xs[i], ys[i], q.1, q.2, List.getElem?_eq_getElem u1, List.getElem?_eq_getElem u2⟩
  · obtain ⟨T, x, z, g1, g2, g3, g4, g5⟩ := y
    exact ⟨T, x, z, g1, g2, g3, g4 xs q.1, g5 ys q.2⟩
/-- a comprehension whose element gives True at each turn, made beside objects that stay -/
theorem paired_len {α β : Type} {F : α → β → Prop} {xs : List α} {ys : List β} (p : Paired F xs ys) : xs.length = ys.length := Paired.length p
/-! ### f(k = v, ..): keywords alone -/
def tCallK0 (sp : Sp) (gV : List V → List V → List V) (E : XK) (tk : TA) : TE := fun σ H Q => tk σ H fun zs H2 => sp (gV [] zs) H2 Q E
theorem pe_callK0 {X : Cx} {CX : CXT} {k : Nat} {f : Addr} {fd : FuncData} {ps ks : List Str} {sp : Sp} {E : XK} {x : Str} {p pos : Pos} {kws : List Keyword} {tk : TA} {g : List Value → List Value → List Value} {gV : List V → List V → List V}
    (F : FnOk X.prog X.w X.K X.mg X.base CX k f fd ps sp) (hr : Room k X.A) (hg : Gl X x) (hm : X.mg x = some (.ref f)) (kp : PySem.W.keepIn X.K (.ref f) = true) (hb : KBinds X.K fd ps ks g gV) (hx : Passes CX X E)
    (hkw : PK X kws tk) (hall : (backToKw pos (keywordEach kws X.env)).all (·.1.isSome) = true := by rfl) (hks : (backToKw pos (keywordEach kws X.env)).filterMap (·.1) = ks := by rfl)
    (hdb : (x == ("__debug__" : Str)) = false := by decide) (hpl : ((backTo pos (starEach [] X.env)).any (·.1) || (backToKw pos (keywordEach kws X.env)).any (·.1.isNone)) = false := by rfl) :
    PE X (.Call (.Name x p) [] kws pos) (tCallK0 sp gV E tk) := by
  refine ⟨fun pins s σ H Q I h => ?_⟩
  refine wpAny_Call_Name_kw (ld_glob I hg hm ?_ hdb)
  refine PySem.W.callWith_KW0 (h₀ := X.base) I.ok.mod.kin kp hall ?_ hpl
  refine thn (hkw.run pos pins s σ H _ I h) fun ws s2 ⟨zs, H2, I2, rz, q2⟩ => ⟨I2.kIn, ?_⟩
  rw [hks]
  exact run_fnk F hr hb hx I2 .nil rz q2
/-! ### lists of texts as data: for == and != -/
def txsD (ls : List (List Nat)) : List PyData := ls.map fun l => PyData.str (tx l)
theorem strOk_tx {l : List Nat} (h : ∀ c ∈ l, c < 128) : PyData.strOk (tx l) = true := by
  unfold PyData.strOk
  rw [Array.all_eq_true_iff_forall_mem]
  intro c hc
  have := h c (by simpa using hc)
  exact decide_eq_true (by omega)
theorem txs_lay : ∀ {ls : List (List Nat)}, (∀ l ∈ ls, ∀ c ∈ l, c < 128) → PyData.canLayAll0 (txsD ls) = true
  | [], _ => rfl
  | l :: r, h => by
    show (PyData.canLay0 (.str (tx l)) && PyData.canLayAll0 (txsD r)) = true
    rw [txs_lay fun x hx => h x (by simp [hx]), Bool.and_true]
    exact strOk_tx (h l (by simp))
theorem txs_depth : ∀ ls : List (List Nat), PyData.depthAll (txsD ls) = 0
  | [] => rfl
  | l :: r => by
    show max (PyData.depth (.str (tx l))) (PyData.depthAll (txsD r)) = 0
    rw [txs_depth r]
    rfl
theorem txs_shaped {ls : List (List Nat)} (h : ∀ l ∈ ls, ∀ c ∈ l, c < 128) : SeqAt.shaped (.list (txsD ls)) = true := by
  unfold SeqAt.shaped
  rw [show PyData.canLay0 (.list (txsD ls)) = PyData.canLayAll0 (txsD ls) from rfl, txs_lay h, show PyData.depth (.list (txsD ls)) = PyData.depthAll (txsD ls) + 1 from rfl, txs_depth]
  rfl
theorem txs_dp {K : PySem.W.Frag} {H : Hp} : ∀ ls : List (List Nat), DpAll K H (ls.map fun l => V.str (tx l)) (txsD ls)
  | [] => .nil
  | l :: r => .cons (.str _) (txs_dp r)
theorem txs_nil (ls : List (List Nat)) : PyData.eqv (.list (txsD ls)) (.list []) = ls.isEmpty := by
  cases ls with
  | nil => rfl
  | cons l r => rfl
/-- an expression that gives v and leaves the heap -/
theorem pu_use {te : TE} {σ : L2.St} {H : Hp} {Q : VK} (v : V) (h : ∀ Q' : VK, Q' v H → te σ H Q') (q : Q v H) : te σ H Q := h Q q
theorem cutS_drop (zs : List Nat) (k : Nat) : cutS (tx zs) (some (k : Int)) none = tx (zs.drop k) := by
  unfold cutS
  rw [tx_len, HT.sIx_nat, HT.sIx_none, tx_cps]
  show tx _ = tx _
  congr 1
  by_cases h : k ≤ zs.length
  · rw [Nat.min_eq_left h]
    exact List.take_of_length_le (by rw [List.length_drop]; omega)
  · rw [Nat.min_eq_right (by omega), List.drop_of_length_le (Nat.le_refl _), List.drop_of_length_le (by omega), List.take_nil]
theorem cutS_take (zs : List Nat) (k : Nat) : cutS (tx zs) none (some (k : Int)) = tx (zs.take k) := by
  unfold cutS
  rw [tx_len, HT.sIx_nat, HT.sIx_none, tx_cps]
  show tx _ = tx _
  congr 1
  rw [List.drop_zero, Nat.sub_zero]
  by_cases h : k ≤ zs.length
  · rw [Nat.min_eq_left h]
  · rw [Nat.min_eq_right (by omega), List.take_length, List.take_of_length_le (by omega)]
/-! ### sep.join(xs) within a comprehension -/
def rJoin (K : PySem.W.Frag) : V → List V → Hp → VK → Prop := fun x vs H Q => ∃ sep lst, ∃ ts : List Str, x = .str sep ∧ vs = [.ref lst] ∧ (SqL K H lst (ts.map V.str) ∨ SqT K H lst (ts.map V.str)) ∧
  (ts.map (·.length)).sum + ts.length * sep.length ≤ 16777216 ∧ Q (.str (Txt.join sep ts)) H
theorem pe_joinK {X : Cx} {K : PySem.W.Frag} {o e : Expr} {to te : TE} {apos pos : Pos} (ho : PE X o to) (he : PE X e te) (hK : X.K = K := by rfl) (h1 : starEach [e] X.env = [(false, eval e X.env)] := by rfl)
    (h2 : attributeBase o "join" X.env (eval o X.env) = eval o X.env := by rfl) (h3 : (apos.endLine == pos.line) = true := by rfl) : PE X (.Call (.Attribute o "join" apos) [e] [] pos) (tM1 (rJoin K) to te) := by
  subst hK
  exact pe_join ho he h1 h2 h3
end LB

namespace LB
open PySem PySem.Spec PyProof.Rows L2
/-! ### the first place of a sign from a place on -/
def fnd (c : Nat) : List Nat → Nat → Option Nat
  | [], _ => none
  | x :: r, k => if x = c then some k else fnd c r (k + 1)
theorem occ_stay (s sub : Str) (hi : Nat) : ∀ (l : List Nat) (st : Array Nat × Nat), 1 ≤ st.fst.size → (forIn l st (StrLaws.occBody s sub hi 1)).run = st
  | [], st, h => rfl
  | a :: l, st, h => by
    rw [List.forIn_cons]
    have c : ¬ (((st.fst.size < 1 ∧ st.snd ≤ a) ∧ a + sub.length ≤ hi) ∧ Builtin.Str.subAt s sub a = true) := fun z => by
      have := z.1.1.1
      omega
    unfold StrLaws.occBody
    rw [if_neg c]
    exact occ_stay s sub hi l st h
theorem occ_fnd (g : List Nat) (c : Nat) : ∀ (n k free : Nat), free ≤ k → k + n = g.length + 1 →
    (forIn (List.range' k n) ((#[] : Array Nat), free) (StrLaws.occBody (tx g) (sg c) (tx g).length 1)).run.fst.toList = (fnd c (g.drop k) k).toList
  | 0, k, free, hf, hn => by
    rw [List.drop_of_length_le (by omega)]
    rfl
  | n + 1, k, free, hf, hn => by
    rw [List.range'_succ, List.forIn_cons]
    have one := StrLaws.subAt_one (tx g) c k
    rw [tx_cps] at one
    by_cases hc : g[k]? = some c
    · have c1 : (((((#[] : Array Nat), free).fst.size < 1 ∧ ((#[] : Array Nat), free).snd ≤ k) ∧ k + (sg c).length ≤ (tx g).length) ∧ Builtin.Str.subAt (tx g) (sg c) k = true) :=
        ⟨⟨⟨by simp, hf⟩, (one.mpr hc).1⟩, (one.mpr hc).2⟩
      obtain ⟨hlt, e⟩ := List.getElem?_eq_some_iff.mp hc
      rw [List.drop_eq_getElem_cons hlt, e]
      have e1 : StrLaws.occBody (tx g) (sg c) (tx g).length 1 k ((#[] : Array Nat), free) = pure (ForInStep.yield (#[k], k + (sg c).length)) := by
        unfold StrLaws.occBody
        rw [if_pos c1]
        rfl
      rw [e1]
      show (forIn (List.range' (k + 1) n) ((#[k] : Array Nat), k + (sg c).length) (StrLaws.occBody (tx g) (sg c) (tx g).length 1)).run.fst.toList = _
      rw [occ_stay _ _ _ _ _ (by simp)]
      simp [fnd]
    · have c2 : ¬ (((((#[] : Array Nat), free).fst.size < 1 ∧ ((#[] : Array Nat), free).snd ≤ k) ∧ k + (sg c).length ≤ (tx g).length) ∧ Builtin.Str.subAt (tx g) (sg c) k = true) := fun z => hc (one.mp ⟨z.1.2, z.2⟩)
      have e1 : StrLaws.occBody (tx g) (sg c) (tx g).length 1 k ((#[] : Array Nat), free) = pure (ForInStep.yield (#[], free)) := by
        unfold StrLaws.occBody
        rw [if_neg c2]
      rw [e1]
      show (forIn (List.range' (k + 1) n) ((#[] : Array Nat), free) (StrLaws.occBody (tx g) (sg c) (tx g).length 1)).run.fst.toList = _
      rw [occ_fnd g c n (k + 1) free (by omega) (by omega)]
      by_cases hlt : k < g.length
      · rw [List.drop_eq_getElem_cons hlt]
        have ne : g[k] ≠ c := fun z => hc (by rw [List.getElem?_eq_getElem hlt, z])
        simp [fnd, ne]
      · rw [List.drop_of_length_le (by omega), List.drop_of_length_le (by omega)]
        rfl
theorem find3_one (g : List Nat) (c k : Nat) (hk : k ≤ g.length) : Txt.find3 (tx g) (sg c) (k : Int) = match fnd c (g.drop k) k with | some j => (j : Int) | none => -1 := by
  unfold Txt.find3
  have ek : fromIndex (tx g).length (k : Int) = k := by
    unfold fromIndex
    rw [if_neg (by omega)]
    omega
  rw [ek, StrLaws.occ_eq, tx_len, ← tx_len g, occ_fnd g c _ k k (Nat.le_refl _) (by rw [tx_len]; omega)]
  cases fnd c (g.drop k) k <;> rfl
theorem fnd_spec {c : Nat} : ∀ {l : List Nat} {k j : Nat}, fnd c l k = some j → k ≤ j ∧ j < k + l.length ∧ l[j - k]? = some c
  | [], _, _, h => by cases h
  | x :: r, k, j, h => by
    unfold fnd at h
    by_cases e : x = c
    · rw [if_pos e] at h
      cases h
      exact ⟨Nat.le_refl _, by simp, by simp [e]⟩
    · rw [if_neg e] at h
      obtain ⟨h1, h2, h3⟩ := fnd_spec h
      refine ⟨by omega, by simp; omega, ?_⟩
      rw [show j - k = (j - (k + 1)) + 1 by omega]
      simpa using h3
/-! ### where the letters of the small word stand in the great one, each as early as can be -/
def gs : List Nat → List Nat → Nat → Option (List Nat)
  | [], _, _ => some []
  | _ :: _, [], _ => none
  | s :: ss, g :: gg, k => if g = s then (gs ss gg (k + 1)).map (k :: ·) else gs (s :: ss) gg (k + 1)
theorem gs_nil (g : List Nat) (k : Nat) : gs [] g k = some [] := by cases g <;> rfl
theorem gs_fnd (s : Nat) (ss : List Nat) : ∀ (l : List Nat) (k : Nat), gs (s :: ss) l k = match fnd s l k with | none => none | some j => (gs ss (l.drop (j + 1 - k)) (j + 1)).map (j :: ·)
  | [], k => rfl
  | x :: r, k => by
    show (if x = s then (gs ss r (k + 1)).map (k :: ·) else gs (s :: ss) r (k + 1)) = _
    unfold fnd
    by_cases e : x = s
    · rw [if_pos e, if_pos e]
      show _ = (gs ss ((x :: r).drop (k + 1 - k)) (k + 1)).map (k :: ·)
      rw [show k + 1 - k = 1 by omega]
      rfl
    · rw [if_neg e, if_neg e, gs_fnd s ss r (k + 1)]
      cases h : fnd s r (k + 1) with
      | none => rfl
      | some j =>
        have h1 := (fnd_spec h).1
        show (gs ss (r.drop (j + 1 - (k + 1))) (j + 1)).map (j :: ·) = (gs ss ((x :: r).drop (j + 1 - k)) (j + 1)).map (j :: ·)
        rw [show j + 1 - k = (j + 1 - (k + 1)) + 1 by omega]
        rfl
theorem gs_len : ∀ {a g : List Nat} {k : Nat} {ps : List Nat}, gs a g k = some ps → ps.length = a.length ∧ a.length ≤ g.length
  | [], g, k, ps, h => by
    rw [gs_nil] at h
    cases h
    exact ⟨rfl, Nat.zero_le _⟩
  | _ :: _, [], _, _, h => by cases h
  | s :: ss, x :: r, k, ps, h => by
    unfold gs at h
    by_cases e : x = s
    · rw [if_pos e] at h
      cases h2 : gs ss r (k + 1) with
      | none => rw [h2] at h; cases h
      | some qs =>
        rw [h2] at h
        cases h
        have := gs_len h2
        simp
        omega
    · rw [if_neg e] at h
      have := gs_len h
      simp at this ⊢
      omega
theorem gs_self : ∀ (a : List Nat) (k : Nat), (gs a a k).isSome = true
  | [], _ => rfl
  | x :: r, k => by
    unfold gs
    rw [if_pos rfl]
    have := gs_self r (k + 1)
    cases h : gs r r (k + 1) with
    | none => rw [h] at this; cases this
    | some _ => rfl
theorem gs_longer (a b : List Nat) (k : Nat) (h : b.length < a.length) : gs a b k = none := by
  cases e : gs a b k with
  | none => rfl
  | some ps => have := gs_len e; omega
end LB

namespace LB
open PySem PySem.Spec PyProof.Rows L2
/-! ### data in the heap, up to a depth, apart from some addresses -/
inductive D where
  | non | bl (b : Bool) | int (i : Int) | str (l : List Nat) | lst (ds : List D) | tup (ds : List D)
abbrev ascii (l : List Nat) : Prop := ∀ c ∈ l, c < 128
def flatR : V → D → Prop
  | .non, .non => True
  | .bl a, .bl b => a = b
  | .int i, .int j => i = j
  | .str x, .str l => x = tx l ∧ ascii l
  | _, _ => False
def Rp (av : Addr → Prop) (H : Hp) : Nat → V → D → Prop
  | 0, v, d => flatR v d
  | n + 1, v, d => flatR v d ∨ (∃ a xs ds, v = .ref a ∧ d = .lst ds ∧ ¬ av a ∧ H a = some (.lst xs) ∧ xs.length < 100000 ∧ Paired (Rp av H n) xs ds) ∨
      (∃ a xs ds, v = .ref a ∧ d = .tup ds ∧ ¬ av a ∧ H a = some (.tup xs) ∧ xs.length < 100000 ∧ Paired (Rp av H n) xs ds)
def Kp (av : Addr → Prop) (H H' : Hp) : Prop := ∀ a o, ¬ av a → H a = some o → H' a = some o
section
variable {av av' : Addr → Prop} {H H' H'' : Hp} {b s a p : Addr} {o : HO} {n : Nat} {v w : V} {d : D} {ds : List D} {K : PySem.W.Frag}
theorem Kp.refl : Kp av H H := fun _ _ _ e => e
theorem Kp.trans (x : Kp av H H') (y : Kp av H' H'') : Kp av H H'' := fun a o n e => y a o n (x a o n e)
theorem Kp.weak (x : Kp av' H H') (h : ∀ a, av' a → av a) : Kp av H H' := fun a o n e => x a o (fun z => n (h a z)) e
theorem Same.kp (x : Same H H') : Kp av H H' := fun a o _ e => x a o e
theorem BX.kp (x : BX b s H H') (h : av b) : Kp av H H' := fun a o n e => x.keep a o (fun z => n (z ▸ h)) e
theorem Kp.mut (h : av a) : Kp av H (upd H a o) := fun c u n e => by
  have na : c ≠ a := fun z => n (by rw [z]; exact h)
  rw [upd_ne na]
  exact e
theorem Kp.new (h : H p = none) : Kp av H (upd H p o) := Same.kp (same_new h)
theorem Kp.mutN {av : Addr → Prop} {H H' : Hp} {p : Addr} {o : HO} (x : Kp av H H') (n : H p = none) : Kp av H (upd H' p o) := fun a u na e => by
  rw [upd_ne (ne_of_none e n)]
  exact x a u na e
theorem flatR_rp (n : Nat) (h : flatR v d) : Rp av H n v d := by
  cases n with
  | zero => exact h
  | succ n => exact .inl h
theorem Rp.mv : ∀ {n : Nat} {v : V} {d : D}, Kp av H H' → Rp av H n v d → Rp av H' n v d
  | 0, _, _, _, h => h
  | n + 1, _, _, k, h => by
    rcases h with h | ⟨a, xs, ds, e1, e2, na, ha, hl, p⟩ | ⟨a, xs, ds, e1, e2, na, ha, hl, p⟩
    · exact .inl h
    · exact .inr (.inl ⟨a, xs, ds, e1, e2, na, k _ _ na ha, hl, Paired.mapP p fun _ _ q => Rp.mv k q⟩)
    · exact .inr (.inr ⟨a, xs, ds, e1, e2, na, k _ _ na ha, hl, Paired.mapP p fun _ _ q => Rp.mv k q⟩)
theorem Rp.weak : ∀ {n : Nat} {v : V} {d : D}, (∀ a, av' a → av a) → Rp av H n v d → Rp av' H n v d
  | 0, _, _, _, h => h
  | n + 1, _, _, k, h => by
    rcases h with h | ⟨a, xs, ds, e1, e2, na, ha, hl, p⟩ | ⟨a, xs, ds, e1, e2, na, ha, hl, p⟩
    · exact .inl h
    · exact .inr (.inl ⟨a, xs, ds, e1, e2, fun z => na (k a z), ha, hl, Paired.mapP p fun _ _ q => Rp.weak k q⟩)
    · exact .inr (.inr ⟨a, xs, ds, e1, e2, fun z => na (k a z), ha, hl, Paired.mapP p fun _ _ q => Rp.weak k q⟩)
theorem Rp.up : ∀ {n : Nat} {v : V} {d : D}, Rp av H n v d → Rp av H (n + 1) v d
  | 0, _, _, h => .inl h
  | n + 1, _, _, h => by
    rcases h with h | ⟨a, xs, ds, e1, e2, na, ha, hl, p⟩ | ⟨a, xs, ds, e1, e2, na, ha, hl, p⟩
    · exact .inl h
    · exact .inr (.inl ⟨a, xs, ds, e1, e2, na, ha, hl, Paired.mapP p fun _ _ q => Rp.up q⟩)
    · exact .inr (.inr ⟨a, xs, ds, e1, e2, na, ha, hl, Paired.mapP p fun _ _ q => Rp.up q⟩)
theorem rp_lst (na : ¬ av a) {xs : List V} (ha : H a = some (.lst xs)) (hl : xs.length < 100000) (p : Paired (Rp av H n) xs ds) : Rp av H (n + 1) (.ref a) (.lst ds) := .inr (.inl ⟨a, xs, ds, rfl, rfl, na, ha, hl, p⟩)
theorem rp_tup (na : ¬ av a) {xs : List V} (ha : H a = some (.tup xs)) (hl : xs.length < 100000) (p : Paired (Rp av H n) xs ds) : Rp av H (n + 1) (.ref a) (.tup ds) := .inr (.inr ⟨a, xs, ds, rfl, rfl, na, ha, hl, p⟩)
theorem rp_str {l : List Nat} (h : ascii l) : Rp av H n (.str (tx l)) (.str l) := flatR_rp n ⟨rfl, h⟩
theorem Rp.tup (h : Rp av H (n + 1) v (.tup ds)) : ∃ a xs, v = .ref a ∧ ¬ av a ∧ H a = some (.tup xs) ∧ xs.length < 100000 ∧ Paired (Rp av H n) xs ds := by
  rcases h with h | ⟨a, xs, es, e1, e2, na, ha, hl, p⟩ | ⟨a, xs, es, e1, e2, na, ha, hl, p⟩
  · cases v <;> cases h
  · cases e2
  · cases e2
    exact ⟨a, xs, e1, na, ha, hl, p⟩
theorem Rp.lst (h : Rp av H (n + 1) v (.lst ds)) : ∃ a xs, v = .ref a ∧ ¬ av a ∧ H a = some (.lst xs) ∧ xs.length < 100000 ∧ Paired (Rp av H n) xs ds := by
  rcases h with h | ⟨a, xs, es, e1, e2, na, ha, hl, p⟩ | ⟨a, xs, es, e1, e2, na, ha, hl, p⟩
  · cases v <;> cases h
  · cases e2
    exact ⟨a, xs, e1, na, ha, hl, p⟩
  · cases e2
theorem Rp.str {l : List Nat} (h : Rp av H n v (.str l)) : v = .str (tx l) ∧ ascii l := by
  have go : flatR v (.str l) → v = .str (tx l) ∧ ascii l := fun h => by
    cases v with
    | str x => exact ⟨by rw [h.1], h.2⟩
    | non => cases h
    | bl _ => cases h
    | int _ => cases h
    | byt _ => cases h
    | flt _ => cases h
    | ref _ => cases h
    | ty _ => cases h
  cases n with
  | zero => exact go h
  | succ n =>
    rcases h with h | ⟨_, _, _, _, e, _⟩ | ⟨_, _, _, _, e, _⟩
    · exact go h
    · cases e
    · cases e
theorem flat_val (h : flatR v d) : flat1 v = true ∧ ∀ w, flatR w d → v = w := by
  cases v with
  | non =>
    cases d <;> first | exact h.elim | skip
    refine ⟨rfl, fun w h' => ?_⟩
    cases w <;> first | exact h'.elim | rfl
  | bl x =>
    cases d <;> first | exact h.elim | skip
    refine ⟨rfl, fun w h' => ?_⟩
    cases w <;> first | exact h'.elim | exact congrArg V.bl ((show _ = _ from h).trans (show _ = _ from h').symm)
  | int x =>
    cases d <;> first | exact h.elim | skip
    refine ⟨rfl, fun w h' => ?_⟩
    cases w <;> first | exact h'.elim | exact congrArg V.int ((show _ = _ from h).trans (show _ = _ from h').symm)
  | str x =>
    cases d <;> first | exact h.elim | skip
    refine ⟨rfl, fun w h' => ?_⟩
    cases w <;> first | exact h'.elim | exact congrArg V.str (h.1.trans h'.1.symm)
  | byt _ => cases d <;> exact h.elim
  | flt _ => cases d <;> exact h.elim
  | ref _ => cases d <;> exact h.elim
  | ty _ => cases d <;> exact h.elim
theorem flat_sam (h : flatR v d) (h' : flatR w d) : flat1 v = true ∧ v = w := ⟨(flat_val h).1, (flat_val h).2 w h'⟩
theorem paired_join {α β γ : Type} {F : α → γ → Prop} {G : β → γ → Prop} {R : α → β → Prop} (f : ∀ a b c, F a c → G b c → R a b) : ∀ {xs : List α} {ys : List β} {zs : List γ}, Paired F xs zs → Paired G ys zs → Paired R xs ys
  | _, _, _, .nil, .nil => .nil
  | _, _, _, .cons r t, .cons r' t' => .cons (f _ _ _ r r') (paired_join f t t')
theorem rp_sam : ∀ {n : Nat} {v w : V} {d : D}, Rp av H n v d → Rp av' H n w d → Sam K H n v w
  | 0, _, _, _, h, h' => flat_sam h h'
  | n + 1, _, _, _, h, h' => by
    rcases h with h | ⟨a, xs, ds, rfl, rfl, na, ha, hl, p⟩ | ⟨a, xs, ds, rfl, rfl, na, ha, hl, p⟩
    · rcases h' with h' | ⟨c, ys, es, rfl, rfl, nc, hc, hm, q⟩ | ⟨c, ys, es, rfl, rfl, nc, hc, hm, q⟩
      · exact .inl (flat_sam h h')
      · rename_i v; cases v <;> cases h
      · rename_i v; cases v <;> cases h
    · obtain ⟨c, ys, rfl, nc, hc, hm, q⟩ := h'.lst
      exact sam_lst ha hc hl (paired_join (F := Rp av H n) (G := Rp av' H n) (R := Sam K H n) (fun _ _ _ r r' => rp_sam r r') p q)
    · obtain ⟨c, ys, rfl, nc, hc, hm, q⟩ := h'.tup
      exact sam_tup ha hc hl (paired_join (F := Rp av H n) (G := Rp av' H n) (R := Sam K H n) (fun _ _ _ r r' => rp_sam r r') p q)
theorem paired_rget {α β : Type} {F : α → β → Prop} : ∀ {xs : List α} {ys : List β} {i : Nat} {y : β}, Paired F xs ys → ys[i]? = some y → ∃ x, xs[i]? = some x ∧ F x y
  | _, _, _, _, .nil, h => by simp at h
  | _, _, 0, _, .cons r _, h => by
    simp at h
    subst h
    exact ⟨_, rfl, r⟩
  | _, _, i + 1, _, .cons _ t, h => by
    obtain ⟨x, e, r⟩ := paired_rget (i := i) t (by simpa using h)
    exact ⟨x, by simpa using e, r⟩
theorem paired_app {α β : Type} {F : α → β → Prop} {xs : List α} {ys : List β} {x : α} {y : β} (p : Paired F xs ys) (r : F x y) : Paired F (xs ++ [x]) (ys ++ [y]) := by
  induction p with
  | nil => exact .cons r .nil
  | cons q _ ih => exact .cons q ih
theorem paired_map {α β γ : Type} {F : α → β → Prop} {f : γ → α} {g : γ → β} (h : ∀ x, F (f x) (g x)) : ∀ zs : List γ, Paired F (zs.map f) (zs.map g)
  | [] => .nil
  | z :: r => .cons (h z) (paired_map h r)
theorem paired_mem {α β : Type} {F : α → β → Prop} : ∀ {xs : List α} {ys : List β} {x : α}, Paired F xs ys → x ∈ xs → ∃ y, y ∈ ys ∧ F x y
  | _, _, _, .nil, h => by cases h
  | _, _, _, .cons r t, h => by
    rcases List.mem_cons.mp h with rfl | h
    · exact ⟨_, List.mem_cons_self, r⟩
    · obtain ⟨y, hy, f⟩ := paired_mem t h
      exact ⟨y, List.mem_cons_of_mem _ hy, f⟩
/-- a tuple of texts -/
def tupS (ls : List (List Nat)) : D := .tup (ls.map D.str)
theorem rp_strs : ∀ {ls : List (List Nat)}, (∀ l ∈ ls, ascii l) → Paired (Rp av H n) (ls.map fun l => V.str (tx l)) (ls.map D.str)
  | [], _ => .nil
  | l :: r, h => .cons (rp_str (h l (by simp))) (rp_strs fun x hx => h x (by simp [hx]))
theorem strs_rp : ∀ {xs : List V} {ls : List (List Nat)}, Paired (Rp av H n) xs (ls.map D.str) → xs = (ls.map fun l => V.str (tx l)) ∧ ∀ l ∈ ls, ascii l
  | [], [], _ => ⟨rfl, fun _ h => nomatch h⟩
  | x :: xs, l :: ls, .cons r t => by
    obtain ⟨e, a⟩ := r.str
    obtain ⟨e2, a2⟩ := strs_rp t
    refine ⟨by rw [e, e2]; rfl, fun k hk => ?_⟩
    rcases List.mem_cons.mp hk with rfl | hk
    · exact a
    · exact a2 k hk
theorem Rp.tupS {ls : List (List Nat)} (h : Rp av H (n + 1) v (LB.tupS ls)) : ∃ a, v = .ref a ∧ ¬ av a ∧ H a = some (.tup (ls.map fun l => V.str (tx l))) ∧ ls.length < 100000 ∧ ∀ l ∈ ls, ascii l := by
  obtain ⟨a, xs, e, na, ha, hl, p⟩ := h.tup
  obtain ⟨rfl, as⟩ := strs_rp p
  exact ⟨a, e, na, ha, by simpa using hl, as⟩
theorem tup_eqv : ∀ ls ms : List (List Nat), PyData.eqvAll (txsD ls) (txsD ms) = decide (ls = ms)
  | [], [] => rfl
  | [], _ :: _ => rfl
  | _ :: _, [] => rfl
  | l :: r, m :: q => by
    show (PyData.eqv (.str (tx l)) (.str (tx m)) && PyData.eqvAll (txsD r) (txsD q)) = _
    rw [tup_eqv r q]
    show ((tx l == tx m) && decide (r = q)) = _
    by_cases h1 : l = m
    · subst h1
      by_cases h2 : r = q
      · subst h2
        simp
      · simp [h2]
    · have : (tx l == tx m) = false := by
        rw [beq_eq_false_iff_ne]
        intro z
        exact h1 (by simpa using congrArg (fun z => z.cps.toList) z)
      rw [this]
      simp [h1]
theorem tup_shaped {ls : List (List Nat)} (h : ∀ l ∈ ls, ascii l) : SeqAt.shaped (.tuple (txsD ls)) = true := by
  unfold SeqAt.shaped
  rw [show PyData.canLay0 (.tuple (txsD ls)) = PyData.canLayAll0 (txsD ls) from rfl, txs_lay h, show PyData.depth (.tuple (txsD ls)) = PyData.depthAll (txsD ls) + 1 from rfl, txs_depth]
  rfl
end
/-! ### names -/
def isNm (x : List Nat) : Prop := 0 < x.length ∧ x.length ≤ 8 ∧ ∀ c ∈ x, 97 ≤ c ∧ c < 123
structure NameL (ns : List (List Nat)) : Prop where
  nd : ns.Nodup
  ok : ∀ x ∈ ns, isNm x
theorem isNm.ascii {x : List Nat} (h : isNm x) : ascii x := fun c hc => by
  have := h.2.2 c hc
  omega
theorem NameL.take {ns : List (List Nat)} (h : NameL ns) (k : Nat) : NameL (ns.take k) := ⟨h.nd.sublist (List.take_sublist k ns), fun x hx => h.ok x (List.mem_of_mem_take hx)⟩
theorem alpha_mem {c : Nat} (h : c ∈ alphabet.cps.toList) : 97 ≤ c ∧ c < 123 := by
  rw [alpha_codes] at h
  obtain ⟨i, hi, rfl⟩ := List.mem_map.mp h
  have := List.mem_range.mp hi
  omega
theorem lett_bd (f b : Int) (k : Nat) : 97 ≤ lett f b k ∧ lett f b k < 123 := by
  unfold lett
  omega
theorem lett_inj {f b : Int} (hb : b ∈ [(1 : Int), 3, 5, 7, 9, 11]) {j k : Nat} (hj : j < 26) (hk : k < 26) (h : lett f b j = lett f b k) : j = k := by
  unfold lett at h
  simp only [List.mem_cons, List.not_mem_nil, or_false] at hb
  rcases hb with rfl | rfl | rfl | rfl | rfl | rfl <;> omega
/-- a letter put into the tail -/
def nmAt (tail : List Nat) (i : Nat) (c : Nat) : List Nat := tail.take i ++ [c] ++ tail.drop i
theorem nmAt_inj {tail : List Nat} {i c d : Nat} (h : nmAt tail i c = nmAt tail i d) : c = d := by
  unfold nmAt at h
  rw [List.append_assoc, List.append_assoc] at h
  have := List.append_cancel_left h
  simpa using this
theorem nmAt_ok {tail : List Nat} {i c : Nat} (ht : tail.length ≤ 7) (ha : ∀ x ∈ tail, 97 ≤ x ∧ x < 123) (hc : 97 ≤ c ∧ c < 123) : isNm (nmAt tail i c) := by
  unfold nmAt isNm
  refine ⟨by simp; omega, by simp; omega, fun x hx => ?_⟩
  simp only [List.append_assoc, List.mem_append, List.mem_singleton] at hx
  rcases hx with hx | rfl | hx
  · exact ha x (List.mem_of_mem_take hx)
  · exact hc
  · exact ha x (List.mem_of_mem_drop hx)
theorem names_ok {tail : List Nat} {i : Nat} {f b : Int} (hb : b ∈ [(1 : Int), 3, 5, 7, 9, 11]) (ht : tail.length ≤ 7) (ha : ∀ x ∈ tail, 97 ≤ x ∧ x < 123) {m : Nat} (hm : m ≤ 26) :
    NameL ((List.range m).map fun k => nmAt tail i (lett f b k)) := by
  refine ⟨?_, fun x hx => ?_⟩
  · refine List.pairwise_map.mpr (List.Pairwise.imp_of_mem ?_ (List.nodup_range (n := m)))
    intro j k hj hk ne e
    have h1 := List.mem_range.mp hj
    have h2 := List.mem_range.mp hk
    exact ne (lett_inj hb (by omega) (by omega) (nmAt_inj e))
  · obtain ⟨k, _, rfl⟩ := List.mem_map.mp hx
    exact nmAt_ok ht ha (lett_bd f b k)
/-! ### data as the library's own, for == and != -/
theorem rp_dp {av : Addr → Prop} {H : Hp} {K : PySem.W.Frag} : ∀ {n : Nat} {v : V} {d : D}, Rp av H n v d → ∃ q, Dp K H v q ∧ PyData.canLay0 q = true ∧ PyData.depth q ≤ n := by
  have flat : ∀ {v : V} {d : D}, flatR v d → ∃ q, Dp K H v q ∧ PyData.canLay0 q = true ∧ PyData.depth q = 0 := by
    intro v d h
    cases v with
    | non => exact ⟨_, .non, rfl, rfl⟩
    | bl x => exact ⟨_, .bl x, rfl, rfl⟩
    | int x => exact ⟨_, .int x, rfl, rfl⟩
    | str x =>
      cases d <;> first | exact h.elim | skip
      refine ⟨_, .str x, ?_, rfl⟩
      rw [h.1]
      exact strOk_tx h.2
    | byt _ => cases d <;> exact h.elim
    | flt _ => cases d <;> exact h.elim
    | ref _ => cases d <;> exact h.elim
    | ty _ => cases d <;> exact h.elim
  intro n
  induction n with
  | zero =>
    intro v d h
    obtain ⟨q, h1, h2, h3⟩ := flat h
    exact ⟨q, h1, h2, by omega⟩
  | succ n ih =>
    intro v d h
    have all : ∀ {xs : List V} {ds : List D}, Paired (Rp av H n) xs ds → ∃ qs, DpAll K H xs qs ∧ PyData.canLayAll0 qs = true ∧ PyData.depthAll qs ≤ n := by
      intro xs ds p
      induction p with
      | nil => exact ⟨[], .nil, rfl, Nat.zero_le _⟩
      | cons r _ ih2 =>
        obtain ⟨q, a1, a2, a3⟩ := ih r
        obtain ⟨qs, b1, b2, b3⟩ := ih2
        refine ⟨q :: qs, .cons a1 b1, ?_, ?_⟩
        · show (PyData.canLay0 q && PyData.canLayAll0 qs) = true
          rw [a2, b2]
          rfl
        · show max (PyData.depth q) (PyData.depthAll qs) ≤ n
          omega
    rcases h with h | ⟨a, xs, ds, rfl, rfl, na, ha, hl, p⟩ | ⟨a, xs, ds, rfl, rfl, na, ha, hl, p⟩
    · obtain ⟨q, h1, h2, h3⟩ := flat h
      exact ⟨q, h1, h2, by omega⟩
    · obtain ⟨qs, b1, b2, b3⟩ := all p
      exact ⟨.list qs, .lst (.of ha) b1, b2, by show PyData.depthAll qs + 1 ≤ n + 1; omega⟩
    · obtain ⟨qs, b1, b2, b3⟩ := all p
      exact ⟨.tuple qs, .tup (.of ha) b1, b2, by show PyData.depthAll qs + 1 ≤ n + 1; omega⟩
theorem rp_dpL {av : Addr → Prop} {H : Hp} {K : PySem.W.Frag} {n : Nat} {xs : List V} {ds : List D} (p : Paired (Rp av H n) xs ds) (hn : n ≤ 60) :
    ∃ qs, DpAll K H xs qs ∧ SeqAt.shaped (.list qs) = true ∧ qs.length = ds.length := by
  have all : ∃ qs, DpAll K H xs qs ∧ PyData.canLayAll0 qs = true ∧ PyData.depthAll qs ≤ n ∧ qs.length = ds.length := by
    induction p with
    | nil => exact ⟨[], .nil, rfl, Nat.zero_le _, rfl⟩
    | cons r _ ih2 =>
      obtain ⟨q, a1, a2, a3⟩ := rp_dp (K := K) r
      obtain ⟨qs, b1, b2, b3, b4⟩ := ih2
      refine ⟨q :: qs, .cons a1 b1, ?_, ?_, by simp [b4]⟩
      · show (PyData.canLay0 q && PyData.canLayAll0 qs) = true
        rw [a2, b2]
        rfl
      · show max (PyData.depth q) (PyData.depthAll qs) ≤ n
        omega
  obtain ⟨qs, b1, b2, b3, b4⟩ := all
  refine ⟨qs, b1, ?_, b4⟩
  unfold SeqAt.shaped
  rw [show PyData.canLay0 (.list qs) = PyData.canLayAll0 qs from rfl, b2, show PyData.depth (.list qs) = PyData.depthAll qs + 1 from rfl]
  exact decide_eq_true (by omega)
theorem eqv_nil (qs : List PyData) : PyData.eqv (.list qs) (.list []) = decide (qs.length = 0) := by
  cases qs with
  | nil => rfl
  | cons q r => rfl
/-! ### a drawn plan -/
structure PD where
  letters : List Nat
  machines : List (List Nat × List Nat)
  rows : List (List Nat × List Nat)
  moves : List (List Nat × List Nat × List (List Nat) × List Nat)
  stands : List (List (List Nat))
def pairD (x : List Nat × List Nat) : D := .tup [.str x.1, .str x.2]
def mvD (x : List Nat × List Nat × List (List Nat) × List Nat) : D := .tup [.str x.1, .str x.2.1, tupS x.2.2.1, .str x.2.2.2]
def standD (ss : List (List Nat)) : D := .lst (ss.map D.str)
def letD (c : Nat) : D := .str [c]
def kLetters : Str := Str.ofString "letters"
def kMachines : Str := Str.ofString "machines"
def kRows : Str := Str.ofString "rows"
def kMoves : Str := Str.ofString "moves"
def kStands : Str := Str.ofString "stands"
def planK (l m r v t : Addr) : List (Key × V) := [(.inr kLetters, .ref l), (.inr kMachines, .ref m), (.inr kRows, .ref r), (.inr kMoves, .ref v), (.inr kStands, .ref t)]
theorem planK_merge {l m r v t : Addr} : mergeK [] (planK l m r v t) = planK l m r v t := by
  rfl
theorem kne {x y : Str} (h : x ≠ y) : ¬ (Sum.inr x : Key) = Sum.inr y := fun z => h (Sum.inr.inj z)
theorem planK_letters {l m r v t : Addr} : valV (planK l m r v t) (.inr kLetters) = some (.ref l) := by rfl
theorem planK_machines {l m r v t : Addr} : valV (planK l m r v t) (.inr kMachines) = some (.ref m) := by
  unfold planK; rw [valV_neg (kne (by decide +kernel)), valV_pos rfl]
theorem planK_rows {l m r v t : Addr} : valV (planK l m r v t) (.inr kRows) = some (.ref r) := by
  unfold planK; rw [valV_neg (kne (by decide +kernel)), valV_neg (kne (by decide +kernel)), valV_pos rfl]
theorem planK_moves {l m r v t : Addr} : valV (planK l m r v t) (.inr kMoves) = some (.ref v) := by
  unfold planK; rw [valV_neg (kne (by decide +kernel)), valV_neg (kne (by decide +kernel)), valV_neg (kne (by decide +kernel)), valV_pos rfl]
theorem planK_stands {l m r v t : Addr} : valV (planK l m r v t) (.inr kStands) = some (.ref t) := by
  unfold planK; rw [valV_neg (kne (by decide +kernel)), valV_neg (kne (by decide +kernel)), valV_neg (kne (by decide +kernel)), valV_neg (kne (by decide +kernel)), valV_pos rfl]
structure PlanAt (av : Addr → Prop) (H : Hp) (d l m r v t : Addr) (p : PD) : Prop where
  nd : ¬ av d
  d : H d = some (.dK (planK l m r v t))
  l : Rp av H 1 (.ref l) (.lst (p.letters.map letD))
  m : Rp av H 2 (.ref m) (.lst (p.machines.map pairD))
  r : Rp av H 2 (.ref r) (.lst (p.rows.map pairD))
  v : Rp av H 3 (.ref v) (.lst (p.moves.map mvD))
  t : Rp av H 2 (.ref t) (.lst (p.stands.map standD))
section
variable {av av' : Addr → Prop} {H H' : Hp} {d l m r v t : Addr} {p : PD}
theorem PlanAt.mv (h : PlanAt av H d l m r v t p) (k : Kp av H H') : PlanAt av H' d l m r v t p := ⟨h.nd, k _ _ h.nd h.d, h.l.mv k, h.m.mv k, h.r.mv k, h.v.mv k, h.t.mv k⟩
theorem PlanAt.weak (h : PlanAt av H d l m r v t p) (k : ∀ a, av' a → av a) : PlanAt av' H d l m r v t p := ⟨fun z => h.nd (k d z), h.d, h.l.weak k, h.m.weak k, h.r.weak k, h.v.weak k, h.t.weak k⟩
theorem PlanAt.gl (h : PlanAt av H d l m r v t p) : DGet H d (.str kLetters) (some (.ref l)) := by have := DGet.k (k := .inr kLetters) h.d; rw [planK_letters] at this; exact this
theorem PlanAt.gm (h : PlanAt av H d l m r v t p) : DGet H d (.str kMachines) (some (.ref m)) := by have := DGet.k (k := .inr kMachines) h.d; rw [planK_machines] at this; exact this
theorem PlanAt.gr (h : PlanAt av H d l m r v t p) : DGet H d (.str kRows) (some (.ref r)) := by have := DGet.k (k := .inr kRows) h.d; rw [planK_rows] at this; exact this
theorem PlanAt.gv (h : PlanAt av H d l m r v t p) : DGet H d (.str kMoves) (some (.ref v)) := by have := DGet.k (k := .inr kMoves) h.d; rw [planK_moves] at this; exact this
theorem PlanAt.gt (h : PlanAt av H d l m r v t p) : DGet H d (.str kStands) (some (.ref t)) := by have := DGet.k (k := .inr kStands) h.d; rw [planK_stands] at this; exact this
end
def Plan (av : Addr → Prop) (H : Hp) (d : Addr) (p : PD) : Prop := ∃ l m r v t, PlanAt av H d l m r v t p
theorem Plan.mv {av : Addr → Prop} {H H' : Hp} {d : Addr} {p : PD} (h : Plan av H d p) (k : Kp av H H') : Plan av H' d p := by
  obtain ⟨l, m, r, v, t, h⟩ := h
  exact ⟨l, m, r, v, t, h.mv k⟩
theorem Plan.weak {av av' : Addr → Prop} {H : Hp} {d : Addr} {p : PD} (h : Plan av H d p) (k : ∀ a, av' a → av a) : Plan av' H d p := by
  obtain ⟨l, m, r, v, t, h⟩ := h
  exact ⟨l, m, r, v, t, h.weak k⟩
/-- all that is told in H -/
def Old (H : Hp) : Addr → Prop := fun a => H a ≠ none
theorem Old.new {H : Hp} {a : Addr} (h : H a = none) : ¬ Old H a := fun z => z h
theorem Old.of {H : Hp} {a : Addr} {o : HO} (h : H a = some o) : Old H a := fun z => by rw [h] at z; cases z
theorem BX.old {b s : Addr} {H H' : Hp} (x : BX b s H H') {a : Addr} (h : Old H a) : Old H' a := by
  by_cases e : a = b
  · subst e
    obtain ⟨_, _, _, _, _, _, e, _⟩ := x.bag
    exact .of e
  · cases q : H a with
    | none => exact absurd q h
    | some o => exact .of (x.keep a o e q)
theorem Bag.old {b s : Addr} {H : Hp} (x : Bag b s H) : Old H b := by
  obtain ⟨_, _, _, _, _, _, e, _⟩ := x
  exact .of e
def wIdle : List Nat := [105, 100, 108, 101]
def wBare : List Nat := [98, 97, 114, 101]
def wSend : List Nat := [115, 101, 110, 100]
def wTake : List Nat := [116, 97, 107, 101]
inductive ActOk (p : PD) : List (List Nat) → Prop
  | idle : ActOk p [wIdle]
  | bare {x : List Nat × List Nat} (h : x ∈ p.rows) : ActOk p [wBare, x.1]
  | send {x : List Nat × List Nat} {c : Nat} (h : x ∈ p.rows) (hc : c ∈ p.letters) : ActOk p [wSend, x.1, [c]]
  | take {x : List Nat × List Nat} {c : Nat} (h : x ∈ p.rows) (hc : c ∈ p.letters) : ActOk p [wTake, x.1, [c]]
theorem ActOk.of {p q : PD} (hr : p.rows = q.rows) (hl : p.letters = q.letters) {a : List (List Nat)} (h : ActOk p a) : ActOk q a := by
  cases h with
  | idle => exact .idle
  | bare h => exact .bare (hr ▸ h)
  | send h hc => exact .send (hr ▸ h) (hl ▸ hc)
  | take h hc => exact .take (hr ▸ h) (hl ▸ hc)
def MvOk (p : PD) (x : List Nat × List Nat × List (List Nat) × List Nat) : Prop :=
  ∃ (i : Nat) (m : List Nat × List Nat) (ss : List (List Nat)), p.machines[i]? = some m ∧ p.stands[i]? = some ss ∧ x.1 = m.1 ∧ x.2.1 ∈ ss ∧ ActOk p x.2.2.1 ∧ x.2.2.2 ∈ ss
/-! ### a plan while it is made -/
structure PB (b cl : Addr) (H0 H : Hp) (d l nm m r v t : Addr) (cs : List Nat) (ns : List (List Nat)) (xm xr xv xt : List V) : Prop where
  bx : BX b cl H0 H
  d : H d = some (.dK (planK l m r v t))
  l : H l = some (.lst (cs.map fun c => V.str (sg c)))
  nm : H nm = some (.lst (ns.map fun l => V.str (tx l)))
  m : H m = some (.lst xm)
  r : H r = some (.lst xr)
  v : H v = some (.lst xv)
  t : H t = some (.lst xt)
structure PAd (H0 : Hp) (d l nm m r v t : Addr) : Prop where
  fd : H0 d = none
  fl : H0 l = none
  fn : H0 nm = none
  fm : H0 m = none
  fr : H0 r = none
  fv : H0 v = none
  ft : H0 t = none
  qdm : d ≠ m
  qdr : d ≠ r
  qdv : d ≠ v
  qdt : d ≠ t
  qlm : l ≠ m
  qlr : l ≠ r
  qlv : l ≠ v
  qlt : l ≠ t
  qnm : nm ≠ m
  qnr : nm ≠ r
  qnv : nm ≠ v
  qnt : nm ≠ t
  qmr : m ≠ r
  qmv : m ≠ v
  qmt : m ≠ t
  qrv : r ≠ v
  qrt : r ≠ t
  qvt : v ≠ t
def avP (H0 : Hp) (m r v t : Addr) : Addr → Prop := fun a => Old H0 a ∨ a = m ∨ a = r ∨ a = v ∨ a = t
section
variable {b cl : Addr} {H0 H H' : Hp} {d l nm m r v t : Addr} {cs : List Nat} {ns : List (List Nat)} {xm xr xv xt : List V}
theorem PB.mv (A : PAd H0 d l nm m r v t) (hB : Bag b cl H0) (h : PB b cl H0 H d l nm m r v t cs ns xm xr xv xt) (x : BX b cl H H') : PB b cl H0 H' d l nm m r v t cs ns xm xr xv xt :=
  ⟨h.bx.trans x, x.keep _ _ (hB.nb A.fd) h.d, x.keep _ _ (hB.nb A.fl) h.l, x.keep _ _ (hB.nb A.fn) h.nm, x.keep _ _ (hB.nb A.fm) h.m, x.keep _ _ (hB.nb A.fr) h.r, x.keep _ _ (hB.nb A.fv) h.v, x.keep _ _ (hB.nb A.ft) h.t⟩
theorem PB.appM (A : PAd H0 d l nm m r v t) (hB : Bag b cl H0) (h : PB b cl H0 H d l nm m r v t cs ns xm xr xv xt) (y : V) : PB b cl H0 (upd H m (.lst (xm ++ [y]))) d l nm m r v t cs ns (xm ++ [y]) xr xv xt :=
  ⟨h.bx.mut hB A.fm, (upd_ne A.qdm).trans h.d, (upd_ne A.qlm).trans h.l, (upd_ne A.qnm).trans h.nm, upd_same, (upd_ne A.qmr.symm).trans h.r, (upd_ne A.qmv.symm).trans h.v, (upd_ne A.qmt.symm).trans h.t⟩
theorem PB.appR (A : PAd H0 d l nm m r v t) (hB : Bag b cl H0) (h : PB b cl H0 H d l nm m r v t cs ns xm xr xv xt) (y : V) : PB b cl H0 (upd H r (.lst (xr ++ [y]))) d l nm m r v t cs ns xm (xr ++ [y]) xv xt :=
  ⟨h.bx.mut hB A.fr, (upd_ne A.qdr).trans h.d, (upd_ne A.qlr).trans h.l, (upd_ne A.qnr).trans h.nm, (upd_ne A.qmr).trans h.m, upd_same, (upd_ne A.qrv.symm).trans h.v, (upd_ne A.qrt.symm).trans h.t⟩
theorem PB.appV (A : PAd H0 d l nm m r v t) (hB : Bag b cl H0) (h : PB b cl H0 H d l nm m r v t cs ns xm xr xv xt) (y : V) : PB b cl H0 (upd H v (.lst (xv ++ [y]))) d l nm m r v t cs ns xm xr (xv ++ [y]) xt :=
  ⟨h.bx.mut hB A.fv, (upd_ne A.qdv).trans h.d, (upd_ne A.qlv).trans h.l, (upd_ne A.qnv).trans h.nm, (upd_ne A.qmv).trans h.m, (upd_ne A.qrv).trans h.r, upd_same, (upd_ne A.qvt.symm).trans h.t⟩
theorem PB.appT (A : PAd H0 d l nm m r v t) (hB : Bag b cl H0) (h : PB b cl H0 H d l nm m r v t cs ns xm xr xv xt) (y : V) : PB b cl H0 (upd H t (.lst (xt ++ [y]))) d l nm m r v t cs ns xm xr xv (xt ++ [y]) :=
  ⟨h.bx.mut hB A.ft, (upd_ne A.qdt).trans h.d, (upd_ne A.qlt).trans h.l, (upd_ne A.qnt).trans h.nm, (upd_ne A.qmt).trans h.m, (upd_ne A.qrt).trans h.r, (upd_ne A.qvt).trans h.v, upd_same⟩
theorem PB.old (h : PB b cl H0 H d l nm m r v t cs ns xm xr xv xt) {a : Addr} (z : avP H0 m r v t a) : Old H a := by
  rcases z with z | rfl | rfl | rfl | rfl
  · exact h.bx.old z
  · exact .of h.m
  · exact .of h.r
  · exact .of h.v
  · exact .of h.t
theorem PB.gl (h : PB b cl H0 H d l nm m r v t cs ns xm xr xv xt) : DGet H d (.str kLetters) (some (.ref l)) := by have := DGet.k (k := .inr kLetters) h.d; rw [planK_letters] at this; exact this
theorem PB.gm (h : PB b cl H0 H d l nm m r v t cs ns xm xr xv xt) : DGet H d (.str kMachines) (some (.ref m)) := by have := DGet.k (k := .inr kMachines) h.d; rw [planK_machines] at this; exact this
theorem PB.gr (h : PB b cl H0 H d l nm m r v t cs ns xm xr xv xt) : DGet H d (.str kRows) (some (.ref r)) := by have := DGet.k (k := .inr kRows) h.d; rw [planK_rows] at this; exact this
theorem PB.gv (h : PB b cl H0 H d l nm m r v t cs ns xm xr xv xt) : DGet H d (.str kMoves) (some (.ref v)) := by have := DGet.k (k := .inr kMoves) h.d; rw [planK_moves] at this; exact this
theorem PB.gt (h : PB b cl H0 H d l nm m r v t cs ns xm xr xv xt) : DGet H d (.str kStands) (some (.ref t)) := by have := DGet.k (k := .inr kStands) h.d; rw [planK_stands] at this; exact this
theorem PB.plan (A : PAd H0 d l nm m r v t) (h : PB b cl H0 H d l nm m r v t cs ns xm xr xv xt) {p : PD} (hl : p.letters = cs) (hc : ∀ c ∈ cs, c < 128) (l1 : cs.length < 1000)
    (pm : Paired (Rp (avP H0 m r v t) H 1) xm (p.machines.map pairD)) (pr : Paired (Rp (avP H0 m r v t) H 1) xr (p.rows.map pairD)) (pv : Paired (Rp (avP H0 m r v t) H 2) xv (p.moves.map mvD)) (pt : Paired (Rp (avP H0 m r v t) H 1) xt (p.stands.map standD))
    (lm : xm.length < 1000) (lr : xr.length < 1000) (lv : xv.length < 1000) (lt : xt.length < 1000) {av : Addr → Prop} (ha : ∀ a, av a → Old H0 a) : PlanAt av H d l m r v t p := by
  have hw : ∀ a, av a → avP H0 m r v t a := fun a z => .inl (ha a z)
  have nn : ∀ a, H0 a = none → ¬ av a := fun a e z => ha a z e
  refine ⟨nn _ A.fd, h.d, rp_lst (nn _ A.fl) h.l (by rw [List.length_map]; omega) ?_, rp_lst (nn _ A.fm) h.m (by omega) (Paired.mapP pm fun _ _ q => q.weak hw), rp_lst (nn _ A.fr) h.r (by omega) (Paired.mapP pr fun _ _ q => q.weak hw), rp_lst (nn _ A.fv) h.v (by omega) (Paired.mapP pv fun _ _ q => q.weak hw), rp_lst (nn _ A.ft) h.t (by omega) (Paired.mapP pt fun _ _ q => q.weak hw)⟩
  subst hl
  have : ∀ l : List Nat, (∀ c ∈ l, c < 128) → Paired (Rp av H 0) (l.map fun c => V.str (sg c)) (l.map letD) := by
    intro l
    induction l with
    | nil => exact fun _ => .nil
    | cons c q ih => exact fun hh => .cons (rp_str (l := [c]) fun x hx => by rw [List.mem_singleton.mp hx]; exact hh c (by simp)) (ih fun x hx => hh x (by simp [hx]))
  exact this _ hc
end
/-- what is drawn as a plan -/
structure PlanOk (p : PD) (ma st ro mo : Nat) : Prop where
  lm : p.machines.length = ma
  ls : p.stands.length = ma
  lr : p.rows.length = ro
  lv : p.moves.length = if 0 < ma then mo else 0
  ll : 0 < p.letters.length ∧ p.letters.length ≤ 3
  lc : ∀ c ∈ p.letters, 97 ≤ c ∧ c < 123
  nl : p.letters.Nodup
  nms : ∃ ns, NameL ns ∧ ns.length = 12 ∧ p.machines.map (·.1) = ns.take ma ∧ p.rows.map (·.1) = (ns.drop 5).take ro
  ms : ∀ (i : Nat) (x : List Nat × List Nat) (ss : List (List Nat)), p.machines[i]? = some x → p.stands[i]? = some ss → x.2 ∈ ss
  ss : ∀ s ∈ p.stands, NameL s ∧ 0 < s.length ∧ s.length ≤ st
  rw : ∀ x ∈ p.rows, x.2.length ≤ 2 ∧ ∀ c ∈ x.2, c ∈ p.letters
  mv : ∀ x ∈ p.moves, MvOk p x
/-! ### the stands of a machine; scenes -/
def foundIn (name : List Nat) (ms : List (List Nat × List Nat × List (List Nat) × List Nat)) : List (List Nat) := ms.flatMap fun x => if x.1 = name then [x.2.1, x.2.2.2] else []
def foundOf (p : PD) (x : List Nat × List Nat) : List (List Nat) := x.2 :: foundIn x.1 p.moves
theorem foundIn_len (name : List Nat) : ∀ ms : List (List Nat × List Nat × List (List Nat) × List Nat), (foundIn name ms).length ≤ 2 * ms.length
  | [] => Nat.le_refl _
  | x :: r => by
    have := foundIn_len name r
    unfold foundIn at this ⊢
    rw [List.flatMap_cons, List.length_append, List.length_cons]
    split
    · show 2 + _ ≤ _
      omega
    · show 0 + _ ≤ _
      omega
structure HeldOk (p : PD) (x : List Nat × List Nat) (ys : List (List Nat)) : Prop where
  mem : ∀ y, y ∈ ys ↔ y ∈ foundOf p x
  nd : ys.Nodup
  srt : sortedS (ys.map tx) = true
  asc : ∀ y ∈ ys, ascii y
  len : ys.length ≤ 900
structure SceneOk (p : PD) (top : Int) (ss ws : List (List Nat)) : Prop where
  ls : ss.length = p.machines.length
  st : ∀ (i : Nat) (s : List Nat) (x : List Nat × List Nat), ss[i]? = some s → p.machines[i]? = some x → s ∈ foundOf p x
  lw : ws.length = p.rows.length
  wd : ∀ w ∈ ws, (w.length : Int) ≤ top ∧ ∀ c ∈ w, c ∈ p.letters
def sceneD (ss ws : List (List Nat)) : D := .tup [tupS ss, tupS ws]
end LB

namespace LB
open PySem PySem.Spec PyProof.Rows L2
/-! ### enumerate(text): a new pair of place and sign at each turn -/
def Ites (x : Str) : It :=
  ⟨fun i _ => i < x.cps.size, fun i H v H' => ∃ U c, v = .ref U ∧ H U = none ∧ x.cps[i]? = some c ∧ H' = upd H U (.tup [.int (i : Nat), .str (sg c)]), fun i _ => i = x.cps.size⟩
theorem drawsS {prog : Program} {w : World} {A : Around} (hh : A.handled = none) (it : Addr) (x : Str) (t : Tok) :
    Draws prog w A it [it] x.cps.size (fun i v => ∃ c u, x.cps[i]? = some c ∧ v = .str ⟨#[c]⟩ u) (fun i h => h.IsStrIter it (strIterType x) x t i) := by
  unfold strIterType
  cases ha : x.cps.all (· < 128)
  · simpa using Draws.strWide hh it x t
  · simpa using Draws.strAscii hh it x t
theorem turn_enumS {P : Program} {w : World} {K : PySem.W.Frag} {elts : List Expr} {kk : Nat} {tpos : Pos} (x : Str) (t : Tok) (en it : Addr) :
    Turn P w K (.Tuple elts kk tpos) (Ites x) [en, it] en (fun i h => (∃ old, IsEnum h en it ((i : Nat) : Int) old) ∧ h.IsStrIter it (strIterType x) x t i ∧ en ≠ it) where
  mem := by simp
  obj := fun i h st b hb => by
    obtain ⟨⟨old, hE⟩, ⟨ob, hob, hcl, hdt⟩, _⟩ := st
    have hbb : b = en ∨ b = it := by simpa using hb
    rcases hbb with rfl | rfl
    · exact ⟨_, hE, fun v z => nomatch z⟩
    · exact ⟨ob, hob, fun v z => by rw [hdt] at z; cases z⟩
  keep := fun i h h' st k => by
    obtain ⟨⟨old, hE⟩, ⟨ob, hob, r⟩, ne⟩ := st
    exact ⟨⟨old, k en (by simp) _ hE⟩, ⟨ob, k it (by simp) _ hob, r⟩, ne⟩
  item := by
    intro X eP eW eK hc i pins s σ H E I hf st hg
    subst eP eW eK
    obtain ⟨⟨old, hE⟩, hit, ne⟩ := st
    have len : en < s.heap.objs.size := Heap.lt_size hE
    have lit : it < s.heap.objs.size := by
      obtain ⟨ob, hob, _⟩ := hit
      exact Heap.lt_size hob
    refine wpAny_pyNext_enum_itemD (drawsS (A := X.A.in1) (I.ok.hd hc) it x t) hE hit hg ne (by simpa using ne) fun y h' tk hy hout hit' hT hsz hk => ?_
    obtain ⟨c, u, hcx, rfl⟩ := hy
    refine ⟨_, rfl, wpAny_letOwnedTupleGo_enum (s := { s with heap := h', toks := tk + 1 }) hout fun h2 hE2 sb => ?_⟩
    have hT2 : h2.get? s.heap.objs.size = some { cls := .type "tuple", data := .seq #[.int i tk, .str ⟨#[c]⟩ u] } := (sb.2 _ (Nat.ne_of_gt len)).trans hT
    have okT : ObjOk X.prog X.w (upd H s.heap.objs.size (.tup [.int (i : Nat), .str (sg c)])) h2 s.heap.objs.size (.tup [.int (i : Nat), .str (sg c)]) :=
      ⟨(by show 2 ≤ sizeLine; decide), [.int i tk, .str ⟨#[c]⟩ u], .cons ⟨_, rfl⟩ (.cons ⟨_, rfl⟩ .nil), ⟨_, hT2, rfl, _, rfl⟩⟩
    have I1 : Inv X pins σ (upd H s.heap.objs.size (.tup [.int (i : Nat), .str (sg c)])) { s with heap := h2, toks := tk + 1 } :=
      I.turnedNew (ch := [en, it]) (fun b ob hb q => (sb.2 b (fun z => hb (by rw [z]; simp))).trans (hk b ob (fun z => hb (by rw [z]; simp)) (fun z => hb (by rw [z]; simp)) q)) hf (Nat.le_refl _) okT
    refine ⟨.ref s.heap.objs.size, _, I1, rfl, ⟨_, c, rfl, I.hok.fresh (Nat.le_refl _), hcx, rfl⟩, ⟨⟨.str ⟨#[c]⟩ u, ?_⟩, ?_, ne⟩, fun b hb => ?_⟩
    · rw [show ((i + 1 : Nat) : Int) = (i : Int) + 1 by omega]
      exact hE2
    · obtain ⟨ob, hob, r⟩ := hit'
      exact ⟨ob, (sb.2 it ne.symm).trans hob, r⟩
    · have hbb : b = en ∨ b = it := by simpa using hb
      have hlt : b < s.heap.objs.size := by
        rcases hbb with rfl | rfl
        · exact len
        · exact lit
      rw [upd_ne (Nat.ne_of_lt hlt)]
      exact (hf b hb).1
  done := by
    intro X eP eW eK hc i pins s σ H E I hf st hg
    subst eP eW eK
    obtain ⟨⟨old, hE⟩, hit, ne⟩ := st
    have hg' : i = x.cps.size := hg
    subst hg'
    obtain ⟨g0, g1, g2, g3, g4, g5⟩ := hf it (by simp)
    exact wpAny_pyNext_enum_endD (drawsS (A := X.A.in1) (I.ok.hd hc) it x t) hE hit fun h' eb => ⟨rfl, I.turned (t' := s.toks) (fun b ob hb q => eb b ob hb q) g0 g1 g3 g4 g5⟩
  self := fun A i s Q E st h => by
    obtain ⟨⟨old, hE⟩, _⟩ := st
    exact wpAny_pyIter_enum hE h
def iEnumS (ta : TA) : TI := fun σ H R => ta σ H fun vs H1 => ∃ x, vs = [.str x] ∧ R (Ites x) H1
theorem pi_enumS {X : Cx} {e : Expr} {ta : TA} {p pos tpos : Pos} {elts : List Expr} {kk : Nat} (hg : Gl X "enumerate") (hm : X.mg "enumerate" = none) (ha : PA X [e] ta) (one : starEach [e] X.env = [(false, eval e X.env)] := by rfl) :
    PI X (.Tuple elts kk tpos) (.Call (.Name "enumerate" p) [e] [] pos) (iEnumS ta) := by
  refine ⟨fun pins s σ H R I h => ?_⟩
  refine Call_ (ld_blt I hg hm boot_enumerate (PyProof.Rows.callWith_type1 (thn (ha.run pos pins s σ H _ I h) fun us s1 ⟨vs, H1, I1, rr, qq⟩ => ?_) one rfl))
  obtain ⟨x, rfl, q⟩ := qq
  rcases rr with _ | ⟨r, rr⟩
  cases rr
  obtain ⟨t, rfl⟩ := r
  refine call_enumerate_str fun h' hE hit hsz hk => wpAny_pyIter_enum hE ?_
  have I2 : Inv X pins σ H1 { s1 with heap := h' } := I1.kept (t' := s1.toks) hk
  refine ⟨s1.heap.objs.size + 1, [s1.heap.objs.size + 1, s1.heap.objs.size], _, _, H1, rfl, I2, turn_enumS x t (s1.heap.objs.size + 1) s1.heap.objs.size, ⟨⟨.none, hE⟩, hit, Nat.succ_ne_self _⟩, fun b hb => ?_, q⟩
  have hbb : b = s1.heap.objs.size + 1 ∨ b = s1.heap.objs.size := by simpa using hb
  have hle : s1.heap.objs.size ≤ b := by
    rcases hbb with rfl | rfl
    · exact Nat.le_succ _
    · exact Nat.le_refl _
  exact I1.fpOk hle (I1.hok.fresh hle)
theorem walk_enumS {x : Str} : Walk (Ites x) x.cps.size (fun _ => True) (fun i H v H' => ∃ U c, v = .ref U ∧ H U = none ∧ x.cps[i]? = some c ∧ H' = upd H U (.tup [.int (i : Nat), .str (sg c)])) :=
  ⟨fun _ _ hi _ => hi, fun _ _ => rfl, fun _ _ _ _ _ _ y => y⟩
end LB

namespace LB
open PySem PySem.Spec PyProof.Rows L2
/-! ### zip(text, text): a new pair of signs at each turn -/
/-- the five objects of a zip apart -/
structure ZAp (q ti to p1 p2 : Addr) : Prop where
  a1 : ti ≠ q
  a2 : to ≠ q
  a3 : p1 ≠ q
  a4 : p2 ≠ q
  a5 : ti ≠ to
  a6 : ti ≠ p1
  a7 : ti ≠ p2
  a8 : to ≠ p1
  a9 : to ≠ p2
  a0 : p1 ≠ p2
section
variable {prog : Program} {w : World} {A : Around} {E : Value → Shared → Prop} {s : Shared}
variable {q ti to p1 p2 : Addr} {n1 n2 k : Nat} {P1 P2 : Nat → Value → Prop} {S1 S2 : Nat → Heap → Prop} {a b : Value}
abbrev DrA (prog : Program) (w : World) (p : Addr) (n : Nat) (P : Nat → Value → Prop) (S : Nat → Heap → Prop) : Prop := ∀ B : Around, B.handled = none → Draws prog w B p [p] n P S
theorem DrA.kp {p : Addr} {n i : Nat} {P : Nat → Value → Prop} {S : Nat → Heap → Prop} {h h' : Heap} (W : DrA prog w p n P S) (hh : A.handled = none) (st : S i h) (e : ∀ o, h.get? p = some o → h'.get? p = some o) : S i h' :=
  (W A hh).frame i h h' st fun c hc o ho => by
    have ec : c = p := by simpa using hc
    subst ec
    exact e o ho
theorem zipD_item {Q : Value → Shared → Prop} (hh : A.handled = none) (W1 : DrA prog w p1 n1 P1 S1) (W2 : DrA prog w p2 n2 P2 S2) (Z : ZAp q ti to p1 p2)
    (hq : IsZip s.heap q ti to .none) (hi : IsPair s.heap ti (.ref p1) (.ref p2)) (ho : IsPair s.heap to a b) (s1 : S1 k s.heap) (s2 : S2 k s.heap) (l1 : k < n1) (l2 : k < n2)
    (hQ : ∀ x y g tk, P1 k x → P2 k y → IsZip g q ti to (rawInt s.heap.objs.size) → IsPair g to x y → S1 (k + 1) g → S2 (k + 1) g → IsPair g s.heap.objs.size x y → g.objs.size = s.heap.objs.size + 1 →
      (∀ c o, c ≠ q → c ≠ to → c ≠ p1 → c ≠ p2 → s.heap.get? c = some o → g.get? c = some o) → Q (.ref s.heap.objs.size) { s with heap := g, toks := tk }) :
    wpAny (model prog w) A (Builtin.«zip.__next__» ⟨[.ref q], []⟩) (fun r s' => ∃ v, r = .done (.ret v) ∧ Q v s') E s := by
  obtain ⟨hp, gg, dd, tk0, os⟩ := s
  show wpAny _ _ (field (.ref q) 2 >>= _) _ _ _
  refine wpAny_bind (wpAny_field hq rfl (x := .bool false) rfl ?_); show wpAny _ _ (field (.ref q) 3 >>= _) _ _ _
  refine wpAny_bind (wpAny_field hq rfl (x := .ref ti) rfl ?_); refine wpAny_bind (wpAny_seqItems hi rfl ?_)
  show wpAny _ _ (Builtin.SmallTypes.ownedTupleIsFree (.ref q) >>= _) _ _ _
  refine wpAny_bind ?_; unfold Builtin.SmallTypes.ownedTupleIsFree
  refine wpAny_bind (wpAny_field hq rfl (x := .none) rfl (wpAny_pure ?_)); simp only [if_true]; refine wpAny_bind (wpAny_rule ?_)
  refine wpAny_bind (wpAny_field hq rfl (x := .ref to) rfl ?_)
  refine wpAny_bind (wpAny_setField_rec hq (by simp) fun g1 hq1 b1 => ?_)
  replace hq1 : IsZip g1 q ti to .ellipsis := hq1
  refine wpAny_bind ?_; simp only [List.zipIdx_cons, List.zipIdx_nil, List.forIn_cons, List.forIn_nil]
  refine wpAny_bind (wpAny_bind (wpAny_onRaise ?_)); show wpAny _ _ (Builtin.SmallTypes.nextOf (.ref p1) >>= _) _ _ _
  have s1a : S1 k g1 := W1.kp hh s1 fun o e => b1.extBut _ _ Z.a3 e
  refine wpAny_bind ((W1 _ hh).item k _ _ _ l1 s1a fun x g2 tk2 px s1b b2 => wpAny_pure ?_)
  replace b2 : Heap.SameBut p1 g1 g2 := b2
  have ho2 : IsPair g2 to a b := b2.extBut _ _ Z.a8 (b1.extBut _ _ Z.a2 ho)
  refine wpAny_bind (wpAny_seqItems (s := ⟨g2, gg, dd, tk2, os⟩) ho2 rfl ?_)
  refine wpAny_bind (wpAny_updateSeq_pair (s := ⟨g2, gg, dd, tk2, os⟩) ho2 fun g3 ho3 b3 => ?_)
  replace ho3 : IsPair g3 to x b := ho3
  replace b3 : Heap.SameBut to g2 g3 := b3
  refine wpAny_bind (wpAny_letGo (wpAny_pure ?_))
  refine wpAny_bind (wpAny_bind (wpAny_onRaise ?_)); show wpAny _ _ (Builtin.SmallTypes.nextOf (.ref p2) >>= _) _ _ _
  have s2a : S2 k g3 := W2.kp hh s2 fun o e => b3.extBut _ _ Z.a9.symm (b2.extBut _ _ Z.a0.symm (b1.extBut _ _ Z.a4 e))
  refine wpAny_bind ((W2 _ hh).item k ⟨g3, gg, dd, tk2, os⟩ _ _ l2 s2a fun y g4 tk4 py s2b b4 => wpAny_pure ?_)
  replace b4 : Heap.SameBut p2 g3 g4 := b4
  have ho4 : IsPair g4 to x b := b4.extBut _ _ Z.a9 ho3
  refine wpAny_bind (wpAny_seqItems (s := ⟨g4, gg, dd, tk4, os⟩) ho4 rfl ?_)
  refine wpAny_bind (wpAny_updateSeq_pair (s := ⟨g4, gg, dd, tk4, os⟩) ho4 fun g5 ho5 b5 => ?_)
  replace ho5 : IsPair g5 to x y := ho5
  replace b5 : Heap.SameBut to g4 g5 := b5
  refine wpAny_bind (wpAny_letGo (wpAny_pure (wpAny_pure ?_)))
  refine wpAny_bind (wpAny_seqItems (s := ⟨g5, gg, dd, tk4, os⟩) ho5 rfl ?_); refine wpAny_bind (wpAny_newTuple ?_)
  have sz : g5.objs.size = hp.objs.size := by rw [b5.1, b4.1, b3.1, b2.1, b1.1]
  have hq5 : IsZip g5 q ti to .ellipsis := b5.extBut _ _ Z.a2.symm (b4.extBut _ _ Z.a4.symm (b3.extBut _ _ Z.a2.symm (b2.extBut _ _ Z.a3.symm hq1)))
  have kp5 : ∀ c o, c ≠ q → c ≠ to → c ≠ p1 → c ≠ p2 → hp.get? c = some o → g5.get? c = some o := fun c o u1 u2 u3 u4 e =>
    b5.extBut _ _ u2 (b4.extBut _ _ u4 (b3.extBut _ _ u2 (b2.extBut _ _ u3 (b1.extBut _ _ u1 e))))
  have s15 : S1 (k + 1) g5 := W1.kp hh s1b fun o e => b5.extBut _ _ Z.a8.symm (b4.extBut _ _ Z.a0 (b3.extBut _ _ Z.a8.symm e))
  have s25 : S2 (k + 1) g5 := W2.kp hh s2b fun o e => b5.extBut _ _ Z.a9.symm e
  have ql : q < g5.objs.size := Heap.lt_size hq5
  show wpAny _ _ (Builtin.SmallTypes.ownedTupleHandOut (.ref q) (.ref g5.objs.size) >>= _) _ _ _
  refine wpAny_bind ?_; unfold Builtin.SmallTypes.ownedTupleHandOut
  have hq6 : IsZip (g5.push { cls := .type "tuple", data := .seq #[x, y] }) q ti to .ellipsis := Heap.get?_push_of_some _ hq5
  refine wpAny_bind (wpAny_setField_rec hq6 (by simp) fun g7 hq7 b7 => ?_)
  replace hq7 : IsZip g7 q ti to (rawInt g5.objs.size) := hq7
  refine wpAny_setField_rec hq7 (by simp) fun g8 hq8 b8 => ?_
  replace hq8 : IsZip g8 q ti to (rawInt g5.objs.size) := hq8
  have up : ∀ c o, c ≠ q → g5.get? c = some o → g8.get? c = some o := fun c o u e => b8.extBut _ _ u (b7.extBut _ _ u (Heap.get?_push_of_some _ e))
  have hT8 : IsPair g8 g5.objs.size x y := b8.extBut _ _ (Nat.ne_of_gt ql) (b7.extBut _ _ (Nat.ne_of_gt ql) (Heap.get?_push_size _ rfl))
  have sz8 : g8.objs.size = g5.objs.size + 1 := by rw [b8.1, b7.1, Heap.size_push]
  rw [sz] at hq8 hT8 sz8
  refine wpAny_pure ⟨_, rfl, ?_⟩
  show Q (.ref g5.objs.size) _
  rw [sz]
  exact hQ x y g8 tk4 px py hq8 (up _ _ Z.a2 ho5) (W1.kp hh s15 fun o e => up _ o Z.a3 e) (W2.kp hh s25 fun o e => up _ o Z.a4 e) hT8 sz8 fun c o u1 u2 u3 u4 e => up c o u1 (kp5 c o u1 u2 u3 u4 e)
theorem zipD_end {Q : Fin → Shared → Prop} (hh : A.handled = none) (W1 : DrA prog w p1 n1 P1 S1) (W2 : DrA prog w p2 n2 P2 S2) (Z : ZAp q ti to p1 p2)
    (hq : IsZip s.heap q ti to .none) (hi : IsPair s.heap ti (.ref p1) (.ref p2)) (ho : IsPair s.heap to a b) (s1 : S1 k s.heap) (s2 : S2 k s.heap) (hend : k = n1 ∨ k < n1 ∧ k = n2)
    (hE : ∀ g e, (∀ c o, c ≠ q → c ≠ to → c ≠ p1 → c ≠ p2 → s.heap.get? c = some o → g.get? c = some o) → (∃ o, g.get? e = some o ∧ o.cls = .type "StopIteration") → ∀ tk, E (.ref e) { s with heap := g, toks := tk }) :
    wpAny (model prog w) A (Builtin.«zip.__next__» ⟨[.ref q], []⟩) Q E s := by
  obtain ⟨hp, gg, dd, tk0, os⟩ := s
  show wpAny _ _ (field (.ref q) 2 >>= _) _ _ _
  refine wpAny_bind (wpAny_field hq rfl (x := .bool false) rfl ?_); show wpAny _ _ (field (.ref q) 3 >>= _) _ _ _
  refine wpAny_bind (wpAny_field hq rfl (x := .ref ti) rfl ?_); refine wpAny_bind (wpAny_seqItems hi rfl ?_)
  show wpAny _ _ (Builtin.SmallTypes.ownedTupleIsFree (.ref q) >>= _) _ _ _
  refine wpAny_bind ?_; unfold Builtin.SmallTypes.ownedTupleIsFree
  refine wpAny_bind (wpAny_field hq rfl (x := .none) rfl (wpAny_pure ?_)); simp only [if_true]; refine wpAny_bind (wpAny_rule ?_)
  refine wpAny_bind (wpAny_field hq rfl (x := .ref to) rfl ?_)
  refine wpAny_bind (wpAny_setField_rec hq (by simp) fun g1 hq1 b1 => ?_)
  replace hq1 : IsZip g1 q ti to .ellipsis := hq1
  refine wpAny_bind ?_; simp only [List.zipIdx_cons, List.zipIdx_nil, List.forIn_cons, List.forIn_nil]
  refine wpAny_bind (wpAny_bind (wpAny_onRaise ?_)); show wpAny _ _ (Builtin.SmallTypes.nextOf (.ref p1) >>= _) _ _ _
  have s1a : S1 k g1 := W1.kp hh s1 fun o e => b1.extBut _ _ Z.a3 e
  rcases hend with e | ⟨l1, e⟩
  · subst e
    refine wpAny_bind ((W1 _ hh).done _ _ _ s1a fun g2 e b2 he => ?_)
    obtain ⟨oe, hoe, hce⟩ := he
    have hq2 : IsZip g2 q ti to .ellipsis := b2 _ _ Z.a3.symm hq1
    have ne : e ≠ q := fun z => by subst z; rw [hq2] at hoe; cases hoe; simp at hce
    exact wpAny_setField_rec hq2 (by simp) fun g3 _ b3 => hE g3 e (fun c o u1 _ u3 _ z => b3.extBut _ _ u1 (b2 _ _ u3 (b1.extBut _ _ u1 z))) ⟨oe, b3.extBut _ _ ne hoe, hce⟩ _
  · subst e
    refine wpAny_bind ((W1 _ hh).item k _ _ _ l1 s1a fun x g2 tk2 px s1b b2 => wpAny_pure ?_)
    replace b2 : Heap.SameBut p1 g1 g2 := b2
    have ho2 : IsPair g2 to a b := b2.extBut _ _ Z.a8 (b1.extBut _ _ Z.a2 ho)
    refine wpAny_bind (wpAny_seqItems (s := ⟨g2, gg, dd, tk2, os⟩) ho2 rfl ?_)
    refine wpAny_bind (wpAny_updateSeq_pair (s := ⟨g2, gg, dd, tk2, os⟩) ho2 fun g3 ho3 b3 => ?_)
    replace b3 : Heap.SameBut to g2 g3 := b3
    refine wpAny_bind (wpAny_letGo (wpAny_pure ?_))
    refine wpAny_bind (wpAny_bind (wpAny_onRaise ?_)); show wpAny _ _ (Builtin.SmallTypes.nextOf (.ref p2) >>= _) _ _ _
    have s2a : S2 k g3 := W2.kp hh s2 fun o e => b3.extBut _ _ Z.a9.symm (b2.extBut _ _ Z.a0.symm (b1.extBut _ _ Z.a4 e))
    refine wpAny_bind ((W2 _ hh).done ⟨g3, gg, dd, tk2, os⟩ _ _ s2a fun g4 e b4 he => ?_)
    replace b4 : Heap.ExtBut p2 g3 g4 := b4
    obtain ⟨oe, hoe, hce⟩ := he
    have hq4 : IsZip g4 q ti to .ellipsis := b4 _ _ Z.a4.symm (b3.extBut _ _ Z.a2.symm (b2.extBut _ _ Z.a3.symm hq1))
    have ne : e ≠ q := fun z => by subst z; rw [hq4] at hoe; cases hoe; simp at hce
    exact wpAny_setField_rec (s := ⟨g4, gg, dd, tk2, os⟩) hq4 (by simp) fun g5 _ b5 => hE g5 e (fun c o u1 u2 u3 u4 z => b5.extBut _ _ u1 (b4 _ _ u4 (b3.extBut _ _ u2 (b2.extBut _ _ u3 (b1.extBut _ _ u1 z))))) ⟨oe, b5.extBut _ _ ne hoe, hce⟩ _
theorem next_zipD_item {Q : Option Value → Shared → Prop} (hh : A.handled = none) (W1 : DrA prog w p1 n1 P1 S1) (W2 : DrA prog w p2 n2 P2 S2) (Z : ZAp q ti to p1 p2)
    (hq : IsZip s.heap q ti to .none) (hi : IsPair s.heap ti (.ref p1) (.ref p2)) (ho : IsPair s.heap to a b) (s1 : S1 k s.heap) (s2 : S2 k s.heap) (l1 : k < n1) (l2 : k < n2)
    (hQ : ∀ x y g tk, P1 k x → P2 k y → IsZip g q ti to (rawInt s.heap.objs.size) → IsPair g to x y → S1 (k + 1) g → S2 (k + 1) g → IsPair g s.heap.objs.size x y → g.objs.size = s.heap.objs.size + 1 →
      (∀ c o, c ≠ q → c ≠ to → c ≠ p1 → c ≠ p2 → s.heap.get? c = some o → g.get? c = some o) → Q (some (.ref s.heap.objs.size)) { s with heap := g, toks := tk }) :
    wpAny (model prog w) A (pyNext (.ref q)) Q E s := by
  have ty : s.TypeIs (.ref q) "zip" := ⟨_, hq, rfl⟩
  unfold pyNext
  exact wpAny_bind (wpAny_attempt (wpAny_callSpecial?_slot (name := Str.ofString "__next__") ty F.slot_zip_next (wpAny_call_entry F.slot_zip_next ty F.entry_zip_next
    (zipD_item hh W1 W2 Z hq hi ho s1 s2 l1 l2 fun x y g tk c1 c2 c3 c4 c5 c6 c7 c8 c9 => wpAny_pure (hQ x y g tk c1 c2 c3 c4 c5 c6 c7 c8 c9)) (F.args_zip_next_1 _))))
theorem next_zipD_end {Q : Option Value → Shared → Prop} (hh : A.handled = none) (W1 : DrA prog w p1 n1 P1 S1) (W2 : DrA prog w p2 n2 P2 S2) (Z : ZAp q ti to p1 p2)
    (hq : IsZip s.heap q ti to .none) (hi : IsPair s.heap ti (.ref p1) (.ref p2)) (ho : IsPair s.heap to a b) (s1 : S1 k s.heap) (s2 : S2 k s.heap) (hend : k = n1 ∨ k < n1 ∧ k = n2)
    (hQ : ∀ g tk, (∀ c o, c ≠ q → c ≠ to → c ≠ p1 → c ≠ p2 → s.heap.get? c = some o → g.get? c = some o) → Q none { s with heap := g, toks := tk }) : wpAny (model prog w) A (pyNext (.ref q)) Q E s := by
  have ty : s.TypeIs (.ref q) "zip" := ⟨_, hq, rfl⟩
  unfold pyNext
  refine wpAny_bind (wpAny_attempt (wpAny_callSpecial?_slot (name := Str.ofString "__next__") ty F.slot_zip_next (wpAny_call_entry F.slot_zip_next ty F.entry_zip_next
    (zipD_end hh W1 W2 Z hq hi ho s1 s2 hend fun g e hk he tk => ?_) (F.args_zip_next_1 _))))
  obtain ⟨oe, hoe, hce⟩ := he
  exact wpAny_bind (wpAny_isInstance (T := "StopIteration") (b := true) ⟨oe, hoe, hce⟩ isSubtype_stop (wpAny_pure (hQ _ _ hk)))
end
/-! the making of it -/
abbrev zs1 (h : Heap) (x : Str) (t : Tok) : Heap := h.push { cls := .type (strIterType x), data := .fields #[.str x t, .int 0 0] }
abbrev zs2 (h : Heap) (x : Str) (t : Tok) (y : Str) (u : Tok) : Heap := zs1 (zs1 h x t) y u
abbrev zs3 (h : Heap) (x : Str) (t : Tok) (y : Str) (u : Tok) : Heap := (zs2 h x t y u).push { cls := .type "tuple", data := .seq #[.ref h.objs.size, .ref (zs1 h x t).objs.size] }
abbrev zs4 (h : Heap) (x : Str) (t : Tok) (y : Str) (u : Tok) : Heap := (zs3 h x t y u).push { cls := .type "tuple", data := .seq #[.none, .none] }
abbrev zs5 (h : Heap) (x : Str) (t : Tok) (y : Str) (u : Tok) : Heap := (zs4 h x t y u).push { cls := .type "zip", data := .fields #[.none, .bool false, .bool false, .ref (zs2 h x t y u).objs.size, .ref (zs3 h x t y u).objs.size] }
set_option maxHeartbeats 2000000 in
theorem meets_zipS (x : Str) (t : Tok) (y : Str) (u : Tok) :
    Meets (Builtin.«zip.__new__» ⟨[.type "zip", .str x t, .str y u], []⟩) (fun _ R s => R (.ok (.ret (.ref (zs4 s.heap x t y u).objs.size))) { s with heap := zs5 s.heap x t y u }) :=
  .of_wp fun prog w A R s h => by
    obtain ⟨hp, g, d, tk, os⟩ := s
    have sub := sub_zip
    wp_walk using wpAny_pyIter_strU, wpAny_pyIter_strU
    exact ⟨_, rfl, h⟩
section
variable {prog : Program} {w : World} {A : Around} {E : Value → Shared → Prop} {s : Shared}
theorem call_zipS {x : Str} {t : Tok} {y : Str} {u : Tok} {Q : Value → Shared → Prop}
    (h : ∀ g, IsZip g (s.heap.objs.size + 4) (s.heap.objs.size + 2) (s.heap.objs.size + 3) .none → IsPair g (s.heap.objs.size + 2) (.ref s.heap.objs.size) (.ref (s.heap.objs.size + 1)) →
      IsPair g (s.heap.objs.size + 3) .none .none → g.IsStrIter s.heap.objs.size (strIterType x) x t 0 → g.IsStrIter (s.heap.objs.size + 1) (strIterType y) y u 0 → g.objs.size = s.heap.objs.size + 5 →
      (∀ c o, s.heap.get? c = some o → g.get? c = some o) → Q (.ref (s.heap.objs.size + 4)) { s with heap := g }) :
    wpAny (model prog w) A (call (.type "zip") [.str x t, .str y u]) Q E s := by
  refine callType_new F.called_zip (by decide) (F.typeCall_zip_2 _ _) (F.newCall_zip_2 _ _) (fun ob => F.args_object_init_3 ob _ _) F.entry_zip_new (meets_zipS x t y u) ?_
  have z1 : (zs1 s.heap x t).objs.size = s.heap.objs.size + 1 := Heap.size_push ..
  have z2 : (zs2 s.heap x t y u).objs.size = s.heap.objs.size + 2 := by rw [Heap.size_push, z1]
  have z3 : (zs3 s.heap x t y u).objs.size = s.heap.objs.size + 3 := by rw [Heap.size_push, z2]
  have z4 : (zs4 s.heap x t y u).objs.size = s.heap.objs.size + 4 := by rw [Heap.size_push, z3]
  have z5 : (zs5 s.heap x t y u).objs.size = s.heap.objs.size + 5 := by rw [Heap.size_push, z4]
  have up : ∀ {g : Heap} {c : Addr} {o r : Obj}, g.get? c = some o → (g.push r).get? c = some o := fun e => Heap.get?_push_of_some _ e
  have k5 : (zs5 s.heap x t y u).get? (zs4 s.heap x t y u).objs.size = some _ := Heap.get?_push_size _ rfl
  have k4 : (zs5 s.heap x t y u).get? (zs3 s.heap x t y u).objs.size = some _ := up (Heap.get?_push_size _ rfl)
  have k3 : (zs5 s.heap x t y u).get? (zs2 s.heap x t y u).objs.size = some _ := up (up (Heap.get?_push_size _ rfl))
  have k2 : (zs5 s.heap x t y u).get? (zs1 s.heap x t).objs.size = some _ := up (up (up (Heap.get?_push_size _ rfl)))
  have k1 : (zs5 s.heap x t y u).get? s.heap.objs.size = some _ := up (up (up (up (Heap.get?_push_size _ rfl))))
  show _ ∧ _
  rw [z2, z3, z4] at k5; rw [z1, z2] at k3; rw [z3] at k4; rw [z1] at k2; rw [z4]
  exact ⟨⟨_, k5, rfl⟩, h _ k5 k3 k4 ⟨_, k1, rfl, rfl⟩ ⟨_, k2, rfl, rfl⟩ z5 fun c o e => up (up (up (up (up e))))⟩
end
/-! the rule -/
def Itzs (x y : Str) : It :=
  ⟨fun i _ => i < x.cps.size ∧ i < y.cps.size, fun i H v H' => ∃ U c d, v = .ref U ∧ H U = none ∧ x.cps[i]? = some c ∧ y.cps[i]? = some d ∧ H' = upd H U (.tup [.str (sg c), .str (sg d)]),
   fun i _ => i = x.cps.size ∨ i < x.cps.size ∧ i = y.cps.size⟩
theorem drA {prog : Program} {w : World} (it : Addr) (x : Str) (t : Tok) : DrA prog w it x.cps.size (fun i v => ∃ c u, x.cps[i]? = some c ∧ v = .str ⟨#[c]⟩ u) (fun i h => h.IsStrIter it (strIterType x) x t i) := fun _ hB => drawsS hB it x t
theorem turn_zipS {P : Program} {w : World} {K : PySem.W.Frag} {elts : List Expr} {kk : Nat} {tpos : Pos} (x : Str) (t : Tok) (y : Str) (u : Tok) {q ti to p1 p2 : Addr} (Z : ZAp q ti to p1 p2) :
    Turn P w K (.Tuple elts kk tpos) (Itzs x y) [q, ti, to, p1, p2] q (fun i h => IsZip h q ti to .none ∧ IsPair h ti (.ref p1) (.ref p2) ∧ (∃ a b, IsPair h to a b) ∧ h.IsStrIter p1 (strIterType x) x t i ∧ h.IsStrIter p2 (strIterType y) y u i) where
  mem := by simp
  obj := fun i h st c hc => by
    obtain ⟨hq, hi, ⟨a, b, ho⟩, ⟨o1, e1, _, d1⟩, ⟨o2, e2, _, d2⟩⟩ := st
    have ec : c = q ∨ c = ti ∨ c = to ∨ c = p1 ∨ c = p2 := by simpa using hc
    rcases ec with z | z | z | z | z <;> rw [z]
    · exact ⟨_, hq, fun v y => nomatch y⟩
    · exact ⟨_, hi, fun v y => nomatch y⟩
    · exact ⟨_, ho, fun v y => nomatch y⟩
    · exact ⟨o1, e1, fun v y => by rw [d1] at y; cases y⟩
    · exact ⟨o2, e2, fun v y => by rw [d2] at y; cases y⟩
  keep := fun i h h' st kp => by
    obtain ⟨hq, hi, ⟨a, b, ho⟩, ⟨o1, e1, r1⟩, ⟨o2, e2, r2⟩⟩ := st
    exact ⟨kp q (by simp) _ hq, kp ti (by simp) _ hi, ⟨a, b, kp to (by simp) _ ho⟩, ⟨o1, kp p1 (by simp) _ e1, r1⟩, ⟨o2, kp p2 (by simp) _ e2, r2⟩⟩
  item := by
    intro X eP eW eK hc i pins s σ H E I hf st hg
    subst eP eW eK
    obtain ⟨hq, hi, ⟨a, b, ho⟩, h1, h2⟩ := st
    obtain ⟨l1, l2⟩ : i < x.cps.size ∧ i < y.cps.size := hg
    have ql : q < s.heap.objs.size := Heap.lt_size hq
    refine next_zipD_item (I.ok.hd hc) (drA p1 x t) (drA p2 y u) Z hq hi ho h1 h2 l1 l2 fun v1 v2 g tk pv1 pv2 hq' ho' h1' h2' hT hsz hk => ?_
    obtain ⟨c, u1, ec, rfl⟩ := pv1
    obtain ⟨d, u2, ed, rfl⟩ := pv2
    refine ⟨_, rfl, wpAny_letOwnedTupleGo_zip (s := { s with heap := g, toks := tk }) hq' fun g2 hq2 sb => ?_⟩
    have hT2 : g2.get? s.heap.objs.size = some { cls := .type "tuple", data := .seq #[.str ⟨#[c]⟩ u1, .str ⟨#[d]⟩ u2] } := (sb.2 _ (Nat.ne_of_gt ql)).trans hT
    have okT : ObjOk X.prog X.w (upd H s.heap.objs.size (.tup [.str (sg c), .str (sg d)])) g2 s.heap.objs.size (.tup [.str (sg c), .str (sg d)]) :=
      ⟨(by show 2 ≤ sizeLine; decide), [.str ⟨#[c]⟩ u1, .str ⟨#[d]⟩ u2], .cons ⟨_, rfl⟩ (.cons ⟨_, rfl⟩ .nil), ⟨_, hT2, rfl, _, rfl⟩⟩
    have I1 : Inv X pins σ (upd H s.heap.objs.size (.tup [.str (sg c), .str (sg d)])) { s with heap := g2, toks := tk } :=
      I.turnedNew (ch := [q, ti, to, p1, p2]) (fun e ob hb z => (sb.2 e (fun z' => hb (by rw [z']; simp))).trans (hk e ob (fun z' => hb (by rw [z']; simp)) (fun z' => hb (by rw [z']; simp)) (fun z' => hb (by rw [z']; simp)) (fun z' => hb (by rw [z']; simp)) z)) hf (Nat.le_refl _) okT
    refine ⟨.ref s.heap.objs.size, _, I1, rfl, ⟨_, c, d, rfl, I.hok.fresh (Nat.le_refl _), ec, ed, rfl⟩, ⟨hq2, ?_, ⟨_, _, (sb.2 _ Z.a2).trans ho'⟩, ?_, ?_⟩, fun e he => ?_⟩
    · exact (sb.2 _ Z.a1).trans (hk _ _ Z.a1 Z.a5 Z.a6 Z.a7 hi)
    · obtain ⟨ob, hob, r⟩ := h1'
      exact ⟨ob, (sb.2 p1 Z.a3).trans hob, r⟩
    · obtain ⟨ob, hob, r⟩ := h2'
      exact ⟨ob, (sb.2 p2 Z.a4).trans hob, r⟩
    · have hlt : e < s.heap.objs.size := by
        have ec : e = q ∨ e = ti ∨ e = to ∨ e = p1 ∨ e = p2 := by simpa using he
        rcases ec with z | z | z | z | z <;> rw [z]
        · exact ql
        · exact Heap.lt_size hi
        · exact Heap.lt_size ho
        · obtain ⟨_, z1, _⟩ := h1; exact Heap.lt_size z1
        · obtain ⟨_, z1, _⟩ := h2; exact Heap.lt_size z1
      rw [upd_ne (Nat.ne_of_lt hlt)]
      exact (hf e he).1
  done := by
    intro X eP eW eK hc i pins s σ H E I hf st hg
    subst eP eW eK
    obtain ⟨hq, hi, ⟨a, b, ho⟩, h1, h2⟩ := st
    exact next_zipD_end (I.ok.hd hc) (drA p1 x t) (drA p2 y u) Z hq hi ho h1 h2 hg fun g tk hk => ⟨rfl, I.turnedL (t' := tk) (ch := [q, ti, to, p1, p2]) (fun c o hb z =>
      hk c o (fun z' => hb (by simp [z'])) (fun z' => hb (by simp [z'])) (fun z' => hb (by simp [z'])) (fun z' => hb (by simp [z'])) z) hf⟩
  self := fun A i s Q E st h => wpAny_pyIter_zip st.1 h
theorem apart (n i j : Nat) (h : i ≠ j) : (n + i : Nat) ≠ n + j := fun z => h (Nat.add_left_cancel z)
def iZipS (ta : TA) : TI := fun σ H R => ta σ H fun vs H1 => ∃ x y, vs = [.str x, .str y] ∧ R (Itzs x y) H1
theorem pi_zipS {X : Cx} {e e2 : Expr} {ta : TA} {p pos tpos : Pos} {elts : List Expr} {kk : Nat} (hg : Gl X "zip") (hm : X.mg "zip" = none) (ha : PA X [e, e2] ta)
    (one : starEach [e, e2] X.env = (false, eval e X.env) :: starEach [e2] X.env := by rfl) (two : (backTo pos (starEach [e2] X.env)).any (·.1) = false := by rfl) :
    PI X (.Tuple elts kk tpos) (.Call (.Name "zip" p) [e, e2] [] pos) (iZipS ta) := by
  refine ⟨fun pins s σ H R I h => ?_⟩
  refine Call_ (ld_blt I hg hm boot_zip (PyProof.Rows.callWith_type1 (thn (ha.run pos pins s σ H _ I h) fun us s1 ⟨vs, H1, I1, rr, qq⟩ => ?_) one two))
  obtain ⟨x, y, rfl, r⟩ := qq
  rcases rr with _ | ⟨r1, rr⟩
  rcases rr with _ | ⟨r2, rr⟩
  cases rr
  obtain ⟨t, rfl⟩ := r1
  obtain ⟨u, rfl⟩ := r2
  refine call_zipS fun g hq hi ho h1 h2 hsz hk => wpAny_pyIter_zip hq ?_
  have I2 : Inv X pins σ H1 { s1 with heap := g } := I1.kept (t' := s1.toks) hk
  have Z : ZAp (s1.heap.objs.size + 4) (s1.heap.objs.size + 2) (s1.heap.objs.size + 3) s1.heap.objs.size (s1.heap.objs.size + 1) := 
    ⟨apart _ 2 4 (by decide), apart _ 3 4 (by decide), apart _ 0 4 (by decide), apart _ 1 4 (by decide), apart _ 2 3 (by decide), apart _ 2 0 (by decide), apart _ 2 1 (by decide), apart _ 3 0 (by decide), apart _ 3 1 (by decide), apart _ 0 1 (by decide)⟩
  refine ⟨s1.heap.objs.size + 4, [s1.heap.objs.size + 4, s1.heap.objs.size + 2, s1.heap.objs.size + 3, s1.heap.objs.size, s1.heap.objs.size + 1], _, _, H1, rfl, I2, turn_zipS x t y u Z, ⟨hq, hi, ⟨_, _, ho⟩, h1, h2⟩, fun c hc => ?_, r⟩
  have ec : c = s1.heap.objs.size + 4 ∨ c = s1.heap.objs.size + 2 ∨ c = s1.heap.objs.size + 3 ∨ c = s1.heap.objs.size ∨ c = s1.heap.objs.size + 1 := by simpa using hc
  have hle : s1.heap.objs.size ≤ c := by
    rcases ec with z | z | z | z | z <;> rw [z]
    · exact Nat.le_add_right _ _
    · exact Nat.le_add_right _ _
    · exact Nat.le_add_right _ _
    · exact Nat.le_refl _
    · exact Nat.le_add_right _ _
  exact I1.fpOk hle (I1.hok.fresh hle)
theorem walk_zipS {x y : Str} {n : Nat} (hn : n = min x.cps.size y.cps.size) : Walk (Itzs x y) n (fun _ => True) (fun i H v H' => ∃ U c d, v = .ref U ∧ H U = none ∧ x.cps[i]? = some c ∧ y.cps[i]? = some d ∧ H' = upd H U (.tup [.str (sg c), .str (sg d)])) := by
  subst hn
  refine ⟨fun i _ hi _ => ⟨Nat.lt_of_lt_of_le hi (Nat.min_le_left _ _), Nat.lt_of_lt_of_le hi (Nat.min_le_right _ _)⟩, fun _ _ => ?_, fun _ _ _ _ _ _ y => y⟩
  show min x.cps.size y.cps.size = x.cps.size ∨ min x.cps.size y.cps.size < x.cps.size ∧ min x.cps.size y.cps.size = y.cps.size
  omega
end LB

namespace LB
open PySem PySem.Spec PyProof.Rows L2
/-! ### list(text), text[::-1] -/
theorem vals_signs {l : List Nat} {acc : List Value} (hn : acc.length = l.length) (h : ∀ (j : Nat) v, acc[j]? = some v → ∃ c u, l[j]? = some c ∧ v = Value.str ⟨#[c]⟩ u) : Vals (l.map fun c => V.str (sg c)) acc := by
  induction l generalizing acc with
  | nil =>
    cases acc with
    | nil => exact .nil
    | cons _ _ => cases hn
  | cons c r ih =>
    cases acc with
    | nil => cases hn
    | cons v q =>
      obtain ⟨c', u, e1, e2⟩ := h 0 v rfl
      cases (Option.some.inj e1)
      refine .cons ⟨u, e2⟩ (ih (by simpa using hn) fun j w hj => ?_)
      simpa using h (j + 1) w (by simpa using hj)
section
variable {X : Cx}
theorem call_list_tx (hc : X.calm = true) : CallR X (.type "list") (fun xs H Q => ∃ l : List Nat, xs = [.str (tx l)] ∧ l.length < 100000 ∧ ∀ p, H p = none → Q (.ref p) (upd H p (.lst (l.map fun c => V.str (sg c))))) := by
  intro pins s σ H xs us Q I r h
  obtain ⟨l, rfl, hl, q⟩ := h
  rcases r with _ | ⟨r1, rr⟩
  cases rr
  obtain ⟨t, rfl⟩ := r1
  have hs : (tx l).cps.size = l.length := List.size_toArray ..
  refine call_list_str (I.ok.hd hc) (tx l) t (fun h' tk acc c kp e it => ?_) (by rw [hs]; exact Nat.le_trans (Nat.le_of_lt hl) (by decide))
  have rv : Vals (l.map fun c => V.str (sg c)) acc.toList := vals_signs (by rw [Array.length_toList, it.1, hs]) fun j v hj => by
    obtain ⟨d, u, e1, e2⟩ := it.2 j v (by rw [← Array.getElem?_toList]; exact hj)
    exact ⟨d, u, by rw [← Array.getElem?_toList] at e1; exact e1, e2⟩
  exact ⟨.ref s.heap.objs.size, _, I.laid (t' := tk) kp (Nat.le_refl _) (show ObjOk X.prog X.w _ h' _ (.lst _) from ⟨by rw [List.length_map]; exact Nat.le_trans (Nat.le_of_lt hl) (by decide), acc.toList, c, rv, by simpa using e⟩), rfl, q _ (I.hok.fresh (Nat.le_refl _))⟩
def tRevS (te : TE) : TE := fun σ H Q => te σ H fun x H1 => ∃ l : List Nat, x = .str (tx l) ∧ l.length < 100000 ∧ Q (.str (tx l.reverse)) H1
theorem rev_pick (l : List Nat) : (⟨((Builtin.Str.strSliceIndices none none (-1) (tx l).length).filterMap ((tx l).cps[·]?)).toArray⟩ : Str) = tx l.reverse := by
  have e : Builtin.Str.strSliceIndices none none (-1) (tx l).length = (List.range (tx l).cps.size).reverse := by
    rw [← PySem.W.krv_range, ← PySem.W.krv_sliceRange]
    rfl
  rw [e, List.filterMap_reverse, PySem.W.krv_all]
theorem pe_revS {e : Expr} {te : TE} {k : Nat} {p1 p2 p3 pos : Pos} (he : PE X e te) : PE X (.Subscript e (.Slice none none (some (.UnaryOp .USub (.Constant (.int 1) k p1) p2)) p3) pos) (tRevS te) := by
  refine ⟨fun pins s σ H Q I h => ?_⟩
  refine Subscript_ (thn (he.run pins s σ H _ I h) fun v s1 ⟨x, H1, I1, r1, l, ex, hl, q⟩ => ?_)
  subst ex
  obtain ⟨t, rfl⟩ := r1
  have hst : PO X (some (.UnaryOp .USub (.Constant (.int 1) k p1) p2)) (tPart (tUn (rU fun i => .int (-i)) (tC (.int 1)))) := po_some (pe_un un_neg pe_int)
  refine wpAny_Slice (thn (po_none.run pins s1 σ H1 (fun o G => o = none ∧ G = H1) I1 ⟨rfl, rfl⟩) fun vl s2 ⟨o2, H2, I2, pl, eo2, eh2⟩ => ?_)
  subst eo2 eh2
  refine thn (po_none.run pins s2 σ H2 (fun o G => o = none ∧ G = H2) I2 ⟨rfl, rfl⟩) fun vu s3 ⟨o3, H3, I3, pu, eo3, eh3⟩ => ?_
  subst eo3 eh3
  refine thn (hst.run pins s3 σ H3 (fun o G => o = some (-1) ∧ G = H3) I3 ⟨1, rfl, -1, rfl, rfl, rfl⟩) fun vs s4 ⟨o4, H4, I4, ps, eo4, eh4⟩ => ?_
  subst eo4 eh4
  obtain ⟨l1, rfl, el1⟩ := IsPart.raw pl
  obtain ⟨u1, rfl, eu1⟩ := IsPart.raw pu
  obtain ⟨w1, rfl, ew1⟩ := IsPart.raw ps
  have I5 : Inv X pins σ H4 { s4 with heap := s4.heap.push { cls := .type "slice", data := .fields #[partValue l1, partValue u1, partValue w1] } } := I4.kept (t' := s4.toks) fun b ob z => Heap.get?_push_of_some _ z
  refine tail_any (ops := [.ref s4.heap.objs.size, .str (tx l) t]) (typeIs_str _ _ _) F.slot_str_getitem.lookup ?_ (by with_unfolding_all rfl)
  refine wpAny_getItem_str_slice (l := l1) (u := u1) (st := w1) ⟨_, Heap.get?_push_size _ rfl, rfl, rfl⟩ (by rw [ew1]; rfl) ?_
  unfold sliceMade slicePicked
  rw [el1, eu1, ew1]
  have c0 : ¬ (((some (-1 : Int)).getD 1 == 1 && (Builtin.Str.strSliceIndices none none ((some (-1 : Int)).getD 1) (tx l).length).length == (tx l).length) = true) := by
    intro z
    rw [Bool.and_eq_true] at z
    exact absurd z.1 (by decide)
  rw [if_neg c0]
  show Made.post (Made.str ⟨((Builtin.Str.strSliceIndices none none (-1) (tx l).length).filterMap ((tx l).cps[·]?)).toArray⟩) _ _
  rw [rev_pick]
  refine ⟨?_, .str _, H4, I5.tok _, ⟨_, rfl⟩, q⟩
  rw [tx_len, List.length_reverse]
  exact Nat.le_trans (Nat.le_of_lt hl) (by decide)
end
end LB

namespace LB
open PySem PySem.Spec PyProof.Rows L2
theorem noPart {σ : L2.St} {H : Hp} {Q : Option Int → Hp → Prop} (h : Q none H) : tNoPart σ H Q := h
/-! ### a tuple turned round -/
section
variable {prog : Program} {w : World} {A : Around} {E : Value → Shared → Prop} {s : Shared}
theorem cut_back {sl : Addr} {va vb vc : Value} {n : Nat} {Q : Int × Int × Nat → Shared → Prop} (hs : s.heap.IsSliceOf sl va vb vc) (pa : IsPart va none) (pb : IsPart vb none) (pc : IsPart vc (some (-1)))
    (h : Q ((n : Int) - 1, -1, n) s) : wpAny (model prog w) A (Builtin.Slice.sliceApplied (.ref sl) (pure (n : Int))) Q E s := by
  obtain ⟨ob, e1, e2, e3⟩ := id hs
  unfold Builtin.Slice.sliceApplied Builtin.Slice.sliceFields
  refine wpAny_bind (wpAny_bind (wpAny_field e1 e3 (x := va) rfl (wpAny_bind (wpAny_field e1 e3 (x := vb) rfl (wpAny_bind (wpAny_field e1 e3 (x := vc) rfl (wpAny_pure ?_)))))))
  refine wpAny_bind (HT.slicePart_ pc ?_)
  show wpAny _ _ (if ((-1 : Int) == 0) = true then _ else _) _ _ s
  rw [if_neg (by decide)]
  refine wpAny_bind (HT.slicePart_ pa (wpAny_bind (HT.slicePart_ pb (wpAny_bind (wpAny_pure ?_)))))
  show wpAny _ _ (pure ((n : Int) - 1, (-1 : Int), Builtin.Slice.slicePlaces ((n : Int) - 1) (-1) (-1))) _ _ s
  have e : Builtin.Slice.slicePlaces ((n : Int) - 1) (-1) (-1) = n := by
    unfold Builtin.Slice.slicePlaces
    rw [if_neg (by omega)]
    by_cases h0 : n = 0
    · subst h0
      rfl
    · rw [if_pos (by omega), show (- -1 : Int) = 1 from rfl, Int.ediv_one]
      omega
  rw [e]
  exact wpAny_pure h
theorem fm_congr {α β : Type} {f g : α → Option β} : ∀ {l : List α}, (∀ x ∈ l, f x = g x) → l.filterMap f = l.filterMap g
  | [], _ => rfl
  | a :: r, h => by
    rw [List.filterMap_cons, List.filterMap_cons, h a (by simp), fm_congr fun x hx => h x (by simp [hx])]
theorem rep_flat (l : List Nat) : ∀ (m : Nat) (acc : List Nat), List.foldl (fun x1 x2 => x1 ++ x2) acc.toArray (List.replicate m l.toArray) = (acc ++ (List.replicate m l).flatten).toArray
  | 0, acc => by simp
  | m + 1, acc => by
    rw [List.replicate_succ, List.replicate_succ, List.foldl_cons, List.append_toArray, rep_flat l m (acc ++ l), List.flatten_cons, List.append_assoc]
theorem pick_back (xs : Array Value) : ((List.range xs.size).filterMap fun (m : Nat) => xs[((xs.size : Int) - 1 + (m : Int) * (-1)).toNat]?).toArray = xs.toList.reverse.toArray := by
  congr 1
  have e : ∀ m ∈ List.range xs.size, xs[((xs.size : Int) - 1 + (m : Int) * (-1)).toNat]? = xs.toList.reverse[m]? := fun m hm => by
    have hm' := List.mem_range.mp hm
    rw [List.getElem?_reverse (by simpa using hm'), Array.length_toList, Array.getElem?_toList, show ((xs.size : Int) - 1 + (m : Int) * (-1)).toNat = xs.size - 1 - m by omega]
  rw [fm_congr e]
  have := HT.pick_gen xs.toList.reverse.toArray 0 xs.size
  simp only [List.getElem?_toArray, List.drop_zero] at this
  have t2 := congrArg Array.toList this
  simp only [List.toList_toArray] at t2
  rw [show (List.range xs.size).filterMap (fun m => xs.toList.reverse[m]?) = (List.range xs.size).filterMap (fun (m : Nat) => xs.toList.reverse[(((0 : Nat) : Int) + (m : Int) * 1).toNat]?) from fm_congr fun m _ => by rw [show (((0 : Nat) : Int) + (m : Int) * 1).toNat = m by omega]]
  rw [t2]
  exact List.take_of_length_le (by simp)
theorem item_back {t sl : Addr} {items : Array Value} {va vb vc : Value} {Q : Value → Shared → Prop} (ht : IsTup s.heap t items) (hs : s.heap.IsSliceOf sl va vb vc) (pa : IsPart va none) (pb : IsPart vb none) (pc : IsPart vc (some (-1)))
    (h : Q (.ref s.heap.objs.size) { s with heap := s.heap.push { cls := .type "tuple", data := .seq items.toList.reverse.toArray } })
    (hsz : items.size ≤ sizeLine) : wpAny (model prog w) A (getItem (.ref t) (.ref sl)) Q E s := by
  have ok : sizeOk (.seq items.toList.reverse.toArray) := by
    show items.toList.reverse.toArray.size ≤ sizeLine
    rw [List.size_toArray, List.length_reverse, Array.length_toList]
    exact hsz
  obtain ⟨ob, e1, e2, e3⟩ := id hs
  have ty : s.TypeIs (.ref sl) "slice" := ⟨ob, e1, e2⟩
  unfold getItem
  try with_reducible (refine wpAny_holding ?_)
  first | (refine wpAny_bind (wpAny_pure ?_)) | skip
  refine wpAny_bind (wpAny_sequenceKey ht.typeIs (by decide) ?_)
  refine wpAny_bind (wpAny_callSpecial?_slot (name := Str.ofString "__getitem__") ht.typeIs PyProof.Rows.slot_tuple_getitem (wpAny_call_entry PyProof.Rows.slot_tuple_getitem ht.typeIs entry_tuple_getitem ?_ (args_tuple_getitem _ _)))
  show wpAny _ _ (Builtin.Tuple.tupleItemsOf (.ref t) >>= _) _ _ s
  refine wpAny_bind (tupleItemsOf_ ht (wpAny_bind (wpAny_typeOf ty ?_)))
  rw [if_pos (by decide)]
  refine wpAny_bind (cut_back hs pa pb pc ?_)
  show wpAny _ _ (if ((items.size : Int) - 1 == 0 && (-1 : Int) == 1 && items.size == items.size) = true then _ else _) _ _ s
  rw [if_neg (by rw [show ((-1 : Int) == 1) = false from rfl, Bool.and_false, Bool.false_and]; exact Bool.false_ne_true), pick_back]
  first
    | (exact wpAny_bind (m := Builtin.Tuple.tupleExact _) (wpAny_newObj_type (wpAny_pure ⟨_, rfl, wpAny_pure h⟩) ok))
    | (exact wpAny_bind (m := Builtin.Tuple.tupleExact _) (wpAny_newObj_type (wpAny_bind (wpAny_pure (wpAny_pure ⟨_, rfl, wpAny_pure h⟩))) ok))
    | (exact wpAny_bind (wpAny_bind (m := Builtin.Tuple.tupleExact _) (wpAny_newObj_type (wpAny_pure (wpAny_pure ⟨_, rfl, wpAny_pure h⟩)) ok)))
    | (exact wpAny_bind (wpAny_bind (m := Builtin.Tuple.tupleExact _) (wpAny_newObj_type (wpAny_pure ⟨_, rfl, wpAny_pure h⟩) ok)))
end
section
variable {X : Cx}
def tRevT (K : PySem.W.Frag) (te : TE) : TE := fun σ H Q => te σ H fun x H1 => ∃ a xs, x = .ref a ∧ SqT K H1 a xs ∧ ∀ p, H1 p = none → Q (.ref p) (upd H1 p (.tup xs.reverse))
theorem pe_revT {e : Expr} {te : TE} {k : Nat} {p1 p2 p3 pos : Pos} (he : PE X e te) : PE X (.Subscript e (.Slice none none (some (.UnaryOp .USub (.Constant (.int 1) k p1) p2)) p3) pos) (tRevT X.K te) := by
  refine ⟨fun pins s σ H Q I h => ?_⟩
  refine Subscript_ (thn (he.run pins s σ H _ I h) fun v s1 ⟨x, H1, I1, r1, a, xs, ex, hx, q⟩ => ?_)
  subst ex
  cases r1
  have hst : PO X (some (.UnaryOp .USub (.Constant (.int 1) k p1) p2)) (tPart (tUn (rU fun i => .int (-i)) (tC (.int 1)))) := po_some (pe_un un_neg pe_int)
  refine wpAny_Slice (thn (po_none.run pins s1 σ H1 (fun o G => o = none ∧ G = H1) I1 ⟨rfl, rfl⟩) fun va s2 ⟨o2, H2, I2, pa, eo2, eh2⟩ => ?_)
  subst eo2 eh2
  refine thn (po_none.run pins s2 σ H2 (fun o G => o = none ∧ G = H2) I2 ⟨rfl, rfl⟩) fun vb s3 ⟨o3, H3, I3, pb, eo3, eh3⟩ => ?_
  subst eo3 eh3
  refine thn (hst.run pins s3 σ H3 (fun o G => o = some (-1) ∧ G = H3) I3 ⟨1, rfl, -1, rfl, rfl, rfl⟩) fun vc s4 ⟨o4, H4, I4, pc, eo4, eh4⟩ => ?_
  subst eo4 eh4
  have I5 : Inv X pins σ H4 { s4 with heap := s4.heap.push { cls := .type "slice", data := .fields #[va, vb, vc] } } := I4.kept (t' := s4.toks) fun b ob z => Heap.get?_push_of_some _ z
  obtain ⟨its, r, ht, hz⟩ := I5.tuple hx
  have hlen := r.length
  show wpAny (model X.prog X.w) X.A (subscriptTail e (.Slice none none (some (.UnaryOp .USub (.Constant (.int 1) k p1) p2)) p3) (.ref a) (.ref s4.heap.objs.size)) (EP X pins σ Q) X.xe { s4 with heap := s4.heap.push { cls := .type "slice", data := .fields #[va, vb, vc] } }
  refine tail_any (ops := [.ref a, .ref s4.heap.objs.size]) ht.typeIs (PyProof.Rows.slot_tuple_getitem.lookup) ?_ (by with_unfolding_all rfl)
  refine item_back ht (Heap.IsSliceOf.new _ va vb vc) pa pb pc ?_ (by rw [List.size_toArray]; omega)
  refine ⟨.ref _, _, I5.laid (t' := s4.toks) (o := .tup xs.reverse) (fun b ob z => Heap.get?_push_of_some _ z) (Nat.le_refl _) ?_, rfl, q _ (I5.hok.fresh (Nat.le_refl _))⟩
  exact ⟨by rw [List.length_reverse]; exact hz, _, r.reverse, IsTup.new _ _⟩
/-! ### text * count -/
theorem mulT {l : List Nat} {k : Int} (h1 : 1 ≤ k) : Txt.mul (tx l) k = tx (List.replicate k.toNat l).flatten := by
  unfold Txt.mul
  rw [if_neg (by omega)]
  by_cases hk : k = 1
  · subst hk
    rw [if_pos (by rw [show ((1 : Int) == 1) = true from rfl, Bool.true_or])]
    show tx l = tx (l ++ [])
    rw [List.append_nil]
  · by_cases hl : l = []
    · subst hl
      rw [if_pos (by rw [show ((tx []).length == 0) = true from rfl, Bool.or_true])]
      congr 1
      rw [List.flatten_replicate_nil]
    · rw [if_neg (by
        rw [tx_len, Bool.or_eq_true]
        rintro (z | z)
        · exact hk (eq_of_beq z)
        · exact hl (List.eq_nil_of_length_eq_zero (eq_of_beq z)))]
      have := rep_flat l k.toNat []
      rw [List.nil_append] at this
      exact congrArg Str.mk this
theorem op_mulS : OpR X (binaryOp .Mult) (fun x y H Q => ∃ (l : List Nat) (k : Int), x = .str (tx l) ∧ y = .int k ∧ 1 ≤ k ∧ k ≤ 1000 ∧ l.length ≤ 1000 ∧ Q (.str (tx (List.replicate k.toNat l).flatten)) H) := by
  intro pins s σ H x y v u Q I rx ry h
  obtain ⟨l, k, rfl, rfl, h1, h2, hl, q⟩ := h
  obtain ⟨t, rfl⟩ := rx
  obtain ⟨t', rfl⟩ := ry
  refine SB.mul ⟨?_, fun _ _ => ?_, fun _ _ => ?_⟩ fun t2 k2 => ⟨.str _, H, I.tok _, ⟨_, rfl⟩, by rw [mulT h1]; exact q⟩
  · rw [decide_eq_false (by omega), decide_eq_false (by omega)]
    rfl
  · rw [tx_len]
    have : (1000 : Int) ≤ (2 ^ 63 - 1) / k := Int.le_ediv_of_mul_le (by omega) (by omega)
    omega
  · rw [tx_len]
    have : l.length * k.toNat ≤ 1000 * 1000 := Nat.mul_le_mul hl (by omega)
    exact decide_eq_false (by rw [sizeLine_eq]; omega)
/-! ### a tuple once or not at all -/
theorem tup_one (l : Addr) (items : Array Value) (n : Nat) (dd : Option Addr) (sl : Array (Option Value)) (u : Tok) :
    Meets (Builtin.«tuple.__mul__» ⟨[.ref l, .int 1 u], []⟩) (fun _ R s => s.heap.get? l = some { cls := .type "tuple", dict := dd, data := .seq items n, slots := sl } ∧ R (.ok (.ret (Value.ref l))) s) :=
  .of_wp fun prog w A R s h => by
    obtain ⟨h0, g0, d0, t0, o0⟩ := s
    obtain ⟨hw, h⟩ := h
    have f1 := AutoSeq1.idx_int
    have c1 : (items.isEmpty || (1 : Int) == 1) = true := by rw [show ((1 : Int) == 1) = true from rfl, Bool.or_true]
    wp_walk using wpAny_loadPart' hw
    repeat (first
      | (refine wpAny_ite_true (decide_eq_true c1) ?_; wp_walk using wpAny_loadPart' hw)
      | (refine wpAny_ite_false (decide_eq_false (by decide)) ?_; wp_walk using wpAny_loadPart' hw))
    exact ⟨_, rfl, h⟩
theorem tup_zero (l : Addr) (items : Array Value) (n : Nat) (dd : Option Addr) (sl : Array (Option Value)) (u : Tok) (hi : items.isEmpty = false) :
    Meets (Builtin.«tuple.__mul__» ⟨[.ref l, .int 0 u], []⟩) (fun _ R s => s.heap.get? l = some { cls := .type "tuple", dict := dd, data := .seq items n, slots := sl } ∧
      R (.ok (.ret (Value.ref s.heap.objs.size))) { s with heap := s.heap.push { cls := Value.type "tuple", data := Data.seq #[] }, toks := s.toks }) :=
  .of_wp fun prog w A R s h => by
    obtain ⟨h0, g0, d0, t0, o0⟩ := s
    obtain ⟨hw, h⟩ := h
    have f1 := AutoSeq1.idx_int
    have c1 : (items.isEmpty || (0 : Int) == 1) = false := by rw [hi]; rfl
    have c2 : (decide ((0 : Int) ≤ 0) || items.isEmpty) = true := by rw [show decide ((0 : Int) ≤ 0) = true from rfl, Bool.true_or]
    wp_walk using wpAny_loadPart' hw
    repeat (first
      | (refine wpAny_ite_false (decide_eq_false (by rw [c1]; exact Bool.false_ne_true)) ?_; wp_walk using wpAny_loadPart' hw)
      | (refine wpAny_ite_true (decide_eq_true c2) ?_; wp_walk using wpAny_loadPart' hw)
      | (refine wpAny_ite_false (decide_eq_false (by decide)) ?_; wp_walk using wpAny_loadPart' hw))
    exact ⟨_, rfl, h⟩
def rRep01 (K : PySem.W.Frag) : R2 := fun x y H Q => ∃ l k xs, x = .ref l ∧ y = .int k ∧ SqT K H l xs ∧ xs ≠ [] ∧ ((k = 1 ∧ Q (.ref l) H) ∨ (k = 0 ∧ ∀ p, H p = none → Q (.ref p) (upd H p (.tup []))))
theorem op_rep01 : OpR X (binaryOp .Mult) (rRep01 X.K) := by
  intro pins s σ H x y v u Q I rx ry h
  obtain ⟨l, k, xs, rfl, rfl, hT, hne, h⟩ := h
  cases rx
  obtain ⟨t, rfl⟩ := ry
  obtain ⟨ws, r, ⟨⟨kc, dd, kd, sl⟩, ho, hc, n, hd⟩, _⟩ := I.tuple hT
  simp only at hc hd
  subst hc hd
  have hi : ws.toArray.isEmpty = false := by
    cases ws with
    | nil =>
      cases r
      exact absurd rfl hne
    | cons a b => rfl
  rcases h with ⟨rfl, q⟩ | ⟨rfl, q⟩
  · exact wpAny_binaryOp_repeat_ref (T := "tuple") (U := "int") (by decide) ⟨_, ho, rfl⟩ (fun s' => typeIs_int s' 1 t) noFill_tuple_mul F.fills_int_mul F.slot_int_rmul repeat_tuple F.slot_int_index.lookup
      (call_meets F.slot_int_rmul (typeIs_int s 1 t) F.entry_int_rmul (F.args_int_rmul_2 _ _) (int_rmul_tuple 1 t l ws.toArray n dd sl)
        ⟨ho, rfl, ⟨_, ho, rfl⟩, call_meets F.slot_tuple_mul ⟨_, ho, rfl⟩ F.entry_tuple_mul (F.args_tuple_mul_2 _ _) (tup_one l ws.toArray n dd sl t) ⟨ho, ⟨.ref l, H, I, rfl, q⟩⟩⟩)
  · refine wpAny_binaryOp_repeat_ref (T := "tuple") (U := "int") (by decide) ⟨_, ho, rfl⟩ (fun s' => typeIs_int s' 0 t) noFill_tuple_mul F.fills_int_mul F.slot_int_rmul repeat_tuple F.slot_int_index.lookup
      (call_meets F.slot_int_rmul (typeIs_int s 0 t) F.entry_int_rmul (F.args_int_rmul_2 _ _) (int_rmul_tuple 0 t l ws.toArray n dd sl)
        ⟨ho, rfl, ⟨_, ho, rfl⟩, call_meets F.slot_tuple_mul ⟨_, ho, rfl⟩ F.entry_tuple_mul (F.args_tuple_mul_2 _ _) (tup_zero l ws.toArray n dd sl t hi) ⟨ho, ?_⟩⟩)
    refine ⟨.ref s.heap.objs.size, _, I.laid (t' := s.toks) (o := .tup []) (fun b ob z => Heap.get?_push_of_some _ z) (Nat.le_refl _) ?_, rfl, q _ (I.hok.fresh (Nat.le_refl _))⟩
    exact ⟨Nat.zero_le _, [], .nil, IsTup.new _ _⟩
end
end LB

namespace LB
open PySem PySem.Spec PyProof.Rows L2
/-! ### atoms, products -/
abbrev Atm := List Nat × Bool
def atD (a : Atm) : D := .tup [.str a.1, .bl a.2]
def prD (as : List Atm) : D := .tup (as.map atD)
structure AtOk (a : Atm) : Prop where
  ne : a.1 ≠ []
  lw : ∀ c ∈ a.1, 97 ≤ c ∧ c < 123
  rs : a.1.Pairwise (· < ·)
  one : a.2 = true ∨ a.1.length = 1
  len : a.1.length < 100
theorem AtOk.ascii {a : Atm} (h : AtOk a) : ascii a.1 := fun c hc => by
  have := h.lw c hc
  omega
theorem AtOk.single {a : Atm} (h : AtOk a) (e : a.2 = false) : ∃ x, a.1 = [x] := by
  rcases h.one with z | z
  · rw [e] at z
    cases z
  · exact List.length_eq_one_iff.mp z
/-! small letters alone -/
def low (zs : List Nat) : Bool := zs.all fun c => decide (c ∈ alphabet.cps.toList)
theorem mem_alpha {c : Nat} (h : 97 ≤ c ∧ c < 123) : c ∈ alphabet.cps.toList := by
  rw [alpha_codes]
  exact List.mem_map.mpr ⟨c - 97, List.mem_range.mpr (by omega), by omega⟩
theorem low_of {zs : List Nat} (h : ∀ c ∈ zs, 97 ≤ c ∧ c < 123) : low zs = true := by
  unfold low
  rw [List.all_eq_true]
  exact fun c hc => decide_eq_true (mem_alpha (h c hc))
theorem rise_get {zs : List Nat} (h : zs.Pairwise (· < ·)) {i c d : Nat} (h1 : zs[i]? = some c) (h2 : (zs.drop 1)[i]? = some d) : c < d := by
  rw [List.getElem?_drop] at h2
  obtain ⟨l1, e1⟩ := List.getElem?_eq_some_iff.mp h1
  obtain ⟨l2, e2⟩ := List.getElem?_eq_some_iff.mp h2
  rw [← e1, ← e2]
  exact List.pairwise_iff_getElem.mp h i (1 + i) l1 l2 (by omega)
/-! the words of a product, sign by sign -/
def drp (c : Nat) : List Atm → Option (List Atm)
  | [] => none
  | a :: r => if c ∈ a.1 then some (if a.2 then a :: r else r) else drp c r
def hold : List Atm → List Nat → Bool
  | _, [] => true
  | as, c :: w => match drp c as with
    | none => false
    | some bs => hold bs w
theorem hold_nil (as : List Atm) : hold as [] = true := by cases as <;> rfl
theorem hold_cons (as : List Atm) (c : Nat) (w : List Nat) : hold as (c :: w) = match drp c as with | none => false | some bs => hold bs w := by cases as <;> rfl
/-- what an atom leaves of a word when it takes all that it can -/
def eat (a : Atm) (w : List Nat) : List Nat := if a.2 = true then w.dropWhile (fun c => decide (c ∈ a.1)) else match w with
  | [] => []
  | c :: r => if [c] = a.1 then r else c :: r
theorem hold_many (a : Atm) (r : List Atm) (e : a.2 = true) : ∀ w : List Nat, hold (a :: r) w = hold r (w.dropWhile fun c => decide (c ∈ a.1))
  | [] => by rw [hold_nil, List.dropWhile_nil, hold_nil]
  | c :: w => by
    rw [hold_cons]
    unfold drp
    by_cases h : c ∈ a.1
    · rw [if_pos h, if_pos e, List.dropWhile_cons, if_pos (by simpa using h)]
      exact hold_many a r e w
    · rw [if_neg h, List.dropWhile_cons, if_neg (by simpa using h), hold_cons]
theorem hold_eat {a : Atm} (ok : AtOk a) (r : List Atm) (w : List Nat) : hold (a :: r) w = hold r (eat a w) := by
  unfold eat
  by_cases e : a.2 = true
  · rw [if_pos e]
    exact hold_many a r e w
  · rw [if_neg e]
    rw [Bool.not_eq_true] at e
    obtain ⟨x, hx⟩ := ok.single e
    cases w with
    | nil => rw [hold_nil, hold_nil]
    | cons c w =>
      rw [hold_cons]
      show _ = hold r (if [c] = a.1 then w else c :: w)
      unfold drp
      by_cases h : c = x
      · subst h
        rw [if_pos (by rw [hx]; simp), if_pos hx.symm, e]
        rfl
      · have h2 : ¬ [c] = a.1 := fun z => h (by rw [hx] at z; simpa using z)
        rw [if_neg (by rw [hx]; simpa using h), if_neg h2, hold_cons]
def eats (as : List Atm) (w : List Nat) : List Nat := as.foldl (fun w a => eat a w) w
theorem eats_hold : ∀ {as : List Atm}, (∀ a ∈ as, AtOk a) → ∀ w, decide (eats as w = []) = hold as w
  | [], _, w => by
    cases w with
    | nil => rfl
    | cons c w => rfl
  | a :: r, h, w => by
    rw [hold_eat (h a (by simp)), ← eats_hold (fun x hx => h x (by simp [hx]))]
    rfl
/-! by places, as the law looks -/
def ixs (as : List Atm) (c lo k : Nat) : List Nat := (List.range' lo k).filter fun j => decide (c ∈ (as.getD j ([], false)).1)
def nxt (as : List Atm) (j : Nat) : Int := (j : Int) + 1 - (if (as.getD j ([], false)).2 = true then 1 else 0)
theorem ixs_next (as : List Atm) (c lo k : Nat) : ixs as c lo (k + 1) = ixs as c lo k ++ if c ∈ (as.getD (lo + k) ([], false)).1 then [lo + k] else [] := by
  unfold ixs
  rw [List.range'_1_concat, List.filter_append]
  congr 1
  by_cases h : c ∈ (as.getD (lo + k) ([], false)).1
  · rw [if_pos h, List.filter_cons, if_pos (by simpa using h)]
    rfl
  · rw [if_neg h, List.filter_cons, if_neg (by simpa using h)]
    rfl
theorem ixs_ge {as : List Atm} {c lo k j : Nat} (h : j ∈ ixs as c lo k) : lo ≤ j ∧ j < lo + k ∧ c ∈ (as.getD j ([], false)).1 := by
  unfold ixs at h
  obtain ⟨h1, h2⟩ := List.mem_filter.mp h
  rw [List.mem_range'_1] at h1
  exact ⟨h1.1, h1.2, of_decide_eq_true h2⟩
theorem ixs_first (as : List Atm) (c lo k : Nat) : ixs as c lo (k + 1) = (if c ∈ (as.getD lo ([], false)).1 then [lo] else []) ++ ixs as c (lo + 1) k := by
  unfold ixs
  rw [List.range'_succ, List.filter_cons]
  by_cases h : c ∈ (as.getD lo ([], false)).1
  · rw [if_pos h, if_pos (by simpa using h)]
    rfl
  · rw [if_neg h, if_neg (by simpa using h)]
    rfl
theorem nxt_ge (as : List Atm) (j : Nat) : (j : Int) ≤ nxt as j ∧ nxt as j ≤ (j : Int) + 1 := by
  unfold nxt
  by_cases h : (as.getD j ([], false)).2 = true
  · rw [if_pos h]
    omega
  · rw [if_neg h]
    omega
theorem getD_at {as : List Atm} {j : Nat} (h : j < as.length) : as.getD j ([], false) = as[j] := by
  rw [List.getD_eq_getElem?_getD, List.getElem?_eq_getElem h]
  rfl
theorem drp_none (as : List Atm) (c : Nat) : ∀ (k lo : Nat), lo + k = as.length → ixs as c lo k = [] → drp c (as.drop lo) = none
  | 0, lo, h, _ => by
    rw [List.drop_of_length_le (by omega)]
    rfl
  | k + 1, lo, h, e => by
    have hl : lo < as.length := by omega
    rw [ixs_first] at e
    obtain ⟨e1, e2⟩ := List.append_eq_nil_iff.mp e
    rw [List.drop_eq_getElem_cons hl]
    unfold drp
    by_cases hc : c ∈ (as.getD lo ([], false)).1
    · rw [if_pos hc] at e1
      cases e1
    · rw [getD_at hl] at hc
      rw [if_neg hc]
      exact drp_none as c k (lo + 1) (by omega) e2
theorem drp_some (as : List Atm) (c : Nat) : ∀ (k lo : Nat) (m : Int), lo + k = as.length → m ∈ (ixs as c lo k).map (nxt as) → (∀ y ∈ (ixs as c lo k).map (nxt as), m ≤ y) → drp c (as.drop lo) = some (as.drop m.toNat)
  | 0, lo, m, h, hm, _ => by cases hm
  | k + 1, lo, m, h, hm, hle => by
    have hl : lo < as.length := by omega
    rw [List.drop_eq_getElem_cons hl]
    unfold drp
    rw [ixs_first] at hm hle
    by_cases hc : c ∈ (as.getD lo ([], false)).1
    · rw [if_pos hc] at hm hle
      have h1 : m ≤ nxt as lo := hle _ (by simp)
      have h2 : m = nxt as lo := by
        simp only [List.map_append, List.map_cons, List.map_nil, List.mem_append, List.mem_singleton] at hm
        rcases hm with hm | hm
        · exact hm
        · obtain ⟨j, hj, rfl⟩ := List.mem_map.mp hm
          have g1 := (ixs_ge hj).1
          have g2 := nxt_ge as j
          have g3 := nxt_ge as lo
          omega
      rw [getD_at hl] at hc
      rw [if_pos hc, h2]
      unfold nxt
      rw [getD_at hl]
      by_cases hb : as[lo].2 = true
      · rw [if_pos hb, if_pos hb, show ((lo : Int) + 1 - 1).toNat = lo by omega, List.drop_eq_getElem_cons hl]
      · rw [if_neg hb, if_neg hb, show ((lo : Int) + 1 - 0).toNat = lo + 1 by omega]
    · rw [if_neg hc, List.nil_append] at hm hle
      rw [getD_at hl] at hc
      rw [if_neg hc]
      exact drp_some as c k (lo + 1) m (by omega) hm hle
theorem nxt_bd {as : List Atm} {c lo k : Nat} {m : Int} (h : lo + k = as.length) (hm : m ∈ (ixs as c lo k).map (nxt as)) : 0 ≤ m ∧ m.toNat ≤ as.length := by
  obtain ⟨j, hj, rfl⟩ := List.mem_map.mp hm
  have g1 := ixs_ge hj
  have g2 := nxt_ge as j
  omega
/-! a word as a product -/
def ofW (ws : List Nat) : List Atm := ws.map fun c => ([c], false)
theorem ofW_ok {ws : List Nat} (h : ∀ c ∈ ws, 97 ≤ c ∧ c < 123) : ∀ a ∈ ofW ws, AtOk a := fun a ha => by
  obtain ⟨c, hc, rfl⟩ := List.mem_map.mp ha
  exact ⟨by simp, fun d hd => by rw [List.mem_singleton.mp hd]; exact h c hc, List.pairwise_singleton _ _, .inr rfl, by simp⟩
theorem isS_map {α : Type} {o : Option (List α)} {f : List α → List α} : (o.map f).isSome = o.isSome := by cases o <;> rfl
theorem gs_any : ∀ (a g : List Nat) (k j : Nat), (gs a g k).isSome = (gs a g j).isSome
  | [], g, k, j => by rw [gs_nil, gs_nil]
  | _ :: _, [], k, j => rfl
  | x :: r, y :: q, k, j => by
    unfold gs
    by_cases e : y = x
    · rw [if_pos e, if_pos e, isS_map, isS_map]
      exact gs_any r q (k + 1) (j + 1)
    · rw [if_neg e, if_neg e]
      exact gs_any (x :: r) q (k + 1) (j + 1)
theorem hold_ofW : ∀ (g a : List Nat), hold (ofW g) a = (gs a g 0).isSome
  | g, [] => by rw [hold_nil, gs_nil]; rfl
  | [], c :: w => rfl
  | x :: g, c :: w => by
    rw [hold_cons]
    show (match drp c (([x], false) :: ofW g) with | none => false | some bs => hold bs w) = _
    unfold drp gs
    by_cases e : c = x
    · subst e
      rw [if_pos (by simp), if_pos rfl, isS_map, gs_any w g (0 + 1) 0]
      exact hold_ofW g w
    · rw [if_neg (by simpa using e), if_neg (fun z => e z.symm), gs_any (c :: w) g (0 + 1) 0, ← hold_ofW g (c :: w), hold_cons]
/-! products in the heap -/
theorem Rp.bl {av : Addr → Prop} {H : Hp} {n : Nat} {v : V} {b : Bool} (h : Rp av H n v (.bl b)) : v = .bl b := by
  cases n with
  | zero =>
    cases v <;> first | cases h | skip
    rfl
  | succ n =>
    rcases h with h | ⟨_, _, _, _, z, _⟩ | ⟨_, _, _, _, z, _⟩
    · cases v <;> first | cases h | skip
      rfl
    · cases z
    · cases z
theorem rp_bl {av : Addr → Prop} {H : Hp} {n : Nat} {b : Bool} : Rp av H n (.bl b) (.bl b) := flatR_rp n rfl
theorem Rp.atom {av : Addr → Prop} {H : Hp} {n : Nat} {v : V} {a : Atm} (h : Rp av H (n + 1) v (atD a)) : ∃ p, v = .ref p ∧ ¬ av p ∧ H p = some (.tup [.str (tx a.1), .bl a.2]) := by
  obtain ⟨p, xs, rfl, na, hp, _, pp⟩ := h.tup
  rcases pp with _ | ⟨a1, pp⟩
  rcases pp with _ | ⟨a2, pp⟩
  cases pp
  rw [(Rp.str a1).1, Rp.bl a2] at hp
  exact ⟨p, rfl, na, hp⟩
theorem rp_atom {av : Addr → Prop} {H : Hp} {n : Nat} {p : Addr} {a : Atm} (na : ¬ av p) (as : ascii a.1) (hp : H p = some (.tup [.str (tx a.1), .bl a.2])) : Rp av H (n + 1) (.ref p) (atD a) :=
  rp_tup na hp (by show 2 < 100000; decide) (.cons (rp_str as) (.cons rp_bl .nil))
/-- a product's value, with its items -/
theorem Rp.prod {av : Addr → Prop} {H : Hp} {v : V} {as : List Atm} (h : Rp av H 2 v (prD as)) : ∃ p xs, v = .ref p ∧ ¬ av p ∧ H p = some (.tup xs) ∧ xs.length = as.length ∧ as.length < 100000 ∧ Paired (Rp av H 1) xs (as.map atD) := by
  obtain ⟨p, xs, rfl, na, hp, hl, pp⟩ := h.tup
  have := Paired.length pp
  rw [List.length_map] at this
  exact ⟨p, xs, rfl, na, hp, this, by omega, pp⟩
theorem prod_get {av : Addr → Prop} {H : Hp} {xs : List V} {as : List Atm} {i : Nat} {x : V} (pp : Paired (Rp av H 1) xs (as.map atD)) (hx : xs[i]? = some x) : ∃ a, as[i]? = some a ∧ ∃ p, x = .ref p ∧ ¬ av p ∧ H p = some (.tup [.str (tx a.1), .bl a.2]) := by
  have hl := Paired.length pp
  rw [List.length_map] at hl
  obtain ⟨l1, e1⟩ := List.getElem?_eq_some_iff.mp hx
  have l2 : i < as.length := by omega
  refine ⟨as[i], List.getElem?_eq_getElem l2, ?_⟩
  obtain ⟨y, hy, r⟩ := paired_rget (i := i) pp (by rw [List.getElem?_map, List.getElem?_eq_getElem l2]; rfl)
  rw [hx] at hy
  cases hy
  exact Rp.atom r
theorem eats_take {as : List Atm} {i : Nat} {a : Atm} (h : as[i]? = some a) (w : List Nat) : eats (as.take (i + 1)) w = eat a (eats (as.take i) w) := by
  unfold eats
  rw [List.take_add_one, h, List.foldl_append]
  rfl
theorem mem_of_get {α : Type} {xs : List α} {i : Nat} {x : α} (h : xs[i]? = some x) : x ∈ xs := List.mem_of_getElem? h
/-! letters sorted -/
theorem rising_le : ∀ (ds : List Nat) (p : Nat), risingS (sg p) (ds.map sg) = true → (p :: ds).Pairwise (· ≤ ·)
  | [], p, _ => List.pairwise_singleton _ _
  | x :: r, p, h => by
    have h' : (!ltCps [x] [p] && risingS (sg x) (r.map sg)) = true := h
    rw [Bool.and_eq_true] at h'
    have ih := rising_le r x h'.2
    have hx : p ≤ x := by
      have := h'.1
      by_cases lt : x < p
      · simp [ltCps, lt] at this
      · omega
    rw [List.pairwise_cons] at ih ⊢
    refine ⟨fun y hy => ?_, List.pairwise_cons.mpr ih⟩
    rcases List.mem_cons.mp hy with e | e
    · omega
    · exact Nat.le_trans hx (ih.1 y e)
theorem srt_letters {cs : List Nat} {ys : List Str} (p : ys.Perm (cs.map sg)) (h : sortedS ys = true) (nd : cs.Nodup) : ∃ ds : List Nat, ys = ds.map sg ∧ ds.Pairwise (· < ·) ∧ ds.length = cs.length ∧ ∀ c ∈ ds, c ∈ cs := by
  obtain ⟨ds, e⟩ : ∃ ds : List Nat, ys = ds.map sg := by
    refine ⟨ys.map fun y => y.cps.toList.headD 0, ?_⟩
    rw [List.map_map]
    refine ((List.map_congr_left (g := id) fun y hy => ?_).trans (List.map_id ys)).symm
    obtain ⟨c, _, rfl⟩ := List.mem_map.mp (p.subset hy)
    rfl
  subst e
  have pd : ds.Perm cs := by
    have := p.map fun y : Str => y.cps.toList.headD 0
    rw [List.map_map, List.map_map] at this
    simpa [Function.comp_def] using this
  have le : ds.Pairwise (· ≤ ·) := by
    cases ds with
    | nil => exact .nil
    | cons x r => exact rising_le r x h
  have nd' : ds.Pairwise (· ≠ ·) := pd.nodup_iff.mpr nd
  refine ⟨ds, rfl, (le.and nd').imp fun h => by omega, pd.length_eq, fun c hc => pd.subset hc⟩
end LB

namespace LB
open PySem PySem.Spec PyProof.Rows L2
/-! ### a product has with a word all that lie within it -/
theorem dw_mono (f : Nat → Bool) {v w : List Nat} (h : v.Sublist w) : (v.dropWhile f).Sublist (w.dropWhile f) := by
  induction h with
  | slnil => exact .slnil
  | @cons l1 l2 a h ih =>
    rw [List.dropWhile_cons]
    by_cases e : f a = true
    · rw [if_pos e]
      exact ih
    · rw [if_neg e]
      exact ((List.dropWhile_sublist f).trans h).trans (List.sublist_cons_self _ _)
  | @cons_cons l1 l2 a h ih =>
    rw [List.dropWhile_cons, List.dropWhile_cons]
    by_cases e : f a = true
    · rw [if_pos e, if_pos e]
      exact ih
    · rw [if_neg e, if_neg e]
      exact h.cons_cons a
theorem eat_sub (a : Atm) (w : List Nat) : (eat a w).Sublist w := by
  unfold eat
  by_cases e : a.2 = true
  · rw [if_pos e]
    exact List.dropWhile_sublist _
  · rw [if_neg e]
    cases w with
    | nil => exact .slnil
    | cons c r =>
      show (if [c] = a.1 then r else c :: r).Sublist _
      by_cases h : [c] = a.1
      · rw [if_pos h]
        exact List.sublist_cons_self _ _
      · rw [if_neg h]
        exact List.Sublist.refl _
theorem eat_mono (a : Atm) {v w : List Nat} (h : v.Sublist w) : (eat a v).Sublist (eat a w) := by
  by_cases e : a.2 = true
  · unfold eat
    rw [if_pos e, if_pos e]
    exact dw_mono _ h
  · cases w with
    | nil =>
      rw [List.sublist_nil.mp h]
      exact List.Sublist.refl _
    | cons d w =>
      have ed : eat a (d :: w) = if [d] = a.1 then w else d :: w := by
        unfold eat
        rw [if_neg e]
      by_cases hd : [d] = a.1
      · rw [ed, if_pos hd]
        cases v with
        | nil =>
          have : eat a [] = [] := by
            unfold eat
            rw [if_neg e]
          rw [this]
          exact List.nil_sublist _
        | cons c v =>
          have ec : eat a (c :: v) = if [c] = a.1 then v else c :: v := by
            unfold eat
            rw [if_neg e]
          rw [ec]
          by_cases hc : [c] = a.1
          · rw [if_pos hc]
            rcases List.sublist_cons_iff.mp h with h | ⟨r, e1, h⟩
            · exact (List.sublist_cons_self _ _).trans h
            · cases e1
              exact h
          · rw [if_neg hc]
            rcases List.sublist_cons_iff.mp h with h | ⟨r, e1, h⟩
            · exact h
            · cases e1
              exact absurd hd hc
      · rw [ed, if_neg hd]
        exact (eat_sub a v).trans h
theorem hold_mono : ∀ {as : List Atm}, (∀ a ∈ as, AtOk a) → ∀ {v w : List Nat}, v.Sublist w → hold as w = true → hold as v = true
  | [], _, v, w, h, e => by
    cases w with
    | nil =>
      rw [List.sublist_nil.mp h]
      rfl
    | cons c r => cases e
  | a :: r, ok, v, w, h, e => by
    rw [hold_eat (ok a (by simp))] at e ⊢
    exact hold_mono (fun x hx => ok x (by simp [hx])) (eat_mono a h) e
/-! ### a word that decides -/
def rep (n : Nat) (l : List Nat) : List Nat := (List.replicate n l).flatten
theorem rep_succ (n : Nat) (l : List Nat) : rep (n + 1) l = l ++ rep n l := by
  unfold rep
  rw [List.replicate_succ, List.flatten_cons]
theorem rep_le {l : List Nat} : ∀ {m n : Nat}, m ≤ n → (rep m l).Sublist (rep n l)
  | 0, n, _ => List.nil_sublist _
  | m + 1, 0, h => absurd h (by omega)
  | m + 1, n + 1, h => by
    rw [rep_succ, rep_succ]
    exact (List.Sublist.refl l).append (rep_le (by omega))
def chk (n : Nat) (a : Atm) : List Nat := rep (1 + n * (if a.2 = true then 1 else 0)) a.1
theorem chk_many {n : Nat} {a : Atm} (e : a.2 = true) : chk n a = a.1 ++ rep n a.1 := by
  unfold chk
  rw [if_pos e, Nat.mul_one, Nat.add_comm, rep_succ]
theorem chk_one {n : Nat} {a : Atm} (e : a.2 = false) : chk n a = a.1 := by
  unfold chk
  rw [if_neg (by rw [e]; exact Bool.false_ne_true), Nat.mul_zero, rep_succ]
  show a.1 ++ [] = _
  rw [List.append_nil]
def lng (n : Nat) (as : List Atm) : List Nat := as.flatMap (chk n)
theorem lng_cons (n : Nat) (a : Atm) (r : List Atm) : lng n (a :: r) = chk n a ++ lng n r := rfl
theorem chk_le {a : Atm} {m n : Nat} (h : m ≤ n) : (chk m a).Sublist (chk n a) := by
  by_cases e : a.2 = true
  · rw [chk_many e, chk_many e]
    exact (List.Sublist.refl _).append (rep_le h)
  · rw [Bool.not_eq_true] at e
    rw [chk_one e, chk_one e]
    exact List.Sublist.refl _
theorem lng_le {m n : Nat} (h : m ≤ n) : ∀ as : List Atm, (lng m as).Sublist (lng n as)
  | [] => .slnil
  | a :: r => by
    rw [lng_cons, lng_cons]
    exact (chk_le h).append (lng_le h r)
/-- whether the great atom is many and has all letters of the small one -/
def tk (g s : Atm) : Bool := g.2 && s.1.all fun c => decide (c ∈ g.1)
theorem tk_iff {g s : Atm} : tk g s = true ↔ g.2 = true ∧ ∀ c ∈ s.1, c ∈ g.1 := by
  unfold tk
  rw [Bool.and_eq_true, List.all_eq_true]
  simp
def eatP (a : Atm) (one : List Atm) : List Atm := if a.2 = true then one.dropWhile (tk a) else match one with
  | [] => []
  | x :: r => if x = a then r else x :: r
def eatsP (other one : List Atm) : List Atm := other.foldl (fun o a => eatP a o) one
def insB (one other : List Atm) : Bool := decide (eatsP other one = [])
theorem eatP_mem {a : Atm} {one : List Atm} {x : Atm} (h : x ∈ eatP a one) : x ∈ one := by
  unfold eatP at h
  by_cases e : a.2 = true
  · rw [if_pos e] at h
    exact (List.dropWhile_sublist _).subset h
  · rw [if_neg e] at h
    cases one with
    | nil => cases h
    | cons y r =>
      have h' : x ∈ (if y = a then r else y :: r) := h
      by_cases c : y = a
      · rw [if_pos c] at h'
        exact List.mem_cons_of_mem _ h'
      · rw [if_neg c] at h'
        exact h'
theorem dw_all (f : Nat → Bool) : ∀ (l z : List Nat), (∀ c ∈ l, f c = true) → (l ++ z).dropWhile f = z.dropWhile f
  | [], z, _ => rfl
  | c :: l, z, h => by
    rw [List.cons_append, List.dropWhile_cons, if_pos (h c (by simp))]
    exact dw_all f l z fun d hd => h d (by simp [hd])
theorem dw_some (f : Nat → Bool) : ∀ (l z : List Nat), (∃ c ∈ l, f c = false) → (l ++ z).dropWhile f = l.dropWhile f ++ z
  | [], z, h => by
    obtain ⟨c, hc, _⟩ := h
    cases hc
  | c :: l, z, h => by
    rw [List.cons_append, List.dropWhile_cons, List.dropWhile_cons]
    by_cases e : f c = true
    · rw [if_pos e, if_pos e]
      refine dw_some f l z ?_
      obtain ⟨d, hd, e2⟩ := h
      rcases List.mem_cons.mp hd with z | z
      · rw [z, e] at e2
        cases e2
      · exact ⟨d, z, e2⟩
    · rw [if_neg e, if_neg e]
      rfl
theorem mem_rep {c : Nat} {l : List Nat} : ∀ {n : Nat}, c ∈ rep n l → c ∈ l
  | 0, h => by cases h
  | n + 1, h => by
    rw [rep_succ, List.mem_append] at h
    rcases h with h | h
    · exact h
    · exact mem_rep h
/-- what an atom leaves of the word that decides lies between two such words of what it leaves of the product -/
theorem eat_lng {a : Atm} (oka : AtOk a) {n : Nat} (hn : 0 < n) : ∀ (one : List Atm), (∀ x ∈ one, AtOk x) →
    (lng (n - 1) (eatP a one)).Sublist (eat a (lng n one)) ∧ (eat a (lng n one)).Sublist (lng n (eatP a one)) := by
  by_cases ea : a.2 = true
  · have e1 : ∀ w, eat a w = w.dropWhile (fun c => decide (c ∈ a.1)) := fun w => by
      unfold eat
      rw [if_pos ea]
    have e2 : ∀ o, eatP a o = o.dropWhile (tk a) := fun o => by
      unfold eatP
      rw [if_pos ea]
    intro one
    induction one with
    | nil =>
      intro _
      rw [e1, e2]
      exact ⟨.slnil, .slnil⟩
    | cons y r ih =>
      intro ok
      rw [e1, e2, lng_cons, List.dropWhile_cons]
      by_cases t : tk a y = true
      · rw [if_pos t, dw_all]
        · have := ih fun x hx => ok x (by simp [hx])
          rw [e1, e2] at this
          exact this
        · intro c hc
          exact decide_eq_true ((tk_iff.mp t).2 c (mem_rep hc))
      · rw [if_neg t]
        have hy : ∃ c ∈ y.1, decide (c ∈ a.1) = false := by
          by_cases h : ∃ c ∈ y.1, decide (c ∈ a.1) = false
          · exact h
          · refine absurd (tk_iff.mpr ⟨ea, fun c hc => ?_⟩) t
            by_cases m : c ∈ a.1
            · exact m
            · exact absurd ⟨c, hc, decide_eq_false m⟩ h
        by_cases ey : y.2 = true
        · rw [chk_many ey, List.append_assoc, dw_some _ _ _ hy]
          refine ⟨?_, ?_⟩
          · rw [lng_cons, chk_many ey, ← rep_succ, show n - 1 + 1 = n by omega]
            exact ((List.Sublist.refl _).append (lng_le (by omega) r)).trans (List.sublist_append_right _ _)
          · rw [lng_cons, chk_many ey, List.append_assoc]
            exact (List.dropWhile_sublist _).append (List.Sublist.refl _)
        · rw [Bool.not_eq_true] at ey
          obtain ⟨x, hx⟩ := (ok y (by simp)).single ey
          rw [chk_one ey, dw_some _ _ _ hy, lng_cons, lng_cons, chk_one ey, chk_one ey]
          have e3 : y.1.dropWhile (fun c => decide (c ∈ a.1)) = y.1 := by
            obtain ⟨c, hc, hf⟩ := hy
            rw [hx] at hc ⊢
            rw [List.mem_singleton.mp hc] at hf
            rw [List.dropWhile_cons, if_neg (by rw [hf]; exact Bool.false_ne_true)]
          rw [e3]
          exact ⟨(List.Sublist.refl _).append (lng_le (by omega) r), List.Sublist.refl _⟩
  · rw [Bool.not_eq_true] at ea
    obtain ⟨x, hx⟩ := oka.single ea
    intro one ok
    cases one with
    | nil =>
      have : eatP a [] = [] := by
        unfold eatP
        rw [if_neg (by rw [ea]; exact Bool.false_ne_true)]
      rw [this]
      have : eat a (lng n []) = [] := by
        unfold eat
        rw [if_neg (by rw [ea]; exact Bool.false_ne_true)]
        rfl
      rw [this]
      exact ⟨.slnil, .slnil⟩
    | cons y r =>
      have oky := ok y (by simp)
      obtain ⟨c, t, hy⟩ : ∃ c t, y.1 = c :: t := by
        cases h : y.1 with
        | nil => exact absurd h oky.ne
        | cons c t => exact ⟨c, t, rfl⟩
      have el : ∃ z, chk n y ++ lng n r = c :: z := by
        by_cases ey : y.2 = true
        · rw [chk_many ey, hy]
          exact ⟨_, rfl⟩
        · rw [Bool.not_eq_true] at ey
          rw [chk_one ey, hy]
          exact ⟨_, rfl⟩
      obtain ⟨z, hz⟩ := el
      have e1 : eat a (lng n (y :: r)) = if [c] = a.1 then z else c :: z := by
        rw [lng_cons, hz]
        unfold eat
        rw [if_neg (by rw [ea]; exact Bool.false_ne_true)]
      have e2 : eatP a (y :: r) = if y = a then r else y :: r := by
        unfold eatP
        rw [if_neg (by rw [ea]; exact Bool.false_ne_true)]
      rw [e1, e2]
      by_cases hya : y = a
      · rw [if_pos hya]
        subst hya
        rw [hx] at hy
        cases hy
        rw [if_pos hx.symm]
        rw [chk_one ea, hx] at hz
        have : lng n r = z := by
          injection hz
        rw [← this]
        exact ⟨lng_le (by omega) r, List.Sublist.refl _⟩
      · rw [if_neg hya]
        by_cases hc : [c] = a.1
        · rw [if_pos hc]
          have ey : y.2 = true := by
            rcases oky.one with h | h
            · exact h
            · refine Classical.byContradiction fun h2 => hya ?_
              rw [Bool.not_eq_true] at h2
              obtain ⟨u, hu⟩ := List.length_eq_one_iff.mp h
              rw [hy] at hu
              injection hu with hu1 hu2
              refine Prod.ext ?_ (h2.trans ea.symm)
              rw [hy, hu2]
              exact hc
          rw [lng_cons, lng_cons, hz]
          refine ⟨?_, List.sublist_cons_self _ _⟩
          rw [chk_many ey, ← rep_succ, show n - 1 + 1 = n by omega]
          have hz2 : t ++ (rep n y.1 ++ lng n r) = z := by
            rw [chk_many ey, hy] at hz
            rw [hy]
            simpa using hz
          rw [← hz2]
          exact ((List.Sublist.refl _).append (lng_le (by omega) r)).trans (List.sublist_append_right _ _)
        · rw [if_neg hc, lng_cons, lng_cons, hz]
          refine ⟨?_, List.Sublist.refl _⟩
          rw [← hz]
          exact (chk_le (by omega)).append (lng_le (by omega) r)
theorem lng_nil {n : Nat} {one : List Atm} (ok : ∀ x ∈ one, AtOk x) : lng n one = [] ↔ one = [] := by
  constructor
  · intro h
    cases one with
    | nil => rfl
    | cons y r =>
      rw [lng_cons] at h
      have h1 := (List.append_eq_nil_iff.mp h).1
      unfold chk at h1
      rw [Nat.add_comm, rep_succ] at h1
      exact absurd (List.append_eq_nil_iff.mp h1).1 (ok y (by simp)).ne
  · rintro rfl
    rfl
theorem ins_hold : ∀ {other : List Atm}, (∀ a ∈ other, AtOk a) → ∀ {n : Nat}, other.length ≤ n → ∀ {one : List Atm}, (∀ x ∈ one, AtOk x) → hold other (lng n one) = insB one other
  | [], _, n, _, one, ok => by
    unfold insB
    show hold [] (lng n one) = decide (one = [])
    by_cases h : one = []
    · rw [decide_eq_true h, (lng_nil ok).mpr h]
      rfl
    · rw [decide_eq_false h]
      cases e : lng n one with
      | nil => exact absurd ((lng_nil ok).mp e) h
      | cons c r => rfl
  | a :: r, oko, n, hn, one, ok => by
    have hn' : r.length + 1 ≤ n := by simpa using hn
    have okr : ∀ x ∈ r, AtOk x := fun x hx => oko x (by simp [hx])
    have okp : ∀ x ∈ eatP a one, AtOk x := fun x hx => ok x (eatP_mem hx)
    rw [hold_eat (oko a (by simp))]
    have e : insB one (a :: r) = insB (eatP a one) r := rfl
    obtain ⟨h1, h2⟩ := eat_lng (oko a (by simp)) (show 0 < n by omega) one ok
    have g1 := ins_hold okr (n := n - 1) (by omega) okp
    have g2 := ins_hold okr (n := n) (by omega) okp
    rw [e]
    cases hb : insB (eatP a one) r with
    | true =>
      rw [hb] at g2
      exact hold_mono okr h2 g2
    | false =>
      rw [hb] at g1
      cases hh : hold r (eat a (lng n one)) with
      | false => rfl
      | true =>
        rw [hold_mono okr h1 hh] at g1
        cases g1
/-! the words of a product lie within words that decide -/
theorem sub_rep {l : List Nat} : ∀ {v : List Nat}, (∀ c ∈ v, c ∈ l) → v.Sublist (rep v.length l)
  | [], _ => .slnil
  | c :: v, h => by
    rw [List.length_cons, rep_succ]
    exact (List.singleton_sublist.mpr (h c (by simp))).append (sub_rep fun d hd => h d (by simp [hd]))
theorem tw_all {f : Nat → Bool} : ∀ {l : List Nat} {c : Nat}, c ∈ l.takeWhile f → f c = true
  | [], _, h => by cases h
  | x :: l, c, h => by
    rw [List.takeWhile_cons] at h
    by_cases e : f x = true
    · rw [if_pos e] at h
      rcases List.mem_cons.mp h with z | z
      · rw [z]
        exact e
      · exact tw_all z
    · rw [if_neg e] at h
      cases h
theorem hold_sub : ∀ {one : List Atm}, (∀ x ∈ one, AtOk x) → ∀ {w : List Nat} {m : Nat}, w.length ≤ m → hold one w = true → w.Sublist (lng m one)
  | [], _, w, m, _, h => by
    cases w with
    | nil => exact .slnil
    | cons c r => cases h
  | a :: r, ok, w, m, hm, h => by
    rw [hold_eat (ok a (by simp))] at h
    have okr : ∀ x ∈ r, AtOk x := fun x hx => ok x (by simp [hx])
    have ih := hold_sub okr (Nat.le_trans (eat_sub a w).length_le hm) h
    rw [lng_cons]
    obtain ⟨p, e, hp⟩ : ∃ p, w = p ++ eat a w ∧ p.Sublist (chk m a) := by
      by_cases ea : a.2 = true
      · refine ⟨w.takeWhile (fun c => decide (c ∈ a.1)), ?_, ?_⟩
        · unfold eat
          rw [if_pos ea, List.takeWhile_append_dropWhile]
        · rw [chk_many ea, ← rep_succ]
          refine (sub_rep fun c hc => ?_).trans (rep_le ?_)
          · exact of_decide_eq_true (tw_all (f := fun c => decide (c ∈ a.1)) hc)
          · have := (List.takeWhile_sublist (l := w) (fun c => decide (c ∈ a.1))).length_le
            omega
      · cases w with
        | nil => exact ⟨[], by unfold eat; rw [if_neg ea]; rfl, List.nil_sublist _⟩
        | cons c w =>
          by_cases hc : [c] = a.1
          · refine ⟨[c], ?_, ?_⟩
            · unfold eat
              rw [if_neg ea]
              show c :: w = [c] ++ (if [c] = a.1 then w else c :: w)
              rw [if_pos hc]
              rfl
            · rw [Bool.not_eq_true] at ea
              rw [chk_one ea, hc]
              exact List.Sublist.refl _
          · refine ⟨[], ?_, List.nil_sublist _⟩
            unfold eat
            rw [if_neg ea]
            show c :: w = (if [c] = a.1 then w else c :: w)
            rw [if_neg hc]
    rw [e]
    exact hp.append ih
theorem ins_word {one other : List Atm} (ok1 : ∀ x ∈ one, AtOk x) (ok2 : ∀ x ∈ other, AtOk x) (h : insB one other = true) {w : List Nat} (hw : hold one w = true) : hold other w = true := by
  have e := ins_hold ok2 (n := max other.length w.length) (Nat.le_max_left _ _) ok1
  rw [h] at e
  exact hold_mono ok2 (hold_sub ok1 (Nat.le_max_right _ _) hw) e
/-- and the other way round -/
theorem word_ins {one other : List Atm} (ok1 : ∀ x ∈ one, AtOk x) (ok2 : ∀ x ∈ other, AtOk x) (h : ∀ w, hold one w = true → hold other w = true) : insB one other = true := by
  rw [← ins_hold ok2 (Nat.le_refl _) ok1]
  refine h _ ?_
  have go : ∀ (n : Nat) {as : List Atm}, (∀ x ∈ as, AtOk x) → hold as (lng n as) = true := fun n as => by
    induction as with
    | nil => exact fun _ => rfl
    | cons a r ih =>
      intro ok
      rw [hold_eat (ok a (by simp)), lng_cons]
      have okr : ∀ x ∈ r, AtOk x := fun x hx => ok x (by simp [hx])
      refine hold_mono okr ?_ (ih okr)
      by_cases ea : a.2 = true
      · unfold eat
        rw [if_pos ea, dw_all]
        · exact List.dropWhile_sublist _
        · exact fun c hc => decide_eq_true (mem_rep hc)
      · have ea' := ea
        rw [Bool.not_eq_true] at ea'
        obtain ⟨x, hx⟩ := (ok a (by simp)).single ea'
        rw [chk_one ea', hx]
        unfold eat
        rw [if_neg ea]
        show (if [x] = a.1 then lng n r else _).Sublist _
        rw [if_pos hx.symm]
        exact List.Sublist.refl _
  exact go _ ok1
/-! ### products as data; slices and sums of them -/
def dA (a : Atm) : PyData := .tuple [.str (tx a.1), .bool a.2]
theorem dA_eqv (a b : Atm) : PyData.eqv (dA a) (dA b) = decide (a = b) := by
  obtain ⟨l, m⟩ := a
  obtain ⟨l', m'⟩ := b
  show ((tx l == tx l') && ((m == m') && true)) = _
  by_cases h1 : l = l'
  · subst h1
    by_cases h2 : m = m'
    · subst h2
      simp
    · simp [h2]
  · have : (tx l == tx l') = false := by
      rw [beq_eq_false_iff_ne]
      intro z
      exact h1 (by simpa using congrArg (fun z => z.cps.toList) z)
    rw [this]
    simp [h1]
theorem dA_lay {a : Atm} (h : ascii a.1) : PyData.canLay0 (dA a) = true := by
  show (PyData.canLay0 (.str (tx a.1)) && (PyData.canLay0 (.bool a.2) && true)) = true
  rw [show PyData.canLay0 (.str (tx a.1)) = true from strOk_tx h]
  rfl
theorem dA_one_shaped {a : Atm} (h : ascii a.1) : SeqAt.shaped (.tuple [dA a]) = true := by
  unfold SeqAt.shaped
  rw [show PyData.canLay0 (.tuple [dA a]) = (PyData.canLay0 (dA a) && true) from rfl, dA_lay h]
  rfl
theorem cutV_one (xs : List V) (k : Nat) : cutV xs (some (k : Int)) (some ((k : Int) + 1)) = (xs.drop k).take 1 := by
  unfold cutV
  rw [HT.sIx_nat, show (k : Int) + 1 = ((k + 1 : Nat) : Int) by omega, HT.sIx_nat]
  by_cases h : k < xs.length
  · rw [Nat.min_eq_left (by omega), Nat.min_eq_left (by omega), show k + 1 - k = 1 by omega]
  · rw [Nat.min_eq_right (by omega), Nat.min_eq_right (by omega), Nat.sub_self, List.drop_of_length_le (by omega), List.drop_of_length_le (by omega), List.take_nil, List.take_nil]
theorem cutV_whole {xs : List V} {lo hi : Option Int} (h : HT.sIx xs.length 0 lo = 0 ∧ HT.sIx xs.length xs.length hi = xs.length) : cutV xs lo hi = xs := by
  unfold cutV
  rw [h.1, h.2, List.drop_zero, Nat.sub_zero, List.take_length]
theorem slA_of {K : PySem.W.Frag} {H : Hp} {p : Addr} {xs : List V} {lo hi : Option Int} {Q : VK} (hp : H p = some (.tup xs)) (q : ∀ H' z, Same H H' → (z = p ∨ H z = none) → H' z = some (.tup (cutV xs lo hi)) → Q (.ref z) H') : rSlA K (.ref p) lo hi H Q :=
  ⟨p, xs, rfl, .of hp, fun hw => q H p (.refl H) (.inl rfl) (by rw [cutV_whole hw]; exact hp), fun _ z nz => q _ z (same_new nz) (.inr nz) upd_same⟩
theorem catA_of {K : PySem.W.Frag} {H : Hp} {a c : Addr} {xs ys : List V} {Q : VK} (ha : H a = some (.tup xs)) (hc : H c = some (.tup ys)) (hz : xs.length + ys.length ≤ sizeLine)
    (q : ∀ H' z, Same H H' → (z = a ∨ z = c ∨ H z = none) → H' z = some (.tup (xs ++ ys)) → Q (.ref z) H') : rCatA K (.ref a) (.ref c) H Q := by
  refine ⟨a, c, xs, ys, rfl, rfl, .of ha, .of hc, hz, fun e => ?_, fun _ e => ?_, fun _ _ z nz => q _ z (same_new nz) (.inr (.inr nz)) upd_same⟩
  · subst e
    exact q H c (.refl H) (.inr (.inl rfl)) hc
  · subst e
    exact q H a (.refl H) (.inl rfl) (by rw [List.append_nil]; exact ha)
theorem paired_take {α β : Type} {F : α → β → Prop} : ∀ {xs : List α} {ys : List β} (k : Nat), Paired F xs ys → Paired F (xs.take k) (ys.take k)
  | _, _, 0, _ => by rw [List.take_zero, List.take_zero]; exact .nil
  | _, _, _ + 1, .nil => .nil
  | _, _, k + 1, .cons r p => .cons r (paired_take k p)
theorem paired_drop {α β : Type} {F : α → β → Prop} : ∀ {xs : List α} {ys : List β} (k : Nat), Paired F xs ys → Paired F (xs.drop k) (ys.drop k)
  | _, _, 0, p => p
  | _, _, _ + 1, .nil => .nil
  | _, _, k + 1, .cons r p => paired_drop k p
theorem paired_cat {α β : Type} {F : α → β → Prop} {us : List α} {ws : List β} (q : Paired F us ws) : ∀ {xs : List α} {ys : List β}, Paired F xs ys → Paired F (xs ++ us) (ys ++ ws)
  | _, _, .nil => q
  | _, _, .cons r p => .cons r (paired_cat q p)
theorem paired_rev {α β : Type} {F : α → β → Prop} : ∀ {xs : List α} {ys : List β}, Paired F xs ys → Paired F xs.reverse ys.reverse
  | _, _, .nil => .nil
  | _, _, .cons r p => by
    rw [List.reverse_cons, List.reverse_cons]
    exact paired_cat (.cons r .nil) (paired_rev p)
section
variable {b s : Addr} {H : Hp} {K : PySem.W.Frag} {v v' : V} {as bs : List Atm} {Q : VK}
abbrev nB (b : Addr) : Addr → Prop := fun a => a = b
theorem rp_take (hB : Bag b s H) (rp : Rp (nB b) H 2 v (prD as)) {k : Int} (hk : 0 ≤ k) (q : ∀ H' u, Same H H' → Rp (nB b) H' 2 u (prD (as.take k.toNat)) → Q u H') : rSlA K v none (some k) H Q := by
  obtain ⟨p, xs, rfl, na, hp, hl, l1, pp⟩ := rp.prod
  refine slA_of hp fun H' z sm hz hc => q H' _ sm ?_
  obtain ⟨n, rfl⟩ := Int.eq_ofNat_of_zero_le hk
  rw [cut_take] at hc
  refine rp_tup ?_ hc (by rw [List.length_take]; omega) ?_
  · rcases hz with rfl | hz
    · exact na
    · exact hB.nb hz
  · unfold prD at *
    rw [List.map_take]
    exact Paired.mapP (paired_take n pp) fun _ _ r => r.mv (Same.kp sm)
theorem cut_dropV (xs : List V) (k : Nat) : cutV xs (some (k : Int)) none = xs.drop k := by
  unfold cutV
  rw [HT.sIx_nat, HT.sIx_none]
  by_cases h : k ≤ xs.length
  · rw [Nat.min_eq_left h]
    exact List.take_of_length_le (by rw [List.length_drop]; omega)
  · rw [Nat.min_eq_right (by omega), List.drop_of_length_le (Nat.le_refl _), List.drop_of_length_le (by omega), List.take_nil]
theorem rp_drop (hB : Bag b s H) (rp : Rp (nB b) H 2 v (prD as)) {k : Int} (hk : 0 ≤ k) (q : ∀ H' u, Same H H' → Rp (nB b) H' 2 u (prD (as.drop k.toNat)) → Q u H') : rSlA K v (some k) none H Q := by
  obtain ⟨p, xs, rfl, na, hp, hl, l1, pp⟩ := rp.prod
  refine slA_of hp fun H' z sm hz hc => q H' _ sm ?_
  obtain ⟨n, rfl⟩ := Int.eq_ofNat_of_zero_le hk
  rw [cut_dropV] at hc
  refine rp_tup ?_ hc (by rw [List.length_drop]; omega) ?_
  · rcases hz with rfl | hz
    · exact na
    · exact hB.nb hz
  · unfold prD at *
    rw [List.map_drop]
    exact Paired.mapP (paired_drop n pp) fun _ _ r => r.mv (Same.kp sm)
theorem rp_cat (hB : Bag b s H) (rp : Rp (nB b) H 2 v (prD as)) (rq : Rp (nB b) H 2 v' (prD bs)) (hz : as.length + bs.length < 10000) (q : ∀ H' u, Same H H' → Rp (nB b) H' 2 u (prD (as ++ bs)) → Q u H') : rCatA K v v' H Q := by
  obtain ⟨p, xs, rfl, na, hp, hl, l1, pp⟩ := rp.prod
  obtain ⟨p', xs', rfl, na', hp', hl', l1', pp'⟩ := rq.prod
  refine catA_of hp hp' (by rw [sizeLine_eq]; omega) fun H' z sm hz hc => q H' _ sm ?_
  refine rp_tup ?_ hc (by rw [List.length_append]; omega) ?_
  · rcases hz with rfl | rfl | hz
    · exact na
    · exact na'
    · exact hB.nb hz
  · unfold prD at *
    rw [List.map_append]
    exact Paired.mapP (paired_cat pp' pp) fun _ _ r => r.mv (Same.kp sm)
end
end LB

namespace LB
open PySem PySem.Spec PyProof.Rows L2
abbrev freshSet (w : World) : Obj := { cls := .type "set", dict := none, data := .set #[] 0 (.fresh 0 0 (!w.params.followText "set-order")) }
section
variable {P : Program} {w : World} {A : Around} {E : Value → Shared → Prop} {s : Shared}
/-! ### set.update's loop, by what is kept of the set at Z -/
theorem upd_loop {it Z : Addr} {fp wr : List Addr} {G : Array GenState → Array GenState → Prop} {n : Nat} {Pv : Nat → Value → Prop} {St : Nat → Shared → Prop} {R : Result → Shared → Prop}
    (W : WalksS P w A.in1 it fp wr G n Pv St) (zf : Z ∉ fp) (g0 : Heap) (z0 : g0.get? Z = none) (w0 : ∀ b ∈ wr, g0.get? b = none) (Iv : Nat → Heap → Prop)
    (stay : ∀ i h h', Iv i h → (∀ o, h.get? Z = some o → h'.get? Z = some o) → (∀ b o, g0.get? b = some o → h'.get? b = some o) → Iv i h')
    (add : ∀ i v (s1 : Shared) (Q : Bool → Shared → Prop) (E' : Value → Shared → Prop), i < n → Pv i v → (∀ b o, g0.get? b = some o → s1.heap.get? b = some o) → Iv i s1.heap →
      (∀ b h' tk, s1.toks ≤ tk → Heap.SameBut Z s1.heap h' → Iv (i + 1) h' → Q b { s1 with heap := h', toks := tk }) → wpAny (model P w) A.in1 (setAdd Z v) Q E' s1) :
    ∀ (k i : Nat) (s : Shared), n - i = k → i ≤ n → St i s → (∀ b o, g0.get? b = some o → s.heap.get? b = some o) → Iv i s.heap →
      (∀ s', Moved (Z :: wr) G s s' → Iv n s'.heap → (∀ b o, g0.get? b = some o → s'.heap.get? b = some o) → R (.ok (.ret .none)) s') →
      codeAny (model P w) A (.builtin "set.update.loop" ⟨[.ref Z, .ref it], []⟩) R s := by
  have zw : Z ∉ wr := fun q => zf (W.sub _ q)
  have wz : ∀ b ∈ wr, b ∈ Z :: wr := fun b q => List.mem_cons_of_mem _ q
  have on : ∀ {s s' : Shared}, Moved wr G s s' → (∀ b o, g0.get? b = some o → s.heap.get? b = some o) → ∀ b o, g0.get? b = some o → s'.heap.get? b = some o := fun mv kp b o e =>
    mv.heap b o (fun q => by rw [w0 b q] at e; cases e) (kp b o e)
  intro k
  induction k with
  | zero =>
    intro i s ek ei st kp iv fin
    obtain rfl : i = n := by omega
    refine codeAny_builtin F.entry_set_update_loop ?_; rw [Around.under_plainId F.plain_set_update_loop _]
    show wpAny _ A.in1 (pyNext (.ref it) >>= _) _ _ s
    refine wpAny_bind (W.done s _ _ st fun s' mv => ?_)
    have kp' := on mv kp
    exact wpAny_pure (fin s' (mv.mono wz) (stay _ _ _ iv (fun o e => mv.heap Z o zw e) kp') kp')
  | succ k ih =>
    intro i s ek ei st kp iv fin
    have lt : i < n := by omega
    refine codeAny_builtin F.entry_set_update_loop ?_; rw [Around.under_plainId F.plain_set_update_loop _]
    show wpAny _ A.in1 (pyNext (.ref it) >>= _) _ _ s
    refine wpAny_bind (W.item i s _ _ lt st fun v s' pv st' mv => ?_)
    have kp' := on mv kp
    show wpAny _ A.in1 (holding [v] (setAdd Z v) >>= _) _ _ s'
    refine wpAny_bind (wpAny_holding (add i v s' _ _ lt pv kp' (stay _ _ _ iv (fun o e => mv.heap Z o zw e) kp') fun b h' tk lk sb iv' => ?_))
    have kp2 : ∀ b o, g0.get? b = some o → h'.get? b = some o := fun b o e => (sb.2 b (fun q => by rw [q, z0] at e; cases e)).trans (kp' b o e)
    refine wpAny_pure ⟨plainId_quiet F.plain_set_update_loop _, ih (i + 1) _ (by omega) lt (W.frame _ s' _ _ st' lk fun b q o e => ?_) kp2 iv' fun s2 mv2 iv2 kp3 => ?_⟩
    · rw [sb.2 b (fun q' : b = Z => zf (by rw [← q']; exact q))]; exact e
    · refine fin s2 (Moved.trans W.gtrans ((mv.mono wz).then_heap lk fun b o q e => ?_) mv2) iv2 kp3
      rw [sb.2 b (fun q' : b = Z => q (by rw [q']; exact List.mem_cons_self))]; exact e

set_option maxHeartbeats 3200000 in
/-- set(xs), xs a list: the set at the next free place, by what each add keeps -/
theorem call_set_iv {l : Addr} {items : Array Value} {Q : Value → Shared → Prop} (calm : A.handled = none) (isl : s.heap.IsList l items) (Iv : Nat → Heap → Prop)
    (ini : ∀ h, h.get? s.heap.objs.size = some (freshSet w) → (∀ b o, s.heap.get? b = some o → h.get? b = some o) → Iv 0 h)
    (stay : ∀ i h h', Iv i h → (∀ o, h.get? s.heap.objs.size = some o → h'.get? s.heap.objs.size = some o) → (∀ b o, s.heap.get? b = some o → h'.get? b = some o) → Iv i h')
    (add : ∀ (A' : Around) i v (s1 : Shared) (Q : Bool → Shared → Prop) (E' : Value → Shared → Prop), A'.handled = none → A'.units ≤ A.units + 4 → items[i]? = some v → (∀ b o, s.heap.get? b = some o → s1.heap.get? b = some o) → Iv i s1.heap →
      (∀ b h' tk, s1.toks ≤ tk → Heap.SameBut s.heap.objs.size s1.heap h' → Iv (i + 1) h' → Q b { s1 with heap := h', toks := tk }) → wpAny (model P w) A' (setAdd s.heap.objs.size v) Q E' s1)
    (out : ∀ (h' : Heap) (tk : Nat), Iv items.size h' → (∀ b o, s.heap.get? b = some o → h'.get? b = some o) → Q (.ref s.heap.objs.size) { s with heap := h', toks := tk }) :
    wpAny (model P w) A (call (.type "set") [.ref l]) Q E s := by
  obtain ⟨c, tl, hmro⟩ := F.called_set.mro
  have hmade := F.called_set.made; have hsub := F.called_set.sub
  refine wpAny_call (codeAny_of_tree ?_); show wpAny _ _ (callAny (.type "set") _) _ _ _
  refine wpAny_pure ⟨Code.quiet_builtin _ (by decide +kernel), codeAny_builtin F.entry_type_call ?_⟩; rw [Around.under_plain (weight_type_call_type "set" [.ref l] []) rfl]
  have k1 := F.called_set.notType; have k2 := F.called_set.canCreate; have k3 := F.typeCall_set_1 (.ref l)
  repeat (any_goals (first | assumption | wp_step))
  refine codeAny_mono (code_set_led1 (.ref l) (E := E) (Q₁ := fun obj s₁ => obj = .ref s.heap.objs.size ∧ s₁ = { s with heap := s.heap.push (freshSet w) }) ⟨rfl, rfl⟩) fun r s1 hr => ?_
  cases r with
  | error e => exact hr
  | ok fl =>
    cases fl with
    | ret obj =>
      obtain ⟨rfl, rfl⟩ := hr
      have hZ : (s.heap.push (freshSet w)).get? s.heap.objs.size = some (freshSet w) := Heap.get?_push_size _ rfl
      have hT : Shared.TypeIs { s with heap := s.heap.push (freshSet w) } (.ref s.heap.objs.size) "set" := ⟨_, hZ, rfl⟩
      have k4 := F.called_set.init.lookup; have k5 := F.called_set.init.bind (.ref s.heap.objs.size)
      repeat (any_goals (first | assumption | wp_step))
      refine codeAny_mono (codeAny_call_builtin (R := wants (fun r s₂ => r = .none ∧ ∃ h' tk, s₂ = { s with heap := h', toks := tk } ∧ Iv items.size h' ∧ (∀ b o, s.heap.get? b = some o → h'.get? b = some o)) E) F.called_set.init.plain F.entry_set_init (check_set_init_1 hT ?_)) fun r2 s2 hr2 => ?_
      · obtain ⟨⟨ocls, odict, odata, oslots⟩, hol, hcl, nl, hdl⟩ := isl
        simp only at hcl hdl
        subst hcl hdl
        have hol' : (s.heap.push (freshSet w)).get? l = some { cls := .type "list", dict := odict, data := .seq items nl, slots := oslots } := Heap.get?_push_of_some _ hol
        have k6 := F.sub_list_set; have k7 := F.sub_list_frozenset
        have k8 : (Value.type "list" == Value.type "dict") = false := by decide
        have isl1 : (s.heap.push (freshSet w)).IsList l items := ⟨_, hol', rfl, nl, rfl⟩
        unfold Builtin.«set.__init__» noKeywords Builtin.Frozenset.updateFrom
        generalize hPI : pyIter = PI
        wp_walk; subst hPI
        refine wpAny_pyIter_list isl1 (wpAny_bind (wpAny_runValue ?_))
        have lS : l < s.heap.objs.size := Heap.lt_size hol
        have calm3 : A.in1.in1.in1.handled = none := by simp [calm]
        have neI : l ≠ (s.heap.push (freshSet w)).objs.size := by
          rw [Heap.size_push]; exact Nat.ne_of_lt (Nat.lt_succ_of_lt lS)
        have zf : s.heap.objs.size ∉ [(s.heap.push (freshSet w)).objs.size, l] := by
          rw [Heap.size_push]; simp only [List.mem_cons, List.not_mem_nil, or_false, not_or]
          exact ⟨Nat.ne_of_lt (Nat.lt_succ_self _), Nat.ne_of_gt lS⟩
        have nn : ∀ b, s.heap.objs.size ≤ b → s.heap.get? b = none := fun b hb => by
          cases q : s.heap.get? b with
          | none => rfl
          | some o => exact absurd (Nat.lt_of_lt_of_le (Heap.lt_size q) hb) (Nat.lt_irrefl _)
        have kpp : ∀ b o, s.heap.get? b = some o → ((s.heap.push (freshSet w)).push { cls := .type "list_iterator", data := .fields #[.ref l, .int 0 0] }).get? b = some o := fun b o e => Heap.get?_push_of_some _ (Heap.get?_push_of_some _ e)
        refine upd_loop ((Walks.list calm3 _ l neI items).toS) zf s.heap (nn _ (Nat.le_refl _)) (fun b hb => nn b (by
            rw [List.mem_singleton.mp hb, Heap.size_push]
            exact Nat.le_succ _)) Iv stay (fun i v s3 Q' E' hi pv kp iv q => add _ i v s3 Q' E' (by simp [calm]) ?hu pv kp iv q) (items.size - 0) 0 _ (by omega) (Nat.zero_le _)
          ⟨⟨_, Heap.get?_push_size _ rfl, rfl, rfl⟩, (isl1.push _)⟩ kpp (ini _ (Heap.get?_push_of_some _ hZ) kpp) ?hR
        case hu => first | exact Nat.le_refl _ | (show A.units + _ ≤ A.units + 4; omega) | (show A.units + 1 + 1 + 1 ≤ A.units + 4; omega)
        case hR =>
          intro s' mv iv kp
          obtain ⟨h', g2, d', tk', os'⟩ := s'
          obtain rfl : g2 = s.gens := mv.gens
          obtain rfl : d' = s.drawn := mv.drawn
          obtain rfl : os' = s.os := mv.os
          show wpAny _ _ _ _ _ _
          exact wpAny_pure (wpAny_pure ⟨rfl, h', tk', rfl, iv, kp⟩)
      · cases r2 with
        | error e => exact hr2
        | ok fl2 =>
          cases fl2 with
          | ret r =>
            obtain ⟨rfl, h', tk, rfl, iv, kp⟩ := hr2
            repeat (any_goals (first | assumption | wp_step))
            exact out _ _ iv kp
          | _ => exact hr2.elim
    | _ => exact hr.elim
end
end LB

namespace LB
open PySem PySem.Spec PyProof.Rows L2
/-! ### sets of texts: made of a list, sorted -/
def kx (e : Int × Value) : Str := PyProof.Rows.strOf e.2
structure SetX (P : Program) (w : World) (h : Heap) (a : Addr) (ks : List Str) : Prop where
  ex : ∃ D : Froz.SD, h.get? a = some (Froz.sObj "set" D) ∧ Froz.TxOk P w D ks ∧ Ris D.2.2.place.toList ∧ (w.params.followText "set-order" = true ∨ D.2.2.led = true) ∧ (D.1.toList.map kx).Perm ks ∧ ∀ e ∈ D.1.toList, ∃ x t, e.2 = Value.str x t
  nd : ks.Nodup
theorem tail_ris {ep : Nat} {es : Array (Int × Value)} {t : SetTable} {wd : Bool} (r : Ris t.place.toList) : Ris (Froz.tailTx ep es t wd).2.2.place.toList := by
  unfold Froz.tailTx
  split
  · exact relayAll_ris _ _ _
  · exact r
theorem tail_led {ep : Nat} {es : Array (Int × Value)} {t : SetTable} {wd : Bool} : (Froz.tailTx ep es t wd).2.2.led = t.led := by
  unfold Froz.tailTx
  split
  · exact relayAll_led _ _ _
  · rfl
theorem tail_perm {ep : Nat} {es : Array (Int × Value)} {t : SetTable} {wd : Bool} : (Froz.tailTx ep es t wd).1.toList.Perm es.toList := by
  unfold Froz.tailTx
  split
  · exact relayAll_perm _ _ _
  · exact .refl _
theorem add_ris {D : Froz.SD} {h : Int} {v : Value} (r : Ris D.2.2.place.toList) : Ris (Froz.addTx h v D).2.2.place.toList := by
  unfold Froz.addTx
  refine tail_ris ?_
  by_cases c : (layNew D.2.2 D.1 h v).2.1.plain = true
  · rw [if_pos c]
    exact layNew_ris _ _ _ _ r
  · rw [if_neg c]
    exact layNew_ris _ _ _ _ r
theorem add_led {D : Froz.SD} {h : Int} {v : Value} : (Froz.addTx h v D).2.2.led = D.2.2.led := by
  unfold Froz.addTx
  rw [tail_led]
  by_cases c : (layNew D.2.2 D.1 h v).2.1.plain = true
  · rw [if_pos c]
    exact layNew_led _ _ _ _
  · rw [if_neg c]
    exact layNew_led _ _ _ _
theorem add_perm {D : Froz.SD} {h : Int} {v : Value} : (Froz.addTx h v D).1.toList.Perm ((h, v) :: D.1.toList) := by
  have p := layNew_perm D.2.2 D.1 h v
  rw [Array.toList_push] at p
  exact tail_perm.trans (p.trans (List.perm_append_singleton _ _))
section
variable {P : Program} {w : World} {A : Around} {E : Value → Shared → Prop} {s : Shared}
theorem add_tx {a : Addr} {D : Froz.SD} {l : List Str} {k : Str} {u : Tok} {Q : Bool → Shared → Prop} (ho : s.heap.get? a = some (Froz.sObj "set" D)) (F : Froz.TxOk P w D l) (hb : l.length + 1 < scanBound)
    (q1 : k ∈ l → Q false { s with toks := s.toks + 1 }) (q2 : k ∉ l → Q true { s with heap := s.heap.update a (fun _ => Froz.sObj "set" (Froz.addTx (hashStr w k) (.str k u) D)), toks := s.toks + 1 }) :
    wpAny (model P w) A (setAdd a (.str k u)) Q E s := by
  have ky : (PySem.strKind P w).is k (.str k u) = true := Froz.is_str k u
  unfold setAdd
  refine wpAny_holding (wpAny_bind ((PySem.strKind P w).pyHash ky ?_))
  by_cases hk : k ∈ l
  · obtain ⟨es, ep, t⟩ := D
    have sz : es.size = l.length := F.sz
    obtain ⟨e, he, pe⟩ := (F.mem k).mp hk
    obtain ⟨j, hj⟩ : ∃ j, List.findIdx? (fun e => (PySem.strKind P w).is k e.2) es.toList = some j := by
      cases q : List.findIdx? (fun e => (PySem.strKind P w).is k e.2) es.toList with
      | some j => exact ⟨j, rfl⟩
      | none =>
        have := List.findIdx?_eq_none_iff.mp q e he
        rw [pe] at this
        cases this
    show wpAny (model P w) A (setAddHashed a (.str k u) ((PySem.strKind P w).hash k)) _ _ _
    unfold setAddHashed setAddHashedIn
    refine wpAny_holding (wpAny_bind (wpAny_setState_of (s := { s with toks := s.toks + 1 }) ho rfl F.fit ?_))
    dsimp only
    rw [byScan_of rfl (by show es.size < scanBound; omega) F.el]
    simp only [↓reduceIte]
    unfold setAddByScan
    refine wpAny_bind (wpAny_bind (wpAny_rule (wpAny_bind (wpAny_setScan_of (knd := PySem.strKind P w) (k := k) (s := { s with toks := s.toks + 1 }) ky ho rfl F.fit F.el ?_))))
    rw [hj]
    exact wpAny_pure (wpAny_pure (q1 hk))
  · exact Froz.add_x (s := { s with toks := s.toks + 1 }) ho F hk hb (q2 hk)
theorem setX_fresh {h : Heap} {a : Addr} (e : h.get? a = some (freshSet w)) : SetX P w h a [] :=
  ⟨⟨(#[], 0, .fresh 0 0 (!w.params.followText "set-order")), e, .nil rfl, List.Pairwise.nil, by
    show _ ∨ (!w.params.followText "set-order") = true
    cases w.params.followText "set-order"
    · exact .inr rfl
    · exact .inl rfl, .nil, fun e he => by cases he⟩, .nil⟩
theorem SetX.keep {h h' : Heap} {a : Addr} {ks : List Str} (R : SetX P w h a ks) (k : ∀ o, h.get? a = some o → h'.get? a = some o) : SetX P w h' a ks := by
  obtain ⟨⟨D, e, r⟩, n⟩ := R
  exact ⟨⟨D, k _ e, r⟩, n⟩
/-- set(xs), xs a list of texts -/
theorem call_set_tx {l : Addr} {items : Array Value} {xs : List Str} {Q : Value → Shared → Prop} (calm : A.handled = none) (isl : s.heap.IsList l items) (hx : StrsAre items.toList xs) (few : xs.length + 2 < scanBound)
    (out : ∀ (h' : Heap) (tk : Nat) ks, SetX P w h' s.heap.objs.size ks → (∀ x, x ∈ ks ↔ x ∈ xs) → ks.length ≤ xs.length → (∀ b o, s.heap.get? b = some o → h'.get? b = some o) → Q (.ref s.heap.objs.size) { s with heap := h', toks := tk }) :
    wpAny (model P w) A (call (.type "set") [.ref l]) Q E s := by
  have at_ : ∀ {vs : List Value} {ys : List Str}, StrsAre vs ys → ∀ {i : Nat} {v : Value}, vs[i]? = some v → ∃ y t, ys[i]? = some y ∧ v = .str y t := by
    intro vs ys h
    induction h with
    | nil => intro i v e; simp at e
    | cons y t _ ih =>
      intro i v e
      cases i with
      | zero => simp at e; exact ⟨y, t, rfl, e.symm⟩
      | succ i => simpa using ih (by simpa using e)
  have hlen : items.size = xs.length := by
    have : ∀ {vs : List Value} {ys : List Str}, StrsAre vs ys → vs.length = ys.length := fun h => by
      induction h with
      | nil => rfl
      | cons _ _ _ ih => simp [ih]
    rw [← Array.length_toList]
    exact this hx
  refine call_set_iv calm isl (fun i h => ∃ ks, SetX P w h s.heap.objs.size ks ∧ (∀ x, x ∈ ks ↔ x ∈ xs.take i) ∧ ks.length ≤ i) (fun h e _ => ⟨[], setX_fresh e, fun x => by simp, Nat.le_refl _⟩) (fun i h h' ⟨ks, R, m⟩ k _ => ⟨ks, R.keep k, m⟩) (fun A' i v s1 Q' E' _ _ hv _ ⟨ks, ⟨⟨D, e, F, r, ld, pm, els⟩, nd⟩, m, lk⟩ q => ?_) (fun h' tk ⟨ks, R, m, lk⟩ kp => ?_)
  · obtain ⟨y, t, hy, rfl⟩ := at_ hx (by rw [Array.getElem?_toList]; exact hv)
    have hi : i < xs.length := (List.getElem?_eq_some_iff.mp hy).1
    have tk1 : xs.take (i + 1) = xs.take i ++ [y] := by
      rw [List.take_add_one, hy]
      rfl
    refine add_tx e F (by omega) (fun hk => ?_) (fun hk => ?_)
    · refine q false s1.heap (s1.toks + 1) (Nat.le_succ _) (.refl _ _) ⟨ks, ⟨⟨D, e, F, r, ld, pm, els⟩, nd⟩, fun x => ?_, by omega⟩
      rw [tk1, List.mem_append, List.mem_singleton, ← m x]
      exact ⟨.inl, fun z => z.elim id fun z => by rw [z]; exact hk⟩
    · have pp := add_perm (D := D) (h := hashStr w y) (v := .str y t)
      refine q true _ (s1.toks + 1) (Nat.le_succ _) (Heap.SameBut.update _ _ _) ⟨y :: ks, ⟨⟨_, Froz.get_upd _ e rfl, Froz.add_ok t F, add_ris r, ?_, ?_, ?_⟩, List.nodup_cons.mpr ⟨hk, nd⟩⟩, fun x => ?_, by simp; omega⟩
      · rw [add_led]
        exact ld
      · exact (pp.map kx).trans (.cons y pm)
      · intro e' he'
        rcases List.mem_cons.mp (pp.mem_iff.mp he') with z | z
        · rw [z]
          exact ⟨y, t, rfl⟩
        · exact els e' z
      · rw [tk1, List.mem_append, List.mem_singleton, List.mem_cons, m x]
        exact Or.comm
  · rw [hlen] at m lk
    rw [List.take_length] at m
    exact out h' tk ks R m lk kp
theorem strs_of : ∀ (l : List Value), (∀ v ∈ l, ∃ x t, v = Value.str x t) → StrsAre l (l.map PyProof.Rows.strOf)
  | [], _ => .nil
  | v :: l, h => by
    obtain ⟨x, t, rfl⟩ := h v List.mem_cons_self
    exact .cons x t (strs_of l fun u hu => h u (List.mem_cons_of_mem _ hu))
/-- sorted(a set of texts) -/
theorem sorted_setX {a : Addr} {ks : List Str} {Q : Value → Shared → Prop} (R : SetX P w s.heap a ks) (calm : A.handled = none) (few : ks.length < 4000)
    (q : ∀ s' p (o : Array Value) (c : Nat) (ys : List Str), (∀ b u, s.heap.get? b = some u → s'.heap.get? b = some u) → s'.gens = s.gens → s'.os = s.os → s.heap.objs.size ≤ p →
      s'.heap.get? p = some (seqObj "list" o c) → StrsAre o.toList ys → ys.Perm ks → sortedS ys = true → Q (.ref p) s') :
    wpAny (model P w) A (call (.builtin "sorted") [.ref a]) Q E s := by
  obtain ⟨⟨⟨es, ep, t⟩, e, F, r, ld, pm, els⟩, nd⟩ := R
  have sz : es.size = ks.length := F.sz
  have fw : es.size < scanBound := Nat.lt_of_lt_of_le (by omega : es.size < 4000) (by decide)
  refine Calls.call_function_entry kind_sorted plain_sorted entry_sorted (args_sorted1 _) ?_
  unfold Builtin.«sorted»
  refine wpAny_bind (m := checkCount "sorted" 1 1 _) (wpAny_pure (wpAny_bind (collect_set (A := A.in1) calm ⟨_, e, rfl, rfl⟩ F.fit fw r ld fun s1 vs k1 z1 g1 o1 pv => ?_)))
  have vl : vs.length = ks.length := by rw [pv.length_eq, List.length_map, Array.length_toList]; exact sz
  have hS : StrsAre vs (vs.map PyProof.Rows.strOf) := strs_of vs fun v hv => by
    obtain ⟨e', he', rfl⟩ := List.mem_map.mp (pv.mem_iff.mp hv)
    exact els e' he'
  have pk : (vs.map PyProof.Rows.strOf).Perm ks := by
    have := pv.map PyProof.Rows.strOf
    rw [List.map_map] at this
    exact this.trans pm
  refine wpAny_bind (wpAny_newList ?_ (by rw [vl, sizeLine_eq]; omega))
  have hL : (s1.heap.push (seqObj "list" vs.toArray 0)).get? s1.heap.objs.size = some (seqObj "list" vs.toArray 0) := Heap.get?_push_size _ rfl
  refine wpAny_bind (wpAny_holding (wpAny_call_entry slot_list_sort ⟨_, hL, rfl⟩ entry_list_sort (list_sort_treeKAny strKind_oneLt hL hS.keysOf (fun v₁ v₂ rest z => keyKind_strs (by rw [← z]; exact hS)) (by rw [vl, sizeLine_eq]; omega) fun st' a1 a2 => ⟨_, rfl, ?_⟩) (args_list_sort _)))
  obtain ⟨ys, y1, y2, y3⟩ := sorted_out_str hS a1 a2
  obtain ⟨c, hc⟩ := sortedHeap_at (vs := vs) (out := (arrOf st').map (·.2)) hL
  refine wpAny_pure ⟨_, rfl, q _ s1.heap.objs.size _ c ys (fun b u eb => ?_) g1 o1 z1 hc y1 (y2.trans pk) y3⟩
  have eb1 := k1 b u eb
  have lt := Heap.lt_size eb1
  show (sortedHeap (s1.heap.push (seqObj "list" vs.toArray 0)) s1.heap.objs.size vs _).get? b = some u
  rw [sortedHeap_old (Nat.ne_of_lt lt) (by rw [size_push']; exact Nat.lt_succ_of_lt lt)]
  exact Heap.get?_push_of_some _ eb1
end
/-! ### over the layer -/
def SetXO (P : Program) (w : World) (a : Addr) (ks : List Str) : HO := .ext fun h => SetX P w h a ks
section
variable {X : Cx}
def rSetX (K : PySem.W.Frag) (P : Program) (w : World) : List V → Hp → VK → Prop := fun vs H Q => ∃ (l : Addr) (xs : List Str), vs = [V.ref l] ∧ SqL K H l (xs.map V.str) ∧ xs.length < 2000 ∧
  ∀ a ks, H a = none → ks.Nodup → (∀ x, x ∈ ks ↔ x ∈ xs) → ks.length ≤ xs.length → Q (.ref a) (upd H a (SetXO P w a ks))
theorem cr_setX (hc : X.calm = true) : CallR X (.type "set") (rSetX X.K X.prog X.w) := by
  intro pins s σ H xs us Q I r h
  obtain ⟨l, ys, rfl, hl, few, q⟩ := h
  rw [Vals.ref1 r]
  obtain ⟨its, rv, pl, hz⟩ := I.list hl
  refine call_set_tx (P := X.prog) (w := X.w) (I.ok.hd hc) pl.isList (by simpa using rv.strs) (Nat.lt_of_lt_of_le (by omega : ys.length + 2 < 2002) (by decide)) fun h' tk ks R m lk kp => ?_
  have okS : ObjOk X.prog X.w (upd H s.heap.objs.size (SetXO X.prog X.w s.heap.objs.size ks)) h' s.heap.objs.size (SetXO X.prog X.w s.heap.objs.size ks) := by
    obtain ⟨⟨D, e, _⟩, _⟩ := id R
    exact ⟨R, ⟨_, e⟩, fun g1 g2 R1 k => R1.keep k⟩
  exact ⟨.ref s.heap.objs.size, _, I.laid (t' := tk) kp (Nat.le_refl _) okS, rfl, q _ ks (I.hok.fresh (Nat.le_refl _)) R.nd m lk⟩
def rSortX (P : Program) (w : World) : List V → Hp → VK → Prop := fun vs H Q => ∃ (a : Addr) (ks : List Str), vs = [V.ref a] ∧ H a = some (SetXO P w a ks) ∧ ks.length < 2000 ∧
  ∀ ys p, ys.Perm ks → sortedS ys = true → H p = none → Q (.ref p) (upd H p (.lst (ys.map V.str)))
theorem cr_sortX (hc : X.calm = true) : CallR X (.builtin "sorted") (rSortX X.prog X.w) := by
  intro pins s σ H vs us Q I r h
  obtain ⟨a, ks, rfl, ha, few, q⟩ := h
  have R : SetX X.prog X.w s.heap a ks := (I.hok a _ ha).1
  rw [Vals.ref1 r]
  refine sorted_setX R (I.ok.hd hc) (by omega) fun s' p o c ys k g os hp hg hS pm srt => ?_
  have hlen : (ys.map V.str).length ≤ sizeLine := by rw [List.length_map, pm.length_eq, sizeLine_eq]; omega
  have hn : H p = none := I.hok.fresh hp
  have J : Inv X pins σ (upd H p (.lst (ys.map V.str))) { s with heap := s'.heap, gens := s'.gens, drawn := s'.drawn, toks := s'.toks } :=
    I.call (ch := []) (Un.laid k hp hn) (I.hok.laid k hp ⟨hlen, o.toList, c, vals_of_strs hS, hg⟩) (by rw [g]; exact I.bare) (fun _ z => nomatch z)
  have e : s' = { s with heap := s'.heap, gens := s'.gens, drawn := s'.drawn, toks := s'.toks } := by
    cases s'; cases s; cases os; rfl
  rw [e]
  exact ⟨.ref p, _, J, rfl, q ys p pm srt hn⟩
end
end LB

namespace LB
open PySem PySem.Spec PyProof.Rows L2
section
variable {P : Program} {w : World} {A : Around} {E : Value → Shared → Prop} {s : Shared}
set_option maxHeartbeats 3200000 in
/-- set(z), z a text: the set at the next free place, by what each add keeps -/
theorem call_set_ivS {z : Str} {zt : Tok} {Q : Value → Shared → Prop} (calm : A.handled = none) (Iv : Nat → Heap → Prop)
    (ini : ∀ h, h.get? s.heap.objs.size = some (freshSet w) → (∀ b o, s.heap.get? b = some o → h.get? b = some o) → Iv 0 h)
    (stay : ∀ i h h', Iv i h → (∀ o, h.get? s.heap.objs.size = some o → h'.get? s.heap.objs.size = some o) → (∀ b o, s.heap.get? b = some o → h'.get? b = some o) → Iv i h')
    (add : ∀ (A' : Around) i v (s1 : Shared) (Q : Bool → Shared → Prop) (E' : Value → Shared → Prop), A'.handled = none → A'.units ≤ A.units + 4 → SignAt z i v → (∀ b o, s.heap.get? b = some o → s1.heap.get? b = some o) → Iv i s1.heap →
      (∀ b h' tk, s1.toks ≤ tk → Heap.SameBut s.heap.objs.size s1.heap h' → Iv (i + 1) h' → Q b { s1 with heap := h', toks := tk }) → wpAny (model P w) A' (setAdd s.heap.objs.size v) Q E' s1)
    (out : ∀ (h' : Heap) (tk : Nat), Iv z.cps.size h' → (∀ b o, s.heap.get? b = some o → h'.get? b = some o) → Q (.ref s.heap.objs.size) { s with heap := h', toks := tk }) :
    wpAny (model P w) A (call (.type "set") [.str z zt]) Q E s := by
  obtain ⟨c, tl, hmro⟩ := F.called_set.mro
  have hmade := F.called_set.made; have hsub := F.called_set.sub
  refine wpAny_call (codeAny_of_tree ?_); show wpAny _ _ (callAny (.type "set") _) _ _ _
  refine wpAny_pure ⟨Code.quiet_builtin _ (by decide +kernel), codeAny_builtin F.entry_type_call ?_⟩; rw [Around.under_plain (weight_type_call_type "set" [.str z zt] []) rfl]
  have k1 := F.called_set.notType; have k2 := F.called_set.canCreate; have k3 := F.typeCall_set_1 (.str z zt)
  repeat (any_goals (first | assumption | wp_step))
  refine codeAny_mono (code_set_led1 (.str z zt) (E := E) (Q₁ := fun obj s₁ => obj = .ref s.heap.objs.size ∧ s₁ = { s with heap := s.heap.push (freshSet w) }) ⟨rfl, rfl⟩) fun r s1 hr => ?_
  cases r with
  | error e => exact hr
  | ok fl =>
    cases fl with
    | ret obj =>
      obtain ⟨rfl, rfl⟩ := hr
      have hZ : (s.heap.push (freshSet w)).get? s.heap.objs.size = some (freshSet w) := Heap.get?_push_size _ rfl
      have hT : Shared.TypeIs { s with heap := s.heap.push (freshSet w) } (.ref s.heap.objs.size) "set" := ⟨_, hZ, rfl⟩
      have k4 := F.called_set.init.lookup; have k5 := F.called_set.init.bind (.ref s.heap.objs.size)
      repeat (any_goals (first | assumption | wp_step))
      refine codeAny_mono (codeAny_call_builtin (R := wants (fun r s₂ => r = .none ∧ ∃ h' tk, s₂ = { s with heap := h', toks := tk } ∧ Iv z.cps.size h' ∧ (∀ b o, s.heap.get? b = some o → h'.get? b = some o)) E) F.called_set.init.plain F.entry_set_init (check_set_init_1 hT ?_)) fun r2 s2 hr2 => ?_
      · have k6 := F.sub_str_set; have k7 := F.sub_str_frozenset
        have k8 : (Value.type "str" == Value.type "dict") = false := by decide
        unfold Builtin.«set.__init__» noKeywords Builtin.Frozenset.updateFrom
        generalize hPI : pyIter = PI
        wp_walk; subst hPI
        refine wpAny_pyIter_str ?_
        intro oi St W st0
        refine wpAny_bind (wpAny_runValue ?_)
        have calm3 : A.in1.in1.in1.handled = none := by simp [calm]
        have zf : s.heap.objs.size ∉ [(s.heap.push (freshSet w)).objs.size] := by
          rw [Heap.size_push]; simp only [List.mem_cons, List.not_mem_nil, or_false]
          exact Nat.ne_of_lt (Nat.lt_succ_self _)
        have nn : ∀ b, s.heap.objs.size ≤ b → s.heap.get? b = none := fun b hb => by
          cases q : s.heap.get? b with
          | none => rfl
          | some o => exact absurd (Nat.lt_of_lt_of_le (Heap.lt_size q) hb) (Nat.lt_irrefl _)
        have kpp : ∀ b o, s.heap.get? b = some o → ((s.heap.push (freshSet w)).push oi).get? b = some o := fun b o e => Heap.get?_push_of_some _ (Heap.get?_push_of_some _ e)
        refine upd_loop ((W _ calm3).toS) zf s.heap (nn _ (Nat.le_refl _)) (fun b hb => nn b (by
            rw [List.mem_singleton.mp hb, Heap.size_push]
            exact Nat.le_succ _)) Iv stay (fun i v s3 Q' E' hi pv kp iv q => add _ i v s3 Q' E' (by simp [calm]) ?hu pv kp iv q) (z.cps.size - 0) 0 _ (by omega) (Nat.zero_le _)
          st0 kpp (ini _ (Heap.get?_push_of_some _ hZ) kpp) ?hR
        case hu => first | exact Nat.le_refl _ | (show A.units + _ ≤ A.units + 4; omega) | (show A.units + 1 + 1 + 1 ≤ A.units + 4; omega)
        case hR =>
          intro s' mv iv kp
          obtain ⟨h', g2, d', tk', os'⟩ := s'
          obtain rfl : g2 = s.gens := mv.gens
          obtain rfl : d' = s.drawn := mv.drawn
          obtain rfl : os' = s.os := mv.os
          show wpAny _ _ _ _ _ _
          exact wpAny_pure (wpAny_pure ⟨rfl, h', tk', rfl, iv, kp⟩)
      · cases r2 with
        | error e => exact hr2
        | ok fl2 =>
          cases fl2 with
          | ret r =>
            obtain ⟨rfl, h', tk, rfl, iv, kp⟩ := hr2
            repeat (any_goals (first | assumption | wp_step))
            exact out _ _ iv kp
          | _ => exact hr2.elim
    | _ => exact hr.elim
theorem call_set_sg {z : Str} {zt : Tok} {Q : Value → Shared → Prop} (calm : A.handled = none) (few : z.cps.size + 2 < scanBound)
    (out : ∀ (h' : Heap) (tk : Nat) ks, SetX P w h' s.heap.objs.size ks → (∀ x, x ∈ ks ↔ x ∈ z.cps.toList.map sg) → ks.length ≤ z.cps.size → (∀ b o, s.heap.get? b = some o → h'.get? b = some o) → Q (.ref s.heap.objs.size) { s with heap := h', toks := tk }) :
    wpAny (model P w) A (call (.type "set") [.str z zt]) Q E s := by
  generalize hxs : z.cps.toList.map sg = xs at out
  have hlen : z.cps.size = xs.length := by
    rw [← hxs, List.length_map, Array.length_toList]
  refine call_set_ivS calm (fun i h => ∃ ks, SetX P w h s.heap.objs.size ks ∧ (∀ x, x ∈ ks ↔ x ∈ xs.take i) ∧ ks.length ≤ i) (fun h e _ => ⟨[], setX_fresh e, fun x => by simp, Nat.le_refl _⟩) (fun i h h' ⟨ks, R, m⟩ k _ => ⟨ks, R.keep k, m⟩) (fun A' i v s1 Q' E' _ _ hv _ ⟨ks, ⟨⟨D, e, F, r, ld, pm, els⟩, nd⟩, m, lk⟩ q => ?_) (fun h' tk ⟨ks, R, m, lk⟩ kp => ?_)
  · obtain ⟨c, t, hc, rfl⟩ := hv
    obtain ⟨y, hyd⟩ : ∃ y, y = sg c := ⟨_, rfl⟩
    have hy : xs[i]? = some y := by
      rw [← hxs, List.getElem?_map, Array.getElem?_toList, hc, hyd]
      rfl
    show wpAny _ _ (setAdd _ (.str (sg c) t)) _ _ _
    rw [← hyd]
    have hi : i < xs.length := (List.getElem?_eq_some_iff.mp hy).1
    have tk1 : xs.take (i + 1) = xs.take i ++ [y] := by
      rw [List.take_add_one, hy]
      rfl
    refine add_tx e F (by omega) (fun hk => ?_) (fun hk => ?_)
    · refine q false s1.heap (s1.toks + 1) (Nat.le_succ _) (.refl _ _) ⟨ks, ⟨⟨D, e, F, r, ld, pm, els⟩, nd⟩, fun x => ?_, by omega⟩
      rw [tk1, List.mem_append, List.mem_singleton, ← m x]
      exact ⟨.inl, fun z => z.elim id fun z => by rw [z]; exact hk⟩
    · have pp := add_perm (D := D) (h := hashStr w y) (v := .str y t)
      refine q true _ (s1.toks + 1) (Nat.le_succ _) (Heap.SameBut.update _ _ _) ⟨y :: ks, ⟨⟨_, Froz.get_upd _ e rfl, Froz.add_ok t F, add_ris r, ?_, ?_, ?_⟩, List.nodup_cons.mpr ⟨hk, nd⟩⟩, fun x => ?_, by simp; omega⟩
      · rw [add_led]
        exact ld
      · exact (pp.map kx).trans (.cons y pm)
      · intro e' he'
        rcases List.mem_cons.mp (pp.mem_iff.mp he') with z | z
        · rw [z]
          exact ⟨y, t, rfl⟩
        · exact els e' z
      · rw [tk1, List.mem_append, List.mem_singleton, List.mem_cons, m x]
        exact Or.comm
  · rw [hlen] at m lk
    rw [List.take_length] at m
    exact out h' tk ks R m (by omega) kp
end
section
variable {X : Cx}
def rSetZ (P : Program) (w : World) : List V → Hp → VK → Prop := fun vs H Q => ∃ z : Str, vs = [V.str z] ∧ z.cps.size < 2000 ∧
  ∀ a ks, H a = none → ks.Nodup → (∀ x, x ∈ ks ↔ x ∈ z.cps.toList.map sg) → ks.length ≤ z.cps.size → Q (.ref a) (upd H a (SetXO P w a ks))
theorem cr_setZ (hc : X.calm = true) : CallR X (.type "set") (rSetZ X.prog X.w) := by
  intro pins s σ H xs us Q I r h
  obtain ⟨z, rfl, few, q⟩ := h
  obtain ⟨u1, rfl, r1⟩ : ∃ u1, us = [u1] ∧ RelV (.str z) u1 := by
    cases r with
    | cons a b =>
      cases b
      exact ⟨_, rfl, a⟩
  obtain ⟨zt, rfl⟩ := r1
  refine call_set_sg (P := X.prog) (w := X.w) (I.ok.hd hc) (Nat.lt_of_lt_of_le (by omega : z.cps.size + 2 < 2002) (by decide)) fun h' tk ks R m lk kp => ?_
  have okS : ObjOk X.prog X.w (upd H s.heap.objs.size (SetXO X.prog X.w s.heap.objs.size ks)) h' s.heap.objs.size (SetXO X.prog X.w s.heap.objs.size ks) := by
    obtain ⟨⟨D, e, _⟩, _⟩ := id R
    exact ⟨R, ⟨_, e⟩, fun g1 g2 R1 k => R1.keep k⟩
  exact ⟨.ref s.heap.objs.size, _, I.laid (t' := tk) kp (Nat.le_refl _) okS, rfl, q _ ks (I.hok.fresh (Nat.le_refl _)) R.nd m lk⟩
end
end LB

namespace LB
open PySem PySem.Spec PyProof.Rows L2
/-! ### a text cut at blanks, by its signs -/
def splitL : List Nat → List (List Nat)
  | [] => [[]]
  | d :: r => if d = 32 then [] :: splitL r else match splitL r with
    | [] => [[d]]
    | p :: q => (d :: p) :: q
theorem splitL_cons (d : Nat) (r : List Nat) : splitL (d :: r) = if d = 32 then [] :: splitL r else match splitL r with
    | [] => [[d]]
    | p :: q => (d :: p) :: q := by
  rw [splitL]
theorem splitL_ne : ∀ l : List Nat, ∃ p q, splitL l = p :: q
  | [] => ⟨_, _, rfl⟩
  | d :: r => by
    obtain ⟨p, q, e⟩ := splitL_ne r
    unfold splitL
    by_cases h : d = 32
    · rw [if_pos h]
      exact ⟨_, _, rfl⟩
    · rw [if_neg h, e]
      exact ⟨_, _, rfl⟩
def joinL : List (List Nat) → List Nat
  | [] => []
  | [p] => p
  | p :: q :: r => p ++ 32 :: joinL (q :: r)
theorem joinL_head (d : Nat) (p : List Nat) (q : List (List Nat)) : joinL ((d :: p) :: q) = d :: joinL (p :: q) := by
  cases q <;> rfl
theorem join_split : ∀ l : List Nat, joinL (splitL l) = l
  | [] => rfl
  | d :: r => by
    have ih := join_split r
    obtain ⟨p, q, e⟩ := splitL_ne r
    unfold splitL
    by_cases h : d = 32
    · rw [if_pos h, e]
      show 32 :: joinL (p :: q) = _
      rw [← e, ih, h]
    · rw [if_neg h, e]
      show joinL ((d :: p) :: q) = _
      rw [joinL_head, ← e, ih]
theorem split_app : ∀ (p : List Nat) (l : List Nat), (∀ c ∈ p, c ≠ 32) → splitL (p ++ 32 :: l) = p :: splitL l
  | [], l, _ => by
    show splitL (32 :: l) = _
    rw [splitL_cons, if_pos rfl]
  | d :: p, l, h => by
    show splitL (d :: (p ++ 32 :: l)) = _
    rw [splitL_cons, if_neg (h d List.mem_cons_self), split_app p l fun c hc => h c (List.mem_cons_of_mem _ hc)]
theorem split_one : ∀ (p : List Nat), (∀ c ∈ p, c ≠ 32) → splitL p = [p]
  | [], _ => rfl
  | d :: p, h => by
    unfold splitL
    rw [if_neg (h d List.mem_cons_self), split_one p fun c hc => h c (List.mem_cons_of_mem _ hc)]
theorem split_join : ∀ (ws : List (List Nat)), ws ≠ [] → (∀ p ∈ ws, ∀ c ∈ p, c ≠ 32) → splitL (joinL ws) = ws
  | [], h, _ => absurd rfl h
  | [p], _, h => split_one p (h p List.mem_cons_self)
  | p :: q :: r, _, h => by
    show splitL (p ++ 32 :: joinL (q :: r)) = _
    rw [split_app p _ (h p List.mem_cons_self), split_join (q :: r) (by simp) fun x hx => h x (List.mem_cons_of_mem _ hx)]
def tot (ws : List (List Nat)) : Nat := (ws.map List.length).sum
theorem joinL_len : ∀ (ws : List (List Nat)), (joinL ws).length + 1 = tot ws + ws.length + (if ws = [] then 1 else 0)
  | [] => rfl
  | [p] => by simp [joinL, tot]
  | p :: q :: r => by
    have ih := joinL_len (q :: r)
    rw [if_neg (by simp)] at ih ⊢
    show (p ++ 32 :: joinL (q :: r)).length + 1 = _
    unfold tot at ih ⊢
    rw [List.map_cons, List.sum_cons, List.length_append, List.length_cons, List.length_cons]
    omega
theorem splitL_len (l : List Nat) : tot (splitL l) + (splitL l).length = l.length + 1 := by
  have h := joinL_len (splitL l)
  obtain ⟨p, q, e⟩ := splitL_ne l
  rw [if_neg (by rw [e]; simp), join_split] at h
  omega
theorem tot_mem {p : List Nat} : ∀ {ws : List (List Nat)}, p ∈ ws → p.length ≤ tot ws
  | q :: r, h => by
    show p.length ≤ q.length + tot r
    rcases List.mem_cons.mp h with rfl | h
    · omega
    · have := tot_mem h
      omega
theorem tot_sub {l m : List (List Nat)} (h : l.Sublist m) : tot l ≤ tot m := by
  induction h with
  | slnil => exact Nat.le_refl _
  | cons a _ ih =>
    show _ ≤ a.length + tot _
    omega
  | cons_cons a _ ih =>
    show a.length + tot _ ≤ a.length + tot _
    omega
theorem tot_app : ∀ (l m : List (List Nat)), tot (l ++ m) = tot l + tot m
  | [], m => by
    show tot m = 0 + tot m
    omega
  | a :: l, m => by
    have := tot_app l m
    show a.length + tot (l ++ m) = a.length + tot l + tot m
    omega
theorem cut_sub {α : Type} (l : List α) {i j : Nat} (h : i ≤ j) : (l.take i ++ l.drop j).Sublist l := by
  conv => rhs; rw [← List.take_append_drop i l]
  refine (List.Sublist.refl _).append ?_
  rw [show j = i + (j - i) by omega, ← List.drop_drop]
  exact List.drop_sublist _ _
theorem joinL_mem {c : Nat} : ∀ {L : List (List Nat)}, c ∈ joinL L → c = 32 ∨ ∃ p ∈ L, c ∈ p
  | [], h => by cases h
  | [p], h => .inr ⟨p, List.mem_cons_self, h⟩
  | p :: q :: r, h => by
    rcases List.mem_append.mp (show c ∈ p ++ 32 :: joinL (q :: r) from h) with h | h
    · exact .inr ⟨p, List.mem_cons_self, h⟩
    · rcases List.mem_cons.mp h with h | h
      · exact .inl h
      · rcases joinL_mem h with h | ⟨x, hx, hc⟩
        · exact .inl h
        · exact .inr ⟨x, List.mem_cons_of_mem _ hx, hc⟩
theorem joinL_le (L : List (List Nat)) : (joinL L).length ≤ tot L + L.length ∧ (L ≠ [] → (joinL L).length + 1 ≤ tot L + L.length) := by
  have h := joinL_len L
  by_cases e : L = []
  · subst e
    exact ⟨Nat.zero_le _, fun z => absurd rfl z⟩
  · rw [if_neg e] at h
    exact ⟨by omega, fun _ => by omega⟩
/-- the places of blanks, counted from k on -/
def cutsL (k : Nat) : List Nat → List Nat
  | [] => []
  | d :: r => if d = 32 then k :: cutsL (k + 1) r else cutsL (k + 1) r
theorem parts_cuts {ws : List Nat} : ∀ (l : List Nat) (a k : Nat), ws.drop k = l → a ≤ k → k ≤ ws.length → ∀ p q, splitL l = p :: q →
    StrLaws.partsFrom (tx ws) 1 a (cutsL k l) = tx ((ws.drop a).take (k - a) ++ p) :: q.map tx
  | [], a, k, e, h, hk, p, q, es => by
    cases es
    have hn : k = ws.length := by
      have := List.drop_eq_nil_iff.mp e
      omega
    show [Builtin.Str.strSub (tx ws) a (tx ws).length] = _
    rw [List.append_nil, tx_len]
    have : Builtin.Str.strSub (tx ws) a ws.length = tx ((ws.drop a).take (k - a)) := by
      rw [hn]
      show (⟨ws.toArray.extract a ws.length⟩ : Str) = tx _
      rw [List.extract_toArray]
    rw [this]
    rfl
  | d :: r, a, k, e, h, hk, p, q, es => by
    have hlt : k < ws.length := by
      have := congrArg List.length e
      rw [List.length_drop, List.length_cons] at this
      omega
    have hr : ws.drop (k + 1) = r := by
      rw [← List.drop_drop, e]
      rfl
    have hd : ws[k] = d := by
      have := List.drop_eq_getElem_cons hlt
      rw [this] at e
      exact (List.cons.inj e).1
    obtain ⟨p', q', e'⟩ := splitL_ne r
    unfold splitL at es
    unfold cutsL
    by_cases h32 : d = 32
    · rw [if_pos h32] at es ⊢
      cases es
      show Builtin.Str.strSub (tx ws) a k :: StrLaws.partsFrom (tx ws) 1 (k + 1) (cutsL (k + 1) r) = _
      rw [parts_cuts r (k + 1) (k + 1) hr (Nat.le_refl _) hlt p' q' e', Nat.sub_self, List.take_zero, List.nil_append, List.append_nil, e']
      have : Builtin.Str.strSub (tx ws) a k = tx ((ws.drop a).take (k - a)) := by
        show (⟨ws.toArray.extract a k⟩ : Str) = tx _
        rw [List.extract_toArray]
      rw [this]
      rfl
    · rw [if_neg h32] at es ⊢
      rw [e'] at es
      cases es
      rw [parts_cuts r a (k + 1) hr (by omega) hlt p' q e']
      congr 2
      have : (ws.drop a).take (k + 1 - a) = (ws.drop a).take (k - a) ++ [d] := by
        rw [show k + 1 - a = (k - a) + 1 by omega, List.take_add_one, List.getElem?_drop, show a + (k - a) = k by omega, List.getElem?_eq_getElem hlt, hd]
        rfl
      rw [this, List.append_assoc]
      rfl
theorem sub_one {ws : List Nat} {k : Nat} (h : k < ws.length) : Builtin.Str.subAt (tx ws) (sg 32) k = decide (ws[k] = 32) := by
  show (ws.toArray.extract k (k + 1) == #[32]) = _
  rw [List.extract_toArray]
  have : (ws.drop k).take (k + 1 - k) = [ws[k]] := by
    rw [List.drop_eq_getElem_cons h, show k + 1 - k = 1 by omega]
    rfl
  rw [show (List.extract ws k (k + 1)) = [ws[k]] from this]
  by_cases e : ws[k] = 32
  · rw [decide_eq_true e, e]
    rfl
  · rw [decide_eq_false e]
    exact beq_eq_false_iff_ne.mpr fun z => e (by simpa using z)
theorem occ_loop {ws : List Nat} : ∀ (l : List Nat) (k : Nat) (st : Array Nat × Nat), ws.drop k = l → k ≤ ws.length → st.1.size ≤ k → st.2 ≤ k →
    (forIn (List.range' k (l.length + 1)) st (StrLaws.occBody (tx ws) (sg 32) ws.length (ws.length + 1))).run.fst.toList = st.1.toList ++ cutsL k l
  | [], k, st, e, hk, h1, h2 => by
    have hn : ws.length ≤ k := List.drop_eq_nil_iff.mp e
    rw [show List.range' k (([] : List Nat).length + 1) = [k] from rfl, List.forIn_cons]
    unfold StrLaws.occBody
    rw [if_neg (fun z => by
      have := z.1.2
      have e1 : (sg 32).length = 1 := rfl
      rw [e1] at this
      omega)]
    show st.1.toList = _ ++ []
    rw [List.append_nil]
  | d :: r, k, st, e, hk, h1, h2 => by
    have hlt : k < ws.length := by
      have := congrArg List.length e
      rw [List.length_drop, List.length_cons] at this
      omega
    have hr : ws.drop (k + 1) = r := by
      rw [← List.drop_drop, e]
      rfl
    have hd : ws[k] = d := by
      have := List.drop_eq_getElem_cons hlt
      rw [this] at e
      exact (List.cons.inj e).1
    rw [show List.range' k ((d :: r).length + 1) = k :: List.range' (k + 1) (r.length + 1) from rfl, List.forIn_cons]
    unfold cutsL
    by_cases h32 : d = 32
    · rw [if_pos h32]
      have : StrLaws.occBody (tx ws) (sg 32) ws.length (ws.length + 1) k st = pure (ForInStep.yield (st.1.push k, k + 1)) := by
        unfold StrLaws.occBody
        rw [if_pos ⟨⟨⟨by omega, h2⟩, by show k + 1 ≤ _; omega⟩, by rw [sub_one hlt, hd]; exact decide_eq_true h32⟩]
        rfl
      rw [this]
      refine (occ_loop r (k + 1) (st.1.push k, k + 1) hr hlt (by rw [Array.size_push]; omega) (Nat.le_refl _)).trans ?_
      rw [Array.toList_push, List.append_assoc]
      rfl
    · rw [if_neg h32]
      have : StrLaws.occBody (tx ws) (sg 32) ws.length (ws.length + 1) k st = pure (ForInStep.yield (st.1, st.2)) := by
        unfold StrLaws.occBody
        rw [if_neg fun z => h32 (by
          have := z.2
          rw [sub_one hlt, hd] at this
          exact of_decide_eq_true this)]
      rw [this]
      exact occ_loop r (k + 1) (st.1, st.2) hr hlt (by show st.1.size ≤ _; omega) (by show st.2 ≤ _; omega)
theorem occ_cuts (ws : List Nat) : Builtin.Str.occurrences (tx ws) (sg 32) 0 (tx ws).length ((tx ws).length + 1) = cutsL 0 ws := by
  rw [StrLaws.occ_eq, tx_len, Nat.sub_zero]
  exact occ_loop ws 0 (#[], 0) rfl (Nat.zero_le _) (Nat.le_refl _) (Nat.le_refl _)
theorem cutsL_nil : ∀ (l : List Nat) (k : Nat), cutsL k l = [] → splitL l = [l]
  | [], _, _ => rfl
  | d :: r, k, h => by
    unfold cutsL at h
    unfold splitL
    by_cases e : d = 32
    · rw [if_pos e] at h
      cases h
    · rw [if_neg e] at h ⊢
      rw [cutsL_nil r _ h]
theorem split_tx {ws : List Nat} (h : ∀ c ∈ ws, c < 256) : Txt.split (tx ws) (sg 32) = (splitL ws).map tx := by
  have hk : Builtin.Str.strKind (tx ws) = 1 := by
    unfold Builtin.Str.strKind
    rw [if_pos (by
      show (ws.toArray.all fun c => decide (c < 256)) = true
      rw [List.all_toArray, List.all_eq_true]
      exact fun c hc => decide_eq_true (h c hc))]
  have hs : Builtin.Str.strKind (sg 32) = 1 := by decide +kernel
  unfold Txt.split
  rw [hk, hs, occ_cuts]
  by_cases h0 : ws.length < 1
  · have : ws = [] := List.length_eq_zero_iff.mp (by omega)
    subst this
    rfl
  · rw [if_neg (by
      rw [Bool.or_eq_true, decide_eq_true_eq, decide_eq_true_eq]
      rintro (z | z)
      · rw [tx_len] at z
        exact h0 z
      · omega)]
    by_cases hc : cutsL 0 ws = []
    · rw [hc, if_pos (show ([] : List Nat).isEmpty = true from rfl), cutsL_nil ws 0 hc]
      rfl
    · rw [if_neg (by simpa using hc), StrLaws.partsBetween_eq]
      obtain ⟨p, q, e⟩ := splitL_ne ws
      have := parts_cuts (ws := ws) ws 0 0 rfl (Nat.le_refl _) (Nat.zero_le _) p q e
      rw [show (sg 32).length = 1 from rfl, this, e]
      rfl
theorem join_blank : ∀ ws : List (List Nat), Txt.join (Str.ofString " ") (ws.map tx) = tx (joinL ws) := fun ws => by
  show Builtin.Str.glued _ _ = _
  rw [StrLaws.glued_eq_join, show Str.ofString " " = (tx [32] : Str) from by decide +kernel]
  induction ws with
  | nil => rfl
  | cons c r ih =>
    cases r with
    | nil => rfl
    | cons d t =>
      show tx c ++ tx [32] ++ Str.join (tx [32]) ((d :: t).map tx) = _
      rw [ih, tx_app, tx_app]
      show tx (c ++ [32] ++ joinL (d :: t)) = tx (c ++ 32 :: joinL (d :: t))
      rw [List.append_assoc]
      rfl
/-! ### the last sign -/
theorem endsw (ws : List Nat) : Txt.endswith (tx ws) (sg 42) = decide (ws.getLast? = some 42) := by
  show ((0 + 1 ≤ (tx ws).length : Bool) && Builtin.Str.subAt (tx ws) (sg 42) ((tx ws).length - 1)) = _
  rw [tx_len]
  rcases List.eq_nil_or_concat ws with rfl | ⟨l, c, rfl⟩
  · rfl
  · rw [List.concat_eq_append, List.length_append, List.length_singleton, Nat.add_sub_cancel, decide_eq_true (by omega), Bool.true_and, List.getLast?_append]
    show ((l ++ [c]).toArray.extract l.length (l.length + 1) == #[42]) = _
    rw [List.extract_toArray]
    have : (List.extract (l ++ [c]) l.length (l.length + 1)) = [c] := by
      show ((l ++ [c]).drop l.length).take (l.length + 1 - l.length) = _
      rw [List.drop_left, show l.length + 1 - l.length = 1 by omega]
      rfl
    rw [this]
    by_cases e : c = 42
    · subst e
      rfl
    · rw [show ([c].toArray == #[42]) = false from beq_eq_false_iff_ne.mpr fun z => e (by simpa using z)]
      exact (decide_eq_false fun z => e (by simpa using z)).symm
theorem cutS_init (ws : List Nat) : cutS (tx ws) none (some (-1)) = tx ws.dropLast := by
  unfold cutS
  rw [HT.sIx_none, tx_len, tx_cps]
  show tx ((ws.drop 0).take ((-1 + (ws.length : Int)).toNat - 0)) = _
  rw [List.drop_zero, Nat.sub_zero, List.dropLast_eq_take, show (-1 + (ws.length : Int)).toNat = ws.length - 1 by omega]
theorem cutS_last (ws : List Nat) : cutS (tx ws) (some (-1)) none = tx (ws.drop (ws.length - 1)) := by
  unfold cutS
  rw [HT.sIx_none, tx_len, tx_cps]
  show tx ((ws.drop ((-1 + (ws.length : Int)).toNat)).take (ws.length - (-1 + (ws.length : Int)).toNat)) = _
  rw [show (-1 + (ws.length : Int)).toNat = ws.length - 1 by omega, List.take_of_length_le (by rw [List.length_drop]; exact Nat.le_refl _)]
theorem last_star (ws : List Nat) : (ws.drop (ws.length - 1) = [42]) ↔ ws.getLast? = some 42 := by
  rcases List.eq_nil_or_concat ws with rfl | ⟨l, c, rfl⟩
  · simp
  · rw [List.concat_eq_append, List.length_append, List.length_singleton, Nat.add_sub_cancel, List.drop_left, List.getLast?_append]
    simp
/-! ### atoms by their texts -/
def atomOf (ws : List Nat) : Atm := if ws.getLast? = some 42 then (ws.dropLast, true) else (ws, false)
def rsg : List Nat → Bool
  | c :: d :: r => decide (c < d) && rsg (d :: r)
  | _ => true
theorem rsg_iff : ∀ l : List Nat, rsg l = true ↔ l.Pairwise (· < ·)
  | [] => by simp [rsg]
  | [c] => by simp [rsg]
  | c :: d :: r => by
    have ih := rsg_iff (d :: r)
    show (decide (c < d) && rsg (d :: r)) = true ↔ _
    rw [Bool.and_eq_true, decide_eq_true_eq, ih]
    constructor
    · rintro ⟨h1, h2⟩
      refine List.pairwise_cons.mpr ⟨fun x hx => ?_, h2⟩
      rcases List.mem_cons.mp hx with rfl | hx
      · exact h1
      · exact Nat.lt_trans h1 (List.rel_of_pairwise_cons h2 hx)
    · intro h
      obtain ⟨h1, h2⟩ := List.pairwise_cons.mp h
      exact ⟨h1 d List.mem_cons_self, h2⟩
def atB (a : Atm) : Bool := !decide (a.1 = []) && (low a.1 && rsg a.1) && (a.2 || decide (a.1.length = 1))
theorem low_iff {zs : List Nat} : low zs = true ↔ ∀ c ∈ zs, 97 ≤ c ∧ c < 123 := by
  refine ⟨fun h c hc => ?_, low_of⟩
  unfold low at h
  have := of_decide_eq_true (List.all_eq_true.mp h c hc)
  rw [alpha_codes] at this
  obtain ⟨k, hk, e⟩ := List.mem_map.mp this
  have := List.mem_range.mp hk
  omega
theorem rise_few0 : ∀ {l : List Nat} {a : Nat}, l.Pairwise (· < ·) → (∀ c ∈ l, a ≤ c ∧ c < 123) → l.length ≤ 123 - a
  | [], _, _, _ => Nat.zero_le _
  | c :: r, a, h, b => by
    obtain ⟨h1, h2⟩ := List.pairwise_cons.mp h
    have := rise_few0 (a := c + 1) h2 fun d hd => ⟨h1 d hd, (b d (List.mem_cons_of_mem _ hd)).2⟩
    have := b c List.mem_cons_self
    rw [List.length_cons]
    omega
theorem rise_few {l : List Nat} (h : l.Pairwise (· < ·)) (b : ∀ c ∈ l, 97 ≤ c ∧ c < 123) : l.length ≤ 26 := rise_few0 h b
theorem atB_iff {a : Atm} : atB a = true ↔ AtOk a := by
  unfold atB
  rw [Bool.and_eq_true, Bool.and_eq_true, Bool.and_eq_true, low_iff, rsg_iff, Bool.or_eq_true, decide_eq_true_eq, Bool.not_eq_true', decide_eq_false_iff_not]
  constructor
  · rintro ⟨⟨h1, h2, h3⟩, h4⟩
    exact ⟨h1, h2, h3, h4, Nat.lt_of_le_of_lt (rise_few h3 h2) (by decide)⟩
  · exact fun h => ⟨⟨h.ne, h.lw, h.rs⟩, h.one⟩
/-- the text of an atom -/
def atmTx (a : Atm) : List Nat := if a.2 = true then a.1 ++ [42] else a.1
theorem atomOf_atT {a : Atm} (h : AtOk a) : atomOf (atmTx a) = a := by
  obtain ⟨l, m⟩ := a
  cases m with
  | true =>
    have e : atmTx (l, true) = l ++ [42] := if_pos rfl
    rw [e]
    unfold atomOf
    rw [if_pos (by simp)]
    simp
  | false =>
    have e : atmTx (l, false) = l := if_neg (by simp)
    rw [e]
    unfold atomOf
    rw [if_neg fun z => ?_]
    have := h.lw 42 (List.mem_of_getLast? z)
    omega
/-! ### text * count, none too -/
theorem mulZ {l : List Nat} {k : Int} (h : 0 ≤ k) : Txt.mul (tx l) k = tx (List.replicate k.toNat l).flatten := by
  by_cases h1 : 1 ≤ k
  · exact mulT h1
  · obtain rfl : k = 0 := by omega
    unfold Txt.mul
    rw [if_pos (by decide)]
    rfl
theorem op_mulZ {X : Cx} : OpR X (binaryOp .Mult) (fun x y H Q => ∃ (l : List Nat) (k : Int), x = .str (tx l) ∧ y = .int k ∧ 0 ≤ k ∧ k ≤ 1000 ∧ l.length ≤ 1000 ∧ Q (.str (tx (List.replicate k.toNat l).flatten)) H) := by
  intro pins s σ H x y v u Q I rx ry h
  obtain ⟨l, k, rfl, rfl, h0, h2, hl, q⟩ := h
  obtain ⟨t, rfl⟩ := rx
  obtain ⟨t', rfl⟩ := ry
  refine SB.mul ⟨?_, fun hn _ => ?_, fun hn _ => ?_⟩ fun t2 k2 => ⟨.str _, H, I.tok _, ⟨_, rfl⟩, by rw [mulZ h0]; exact q⟩
  · rw [decide_eq_false (by omega), decide_eq_false (by omega)]
    rfl
  · rw [tx_len]
    have : (1000 : Int) ≤ (2 ^ 63 - 1) / k := Int.le_ediv_of_mul_le (by omega) (by omega)
    omega
  · rw [tx_len]
    have : l.length * k.toNat ≤ 1000 * 1000 := Nat.mul_le_mul hl (by omega)
    exact decide_eq_false (by rw [sizeLine_eq]; omega)
/-! ### letters that rise, by their set -/
theorem rise_eq : ∀ {l m : List Nat}, l.Pairwise (· < ·) → m.Pairwise (· < ·) → (∀ c, c ∈ l ↔ c ∈ m) → l = m
  | [], [], _, _, _ => rfl
  | [], b :: m, _, _, h => absurd ((h b).mpr List.mem_cons_self) (by simp)
  | a :: l, [], _, _, h => absurd ((h a).mp List.mem_cons_self) (by simp)
  | a :: l, b :: m, h1, h2, h => by
    obtain ⟨a1, l1⟩ := List.pairwise_cons.mp h1
    obtain ⟨b1, m1⟩ := List.pairwise_cons.mp h2
    have e : a = b := by
      rcases List.mem_cons.mp ((h a).mp List.mem_cons_self) with z | z
      · exact z
      · rcases List.mem_cons.mp ((h b).mpr List.mem_cons_self) with y | y
        · exact y.symm
        · have := b1 a z
          have := a1 b y
          omega
    subst e
    rw [rise_eq l1 m1 fun c => ?_]
    constructor
    · intro hc
      rcases List.mem_cons.mp ((h c).mp (List.mem_cons_of_mem _ hc)) with z | z
      · have := a1 c hc
        omega
      · exact z
    · intro hc
      rcases List.mem_cons.mp ((h c).mpr (List.mem_cons_of_mem _ hc)) with z | z
      · have := b1 c hc
        omega
      · exact z
theorem set_srt {zs : List Nat} {ks ys : List Str} (nd : ks.Nodup) (hm : ∀ x, x ∈ ks ↔ x ∈ zs.map sg) (p : ys.Perm ks) (h : sortedS ys = true) : ∃ ds : List Nat, ys = ds.map sg ∧ ds.Pairwise (· < ·) ∧ (∀ c, c ∈ ds ↔ c ∈ zs) := by
  have inj : ∀ {c d : Nat}, sg c = sg d → c = d := fun {c d} e => by
    have := congrArg (fun s : Str => s.cps.toList) e
    simpa using this
  have ek : ks = (ks.map fun y => y.cps.toList.headD 0).map sg := by
    rw [List.map_map]
    refine ((List.map_congr_left fun x hx => ?_).trans (List.map_id ks)).symm
    obtain ⟨c, _, rfl⟩ := List.mem_map.mp ((hm x).mp hx)
    rfl
  generalize hcs : (ks.map fun y => y.cps.toList.headD 0) = cs at ek
  have ndc : cs.Nodup := by
    rw [ek] at nd
    exact List.Pairwise.imp (fun {a b} h e => h (congrArg sg e)) (List.pairwise_map.mp nd)
  rw [ek] at p
  obtain ⟨ds, e, r, _, _⟩ := srt_letters p h ndc
  refine ⟨ds, e, r, fun c => ?_⟩
  have : c ∈ ds ↔ sg c ∈ ys := by
    rw [e]
    exact ⟨fun h => List.mem_map.mpr ⟨c, h, rfl⟩, fun h => by
      obtain ⟨d, hd, e⟩ := List.mem_map.mp h
      rw [← inj e]
      exact hd⟩
  rw [this, p.mem_iff, ← ek, hm]
  exact ⟨fun h => by
      obtain ⟨d, hd, e⟩ := List.mem_map.mp h
      rw [← inj e]
      exact hd, fun h => List.mem_map.mpr ⟨c, h, rfl⟩⟩
theorem rise_dec {zs ds : List Nat} (r : ds.Pairwise (· < ·)) (m : ∀ c, c ∈ ds ↔ c ∈ zs) : decide (V.str (tx ds) = V.str (tx zs)) = rsg zs := by
  cases h : rsg zs with
  | true => exact decide_eq_true (by rw [rise_eq r ((rsg_iff zs).mp h) m])
  | false =>
    refine decide_eq_false fun z => ?_
    injection z with z
    have e : ds = zs := congrArg (fun s : Str => s.cps.toList) z
    rw [e] at r
    rw [(rsg_iff zs).mpr r] at h
    cases h
/-! ### x in t, t a tuple of plain data -/
def rInDT (K : PySem.W.Frag) : R2 := fun x y H Q => ∃ d ds, Dp K H x d ∧ Dp K H y (.tuple ds) ∧ SeqAt.shaped d = true ∧ SeqAt.shaped (.tuple ds) = true ∧ Q (.bl (ds.any fun z => PyData.eqv z d)) H
theorem op_inDT {X : Cx} (hu : X.A.units + 65 < cLine) : OpR X (compareOp .In) (rInDT X.K) := by
  intro pins s σ H x y v u Q I rx ry h
  obtain ⟨d, ds, hd, he, sd, se, q⟩ := h
  obtain ⟨as, r1⟩ := Dp.reads I d x v hd rx
  obtain ⟨bs, r2⟩ := Dp.reads I (.tuple ds) y u he ry
  exact SeqAt.in_tuple_reads r2 r1 (SeqAt.canLay_of_shaped se) (SeqAt.canLay_of_shaped sd) (room_in_shaped sd hu) ⟨.bl _, H, I, rfl, q⟩
end LB

set_option maxHeartbeats 1000000
namespace LB
open PySem PySem.Spec PyProof.Rows L2
/-! ### an own exception with fields, in an except suite: isinstance, its fields -/
/-- what the class D says, for isinstance and for fields -/
structure XC (K : PySem.W.Frag) (D : Addr) : Prop where
  cl : (PySem.W.clsIn K D).isSome = true
  ga : PySem.W.findIn K (.ref D) "__getattribute__" = some (some (.builtin "BaseException.__getattribute__"))
  gg : PySem.W.findIn K (.ref D) "__getattr__" = some none
  ex : PySem.W.subIn K (.ref D) (.type "BaseException") = some true
  ca : PySem.W.findIn K (.ref D) "__class__" = some (some (.builtin "object.__class__"))
  cg : PySem.W.specialIn K (.builtin "object.__class__") "__get__" = some (some (.builtin "getset_descriptor.__get__"))
  ct : PySem.W.takesIn K (.builtin "object.__class__") = some true
  mo : PySem.W.mroIn K D (.type "object") = some true
  hd : PySem.W.hasDictIn K D = true
def rIsX (K : PySem.W.Frag) (cls : Value) (d : Option Addr) (a : Addr) : List V → Hp → VK → Prop := fun xs H Q => ∃ (D dd : Addr) (fs : List (Str × V)) (c : V) (cv : Value) (b : Bool), cls = .ref D ∧ XC K D ∧ d = some dd ∧ H dd = some (.xd fs) ∧ xs = [.ref a, c] ∧ (∀ u, L2.RelV c u → u = cv) ∧ PySem.W.kitOne K (.ref D) cv = some b ∧ Q (.bl b) H
section
variable {X : Cx} {a : Addr} {oe : Obj} {cls : Value} {d : Option Addr} {pn : List (Addr × Obj)}
theorem suite_inst {pins : List (Addr × Obj)} {σ : L2.St} {H : Hp} {s : Shared} {D dd : Addr} {fs : List (Str × V)} (I : Inv (X.suite a ((a, oe) :: pn)) pins σ H s) (hz : Zc (.ref D) (some dd) oe) (hf : ∃ vs, oe.data = .fields vs) (hdd : H dd = some (.xd fs)) :
    ∃ od mA, PySem.W.InstAt s.heap a oe D (some od) ∧ s.heap.get? dd = some od ∧ s.heap.Ns1 dd mA ∧ ∀ f, RelO (fs.lookup f) (mA f) := by
  obtain ⟨ha, _⟩ := I.pin (a, oe) (List.mem_append_left _ List.mem_cons_self)
  obtain ⟨vs, hd⟩ := hf
  obtain ⟨mA, hns, hr⟩ := (show ObjOk X.prog X.w H s.heap dd (.xd fs) from I.hok dd _ hdd)
  obtain ⟨od, ho, hl⟩ := lookIn_ns hns
  exact ⟨od, mA, ⟨ha, hz.1, by unfold PySem.W.notCls; rw [hd] <;> rfl, by rw [hz.2]; exact ho⟩, ho, hns, hr⟩
theorem call_isX (hz : Zc cls d oe) (hf : ∃ vs, oe.data = .fields vs) : CallR (X.suite a ((a, oe) :: pn)) (.builtin "isinstance") (rIsX X.K cls d a) := by
  intro pins s σ H xs us Q I r h
  obtain ⟨D, dd, fs, c, cv, b, rfl, C, rfl, hdd, rfl, hcv, e, q⟩ := h
  obtain ⟨u1, u2, rfl, r1, r2⟩ := vals2 r
  cases r1
  obtain rfl := hcv _ r2
  obtain ⟨od, mA, J, _⟩ := suite_inst I hz hf hdd
  exact PySem.W.kia_one (PySem.W.kitx_exc C.cl C.ga C.gg C.ex C.ca C.cg C.ct C.mo) I.kIn J e (fun z => nomatch z) fun tk => ⟨.bl b, H, I.kept (t' := tk) fun _ _ z => z, rfl, q⟩
def tXfX (K : PySem.W.Frag) (a : Addr) (cls : Value) (d : Option Addr) (n : Str) (te : TE) : TE := fun σ H Q => te σ H fun x H1 => x = .ref a ∧ ∃ (D dd : Addr) (fs : List (Str × V)) (v : V), cls = .ref D ∧ XC K D ∧ PySem.W.findIn K (.ref D) n = some none ∧ d = some dd ∧ H1 dd = some (.xd fs) ∧ fs.lookup n = some v ∧ Q v H1
theorem pe_xfX {e : Expr} {te : TE} {pos : Pos} {n : Str} (hz : Zc cls d oe) (hf : ∃ vs, oe.data = .fields vs) (he : PE (X.suite a ((a, oe) :: pn)) e te) (hb : attributeBase e n X.env (eval e X.env) = eval e X.env := by rfl) :
    PE (X.suite a ((a, oe) :: pn)) (.Attribute e n pos) (tXfX X.K a cls d n te) := by
  refine ⟨fun pins s σ H Q I h => ?_⟩
  refine attr_of hb (thn (he.run pins s σ H _ I h) fun u s1 ⟨x, H1, I1, rx, ex, D, dd, fs, v, ec, C, hno, ed, hdd, l, q⟩ => ?_)
  subst ex ec ed
  obtain rfl : u = Value.ref a := rx
  obtain ⟨od, mA, J, ho, hns, hr⟩ := suite_inst I1 hz hf hdd
  obtain ⟨od', ho', hl⟩ := lookIn_ns hns
  obtain rfl : od = od' := Option.some.inj (ho.symm.trans ho')
  obtain ⟨w, hw, rw'⟩ := RelO.some_of (v := v) (o := mA n) (by rw [← l]; exact hr n)
  exact HandSPX.exc_get I1.kIn J C.ga C.gg C.ex (PySem.W.findObj_own C.hd hno rfl (by rw [hl, hw])) (handed_of rw') ⟨v, H1, I1.tok _, rw', q⟩
end
/-! ### C.m(self, ..): a def of an own class, called by the class's name -/
structure CFn (K : PySem.W.Frag) (C : Addr) (n : Str) (f : Addr) : Prop where
  rd : PySem.W.readsIn K C (.type "type") = true
  ga : PySem.W.specialIn K (.ref C) "__getattribute__" = some (some (.builtin "type.__getattribute__"))
  fn : PySem.W.findCls K (.ref C) (.type "type") n = some (.val (.ref f))
  kp : PySem.W.keepIn K (.ref f) = true
section
variable {X : Cx} {CX : CXT} {k : Nat} {f C : Addr} {fd : FuncData} {ps : List Str} {sp : Sp} {dvs : List V} {ds : List Value} {E : XK} {x n : Str} {p1 p2 pos : Pos} {e : Expr} {es : List Expr} {t : TA}
theorem pe_cfn {pl : Sem Bool} (c : CFn X.K C n f) (F : FnOk X.prog X.w X.K X.mg X.base CX k f fd ps sp) (hr : Room k X.A) (hg : Gl X x) (hm : X.mg x = some (.ref C)) (hb : L2.Binds X.K fd ps ds) (hd : Vals dvs ds) (hx : Passes CX X E) (ha : PA X (e :: es) t)
    (hdb : (x == ("__debug__" : Str)) = false := by decide)
    (hc : eval (.Call (.Attribute (.Name x p1) n p2) (e :: es) [] pos) X.env = (do
      let ov ← eval (.Name x p1) X.env
      standAt p2.atName
      let (f, first) ← holding [ov] (getMethod ov n pl)
      callWith pos f first (backTo pos (starEach (e :: es) X.env)) (backToKw pos (keywordEach [] X.env))) := by rfl)
    (he : starEach (e :: es) X.env = (false, eval e X.env) :: starEach es X.env := by rfl) (hpl : (backTo pos (starEach es X.env)).any (·.1) = false := by rfl) :
    PE X (.Call (.Attribute (.Name x p1) n p2) (e :: es) [] pos) (tCall sp dvs E t) := by
  refine ⟨fun pins s σ H Q I h => ?_⟩
  refine PySem.W.methodCall_KW (ld_glob I hg hm ?_ hdb) hc
  refine PySem.W.method_cls I.kIn c.ga (PySem.W.cls_value I.kIn c.rd c.fn rfl ?_)
  show wpAny _ _ (callWith pos (.ref f) [] (backTo pos (starEach (e :: es) X.env)) []) _ _ _
  refine PySem.W.callWith_K (h₀ := X.base) I.ok.mod.kin c.kp (thn (ha.run pos pins _ σ H _ (I.tok _) h) fun us s1 ⟨vs, H1, I1, r, q⟩ => ⟨I1.kIn, ?_⟩) he hpl
  exact run_fn F hr hb hd hx I1 r q
end
/-! ### C(), C an own exception class whose __init__ takes what is left out -/
section
variable {X : Cx} {p pos : Pos}
theorem pmk_oex0 {CX : CXT} {x : Str} {C fI : Addr} {k : Nat} {fd : FuncData} {ps : List Str} {sp : Sp} {ds : List Value} {dvs : List V} (T : OexC X.K C) (iC : PySem.W.findIn X.K (.ref C) "__init__" = some (some (.ref fI))) (tI : PySem.W.typeIn X.K (.ref fI) = some (.type "function"))
    (F1 : FnOk X.prog X.w X.K X.mg X.base CX k fI fd ps sp) (hr : Room (k + 1) X.A) (hb : L2.Binds X.K fd ps ds) (hd : Vals dvs ds) (hx : Passes CX X (fun _ _ _ => False)) (hg : Gl X x) (hm : X.mg x = some (.ref C)) (hdb : (x == ("__debug__" : Str)) = false := by decide) :
    PMk X (.Call (.Name x p) [] [] pos) (tMkO C sp dvs tNil) := by
  intro pins s σ H Q I h
  obtain ⟨nm, q, N, bs, bm, sn, sub, ab, col, dd, k0, k1, k2, k3, k5, hC, hbm⟩ := T.cls
  refine wpAny_Call_Name_kw (ld_glob I hg hm ?_ hdb)
  refine PySem.W.callWith_K0 I.kIn T.kC ?_
  show wpAny _ _ (call (.ref C) []) _ _ _
  obtain ⟨hp, g, dr, tk, os⟩ := s
  obtain ⟨_, q1⟩ := h
  have sz : hp.objs.size ≤ hp.objs.size + 1 := Nat.le_succ _
  have asked := q1 (hp.objs.size + 1) (I.hok.fresh sz)
  have kk : ∀ b o, hp.get? b = some o → ((hp.push (PySem.W.kdv_tup [])).push (PySem.HandSPX.excO C hp.objs.size)).get? b = some o := fun b o e => Heap.get?_push_of_some _ (Heap.get?_push_of_some _ e)
  have at_ : ((hp.push (PySem.W.kdv_tup [])).push (PySem.HandSPX.excO C hp.objs.size)).get? (hp.objs.size + 1) = some (PySem.HandSPX.excO C hp.objs.size) := by heap_get
  have I2 : Inv X pins σ (upd H (hp.objs.size + 1) (exo (hp.objs.size + 1) C none)) ⟨(hp.push (PySem.W.kdv_tup [])).push (PySem.HandSPX.excO C hp.objs.size), g, dr, tk, os⟩ :=
    I.laid (t' := tk) (a := hp.objs.size + 1) (o := exo (hp.objs.size + 1) C none) (h' := (hp.push (PySem.W.kdv_tup [])).push (PySem.HandSPX.excO C hp.objs.size)) kk sz (exo_ok at_)
  have r2 : Vals (V.ref (hp.objs.size + 1) :: ([] ++ dvs)) ([Value.ref (hp.objs.size + 1)] ++ ds) := .cons rfl hd
  have hl : ([Value.ref (hp.objs.size + 1)] ++ ds).length = ps.length := by
    have e := r2.length
    rw [F1.len _ _ _ _ asked] at e
    exact e.symm
  refine wpAny_call (PySem.HandSPX.call_own PySem.F.excBase_ValueError (fun Y => PySem.HandSPX.refsVE_contains Y bm hbm) (I.kIn _ _ hC) (PySem.W.looks_findIn I.kIn iC) (fun self => PySem.W.bind_fn I.kIn self tI) (Nat.zero_le _)
    (codeAny_mono (F1.run _ X.stack _ _ ⟨[Value.ref (hp.objs.size + 1)], []⟩ ([Value.ref (hp.objs.size + 1)] ++ ds) _ _ (fun _ _ _ => False) (hr.make C [] []) (I2.env0.make C [] []) (hb _ [Value.ref (hp.objs.size + 1)] I2.kIn hl) r2 asked) fun r s' hq' => ?_))
  cases r with
  | error er => exact hx pins σ _ _ er s' I2 hq'
  | ok fl =>
    cases fl with
    | ret u =>
      obtain ⟨v, H2, os2, bare2, un2, hok2, rv, ev, d, fs, ea, ed, hd1, q2⟩ := hq'
      subst ev
      obtain ⟨h2, g2, d2, t2, os'⟩ := s'
      exact ⟨rv, mk_end (raises_own T.exC T.tyC) I sz kk un2 hok2 os2 bare2 ea ed hd1 q2⟩
    | next => exact False.elim hq'
    | brk => exact False.elim hq'
    | cont => exact False.elim hq'
end
end LB

namespace LB
open PySem PySem.Spec PyProof.Rows L2
/-! ### a def that holds lambdas: its own code object is told -/
theorem okC {P : Program} {w : World} {K : PySem.W.Frag} {mg : Str → Option Value} {base : Heap} {x qual : Str} {st : Stmt} {f : Addr} {fd : FuncData} {N ps : List Str} {k : Nat} {sp : Sp} (F : Fun K x qual st f fd) (S : FnScope N ps (defScope st))
    (len : ∀ vs H Q E, sp vs H Q E → vs.length = ps.length)
    (hbody : ∀ (cdv : Value), fd.code = cdv → ∀ (A : Around) (outer : List Env) (s : Shared) (H : Hp) (vs : List V) (Q : VK) (E : XK), Room k (A.deeper (envOfC qual (defScope st) s.heap.objs.size f cdv)) → sp vs H Q E →
      ∃ t, PSs (cxOf CX0 P w K mg base N qual (defScope st) f cdv A outer s H E).nox (defBody st) t ∧ t { nx := fun _ H' => Q .non H', rt := Q } (start N vs) H) : FnOk P w K mg base CX0 (k + 1) f fd ps sp := by
  obtain ⟨oc, od, kV, doc, pm, an, cdv, ct, osl, rfl, lk, hcd⟩ := F.ex
  refine fn_of lk hcd S len fun A outer s H vs Q E room hsp => ?_
  obtain ⟨t, h, q⟩ := hbody cdv rfl A outer s H vs Q E room hsp
  exact ⟨t, h.nox, q⟩
theorem units65 {k : Nat} {A : Around} (r : Room k A) : A.units + 65 < cLine := by have := r.un; omega
section
variable {b s a : Addr} {H H' : Hp} {T : List (Addr × Str)}
open LamX
theorem tabs_bx (hB : Bag b s H) (x : BX b s H H') (t : Tabs T H) : Tabs T H' := fun p hp => by
  obtain ⟨_, ns, i, r, sd, c, e, _⟩ := hB
  obtain ⟨ps, h1, h2, h3⟩ := t p hp
  refine ⟨ps, x.keep _ _ (fun z => ?_) h1, h2, fun pos cv hc => ?_⟩
  · rw [z, e] at h1
    cases h1
  · obtain ⟨c', rfl, hc'⟩ := h3 pos cv hc
    refine ⟨c', rfl, x.keep _ _ (fun z => ?_) hc'⟩
    rw [z, e] at hc'
    cases hc'
theorem tabs_same (x : Same H H') (t : Tabs T H) : Tabs T H' := t.ext x
theorem bag_extN (hB : Bag b s H) (x : ExtN H H') : Bag b s H' := by
  obtain ⟨n, ns, i, r, sd, c, e1, e2, l⟩ := hB
  exact ⟨n, ns, i, r, sd, c, x _ _ e1 (fun ps z => by cases z), x _ _ e2 (fun ps z => by cases z), l⟩
theorem at_extN {xs : List V} (h : At b H a (.lst xs)) (x : ExtN H H') : At b H' a (.lst xs) := ⟨h.1, x _ _ h.2 fun ps z => by cases z⟩
end
end LB

set_option maxHeartbeats 200000
namespace K34
open PySem PySem.Spec PyProof.Rows L2 LB
def topS (i : Nat) : Stmt := PySem.Challenge.pw_leakpost_k34_products_written_and_read.main.body.getD i (.Pass ⟨0, 0, 0, 0⟩)
def clsS (i j : Nat) : Stmt := (C8.clsBody (topS i)).getD j (.Pass ⟨0, 0, 0, 0⟩)
abbrev s_LeakError_init : Stmt := clsS 1 0
abbrev N_LeakError_init : List Str := ["self", "at", "word"]
abbrev P_LeakError_init : List Str := ["self", "at", "word"]
theorem sc_LeakError_init : FnScope N_LeakError_init P_LeakError_init (defScope s_LeakError_init) := ⟨rfl, rfl, rfl, by decide +kernel, rfl, by decide +kernel, by decide +kernel⟩
abbrev s_BadAtom_init : Stmt := clsS 2 0
abbrev N_BadAtom_init : List Str := ["self", "at"]
abbrev P_BadAtom_init : List Str := ["self", "at"]
theorem sc_BadAtom_init : FnScope N_BadAtom_init P_BadAtom_init (defScope s_BadAtom_init) := ⟨rfl, rfl, rfl, by decide +kernel, rfl, by decide +kernel, by decide +kernel⟩
abbrev s_BadText_init : Stmt := clsS 3 0
abbrev N_BadText_init : List Str := ["self", "at"]
abbrev P_BadText_init : List Str := ["self", "at"]
theorem sc_BadText_init : FnScope N_BadText_init P_BadText_init (defScope s_BadText_init) := ⟨rfl, rfl, rfl, by decide +kernel, rfl, by decide +kernel, by decide +kernel⟩
abbrev s_p_is_word : Stmt := topS 6
abbrev N_p_is_word : List Str := ["text", "sign"]
abbrev P_p_is_word : List Str := ["text"]
theorem sc_p_is_word : FnScope N_p_is_word P_p_is_word (defScope s_p_is_word) := ⟨rfl, rfl, rfl, by decide +kernel, rfl, by decide +kernel, by decide +kernel⟩
abbrev s_p_is_rising : Stmt := topS 8
abbrev N_p_is_rising : List Str := ["text", "low", "high"]
abbrev P_p_is_rising : List Str := ["text"]
theorem sc_p_is_rising : FnScope N_p_is_rising P_p_is_rising (defScope s_p_is_rising) := ⟨rfl, rfl, rfl, by decide +kernel, rfl, by decide +kernel, by decide +kernel⟩
abbrev s_p_is_atom : Stmt := topS 9
abbrev N_p_is_atom : List Str := ["letters", "many"]
abbrev P_p_is_atom : List Str := ["letters", "many"]
theorem sc_p_is_atom : FnScope N_p_is_atom P_p_is_atom (defScope s_p_is_atom) := ⟨rfl, rfl, rfl, by decide +kernel, rfl, by decide +kernel, by decide +kernel⟩
abbrev s_p_is_product : Stmt := topS 10
abbrev N_p_is_product : List Str := ["thing", "letters", "many"]
abbrev P_p_is_product : List Str := ["thing"]
theorem sc_p_is_product : FnScope N_p_is_product P_p_is_product (defScope s_p_is_product) := ⟨rfl, rfl, rfl, by decide +kernel, rfl, by decide +kernel, by decide +kernel⟩
abbrev s_p_check_product : Stmt := topS 11
abbrev N_p_check_product : List Str := ["product"]
abbrev P_p_check_product : List Str := ["product"]
theorem sc_p_check_product : FnScope N_p_check_product P_p_check_product (defScope s_p_check_product) := ⟨rfl, rfl, rfl, by decide +kernel, rfl, by decide +kernel, by decide +kernel⟩
abbrev s_p_product_text : Stmt := topS 12
abbrev N_p_product_text : List Str := ["product", "letters", "many"]
abbrev P_p_product_text : List Str := ["product"]
theorem sc_p_product_text : FnScope N_p_product_text P_p_product_text (defScope s_p_product_text) := ⟨rfl, rfl, rfl, by decide +kernel, rfl, by decide +kernel, by decide +kernel⟩
abbrev s_p_atom_of : Stmt := topS 13
abbrev N_p_atom_of : List Str := ["text"]
abbrev P_p_atom_of : List Str := ["text"]
theorem sc_p_atom_of : FnScope N_p_atom_of P_p_atom_of (defScope s_p_atom_of) := ⟨rfl, rfl, rfl, by decide +kernel, rfl, by decide +kernel, by decide +kernel⟩
abbrev s_p_read_product : Stmt := topS 14
abbrev N_p_read_product : List Str := ["text", "product", "piece"]
abbrev P_p_read_product : List Str := ["text"]
theorem sc_p_read_product : FnScope N_p_read_product P_p_read_product (defScope s_p_read_product) := ⟨rfl, rfl, rfl, by decide +kernel, rfl, by decide +kernel, by decide +kernel⟩
abbrev s_bag : Stmt := topS 16
abbrev N_bag : List Str := ["_law_script", "_law_seed", "_law_cell"]
abbrev P_bag : List Str := ["_law_script"]
theorem sc_bag : FnScope N_bag P_bag (defScope s_bag) := ⟨rfl, rfl, rfl, by decide +kernel, rfl, by decide +kernel, by decide +kernel⟩
abbrev s_pull : Stmt := topS 17
abbrev N_pull : List Str := ["_law_bag_here", "_law_many", "_law_rest", "_law_cell", "_law_one", "_law_two"]
abbrev P_pull : List Str := ["_law_bag_here", "_law_many"]
theorem sc_pull : FnScope N_pull P_pull (defScope s_pull) := ⟨rfl, rfl, rfl, by decide +kernel, rfl, by decide +kernel, by decide +kernel⟩
abbrev s_of : Stmt := topS 18
abbrev N_of : List Str := ["_law_bag_here", "_law_some"]
abbrev P_of : List Str := ["_law_bag_here", "_law_some"]
theorem sc_of : FnScope N_of P_of (defScope s_of) := ⟨rfl, rfl, rfl, by decide +kernel, rfl, by decide +kernel, by decide +kernel⟩
abbrev s_same : Stmt := topS 19
abbrev N_same : List Str := ["_law_found", "_law_due", "_law_a", "_law_b"]
abbrev P_same : List Str := ["_law_found", "_law_due"]
theorem sc_same : FnScope N_same P_same (defScope s_same) := ⟨rfl, rfl, rfl, by decide +kernel, rfl, by decide +kernel, by decide +kernel⟩
abbrev s_letters : Stmt := topS 20
abbrev N_letters : List Str := ["_law_bag_here", "_law_alphabet", "_law_first", "_law_by", "_law_k"]
abbrev P_letters : List Str := ["_law_bag_here"]
theorem sc_letters : FnScope N_letters P_letters (defScope s_letters) := ⟨rfl, rfl, rfl, by decide +kernel, rfl, by decide +kernel, by decide +kernel⟩
abbrev s_refusal : Stmt := topS 21
abbrev N_refusal : List Str := ["_law_ask", "_law_found", "e"]
abbrev P_refusal : List Str := ["_law_ask"]
theorem sc_refusal : FnScope N_refusal P_refusal (defScope s_refusal) := ⟨rfl, rfl, rfl, by decide +kernel, rfl, by decide +kernel, by decide +kernel⟩
abbrev s_product : Stmt := topS 22
abbrev N_product : List Str := ["_law_bag_here", "_law_letters_here", "_law_top", "_law_found", "_law_k", "_law_some", "_law_many", "_law_letter"]
abbrev P_product : List Str := ["_law_bag_here", "_law_letters_here", "_law_top"]
theorem sc_product : FnScope N_product P_product (defScope s_product) := ⟨rfl, rfl, rfl, by decide +kernel, rfl, by decide +kernel, by decide +kernel⟩
abbrev s_atoms_text : Stmt := topS 23
abbrev N_atoms_text : List Str := ["_law_product_here", "_law_words", "_law_letters_here", "_law_many"]
abbrev P_atoms_text : List Str := ["_law_product_here"]
theorem sc_atoms_text : FnScope N_atoms_text P_atoms_text (defScope s_atoms_text) := ⟨rfl, rfl, rfl, by decide +kernel, rfl, by decide +kernel, by decide +kernel⟩
abbrev s_bent_text : Stmt := topS 24
abbrev N_bent_text : List Str := ["_law_bag_here", "_law_line", "_law_at", "_law_sign", "_law_kind", "_law_words", "_law_one", "_law_odd"]
abbrev P_bent_text : List Str := ["_law_bag_here", "_law_line"]
theorem sc_bent_text : FnScope N_bent_text P_bent_text (defScope s_bent_text) := ⟨rfl, rfl, rfl, by decide +kernel, rfl, by decide +kernel, by decide +kernel⟩
abbrev s_atom_read : Stmt := topS 25
abbrev N_atom_read : List Str := ["_law_word", "_law_many", "_law_letters_here", "_law_letter"]
abbrev P_atom_read : List Str := ["_law_word"]
theorem sc_atom_read : FnScope N_atom_read P_atom_read (defScope s_atom_read) := ⟨rfl, rfl, rfl, by decide +kernel, rfl, by decide +kernel, by decide +kernel⟩
abbrev s_law : Stmt := topS 26
abbrev N_law : List Str := ["_law_script", "_law_bag_here", "_law_letters_here", "_law_turn", "_law_product_here", "_law_bend", "_law_due", "_law_line", "_law_word"]
abbrev P_law : List Str := ["_law_script"]
theorem sc_law : FnScope N_law P_law (defScope s_law) := ⟨rfl, rfl, rfl, by decide +kernel, rfl, by decide +kernel, by decide +kernel⟩
set_option maxHeartbeats 0 in
structure Tx (K : PySem.W.Frag) (mg : Str → Option Value) where
  C_LeakError : Addr
  gC_LeakError : mg "LeakError" = some (.ref C_LeakError)
  C_BadAtom : Addr
  gC_BadAtom : mg "BadAtom" = some (.ref C_BadAtom)
  C_BadText : Addr
  gC_BadText : mg "BadText" = some (.ref C_BadText)
  f_LeakError_init : Addr
  fd_LeakError_init : FuncData
  F_LeakError_init : FunD K "__init__" "LeakError.__init__" (defArgs s_LeakError_init) (defBody s_LeakError_init) (defScope s_LeakError_init) [V.int (-1), V.str (PySem.Str.ofString "leakerror")] [] f_LeakError_init fd_LeakError_init
  ds_LeakError_init_1 : List Value
  dv_LeakError_init_1 : Vals [V.int (-1), V.str (PySem.Str.ofString "leakerror")] ds_LeakError_init_1
  b_LeakError_init_1 : L2.Binds K fd_LeakError_init P_LeakError_init ds_LeakError_init_1
  ds_LeakError_init_2 : List Value
  dv_LeakError_init_2 : Vals [V.str (PySem.Str.ofString "leakerror")] ds_LeakError_init_2
  b_LeakError_init_2 : L2.Binds K fd_LeakError_init P_LeakError_init ds_LeakError_init_2
  ds_LeakError_init_3 : List Value
  dv_LeakError_init_3 : Vals [] ds_LeakError_init_3
  b_LeakError_init_3 : L2.Binds K fd_LeakError_init P_LeakError_init ds_LeakError_init_3
  f_BadAtom_init : Addr
  fd_BadAtom_init : FuncData
  F_BadAtom_init : FunD K "__init__" "BadAtom.__init__" (defArgs s_BadAtom_init) (defBody s_BadAtom_init) (defScope s_BadAtom_init) [V.int (-1)] [] f_BadAtom_init fd_BadAtom_init
  ds_BadAtom_init_1 : List Value
  dv_BadAtom_init_1 : Vals [V.int (-1)] ds_BadAtom_init_1
  b_BadAtom_init_1 : L2.Binds K fd_BadAtom_init P_BadAtom_init ds_BadAtom_init_1
  ds_BadAtom_init_2 : List Value
  dv_BadAtom_init_2 : Vals [] ds_BadAtom_init_2
  b_BadAtom_init_2 : L2.Binds K fd_BadAtom_init P_BadAtom_init ds_BadAtom_init_2
  f_BadText_init : Addr
  fd_BadText_init : FuncData
  F_BadText_init : FunD K "__init__" "BadText.__init__" (defArgs s_BadText_init) (defBody s_BadText_init) (defScope s_BadText_init) [V.int (-1)] [] f_BadText_init fd_BadText_init
  ds_BadText_init_1 : List Value
  dv_BadText_init_1 : Vals [V.int (-1)] ds_BadText_init_1
  b_BadText_init_1 : L2.Binds K fd_BadText_init P_BadText_init ds_BadText_init_1
  ds_BadText_init_2 : List Value
  dv_BadText_init_2 : Vals [] ds_BadText_init_2
  b_BadText_init_2 : L2.Binds K fd_BadText_init P_BadText_init ds_BadText_init_2
  f_p_is_word : Addr
  fd_p_is_word : FuncData
  F_p_is_word : Fun K "is_word" "is_word" s_p_is_word f_p_is_word fd_p_is_word
  b_p_is_word : L2.Binds K fd_p_is_word P_p_is_word []
  g_p_is_word : mg "is_word" = some (.ref f_p_is_word)
  f_p_is_rising : Addr
  fd_p_is_rising : FuncData
  F_p_is_rising : Fun K "is_rising" "is_rising" s_p_is_rising f_p_is_rising fd_p_is_rising
  b_p_is_rising : L2.Binds K fd_p_is_rising P_p_is_rising []
  g_p_is_rising : mg "is_rising" = some (.ref f_p_is_rising)
  f_p_is_atom : Addr
  fd_p_is_atom : FuncData
  F_p_is_atom : Fun K "is_atom" "is_atom" s_p_is_atom f_p_is_atom fd_p_is_atom
  b_p_is_atom : L2.Binds K fd_p_is_atom P_p_is_atom []
  g_p_is_atom : mg "is_atom" = some (.ref f_p_is_atom)
  f_p_is_product : Addr
  fd_p_is_product : FuncData
  F_p_is_product : Fun K "is_product" "is_product" s_p_is_product f_p_is_product fd_p_is_product
  b_p_is_product : L2.Binds K fd_p_is_product P_p_is_product []
  g_p_is_product : mg "is_product" = some (.ref f_p_is_product)
  f_p_check_product : Addr
  fd_p_check_product : FuncData
  F_p_check_product : Fun K "check_product" "check_product" s_p_check_product f_p_check_product fd_p_check_product
  b_p_check_product : L2.Binds K fd_p_check_product P_p_check_product []
  g_p_check_product : mg "check_product" = some (.ref f_p_check_product)
  f_p_product_text : Addr
  fd_p_product_text : FuncData
  F_p_product_text : Fun K "product_text" "product_text" s_p_product_text f_p_product_text fd_p_product_text
  b_p_product_text : L2.Binds K fd_p_product_text P_p_product_text []
  g_p_product_text : mg "product_text" = some (.ref f_p_product_text)
  f_p_atom_of : Addr
  fd_p_atom_of : FuncData
  F_p_atom_of : Fun K "atom_of" "atom_of" s_p_atom_of f_p_atom_of fd_p_atom_of
  b_p_atom_of : L2.Binds K fd_p_atom_of P_p_atom_of []
  g_p_atom_of : mg "atom_of" = some (.ref f_p_atom_of)
  f_p_read_product : Addr
  fd_p_read_product : FuncData
  F_p_read_product : Fun K "read_product" "read_product" s_p_read_product f_p_read_product fd_p_read_product
  b_p_read_product : L2.Binds K fd_p_read_product P_p_read_product []
  g_p_read_product : mg "read_product" = some (.ref f_p_read_product)
  f_bag : Addr
  fd_bag : FuncData
  F_bag : Fun K "_law_bag" "_law_bag" s_bag f_bag fd_bag
  b_bag : L2.Binds K fd_bag P_bag []
  g_bag : mg "_law_bag" = some (.ref f_bag)
  f_pull : Addr
  fd_pull : FuncData
  F_pull : Fun K "_law_pull" "_law_pull" s_pull f_pull fd_pull
  b_pull : L2.Binds K fd_pull P_pull []
  g_pull : mg "_law_pull" = some (.ref f_pull)
  f_of : Addr
  fd_of : FuncData
  F_of : Fun K "_law_of" "_law_of" s_of f_of fd_of
  b_of : L2.Binds K fd_of P_of []
  g_of : mg "_law_of" = some (.ref f_of)
  f_same : Addr
  fd_same : FuncData
  F_same : Fun K "_law_same" "_law_same" s_same f_same fd_same
  b_same : L2.Binds K fd_same P_same []
  g_same : mg "_law_same" = some (.ref f_same)
  f_letters : Addr
  fd_letters : FuncData
  F_letters : Fun K "_law_letters" "_law_letters" s_letters f_letters fd_letters
  b_letters : L2.Binds K fd_letters P_letters []
  g_letters : mg "_law_letters" = some (.ref f_letters)
  f_refusal : Addr
  fd_refusal : FuncData
  F_refusal : Fun K "_law_refusal" "_law_refusal" s_refusal f_refusal fd_refusal
  b_refusal : L2.Binds K fd_refusal P_refusal []
  g_refusal : mg "_law_refusal" = some (.ref f_refusal)
  f_product : Addr
  fd_product : FuncData
  F_product : Fun K "_law_product" "_law_product" s_product f_product fd_product
  b_product : L2.Binds K fd_product P_product []
  g_product : mg "_law_product" = some (.ref f_product)
  f_atoms_text : Addr
  fd_atoms_text : FuncData
  F_atoms_text : Fun K "_law_atoms_text" "_law_atoms_text" s_atoms_text f_atoms_text fd_atoms_text
  b_atoms_text : L2.Binds K fd_atoms_text P_atoms_text []
  g_atoms_text : mg "_law_atoms_text" = some (.ref f_atoms_text)
  f_bent_text : Addr
  fd_bent_text : FuncData
  F_bent_text : Fun K "_law_bent_text" "_law_bent_text" s_bent_text f_bent_text fd_bent_text
  b_bent_text : L2.Binds K fd_bent_text P_bent_text []
  g_bent_text : mg "_law_bent_text" = some (.ref f_bent_text)
  f_atom_read : Addr
  fd_atom_read : FuncData
  F_atom_read : Fun K "_law_atom_read" "_law_atom_read" s_atom_read f_atom_read fd_atom_read
  b_atom_read : L2.Binds K fd_atom_read P_atom_read []
  g_atom_read : mg "_law_atom_read" = some (.ref f_atom_read)
  f_law : Addr
  fd_law : FuncData
  F_law : Fun K "law" "law" s_law f_law fd_law
  b_law : L2.Binds K fd_law P_law []
  g_law : mg "law" = some (.ref f_law)
  ox_LeakError : OexC K C_LeakError
  iC_LeakError : PySem.W.findIn K (.ref C_LeakError) "__init__" = some (some (.ref f_LeakError_init))
  tI_LeakError : PySem.W.typeIn K (.ref f_LeakError_init) = some (.type "function")
  cf_LeakError_init : LB.CFn K C_LeakError "__init__" f_LeakError_init
  xc_LeakError : LB.XC K C_LeakError
  no_LeakError_word : PySem.W.findIn K (.ref C_LeakError) "word" = some none
  no_LeakError_at : PySem.W.findIn K (.ref C_LeakError) "at" = some none
  em_LeakError : PySem.W.exmOne K (.ref C_LeakError) (.ref C_LeakError) = some true
  kv_LeakError : PySem.W.kitOne K (.ref C_LeakError) (.type "ValueError") = some true
  kl_LeakError : PySem.W.kitOne K (.ref C_LeakError) (.type "LookupError") = some false
  ox_BadAtom : OexC K C_BadAtom
  iC_BadAtom : PySem.W.findIn K (.ref C_BadAtom) "__init__" = some (some (.ref f_BadAtom_init))
  tI_BadAtom : PySem.W.typeIn K (.ref f_BadAtom_init) = some (.type "function")
  cf_BadAtom_init : LB.CFn K C_BadAtom "__init__" f_BadAtom_init
  xc_BadAtom : LB.XC K C_BadAtom
  no_BadAtom_word : PySem.W.findIn K (.ref C_BadAtom) "word" = some none
  no_BadAtom_at : PySem.W.findIn K (.ref C_BadAtom) "at" = some none
  em_BadAtom : PySem.W.exmOne K (.ref C_BadAtom) (.ref C_LeakError) = some true
  kv_BadAtom : PySem.W.kitOne K (.ref C_BadAtom) (.type "ValueError") = some true
  kl_BadAtom : PySem.W.kitOne K (.ref C_BadAtom) (.type "LookupError") = some false
  ox_BadText : OexC K C_BadText
  iC_BadText : PySem.W.findIn K (.ref C_BadText) "__init__" = some (some (.ref f_BadText_init))
  tI_BadText : PySem.W.typeIn K (.ref f_BadText_init) = some (.type "function")
  cf_BadText_init : LB.CFn K C_BadText "__init__" f_BadText_init
  xc_BadText : LB.XC K C_BadText
  no_BadText_word : PySem.W.findIn K (.ref C_BadText) "word" = some none
  no_BadText_at : PySem.W.findIn K (.ref C_BadText) "at" = some none
  em_BadText : PySem.W.exmOne K (.ref C_BadText) (.ref C_LeakError) = some true
  kv_BadText : PySem.W.kitOne K (.ref C_BadText) (.type "ValueError") = some true
  kl_BadText : PySem.W.kitOne K (.ref C_BadText) (.type "LookupError") = some false
  vV : PySem.W.findCls K (.type "ValueError") (.type "type") "__init__" = some (.val (.builtin "ValueError.__init__"))
  m_LookupError : mg "LookupError" = none
  m_ValueError : mg "ValueError" = none
  m_all : mg "all" = none
  m_bool : mg "bool" = none
  m_int : mg "int" = none
  m_isinstance : mg "isinstance" = none
  m_len : mg "len" = none
  m_list : mg "list" = none
  m_range : mg "range" = none
  m_set : mg "set" = none
  m_sorted : mg "sorted" = none
  m_str : mg "str" = none
  m_tuple : mg "tuple" = none
  m_zip : mg "zip" = none
  u_LETTERS : Value
  c_LETTERS : mg "LETTERS" = some u_LETTERS
  r_LETTERS : RelV (V.str (PySem.Str.ofString "abcdefghijklmnopqrstuvwxyz")) u_LETTERS
section
variable {P : Program} {w : World} {K : PySem.W.Frag} {mg : Str → Option Value} {base : Heap}
/-! ### a refusal, told -/
open LamX in
def TRef (K : PySem.W.Frag) (CS : Addr) : (XK → Hp → VK → Prop) → Hp → VK → Prop := fun tl H Q => ∀ p0, H p0 = none →
  tl (fun cls d H' => ∃ (D dd : Addr) (fs : List (Str × V)) (w n : V), cls = .ref D ∧ d = some dd ∧ XC K D ∧ PySem.W.exmOne K cls (.ref CS) = some true ∧ PySem.W.kitOne K (.ref D) (.type "ValueError") = some true ∧ PySem.W.kitOne K (.ref D) (.type "LookupError") = some false ∧
      PySem.W.findIn K (.ref D) "word" = some none ∧ PySem.W.findIn K (.ref D) "at" = some none ∧ H' dd = some (.xd fs) ∧ fs.lookup (Str.ofString "word") = some w ∧ fs.lookup (Str.ofString "at") = some n ∧
      ∀ p1, H' p1 = none → ∀ p2, upd H' p1 (.tup [.str "odd", .int (-1)]) p2 = none → Q (.ref p2) (upd (upd H' p1 (.tup [.str "odd", .int (-1)])) p2 (.tup [w, n])))
    (upd H p0 (.tup [.str "let", .int (-1)])) (fun _ H' => ∃ v, some (some (V.ref p0)) = some (some v) ∧ Q v H')
open LamX in
theorem refusal_gives {X : Cx} {CS g : Addr} {cdg : Value} {q : Str} (hme : X.mg "LeakError" = some (.ref CS)) (hi : X.mg "isinstance" = none) (hv : X.mg "ValueError" = none) (hl : X.mg "LookupError" = none) :
    GivesTo X N_refusal "_law_refusal" (defScope s_refusal) g cdg (defBody s_refusal) "_law_ask" q (TRef X.K CS) := by
  intro f c' s H Q tl act hc h
  refine ⟨_, (pss_cons (ps_set (i := 1) sc_refusal.nd rfl (.inl rfl) (pe_tup (pa_cons pe_str (pa_cons (pe_un un_neg pe_int) pa_nil))))
    (pss_cons (ps_try_as (X := (cxOf C8.CX0 X.prog X.w X.K X.mg X.base N_refusal "_law_refusal" (defScope s_refusal) g cdg X.A X.stack s H C8.E0).nox) (c := .ref CS) (i := 2)
      (tb := fun W D σ H => ∃ Ech : XK, (∀ cls d σ' H', σ'.length = 3 → Ech cls d H' → W cls d σ' H') ∧ σ[0]? = some (some (.ref f)) ∧ H c' = some (CodeO c' q) ∧ tl Ech H (fun _ H' => D.nx σ H'))
      rfl rfl sc_refusal.nd rfl rfl ⟨(by rfl), (by decide), .inl hme⟩ L2.takes0 (fun W pn xe tk _ => ?_)
      (fun a oe cls d pn hz hf => (pss_cons (ps_set (i := 1) sc_refusal.nd rfl (.inl rfl) (pe_tup (pa_cons pe_str (pa_cons (pe_un un_neg pe_int) pa_nil))))
        (pss_one (ps_if (PW.pt (pw_and (pt_val (pe_callB (call_isX hz hf) (by rfl) hi (by decide +kernel) (pa_cons (L2.pv 2) (pa_cons (pe_bltn (v := .ty "ValueError") (by rfl) hv (by decide +kernel) rfl) pa_nil))))
            (pw_and1 (pt_not (pt_val (pe_callB (call_isX hz hf) (by rfl) hi (by decide +kernel) (pa_cons (L2.pv 2) (pa_cons (pe_bltn (v := .ty "LookupError") (by rfl) hl (by decide +kernel) rfl) pa_nil))))))))
          (pss_one (ps_set (i := 1) sc_refusal.nd rfl (.inl rfl) (pe_tup (pa_cons (pe_xfX hz hf (L2.pv 2)) (pa_cons (pe_xfX hz hf (L2.pv 2)) pa_nil)))))
          pss_nil)))))
    (pss_one (ps_ret (L2.pv 1))))), ?_⟩
  · refine ⟨fun pins s' σ H' D I h' => ?_⟩
    obtain ⟨Ech, hW, h1, h2, h3⟩ := h'
    have tk' : Takes ((cxOf C8.CX0 X.prog X.w X.K X.mg X.base N_refusal "_law_refusal" (defScope s_refusal) g cdg X.A X.stack s H C8.E0).tr pn xe) (fun c d σ H => σ.length = 3 → W c d σ H) := fun u s2 ⟨a, B, sI, pins, σ, H, cls, d, e, J, nb, up, sky, na, os, ag, w⟩ =>
      tk u s2 ⟨a, B, sI, pins, σ, H, cls, d, e, J, nb, up, sky, na, os, ag, w J.len⟩
    exact (pss_one (ps_expr (act _ pn xe Ech _ _ tk' (fun cls d σ' H' e l => hW cls d σ' H' l e)))).run pins s' σ H' D I ⟨h1, h2, h3⟩
  · refine ⟨1, rfl, (by show 2 ≤ sizeLine; decide), fun p0 np0 => ?_⟩
    refine ⟨_, fun cls d σ' H' hl he => ?_, rfl, (upd_ne (ne_of_none hc np0)).trans hc, h p0 np0⟩
    obtain ⟨D, dd, fs, w, n, rfl, rfl, xc, em, kv, kl, fw, fa, hdd, lw, la, hq⟩ := he
    refine ⟨true, em, fun _ a na => ?_, fun z => nomatch z⟩
    obtain ⟨z0, z1, z2, rfl⟩ : ∃ z0 z1 z2, σ' = [z0, z1, z2] := by
      match σ', hl with
      | [z0, z1, z2], _ => exact ⟨z0, z1, z2, rfl⟩
    refine ⟨1, rfl, (by show 2 ≤ sizeLine; decide), fun p1 np1 => ?_⟩
    have hdd1 : upd H' p1 (.tup [.str "odd", .int (-1)]) dd = some (.xd fs) := (upd_ne (ne_of_none hdd np1)).trans hdd
    refine ⟨.ref a, rfl, D, dd, fs, .ty "ValueError", .type "ValueError", true, rfl, xc, rfl, hdd1, rfl, (fun u r => r), kv, true, rfl, iteT ?_⟩
    refine ⟨.ref a, rfl, D, dd, fs, .ty "LookupError", .type "LookupError", false, rfl, xc, rfl, hdd1, rfl, (fun u r => r), kl, false, rfl, iteT ?_⟩
    refine ⟨.ref a, rfl, rfl, D, dd, fs, w, rfl, xc, fw, rfl, hdd1, lw, .ref a, rfl, rfl, D, dd, fs, n, rfl, xc, fa, rfl, hdd1, la, (by show 2 ≤ sizeLine; decide), fun p2 np2 => ?_⟩
    exact ⟨.ref p2, rfl, hq p1 np1 p2 np2⟩

/-! ### the bag: made, drawn from -/
def sp_bag (K : PySem.W.Frag) : Sp := fun vs H Q _ => ∃ (a : Addr) (ns : List Int), vs = [.ref a] ∧ SqL K H a (ns.map V.int) ∧ ns.length ≤ 63 ∧ ∀ H' b s, Same H H' → Bag b s H' → H b = none → Q (.ref b) H'
theorem ok_bag (T : Tx K mg) : FnOk P w K mg base CX0 1 T.f_bag T.fd_bag P_bag (sp_bag K) := by
  refine T.F_bag.ok sc_bag (fun vs H Q E h => ?_) (fun cdv A outer s H vs Q E hr h => ?_)
  · obtain ⟨a, ns, rfl, _⟩ := h
    rfl
  · obtain ⟨a, ns, rfl, hS, hlen, q⟩ := h
    refine ⟨_, 
      (pss_cons (ps_set (i := 1) sc_bag.nd rfl (.inl rfl) pe_int)
      (pss_cons (ps_for PassesOwn.never rfl (pi_list (pe_slice sl_list (L2.pv 0) po_none (po_some pe_int))) (pg_name (i := 2) sc_bag.nd rfl (.inl rfl))
        (pss_one (ps_set (i := 1) sc_bag.nd rfl (.inl rfl) (pe_op op_mod (pe_op op_add (pe_op op_add (pe_op op_mul (L2.pv 1) pe_int) (L2.pv 2)) pe_int) pe_int))))
      (pss_one (ps_ret (pe_lst (pa_cons (pe_callTy call_list_of (by rfl) T.m_list (by decide +kernel) (pa_cons (pe_slice sl_list (L2.pv 0) po_none (po_some pe_int)) pa_nil)) (pa_cons pe_int (pa_cons pe_int (pa_cons (L2.pv 1) (pa_cons pe_int pa_nil)))))))))), ?_⟩
    refine ⟨.ref a, rfl, 63, rfl, a, ns.map V.int, rfl, hS, fun c nc => ?_⟩
    have ec : cutV (ns.map V.int) none (some 63) = ns.map V.int := by
      rw [show (63 : Int) = ((63 : Nat) : Int) from rfl, LB.cut_take, List.take_of_length_le (by rw [List.length_map]; exact hlen)]
    rw [ec]
    have s1 : Same H (upd H c (.lst (ns.map V.int))) := LB.same_new nc
    refine ⟨c, rfl, ⟨_, .of upd_same⟩, for_list (xs := ns.map V.int) (fun _ σ H' => ∃ (sd : Int) (y : Option V), σ = [some (.ref a), some (.int sd), y] ∧ H' = upd H c (.lst (ns.map V.int))) ⟨_, _, rfl, rfl⟩ (fun i σ H' _ h => ?_) (fun i x σ H' hx h => ?_) (fun σ H' h => ?_)⟩
    · obtain ⟨sd, y, _, rfl⟩ := h
      exact .of upd_same
    · obtain ⟨sd, y, rfl, rfl⟩ := h
      obtain ⟨n, _, rfl⟩ : ∃ n, ns[i]? = some n ∧ V.int n = x := by
        rw [List.getElem?_map] at hx
        cases e : ns[i]? with
        | none => rw [e] at hx; cases hx
        | some n => rw [e] at hx; exact ⟨n, rfl, Option.some.inj hx⟩
      refine ⟨.int sd, rfl, sd, 65539, rfl, rfl, .inr ⟨by decide, by decide⟩, .int n, rfl, _, n, rfl, rfl, _, 7, rfl, rfl, _, 2147483629, rfl, rfl, (by show (0 : Int) < 2147483629; decide), _, _, rfl, rfl⟩
    · obtain ⟨sd, y, rfl, rfl⟩ := h
      refine ⟨.ref a, rfl, 63, rfl, a, ns.map V.int, rfl, s1.seq hS, fun d nd => ?_⟩
      rw [ec]
      have s2 := LB.same_new (o := .lst (ns.map V.int)) nd
      refine ⟨d, _, rfl, .inl (.of upd_same), fun l nl => ?_⟩
      have s3 := LB.same_new (o := .lst (ns.map V.int)) nl
      refine ⟨.int sd, rfl, (by show 5 ≤ sizeLine; decide), fun b nb => ?_⟩
      have s4 := LB.same_new (o := .lst [.ref l, .int 0, .int 0, .int sd, .int 0]) nb
      have nlb : l ≠ b := ne_of_none upd_same nb
      refine q _ b l (s1.trans (s2.trans (s3.trans s4))) ⟨nlb, ns, 0, 0, sd, 0, upd_same, ?_, hlen, Int.le_refl _⟩ ((s1.trans (s2.trans s3)).free nb)
      rw [upd_ne nlb, upd_same]
def sp_pull : Sp := fun vs H Q _ => ∃ (b s : Addr) (m : Int), vs = [.ref b, .int m] ∧ Bag b s H ∧ 0 < m ∧ m < 1000000 ∧ ∀ H' v, BX b s H H' → 0 ≤ v → v < m → Q (.int v) H'
theorem ok_pull (T : Tx K mg) : FnOk P w K mg base CX0 1 T.f_pull T.fd_pull P_pull sp_pull := by
  refine T.F_pull.ok sc_pull (fun vs H Q E h => ?_) (fun cdv A outer s H vs Q E hr h => ?_)
  · obtain ⟨b, s, m, rfl, _⟩ := h
    rfl
  · obtain ⟨b, cs, m, rfl, ⟨nsb, ns, i, r, sd, c, e1, e2, hl, i0⟩, m0, m1, q⟩ := h
    have fin : ∀ i' r' sd' c', 0 ≤ i' → BX b cs H (upd H b (bagL cs i' r' sd' c')) := fun i' r' sd' c' h0 =>
      ⟨⟨nsb, ns, i', r', sd', c', upd_same, (upd_ne nsb).trans e2, hl, h0⟩, fun a o na e => (upd_ne na).trans e⟩
    refine ⟨_, 
      (pss_cons (ps_augS (L2.pv 0) pe_int LB.get_list pe_int ip_add set_list)
      (pss_cons (ps_if (pt_cmpR op_gt (pe_ix ix_list (L2.pv 0) pe_int (fun _ _ => rfl)) pe_int (nomark _))
        (pss_cons (ps_set (i := 2) sc_pull.nd rfl (.inl rfl) (pe_ix ix_list (L2.pv 0) pe_int (fun _ _ => rfl)))
        (pss_cons (ps_asg (pe_op op_fdiv (L2.pv 2) (L2.pv 1)) (pg_sub (L2.pv 0) pe_int set_list))
        (pss_one (ps_ret (pe_op op_mod (L2.pv 2) (L2.pv 1))))))
        pss_nil)
      (pss_cons (ps_set (i := 3) sc_pull.nd rfl (.inl rfl) (pe_ix ix_list (L2.pv 0) pe_int (fun _ _ => rfl)))
      (Evl.pss_cut (ps_if (pt_cmpR op_lt (pe_ix ix_list (L2.pv 0) pe_int (fun _ _ => rfl)) (pe_callB call_len_seq (by rfl) T.m_len PySem.boot_len (pa_cons (pe_ix ix_list (L2.pv 0) pe_int (fun _ _ => rfl)) pa_nil)) (nomark _))
        (pss_cons (ps_set (i := 3) sc_pull.nd rfl (.inl rfl) (pe_ix ix_list (pe_ix ix_list (L2.pv 0) pe_int (fun _ _ => rfl)) (pe_ix ix_list (L2.pv 0) pe_int (fun _ _ => rfl)) (fun _ _ => rfl)))
        (pss_one (ps_augS (L2.pv 0) pe_int LB.get_list pe_int ip_add set_list)))
        pss_nil)
      (pss_cons (ps_if (pt_cmpR op_ge (L2.pv 3) (pe_op op_pow pe_int pe_int) (nomark _))
        (pss_cons (ps_asg (pe_op op_fdiv (L2.pv 3) (L2.pv 1)) (pg_sub (L2.pv 0) pe_int set_list))
        (pss_one (ps_ret (pe_op op_mod (L2.pv 3) (L2.pv 1)))))
        pss_nil)
      (pss_cons (ps_set (i := 4) sc_pull.nd rfl (.inl rfl) (pe_op op_mod (pe_op op_add (pe_op op_add (pe_op op_add (pe_op op_mul (L2.pv 3) pe_int) (pe_op op_mul (pe_ix ix_list (L2.pv 0) pe_int (fun _ _ => rfl)) pe_int)) (pe_op op_mul (pe_ix ix_list (L2.pv 0) pe_int (fun _ _ => rfl)) pe_int)) pe_int) pe_int))
      (pss_cons (ps_set (i := 5) sc_pull.nd rfl (.inl rfl) (pe_op op_mod (pe_op op_add (pe_op op_add (pe_op op_mul (L2.pv 4) (pe_op op_add (pe_op op_mod (L2.pv 4) pe_int) pe_int)) (pe_op op_mul (pe_ix ix_list (L2.pv 0) pe_int (fun _ _ => rfl)) pe_int)) (pe_op op_mod (pe_ix ix_list (L2.pv 0) pe_int (fun _ _ => rfl)) pe_int)) pe_int))
      (pss_cons (ps_asg (pe_op op_mod (pe_op op_add (pe_op op_mul (pe_ix ix_list (L2.pv 0) pe_int (fun _ _ => rfl)) pe_int) (L2.pv 5)) pe_int) (pg_sub (L2.pv 0) pe_int set_list))
      (pss_one (ps_ret (pe_op op_mod (pe_op op_fdiv (L2.pv 5) pe_int) (L2.pv 1)))))))))))), ?_⟩
    -- the count
    refine ⟨.ref b, rfl, b, _, 4, .int c, rfl, rfl, .of e1, rfl, c, 1, rfl, rfl, b, _, 4, 4, rfl, rfl, e1, rfl, ?_⟩
    show _
    have f1 : (upd H b (bagL cs i r sd (c + 1))) b = some (bagL cs i r sd (c + 1)) := upd_same
    refine ⟨.ref b, rfl, b, _, 2, .int r, rfl, rfl, .of f1, rfl, r, 0, rfl, rfl, _, rfl, ite2 (fun e => ?_) (fun e => ?_)⟩
    · -- what is left of a great number
      refine ⟨.ref b, rfl, b, _, 2, .int r, rfl, rfl, .of f1, rfl, ?_⟩
      refine ⟨.int r, rfl, .int m, rfl, r, m, rfl, rfl, ⟨m0, by omega⟩, .ref b, rfl, b, _, 2, 2, rfl, rfl, f1, rfl, ?_⟩
      refine ⟨.int r, rfl, .int m, rfl, r, m, rfl, rfl, m0, ?_⟩
      rw [upd_upd]
      exact q _ _ (fin i (r / m) sd (c + 1) i0) (Int.emod_nonneg _ (by omega)) (Int.emod_lt_of_pos _ m0)
    · refine ⟨.ref b, rfl, b, _, 3, .int sd, rfl, rfl, .of f1, rfl, ?_⟩
      -- a cell, where one is left
      have f2 : (upd H b (bagL cs i r sd (c + 1))) cs = some (.lst (ns.map V.int)) := (upd_ne nsb).trans e2
      refine ⟨fun σ G => ∃ i' cell, 0 ≤ i' ∧ σ = [some (.ref b), some (.int m), none, some (.int cell), none, none] ∧ G = upd H b (bagL cs i' r sd (c + 1)), ⟨.ref b, rfl, b, _, 1, .int i, rfl, rfl, .of f1, rfl, .ref b, rfl, b, _, 0, .ref cs, rfl, rfl, .of f1, rfl, cs, _, rfl, .inl (.of f2), i, _, rfl, rfl, _, rfl, ite2 (fun e' => ?_) (fun _ => ⟨i, sd, i0, rfl, rfl⟩)⟩, fun σ G h => ?_⟩
      · have hi : i < ns.length := by
          have := of_decide_eq_true e'
          rw [List.length_map] at this
          exact this
        have gi : (ns.map V.int)[i.toNat]? = some (.int (ns[i.toNat]'(by omega))) := by
          rw [List.getElem?_map, List.getElem?_eq_getElem (by omega)]
          rfl
        have ga : atI (ns.map V.int) i = some (.int (ns[i.toNat]'(by omega))) := by
          have := atI_nat gi
          rw [Int.toNat_of_nonneg i0] at this
          exact this
        refine ⟨.ref b, rfl, b, _, 0, .ref cs, rfl, rfl, .of f1, rfl, .ref b, rfl, b, _, 1, .int i, rfl, rfl, .of f1, rfl, cs, _, i, _, rfl, rfl, .of f2, ga, ?_⟩
        refine ⟨.ref b, rfl, b, _, 1, .int i, rfl, rfl, .of f1, rfl, i, 1, rfl, rfl, b, _, 1, 1, rfl, rfl, f1, rfl, ?_⟩
        exact ⟨i + 1, _, by omega, rfl, upd_upd⟩
      · obtain ⟨i', cell, h0, rfl, rfl⟩ := h
        have g1 : (upd H b (bagL cs i' r sd (c + 1))) b = some (bagL cs i' r sd (c + 1)) := upd_same
        refine ⟨.int cell, rfl, 10, 18, rfl, rfl, ⟨by decide, by decide, by decide⟩, cell, _, rfl, rfl, _, rfl, ite2 (fun _ => ?_) (fun _ => ?_)⟩
        · refine ⟨.int cell, rfl, .int m, rfl, cell, m, rfl, rfl, ⟨m0, by omega⟩, .ref b, rfl, b, _, 2, 2, rfl, rfl, g1, rfl, ?_⟩
          refine ⟨.int cell, rfl, .int m, rfl, cell, m, rfl, rfl, m0, ?_⟩
          rw [upd_upd]
          exact q _ _ (fin i' (cell / m) sd (c + 1) h0) (Int.emod_nonneg _ (by omega)) (Int.emod_lt_of_pos _ m0)
        · -- a number by mixing
          refine ⟨.int cell, rfl, cell, 48271, rfl, rfl, .inr ⟨by decide, by decide⟩, .ref b, rfl, b, _, 3, .int sd, rfl, rfl, .of g1, rfl, sd, 40503, rfl, rfl, .inr ⟨by decide, by decide⟩, _, _, rfl, rfl,
            .ref b, rfl, b, _, 4, .int (c + 1), rfl, rfl, .of g1, rfl, c + 1, 69621, rfl, rfl, .inr ⟨by decide, by decide⟩, _, _, rfl, rfl, _, 12345, rfl, rfl, _, 2147483629, rfl, rfl, (by show (0 : Int) < 2147483629; decide), ?_⟩
          refine ⟨_, rfl, _, rfl, _, 65521, rfl, rfl, (by show (0 : Int) < 65521; decide), _, 11, rfl, rfl, _, _, rfl, rfl, .inl ⟨by omega, by omega⟩,
            .ref b, rfl, b, _, 4, .int (c + 1), rfl, rfl, .of g1, rfl, c + 1, 40692, rfl, rfl, .inr ⟨by decide, by decide⟩, _, _, rfl, rfl,
            .ref b, rfl, b, _, 3, .int sd, rfl, rfl, .of g1, rfl, sd, 104729, rfl, rfl, (by show (0 : Int) < 104729; decide), _, _, rfl, rfl, _, 998244353, rfl, rfl, (by show (0 : Int) < 998244353; decide), ?_⟩
          refine ⟨.ref b, rfl, b, _, 3, .int sd, rfl, rfl, .of g1, rfl, sd, 16807, rfl, rfl, .inr ⟨by decide, by decide⟩, _, rfl, _, _, rfl, rfl, _, 2147483563, rfl, rfl, (by show (0 : Int) < 2147483563; decide), .ref b, rfl, b, _, 3, 3, rfl, rfl, g1, rfl, ?_⟩
          refine ⟨_, rfl, _, 7, rfl, rfl, ⟨by decide, by decide⟩, .int m, rfl, _, m, rfl, rfl, m0, ?_⟩
          rw [upd_upd]
          exact q _ _ (fin i' r _ (c + 1) h0) (Int.emod_nonneg _ (by omega)) (Int.emod_lt_of_pos _ m0)

/-! ### one of a list, one of a text's signs -/
def sp_of : Sp := fun vs H Q _ => ∃ (b s : Addr), Bag b s H ∧
  ((∃ (a : Addr) (xs : List V), vs = [.ref b, .ref a] ∧ At b H a (.lst xs) ∧ 0 < xs.length ∧ xs.length < 1000000 ∧ ∀ H' v, BX b s H H' → v ∈ xs → Q v H') ∨
   (∃ z : Str, vs = [.ref b, .str z] ∧ 0 < z.length ∧ z.length < 1000000 ∧ ∀ H' c, BX b s H H' → c ∈ z.cps.toList → Q (.str (sg c)) H'))
theorem ok_of (T : Tx K mg) : FnOk P w K mg base CX0 2 T.f_of T.fd_of P_of sp_of := by
  have G_pull : FnOk P w K mg base CX0 1 T.f_pull T.fd_pull P_pull sp_pull := ok_pull T
  refine T.F_of.ok sc_of (fun vs H Q E h => ?_) (fun cdv A outer s H vs Q E hr h => ?_)
  · obtain ⟨b, s, _, ⟨a, xs, rfl, _⟩ | ⟨z, rfl, _⟩⟩ := h
    · rfl
    · rfl
  · obtain ⟨b, cs, hB, ⟨a, xs, rfl, hA, l0, l1, q⟩ | ⟨z, rfl, l0, l1, q⟩⟩ := h
    · refine ⟨_, 
      (pss_one (ps_ret (pe_ix ix_list (L2.pv 1) (pe_call G_pull (hr.mono (by decide)) (by rfl) T.g_pull T.F_pull.kp T.b_pull .nil pass0 (pa_cons (L2.pv 0) (pa_cons (pe_callB call_len_seq (by rfl) T.m_len PySem.boot_len (pa_cons (L2.pv 1) pa_nil)) pa_nil))) (fun _ _ => rfl)))), ?_⟩
      refine ⟨.ref a, rfl, .ref b, rfl, .ref a, rfl, a, xs, rfl, .inl hA.l, b, cs, xs.length, rfl, hB, by omega, by omega, fun H1 v x v0 v1 => ?_⟩
      obtain ⟨y, hy, ay⟩ := mem_get (xs := xs) rfl v0 v1
      exact ⟨a, xs, v, y, rfl, rfl, (hA.mv x).l, ay, q _ _ x hy⟩
    · refine ⟨_, 
      (pss_one (ps_ret (pe_ix ix_str (L2.pv 1) (pe_call G_pull (hr.mono (by decide)) (by rfl) T.g_pull T.F_pull.kp T.b_pull .nil pass0 (pa_cons (L2.pv 0) (pa_cons (pe_callB call_len_str (by rfl) T.m_len PySem.boot_len (pa_cons (L2.pv 1) pa_nil)) pa_nil))) (fun _ _ => rfl)))), ?_⟩
      refine ⟨.str z, rfl, .ref b, rfl, .str z, rfl, z, rfl, Nat.le_trans (Nat.le_of_lt l1) (by decide), b, cs, z.length, rfl, hB, by omega, by omega, fun H1 v x v0 v1 => ?_⟩
      obtain ⟨y, hy, ay⟩ := mem_get (xs := z.cps.toList) (n := z.length) (by simp [Str.length]) v0 v1
      exact ⟨z, v, y, rfl, rfl, Nat.le_trans (Nat.le_of_lt l1) (by decide), ay, q _ _ x hy⟩

/-! ### the same data -/
def sp_same (K : PySem.W.Frag) (n : Nat) : Sp := fun vs H Q _ => ∃ v w, vs = [v, w] ∧ Sam K H n v w ∧ ∀ H', Same H H' → Q (.bl true) H'
theorem same_flat (T : Tx K mg) {k n : Nat} {cdv : Value} {A : Around} {outer : List Env} {s : Shared} {H : Hp} {Q : VK} {E : XK} {v : V} (hv : flat1 v = true) (q : ∀ H', Same H H' → Q (.bl true) H') :
    ∃ t, PSs (cxOf CX0 P w K mg base N_same "_law_same" (defScope s_same) T.f_same cdv A outer s H E).nox (defBody s_same) t ∧ t { nx := fun _ H' => Q .non H', rt := Q } (start N_same [v, v]) H := by
  refine ⟨_, 
      (pss_cons (ps_if (pt_val (pe_callB call_isiT (by rfl) T.m_isinstance (by decide +kernel) (pa_cons (L2.pv 1) (pa_cons (pe_tup (pa_cons (pe_bltn (v := .ty "list") (by rfl) T.m_list (by decide +kernel) rfl) (pa_cons (pe_bltn (v := .ty "tuple") (by rfl) T.m_tuple (by decide +kernel) rfl) pa_nil))) pa_nil))))
        pss_never
        pss_nil)
      (pss_cons (ps_if (PW.pt (pw_or (pt_cmpR op_isN (L2.pv 1) pe_non (nomark _)) (pw_or1 (pt_cmpR op_isN (L2.pv 0) pe_non (nomark _)))))
        (pss_one (ps_ret (pe_and (pe_cmpR op_isN (L2.pv 0) pe_non (nomark _)) (pe_one (pe_cmpR op_isN (L2.pv 1) pe_non (nomark _))))))
        pss_nil)
      (pss_cons (ps_if (PW.pt (pw_or (pt_cmpR op_ne (pe_callB call_isi (by rfl) T.m_isinstance (by decide +kernel) (pa_cons (L2.pv 0) (pa_cons (pe_bltn (v := .ty "bool") (by rfl) T.m_bool (by decide +kernel) rfl) pa_nil))) (pe_callB call_isi (by rfl) T.m_isinstance (by decide +kernel) (pa_cons (L2.pv 1) (pa_cons (pe_bltn (v := .ty "bool") (by rfl) T.m_bool (by decide +kernel) rfl) pa_nil))) (nomark _)) (pw_or1 (pt_cmpR op_ne (pe_callB call_isi (by rfl) T.m_isinstance (by decide +kernel) (pa_cons (L2.pv 0) (pa_cons (pe_bltn (v := .ty "int") (by rfl) T.m_int (by decide +kernel) rfl) pa_nil))) (pe_callB call_isi (by rfl) T.m_isinstance (by decide +kernel) (pa_cons (L2.pv 1) (pa_cons (pe_bltn (v := .ty "int") (by rfl) T.m_int (by decide +kernel) rfl) pa_nil))) (nomark _)))))
        (pss_one (ps_ret pe_bl))
        pss_nil)
      (pss_one (ps_ret (pe_and (pe_cmpR op_eq (pe_callB call_isi (by rfl) T.m_isinstance (by decide +kernel) (pa_cons (L2.pv 0) (pa_cons (pe_bltn (v := .ty "str") (by rfl) T.m_str (by decide +kernel) rfl) pa_nil))) (pe_callB call_isi (by rfl) T.m_isinstance (by decide +kernel) (pa_cons (L2.pv 1) (pa_cons (pe_bltn (v := .ty "str") (by rfl) T.m_str (by decide +kernel) rfl) pa_nil))) (nomark _)) (pe_one (pe_cmpR op_eq (L2.pv 0) (L2.pv 1) (nomark _))))))))), ?_⟩
  cases v with
  | byt _ => cases hv
  | flt _ => cases hv
  | ref _ => cases hv
  | ty _ => cases hv
  | non =>
    refine ⟨.non, rfl, (by show 2 ≤ sizeLine; decide), fun p np => ?_⟩
    refine ⟨.non, p, _, _, _, false, rfl, upd_same, .cons (.ty "list") (.cons (.ty "tuple") .nil), .base .non, kit_seq (by decide +kernel) (by decide +kernel), false, rfl, iteF ?_⟩
    refine ⟨.non, rfl, rfl, _, rfl, iteT (iteT ?_)⟩
    refine ⟨.non, rfl, rfl, _, rfl, iteT ?_⟩
    exact ⟨.non, rfl, rfl, q _ (same_new np)⟩
  | bl y =>
    refine ⟨.bl y, rfl, (by show 2 ≤ sizeLine; decide), fun p np => ?_⟩
    refine ⟨.bl y, p, _, _, _, false, rfl, upd_same, .cons (.ty "list") (.cons (.ty "tuple") .nil), .base (.bl y), kit_seq (by decide +kernel) (by decide +kernel), false, rfl, iteF ?_⟩
    refine ⟨.bl y, rfl, rfl, _, rfl, iteF ⟨.bl y, rfl, rfl, _, rfl, iteF ?_⟩⟩
    refine ⟨.bl y, rfl, .bl y, .ty "bool", _, _, true, rfl, .ty _, .base (.bl y), kit_ty (by decide +kernel), .bl y, rfl, .bl y, .ty "bool", _, _, true, rfl, .ty _, .base (.bl y), kit_ty (by decide +kernel), rfl, _, rfl, iteF ⟨.bl y, rfl, .bl y, .ty "int", _, _, true, rfl, .ty _, .base (.bl y), kit_ty (by decide +kernel), .bl y, rfl, .bl y, .ty "int", _, _, true, rfl, .ty _, .base (.bl y), kit_ty (by decide +kernel), rfl, _, rfl, iteF ?_⟩⟩
    refine ⟨.bl y, rfl, .bl y, .ty "str", _, _, false, rfl, .ty _, .base (.bl y), kit_ty (by decide +kernel), .bl y, rfl, .bl y, .ty "str", _, _, false, rfl, .ty _, .base (.bl y), kit_ty (by decide +kernel), rfl, _, rfl, iteT ⟨.bl y, rfl, .bl y, rfl, rfl, ?_⟩⟩
    rw [decide_eq_true rfl]
    exact q _ (same_new np)
  | int y =>
    refine ⟨.int y, rfl, (by show 2 ≤ sizeLine; decide), fun p np => ?_⟩
    refine ⟨.int y, p, _, _, _, false, rfl, upd_same, .cons (.ty "list") (.cons (.ty "tuple") .nil), .base (.int y), kit_seq (by decide +kernel) (by decide +kernel), false, rfl, iteF ?_⟩
    refine ⟨.int y, rfl, rfl, _, rfl, iteF ⟨.int y, rfl, rfl, _, rfl, iteF ?_⟩⟩
    refine ⟨.int y, rfl, .int y, .ty "bool", _, _, false, rfl, .ty _, .base (.int y), kit_ty (by decide +kernel), .int y, rfl, .int y, .ty "bool", _, _, false, rfl, .ty _, .base (.int y), kit_ty (by decide +kernel), rfl, _, rfl, iteF ⟨.int y, rfl, .int y, .ty "int", _, _, true, rfl, .ty _, .base (.int y), kit_ty (by decide +kernel), .int y, rfl, .int y, .ty "int", _, _, true, rfl, .ty _, .base (.int y), kit_ty (by decide +kernel), rfl, _, rfl, iteF ?_⟩⟩
    refine ⟨.int y, rfl, .int y, .ty "str", _, _, false, rfl, .ty _, .base (.int y), kit_ty (by decide +kernel), .int y, rfl, .int y, .ty "str", _, _, false, rfl, .ty _, .base (.int y), kit_ty (by decide +kernel), rfl, _, rfl, iteT ⟨.int y, rfl, .int y, rfl, rfl, ?_⟩⟩
    rw [decide_eq_true rfl]
    exact q _ (same_new np)
  | str y =>
    refine ⟨.str y, rfl, (by show 2 ≤ sizeLine; decide), fun p np => ?_⟩
    refine ⟨.str y, p, _, _, _, false, rfl, upd_same, .cons (.ty "list") (.cons (.ty "tuple") .nil), .base (.str y), kit_seq (by decide +kernel) (by decide +kernel), false, rfl, iteF ?_⟩
    refine ⟨.str y, rfl, rfl, _, rfl, iteF ⟨.str y, rfl, rfl, _, rfl, iteF ?_⟩⟩
    refine ⟨.str y, rfl, .str y, .ty "bool", _, _, false, rfl, .ty _, .base (.str y), kit_ty (by decide +kernel), .str y, rfl, .str y, .ty "bool", _, _, false, rfl, .ty _, .base (.str y), kit_ty (by decide +kernel), rfl, _, rfl, iteF ⟨.str y, rfl, .str y, .ty "int", _, _, false, rfl, .ty _, .base (.str y), kit_ty (by decide +kernel), .str y, rfl, .str y, .ty "int", _, _, false, rfl, .ty _, .base (.str y), kit_ty (by decide +kernel), rfl, _, rfl, iteF ?_⟩⟩
    refine ⟨.str y, rfl, .str y, .ty "str", _, _, true, rfl, .ty _, .base (.str y), kit_ty (by decide +kernel), .str y, rfl, .str y, .ty "str", _, _, true, rfl, .ty _, .base (.str y), kit_ty (by decide +kernel), rfl, _, rfl, iteT ⟨.str y, rfl, .str y, rfl, rfl, ?_⟩⟩
    rw [decide_eq_true rfl]
    exact q _ (same_new np)
theorem ok_same (T : Tx K mg) : ∀ n : Nat, FnOk P w K mg base CX0 (n + 1) T.f_same T.fd_same P_same (sp_same K n)
  | 0 => by
    refine T.F_same.ok sc_same (fun vs H Q E h => ?_) (fun cdv A outer s H vs Q E hr h => ?_)
    · obtain ⟨v, w, rfl, _⟩ := h
      rfl
    · obtain ⟨v, w, rfl, ⟨hf, rfl⟩, q⟩ := h
      exact same_flat T (k := 0) (n := 0) hf q
  | n + 1 => by
    have G_same : FnOk P w K mg base CX0 (n + 1) T.f_same T.fd_same P_same (sp_same K n) := ok_same T n
    refine T.F_same.ok sc_same (fun vs H Q E h => ?_) (fun cdv A outer s H vs Q E hr h => ?_)
    · obtain ⟨v, w, rfl, _⟩ := h
      rfl
    · obtain ⟨v, w, rfl, ⟨hf, rfl⟩ | ⟨a, c, xs, ys, rfl, rfl, h, hz, p'⟩, q⟩ := h
      · exact same_flat T (k := 0) (n := 0) hf q
      have pl : xs.length = ys.length := Paired.length p'
      rcases h with ⟨h1, h2⟩ | ⟨h1, h2⟩
      · -- two lists
        refine ⟨_, 
      (pss_cons (ps_if (pt_val (pe_callB call_isiT (by rfl) T.m_isinstance (by decide +kernel) (pa_cons (L2.pv 1) (pa_cons (pe_tup (pa_cons (pe_bltn (v := .ty "list") (by rfl) T.m_list (by decide +kernel) rfl) (pa_cons (pe_bltn (v := .ty "tuple") (by rfl) T.m_tuple (by decide +kernel) rfl) pa_nil))) pa_nil))))
        (pss_cons (ps_if (PW.pt (pw_or (pt_cmpR op_ne (pe_callB call_isi (by rfl) T.m_isinstance (by decide +kernel) (pa_cons (L2.pv 0) (pa_cons (pe_bltn (v := .ty "list") (by rfl) T.m_list (by decide +kernel) rfl) pa_nil))) (pe_callB call_isi (by rfl) T.m_isinstance (by decide +kernel) (pa_cons (L2.pv 1) (pa_cons (pe_bltn (v := .ty "list") (by rfl) T.m_list (by decide +kernel) rfl) pa_nil))) (nomark _)) (pw_or1 (pt_cmpR op_ne (pe_callB call_isi (by rfl) T.m_isinstance (by decide +kernel) (pa_cons (L2.pv 0) (pa_cons (pe_bltn (v := .ty "tuple") (by rfl) T.m_tuple (by decide +kernel) rfl) pa_nil))) (pe_callB call_isi (by rfl) T.m_isinstance (by decide +kernel) (pa_cons (L2.pv 1) (pa_cons (pe_bltn (v := .ty "tuple") (by rfl) T.m_tuple (by decide +kernel) rfl) pa_nil))) (nomark _)))))
          (pss_one (ps_ret pe_bl))
          pss_nil)
        (pss_one (ps_ret (pe_and (pe_cmpR op_eq (pe_callB call_len_seq (by rfl) T.m_len PySem.boot_len (pa_cons (L2.pv 0) pa_nil)) (pe_callB call_len_seq (by rfl) T.m_len PySem.boot_len (pa_cons (L2.pv 1) pa_nil)) (nomark _)) (pe_one (pe_callB (cr_all rfl) (by rfl) T.m_all (by decide +kernel) (pa_cons (pe_lc (own := [("_law_a", 2), ("_law_b", 3)]) (g := (gTup K 2 (gCons (gName 2) (gCons (gName 3) gNil)))) (tt := tYes) (by rfl) sc_same.nd (RZ.pi_zipA (by rfl) T.m_zip (pa_cons (L2.pv 0) (pa_cons (L2.pv 1) pa_nil))) (blkOk_by (own := [("_law_a", 2), ("_law_b", 3)]) (N := N_same) (sc := defScope s_same) (by decide +kernel)) (fun _ _ _ _ _ => (pg_tup (by rfl) (pgs_cons (pg_name (i := 2) sc_same.nd rfl (.inl rfl)) (pgs_cons (pg_name (i := 3) sc_same.nd rfl (.inl rfl)) pgs_nil)))) (fun _ _ _ _ _ => pts_nil) (fun _ _ _ _ _ => (pe_call G_same hr (by rfl) T.g_same T.F_same.kp T.b_same .nil pass0 (pa_cons (L2.pv 2) (pa_cons (L2.pv 3) pa_nil))))) pa_nil)))))))
        pss_nil)
      pss_never), ?_⟩
        refine ⟨.ref c, rfl, (by show 2 ≤ sizeLine; decide), fun p np => ?_⟩
        have s1 : Same H (upd H p (.tup [.ty "list", .ty "tuple"])) := same_new np
        have k1 := s1 _ _ h1
        have k2 := s1 _ _ h2
        refine ⟨.ref c, p, _, _, _, true, rfl, upd_same, .cons (.ty "list") (.cons (.ty "tuple") .nil), .base (.lst k2), kit_lst, true, rfl, iteT ?_⟩
        refine ⟨.ref a, rfl, .ref a, .ty "list", _, _, true, rfl, .ty _, .base (.lst k1), kit_ty (by decide +kernel), .ref c, rfl, .ref c, .ty "list", _, _, true, rfl, .ty _, .base (.lst k2), kit_ty (by decide +kernel), rfl, _, rfl, iteF ?_⟩
        refine ⟨.ref a, rfl, .ref a, .ty "tuple", _, _, false, rfl, .ty _, .base (.lst k1), kit_ty (by decide +kernel), .ref c, rfl, .ref c, .ty "tuple", _, _, false, rfl, .ty _, .base (.lst k2), kit_ty (by decide +kernel), rfl, _, rfl, iteF ?_⟩
        refine ⟨.ref a, rfl, a, xs, rfl, .inl (.of k1), .ref c, rfl, c, ys, rfl, .inl (.of k2), rfl, _, rfl, ?_⟩
        rw [← pl, decide_eq_true rfl]
        refine iteT ?_
        refine ⟨.ref a, rfl, .ref c, rfl, a, c, xs, ys, rfl, .inl ⟨.of k1, .of k2, fun D nD => ?_⟩⟩
        have nD0 : H D = none := s1.free nD
        refine lc_it (walk_zip (n := xs.length) (by rw [← pl, Nat.min_self])) (fun i H' => Same H H' ∧ H' D = some (.lst ((List.replicate i true).map V.bl)))
          ⟨same_mut s1 nD0, upd_same⟩ (fun i H' _ h => ⟨.of (h.1 _ _ h1), .of (h.1 _ _ h2)⟩) (fun i x H1 H' hi h y => ?_) (fun H' h => ?_)
        · obtain ⟨sm, eD⟩ := h
          obtain ⟨U, u, v, rfl, nU, rfl, gu, gv⟩ := y
          have sU : Same H (upd H1 U (.tup [u, v])) := sm.trans (same_new nU)
          refine ⟨U, [u, v], rfl, .of upd_same, rfl, u, [v], rfl, v, [], rfl, rfl, ?_⟩
          refine ⟨rfl, u, rfl, v, rfl, u, v, rfl, (paired_get p' gu gv).mono sU, fun H3 s3 => ?_⟩
          have eD3 : H3 D = some (.lst ((List.replicate i true).map V.bl)) := s3 _ _ (by rw [upd_ne (ne_of_none eD nU)]; exact eD)
          refine ⟨_, eD3, ?_, same_mut (sU.trans s3) nD0, ?_⟩
          · rw [List.length_map, List.length_replicate]
            exact Nat.lt_trans hi (Nat.lt_of_lt_of_le hz (by decide))
          · rw [upd_same, List.replicate_succ', List.map_append]
            rfl
        · obtain ⟨sm, eD⟩ := h
          refine ⟨D, _, rfl, .of eD, ?_⟩
          rw [show (List.replicate xs.length true).all id = true from by rw [List.all_replicate]; simp]
          exact q _ sm
      · -- two tuples
        refine ⟨_, 
      (pss_cons (ps_if (pt_val (pe_callB call_isiT (by rfl) T.m_isinstance (by decide +kernel) (pa_cons (L2.pv 1) (pa_cons (pe_tup (pa_cons (pe_bltn (v := .ty "list") (by rfl) T.m_list (by decide +kernel) rfl) (pa_cons (pe_bltn (v := .ty "tuple") (by rfl) T.m_tuple (by decide +kernel) rfl) pa_nil))) pa_nil))))
        (pss_cons (ps_if (PW.pt (pw_or (pt_cmpR op_ne (pe_callB call_isi (by rfl) T.m_isinstance (by decide +kernel) (pa_cons (L2.pv 0) (pa_cons (pe_bltn (v := .ty "list") (by rfl) T.m_list (by decide +kernel) rfl) pa_nil))) (pe_callB call_isi (by rfl) T.m_isinstance (by decide +kernel) (pa_cons (L2.pv 1) (pa_cons (pe_bltn (v := .ty "list") (by rfl) T.m_list (by decide +kernel) rfl) pa_nil))) (nomark _)) (pw_or1 (pt_cmpR op_ne (pe_callB call_isi (by rfl) T.m_isinstance (by decide +kernel) (pa_cons (L2.pv 0) (pa_cons (pe_bltn (v := .ty "tuple") (by rfl) T.m_tuple (by decide +kernel) rfl) pa_nil))) (pe_callB call_isi (by rfl) T.m_isinstance (by decide +kernel) (pa_cons (L2.pv 1) (pa_cons (pe_bltn (v := .ty "tuple") (by rfl) T.m_tuple (by decide +kernel) rfl) pa_nil))) (nomark _)))))
          (pss_one (ps_ret pe_bl))
          pss_nil)
        (pss_one (ps_ret (pe_and (pe_cmpR op_eq (pe_callB call_len_seq (by rfl) T.m_len PySem.boot_len (pa_cons (L2.pv 0) pa_nil)) (pe_callB call_len_seq (by rfl) T.m_len PySem.boot_len (pa_cons (L2.pv 1) pa_nil)) (nomark _)) (pe_one (pe_callB (cr_all rfl) (by rfl) T.m_all (by decide +kernel) (pa_cons (pe_lc (own := [("_law_a", 2), ("_law_b", 3)]) (g := (gTup K 2 (gCons (gName 2) (gCons (gName 3) gNil)))) (tt := tYes) (by rfl) sc_same.nd (RZ.pi_zipA (by rfl) T.m_zip (pa_cons (L2.pv 0) (pa_cons (L2.pv 1) pa_nil))) (blkOk_by (own := [("_law_a", 2), ("_law_b", 3)]) (N := N_same) (sc := defScope s_same) (by decide +kernel)) (fun _ _ _ _ _ => (pg_tup (by rfl) (pgs_cons (pg_name (i := 2) sc_same.nd rfl (.inl rfl)) (pgs_cons (pg_name (i := 3) sc_same.nd rfl (.inl rfl)) pgs_nil)))) (fun _ _ _ _ _ => pts_nil) (fun _ _ _ _ _ => (pe_call G_same hr (by rfl) T.g_same T.F_same.kp T.b_same .nil pass0 (pa_cons (L2.pv 2) (pa_cons (L2.pv 3) pa_nil))))) pa_nil)))))))
        pss_nil)
      pss_never), ?_⟩
        refine ⟨.ref c, rfl, (by show 2 ≤ sizeLine; decide), fun p np => ?_⟩
        have s1 : Same H (upd H p (.tup [.ty "list", .ty "tuple"])) := same_new np
        have k1 := s1 _ _ h1
        have k2 := s1 _ _ h2
        refine ⟨.ref c, p, _, _, _, true, rfl, upd_same, .cons (.ty "list") (.cons (.ty "tuple") .nil), .base (.tup k2), kit_tup, true, rfl, iteT ?_⟩
        refine ⟨.ref a, rfl, .ref a, .ty "list", _, _, false, rfl, .ty _, .base (.tup k1), kit_ty (by decide +kernel), .ref c, rfl, .ref c, .ty "list", _, _, false, rfl, .ty _, .base (.tup k2), kit_ty (by decide +kernel), rfl, _, rfl, iteF ?_⟩
        refine ⟨.ref a, rfl, .ref a, .ty "tuple", _, _, true, rfl, .ty _, .base (.tup k1), kit_ty (by decide +kernel), .ref c, rfl, .ref c, .ty "tuple", _, _, true, rfl, .ty _, .base (.tup k2), kit_ty (by decide +kernel), rfl, _, rfl, iteF ?_⟩
        refine ⟨.ref a, rfl, a, xs, rfl, .inr (.of k1), .ref c, rfl, c, ys, rfl, .inr (.of k2), rfl, _, rfl, ?_⟩
        rw [← pl, decide_eq_true rfl]
        refine iteT ?_
        refine ⟨.ref a, rfl, .ref c, rfl, a, c, xs, ys, rfl, .inr ⟨.of k1, .of k2, fun D nD => ?_⟩⟩
        have nD0 : H D = none := s1.free nD
        refine lc_it (walk_zipT (n := xs.length) (by rw [← pl, Nat.min_self])) (fun i H' => Same H H' ∧ H' D = some (.lst ((List.replicate i true).map V.bl)))
          ⟨same_mut s1 nD0, upd_same⟩ (fun i H' _ h => ⟨.of (h.1 _ _ h1), .of (h.1 _ _ h2)⟩) (fun i x H1 H' hi h y => ?_) (fun H' h => ?_)
        · obtain ⟨sm, eD⟩ := h
          obtain ⟨U, u, v, rfl, nU, rfl, gu, gv⟩ := y
          have sU : Same H (upd H1 U (.tup [u, v])) := sm.trans (same_new nU)
          refine ⟨U, [u, v], rfl, .of upd_same, rfl, u, [v], rfl, v, [], rfl, rfl, ?_⟩
          refine ⟨rfl, u, rfl, v, rfl, u, v, rfl, (paired_get p' gu gv).mono sU, fun H3 s3 => ?_⟩
          have eD3 : H3 D = some (.lst ((List.replicate i true).map V.bl)) := s3 _ _ (by rw [upd_ne (ne_of_none eD nU)]; exact eD)
          refine ⟨_, eD3, ?_, same_mut (sU.trans s3) nD0, ?_⟩
          · rw [List.length_map, List.length_replicate]
            exact Nat.lt_trans hi (Nat.lt_of_lt_of_le hz (by decide))
          · rw [upd_same, List.replicate_succ', List.map_append]
            rfl
        · obtain ⟨sm, eD⟩ := h
          refine ⟨D, _, rfl, .of eD, ?_⟩
          rw [show (List.replicate xs.length true).all id = true from by rw [List.all_replicate]; simp]
          exact q _ sm

/-! ### three letters, a word of letters -/
def lets (cs : List Nat) : List V := cs.map fun c => V.str (sg c)
def sp_letters : Sp := fun vs H Q _ => ∃ b s, vs = [.ref b] ∧ Bag b s H ∧ ∀ H' p f y, BX b s H H' → H p = none → 0 ≤ f → f < 26 → y ∈ [(1 : Int), 3, 5, 7, 9, 11] →
  H' p = some (.lst (lets [lett f y 0, lett f y 1, lett f y 2])) → Q (.ref p) H'
theorem ok_letters (T : Tx K mg) : FnOk P w K mg base CX0 3 T.f_letters T.fd_letters P_letters sp_letters := by
  have G_pull : FnOk P w K mg base CX0 1 T.f_pull T.fd_pull P_pull sp_pull := ok_pull T
  have G_of : FnOk P w K mg base CX0 2 T.f_of T.fd_of P_of sp_of := ok_of T
  refine T.F_letters.ok sc_letters (fun vs H Q E h => ?_) (fun cdv A outer s H vs Q E hr h => ?_)
  · obtain ⟨b, s, rfl, _⟩ := h
    rfl
  · obtain ⟨b, cs, rfl, hB, q⟩ := h
    refine ⟨_, 
      (pss_cons (ps_set (i := 1) sc_letters.nd rfl (.inr rfl) pe_str)
      (pss_cons (ps_set (i := 2) sc_letters.nd rfl (.inr rfl) (pe_call G_pull (hr.mono (by decide)) (by rfl) T.g_pull T.F_pull.kp T.b_pull .nil pass0 (pa_cons (L2.pv 0) (pa_cons pe_int pa_nil))))
      (pss_cons (ps_set (i := 3) sc_letters.nd rfl (.inr rfl) (pe_call G_of (hr.mono (by decide)) (by rfl) T.g_of T.F_of.kp T.b_of .nil pass0 (pa_cons (L2.pv 0) (pa_cons (pe_lst (pa_cons pe_int (pa_cons pe_int (pa_cons pe_int (pa_cons pe_int (pa_cons pe_int (pa_cons pe_int pa_nil))))))) pa_nil))))
      (pss_one (ps_ret (pe_lc (own := [("_law_k", 4)]) (g := (gName 4)) (tt := tYes) (by rfl) sc_letters.nd (pi_range1 (by rfl) T.m_range (pa_cons pe_int pa_nil)) (blkOk_by (own := [("_law_k", 4)]) (N := N_letters) (sc := defScope s_letters) (by decide +kernel)) (fun _ _ _ _ _ => (pg_name (i := 4) sc_letters.nd rfl (.inl rfl))) (fun _ _ _ _ _ => pts_nil) (fun _ _ _ _ _ => (pe_ix ix_str (L2.pv 1) (pe_op op_mod (pe_op op_add (L2.pv 2) (pe_op op_mul (L2.pv 3) (L2.pv 4))) pe_int) (fun _ _ => rfl))))))))), ?_⟩
    refine ⟨.ref b, rfl, b, cs, 26, rfl, hB, by decide, by decide, fun H1 f x1 f0 f1 => ?_⟩
    refine ⟨.ref b, rfl, (by show 6 ≤ sizeLine; decide), fun l nl => ?_⟩
    have x2 : BX b cs H1 (upd H1 l (.lst [.int 1, .int 3, .int 5, .int 7, .int 9, .int 11])) := .new x1.bag nl
    refine ⟨b, cs, x2.bag, .inl ⟨l, _, rfl, .new x1.bag nl, by decide, by decide, fun H2 v x3 hv => ?_⟩⟩
    obtain ⟨y, hy, rfl⟩ : ∃ y : Int, y ∈ [(1 : Int), 3, 5, 7, 9, 11] ∧ v = .int y := by
      simp only [List.mem_cons, List.not_mem_nil, or_false] at hv
      rcases hv with rfl | rfl | rfl | rfl | rfl | rfl
      all_goals exact ⟨_, by decide, rfl⟩
    have x4 : BX b cs H H2 := x1.trans (x2.trans x3)
    have hy1 : 0 < y ∧ y < 12 := by
      simp only [List.mem_cons, List.not_mem_nil, or_false] at hy
      omega
    refine ⟨3, rfl, by decide, by decide, fun D nD => ?_⟩
    have nD0 : H D = none := x4.back nD
    refine lc_range (lo := 0) (n := 3) (fun i H' => BX b cs H H' ∧ H' D = some (.lst (lets ((List.range i).map (lett f y))))) ⟨x4.mut hB nD0, upd_same⟩ (fun i H' hi h => ?_) (fun H' h => ?_)
    · obtain ⟨x, eD⟩ := h
      refine ⟨rfl, .str alphabet, rfl, .int f, rfl, .int y, rfl, .int (0 + i), rfl, y, 0 + i, rfl, rfl, .inl ⟨by omega, by omega⟩, f, _, rfl, rfl, _, 26, rfl, rfl, (by show (0 : Int) < 26; decide), alphabet, _, _, rfl, rfl, by decide +kernel, alpha_at (Int.emod_nonneg _ (by decide)) (Int.emod_lt_of_pos _ (by decide)), _, eD, ?_, x.mut hB nD0, ?_⟩
      · simp only [lets, List.length_map, List.length_range]
        exact small1000 (by omega)
      · rw [upd_same, List.range_succ]
        simp only [lets, List.map_append, List.map_cons, List.map_nil, lett, Int.zero_add]
    · obtain ⟨x, eD⟩ := h
      exact q _ D f y x nD0 f0 f1 hy eD

/-! ### small letters alone -/
def sp_p_is_word : Sp := fun vs H Q _ => ∃ zs : List Nat, vs = [.str (tx zs)] ∧ zs.length < 1000 ∧ ∀ H', Same H H' → Q (.bl (low zs)) H'
theorem ok_p_is_word (T : Tx K mg) : FnOk P w K mg base CX0 1 T.f_p_is_word T.fd_p_is_word P_p_is_word sp_p_is_word := by
  refine T.F_p_is_word.ok sc_p_is_word (fun vs H Q E h => ?_) (fun cdv A outer s H vs Q E hr h => ?_)
  · obtain ⟨zs, rfl, _⟩ := h
    rfl
  · obtain ⟨zs, rfl, lz, q⟩ := h
    refine ⟨_, 
      (pss_one (ps_ret (pe_callB (cr_all rfl) (by rfl) T.m_all (by decide +kernel) (pa_cons (pe_lc (own := [("sign", 1)]) (g := (gName 1)) (tt := tYes) (by rfl) sc_p_is_word.nd (pi_str (L2.pv 0)) (blkOk_by (own := [("sign", 1)]) (N := N_p_is_word) (sc := defScope s_p_is_word) (by decide +kernel)) (fun _ _ _ _ _ => (pg_name (i := 1) sc_p_is_word.nd rfl (.inl rfl))) (fun _ _ _ _ _ => pts_nil) (fun _ _ _ _ _ => (pe_cmpR op_in_sign (L2.pv 1) (pe_glob (by rfl) T.c_LETTERS T.r_LETTERS) rfl))) pa_nil)))), ?_⟩
    refine ⟨.str (tx zs), rfl, tx zs, rfl, fun D nD => ?_⟩
    refine lc_it walk_str (fun i H' => Same H H' ∧ H' D = some (.lst ((zs.take i).map fun c => V.bl (decide (c ∈ alphabet.cps.toList))))) ⟨same_new nD, upd_same⟩ (fun _ _ _ _ => trivial) (fun i x H1 H' hi h y => ?_) (fun H1 h => ?_)
    · obtain ⟨sm, eD⟩ := h
      obtain ⟨rfl, c, hc, rfl⟩ := y
      have hi' : i < zs.length := by simpa using hi
      have hc' : zs[i]? = some c := by
        rw [← Array.getElem?_toList] at hc
        exact hc
      refine ⟨rfl, .str (sg c), rfl, c, alphabet, rfl, rfl, _, eD, ?_, same_mut sm nD, ?_⟩
      · rw [List.length_map, List.length_take]
        exact small1000 (by omega)
      · rw [upd_same, List.take_add_one, hc', List.map_append]
        rfl
    · obtain ⟨sm, eD⟩ := h
      have ez : zs.take (tx zs).cps.size = zs := List.take_of_length_le (by simp)
      rw [ez] at eD
      refine ⟨D, zs.map fun c => decide (c ∈ alphabet.cps.toList), rfl, .of ?_, ?_⟩
      · rw [eD, List.map_map]
        rfl
      · rw [List.all_map]
        exact q _ sm

/-! ### a drawn product -/
def sp_product : Sp := fun vs H Q _ => ∃ (b s a : Addr) (cs : List Nat) (top : Int), vs = [.ref b, .ref a, .int top] ∧ Bag b s H ∧ At b H a (.lst (lets cs)) ∧ 0 < cs.length ∧ cs.length < 60 ∧ cs.Nodup ∧ (∀ c ∈ cs, 97 ≤ c ∧ c < 123) ∧ 0 ≤ top ∧ top < 500 ∧
  ∀ H' v as, BX b s H H' → Rp (Old H) H' 2 v (prD as) → (as.length : Int) ≤ top → (∀ x ∈ as, AtOk x ∧ ∀ c ∈ x.1, c ∈ cs) → Q v H'
theorem ok_product (T : Tx K mg) : FnOk P w K mg base CX0 3 T.f_product T.fd_product P_product sp_product := by
  have G_pull : FnOk P w K mg base CX0 1 T.f_pull T.fd_pull P_pull sp_pull := ok_pull T
  have G_of : FnOk P w K mg base CX0 2 T.f_of T.fd_of P_of sp_of := ok_of T
  refine T.F_product.ok sc_product (fun vs H Q E h => ?_) (fun cdv A outer s H vs Q E hr h => ?_)
  · obtain ⟨b, s, a, cs, top, rfl, _⟩ := h
    rfl
  · obtain ⟨b, cl, a, cs, top, rfl, hB, hA, l0, l1, nd, lw, t0, t1, q⟩ := h
    refine ⟨_, 
      (pss_cons (ps_set (i := 3) sc_product.nd rfl (.inl rfl) (pe_lst pa_nil))
      (pss_cons (ps_for PassesOwn.never rfl (pi_range1 (by rfl) T.m_range (pa_cons (pe_call G_pull (hr.mono (by decide)) (by rfl) T.g_pull T.F_pull.kp T.b_pull .nil pass0 (pa_cons (L2.pv 0) (pa_cons (pe_op op_add (L2.pv 2) pe_int) pa_nil))) pa_nil)) (pg_name (i := 4) sc_product.nd rfl (.inl rfl))
        (pss_cons (ps_set (i := 5) sc_product.nd rfl (.inl rfl) (pe_join pe_str (pe_lc (own := [("_law_letter", 7)]) (g := (gName 7)) (by rfl) sc_product.nd (pi_list (pe_callB cr_sortedS (by rfl) T.m_sorted (by decide +kernel) (pa_cons (L2.pv 1) pa_nil))) (blkOk_by (own := [("_law_letter", 7)]) (N := N_product) (sc := defScope s_product) (by decide +kernel)) (fun _ _ _ _ _ => (pg_name (i := 7) sc_product.nd rfl (.inl rfl))) (fun _ _ _ _ _ => (pts_one (pt_cmpR op_eq (pe_call G_pull (hr.mono (by decide)) (by rfl) T.g_pull T.F_pull.kp T.b_pull .nil pass0 (pa_cons (L2.pv 0) (pa_cons pe_int pa_nil))) pe_int (nomark _)))) (fun _ _ _ _ _ => (L2.pv 7)))))
        (pss_cons (ps_set (i := 6) sc_product.nd rfl (.inl rfl) (pe_and (pe_cmpR op_ne (L2.pv 5) pe_str (nomark _)) (pe_one (pe_cmpR op_gt (pe_call G_pull (hr.mono (by decide)) (by rfl) T.g_pull T.F_pull.kp T.b_pull .nil pass0 (pa_cons (L2.pv 0) (pa_cons pe_int pa_nil))) pe_int (nomark _)))))
        (pss_one (ps_expr (pe_bm PySem.F.plainAttrs_list PySem.F.slot_list_append PySem.F.type_list_append mt_append (L2.pv 3) (pa_cons (pe_ifExp (pt_val (L2.pv 6)) (pe_tup (pa_cons (L2.pv 5) (pa_cons pe_bl pa_nil))) (pe_tup (pa_cons (pe_call G_of (hr.mono (by decide)) (by rfl) T.g_of T.F_of.kp T.b_of .nil pass0 (pa_cons (L2.pv 0) (pa_cons (L2.pv 1) pa_nil))) (pa_cons pe_bl pa_nil)))) pa_nil)))))))
      (pss_one (ps_ret (pe_callTy call_tuple_of (by rfl) T.m_tuple (by decide +kernel) (pa_cons (L2.pv 3) pa_nil)))))), ?_⟩
    refine ⟨Nat.zero_le _, fun F nF => ?_⟩
    have x0 : BX b cl H (upd H F (.lst [])) := .new hB nF
    refine ⟨.ref b, rfl, .int top, rfl, top, 1, rfl, rfl, b, cl, top + 1, rfl, x0.bag, by omega, by omega, fun H1 n x1 n0 n1 => ?_⟩
    have eF1 := x1.keep F _ (hB.nb nF) upd_same
    refine ⟨n, rfl, by omega, by omega, for_range (lo := 0) (n := n.toNat) (fun i σ H' => ∃ y4 y5 y6, σ = [some (.ref b), some (.ref a), some (.int top), some (.ref F), y4, y5, y6, none] ∧ BX b cl H H' ∧
      ∃ xs as, H' F = some (.lst xs) ∧ as.length = i ∧ Paired (Rp (fun c => Old H c ∨ c = F) H' 1) xs (as.map atD) ∧ ∀ x ∈ as, AtOk x ∧ ∀ c ∈ x.1, c ∈ cs) ⟨none, none, none, rfl, x0.trans x1, [], [], eF1, rfl, .nil, fun _ h => nomatch h⟩ (fun i σ H' hi h => ?_) (fun σ H' h => ?_)⟩
    · obtain ⟨y4, y5, y6, rfl, x2, xs, as, eF, li, pp, ok⟩ := h
      have lx : xs.length = i := by
        have := Paired.length pp
        rw [List.length_map] at this
        omega
      -- some letters
      refine ⟨⟨_, rfl⟩, .ref a, rfl, a, cs.map sg, rfl, ?_, by rw [List.length_map]; omega, fun ys p py sy np => ?_⟩
      · rw [List.map_map]
        exact .of (hA.mv x2).2
      obtain ⟨ds, rfl, rs, ld, hd⟩ := srt_letters py sy nd
      have x3 : BX b cl H (upd H' p (.lst ((ds.map sg).map V.str))) := x2.trans (.new x2.bag np)
      refine ⟨p, rfl, ⟨_, .of upd_same⟩, fun D nD => ?_⟩
      have nD0 : H D = none := x3.back nD
      have npD : p ≠ D := ne_of_none upd_same nD
      have nFp : F ≠ p := ne_of_none eF np
      have eF3 : (upd H' p (.lst ((ds.map sg).map V.str))) F = some (.lst xs) := (upd_ne nFp).trans eF
      have nFD : F ≠ D := ne_of_none eF3 nD
      have k3 : Kp (fun c => Old H c ∨ c = F) H' (upd H' p (.lst ((ds.map sg).map V.str))) := Kp.new np
      have nD' : H' D = none := by
        rw [upd_ne npD.symm] at nD
        exact nD
      refine lc_list (xs := (ds.map sg).map V.str) (fun j G => BX b cl H G ∧ G p = some (.lst ((ds.map sg).map V.str)) ∧ G F = some (.lst xs) ∧ Kp (fun c => Old H c ∨ c = F) H' G ∧ ∃ zs : List Nat, zs.Sublist (ds.take j) ∧ G D = some (.lst (lets zs)))
        ⟨x3.mut hB nD0, (upd_ne npD).trans upd_same, (upd_ne nFD).trans eF3, k3.trans (Kp.new nD), [], List.nil_sublist _, upd_same⟩ (fun j G _ h => .of h.2.1) (fun j x G hx h => ?_) (fun G h => ?_)
      · obtain ⟨xG, ep, eF4, kG, zs, hz, eD⟩ := h
        obtain ⟨c, hc, rfl⟩ : ∃ c, ds[j]? = some c ∧ x = V.str (sg c) := by
          rw [List.map_map, List.getElem?_map] at hx
          cases e : ds[j]? with
          | none => rw [e] at hx; cases hx
          | some c => rw [e] at hx; exact ⟨c, rfl, (Option.some.inj hx).symm⟩
        have lzs : zs.length ≤ 60 := by
          have := hz.length_le
          rw [List.length_take] at this
          omega
        refine ⟨rfl, .ref b, rfl, b, cl, 2, rfl, xG.bag, by decide, by decide, fun G2 u xu u0 u1 => ?_⟩
        have eD2 := xu.keep D _ (hB.nb nD0) eD
        have ep2 := xu.keep p _ (x2.bag.nb np) ep
        have eF5 := xu.keep F _ (hB.nb nF) eF4
        have kk : Kp (fun c => Old H c ∨ c = F) H' G2 := kG.trans (xu.kp (.inl hB.old))
        refine ⟨rfl, _, rfl, ite2 (fun _ => ?_) (fun _ => ⟨xG.trans xu, ep2, eF5, kk, zs, hz.trans (by rw [List.take_add_one]; exact List.sublist_append_left _ _), eD2⟩)⟩
        refine ⟨.str (sg c), rfl, _, eD2, ?_, (xG.trans xu).mut hB nD0, (upd_ne npD).trans ep2, (upd_ne nFD).trans eF5, kk.mutN nD', zs ++ [c], ?_, ?_⟩
        · simp only [lets, List.length_map]
          exact small1000 (by omega)
        · rw [List.take_add_one, hc]
          exact hz.append (List.Sublist.refl _)
        · rw [upd_same]
          simp [lets]
      · obtain ⟨xG, ep, eF4, kG, zs, hz, eD⟩ := h
        rw [List.length_map, List.length_map, List.take_length] at hz
        have lzs : zs.length ≤ 60 := by
          have := hz.length_le
          omega
        refine ⟨_, D, zs.map sg, rfl, rfl, .inl (.of ?_), ?_, ?_⟩
        · rw [eD]
          simp [lets]
        · rw [ones_sum, List.length_map]
          show zs.length + zs.length * 0 ≤ _
          omega
        rw [join_sg]
        have inz : ∀ c ∈ zs, c ∈ cs := fun c hc => hd c (hz.subset hc)
        have one : ∀ {G2 G3 : Hp} {z : Addr} {l : List Nat} {m : Bool}, Kp (fun c => Old H c ∨ c = F) H' G2 → BX b cl H G2 → G2 F = some (.lst xs) → G2 z = none → AtOk (l, m) → (∀ c ∈ l, c ∈ cs) → G3 = upd (upd G2 z (.tup [.str (tx l), .bl m])) F (.lst (xs ++ [.ref z])) →
            BX b cl H G3 ∧ ∃ (xs : List V) (as : List Atm), G3 F = some (.lst xs) ∧ as.length = i + 1 ∧ Paired (Rp (fun c => Old H c ∨ c = F) G3 1) xs (as.map atD) ∧ ∀ x ∈ as, AtOk x ∧ ∀ c ∈ x.1, c ∈ cs := by
          intro G2 G3 z l m kG2 xG2 eF2 nz okl il rfl
          have zF : z ≠ F := (ne_of_none eF2 nz).symm
          refine ⟨(xG2.trans (.new xG2.bag nz)).mut hB nF, xs ++ [.ref z], as ++ [(l, m)], upd_same, by simp [li], ?_, ?_⟩
          · rw [List.map_append]
            refine paired_app (Paired.mapP pp fun _ _ r => r.mv (kG2.trans ((Kp.new nz).trans (Kp.mut (.inr rfl))))) (rp_atom (a := (l, m)) ?_ okl.ascii ?_)
            · rintro (h | h)
              · exact h (xG2.back nz)
              · exact zF h
            · rw [upd_ne zF, upd_same]
          · intro x hx
            rcases List.mem_append.mp hx with h | h
            · exact ok x h
            · rw [List.mem_singleton.mp h]
              exact ⟨okl, il⟩
        have okz : zs ≠ [] → AtOk (zs, true) := fun h => ⟨h, fun c hc => lw c (inz c hc), rs.sublist hz, .inl rfl, by show zs.length < 100; omega⟩
        have okc : ∀ c, c ∈ cs → AtOk ([c], false) := fun c hc => ⟨by simp, fun d hd => by rw [List.mem_singleton.mp hd]; exact lw c hc, List.pairwise_singleton _ _, .inr rfl, by show 1 < 100; decide⟩
        have sx : xs.length < sizeLine := small1000 (by omega)
        by_cases hz0 : zs = []
        · subst hz0
          refine ⟨.str (tx []), rfl, rfl, _, rfl, iteF ?_⟩
          refine ⟨.ref F, rfl, .inl ⟨rfl, _, .of eF4⟩, .bl false, rfl, false, rfl, iteF ⟨.ref b, rfl, .ref a, rfl, b, cl, xG.bag, .inl ⟨a, _, rfl, hA.mv xG, by simpa [lets] using l0, by simp [lets]; omega, fun G3 v x3 hv => ?_⟩⟩⟩
          obtain ⟨c, hc, rfl⟩ := List.mem_map.mp hv
          refine ⟨(by show 2 ≤ sizeLine; decide), fun z nz => ?_⟩
          have eF5 := x3.keep F _ (hB.nb nF) eF4
          exact ⟨F, _, _, rfl, rfl, (upd_ne (ne_of_none eF5 nz)).trans eF5, sx, _, _, _, rfl, one (kG.trans (x3.kp (.inl hB.old))) (xG.trans x3) eF5 nz (okc c hc) (fun d hd => by rw [List.mem_singleton.mp hd]; exact hc) rfl⟩
        · refine ⟨.str (tx zs), rfl, rfl, _, rfl, ?_⟩
          rw [show decide (V.str (tx zs) = V.str (Str.ofString "")) = false from decide_eq_false fun z => hz0 (by
            injection z with z
            have := congrArg (fun s : Str => s.cps.toList) z
            exact this.trans (by decide +kernel))]
          refine iteT ⟨.ref b, rfl, b, cl, 3, rfl, xG.bag, by decide, by decide, fun G2 u xu u0 u1 => ⟨_, _, rfl, rfl, ?_⟩⟩
          have eF5 := xu.keep F _ (hB.nb nF) eF4
          have kG2 : Kp (fun c => Old H c ∨ c = F) H' G2 := kG.trans (xu.kp (.inl hB.old))
          have xG2 := xG.trans xu
          by_cases hu : 0 < u
          · refine ⟨.ref F, rfl, .inl ⟨rfl, _, .of eF5⟩, .bl (decide (0 < u)), rfl, _, rfl, ?_⟩
            rw [decide_eq_true hu]
            refine iteT ⟨.str (tx zs), rfl, (by show 2 ≤ sizeLine; decide), fun z nz => ?_⟩
            exact ⟨F, _, _, rfl, rfl, (upd_ne (ne_of_none eF5 nz)).trans eF5, sx, _, _, _, rfl, one kG2 xG2 eF5 nz (okz hz0) inz rfl⟩
          · refine ⟨.ref F, rfl, .inl ⟨rfl, _, .of eF5⟩, .bl (decide (0 < u)), rfl, _, rfl, ?_⟩
            rw [decide_eq_false hu]
            refine iteF ⟨.ref b, rfl, .ref a, rfl, b, cl, xG2.bag, .inl ⟨a, _, rfl, hA.mv xG2, by simpa [lets] using l0, by simp [lets]; omega, fun G3 v x3 hv => ?_⟩⟩
            obtain ⟨c, hc, rfl⟩ := List.mem_map.mp hv
            refine ⟨(by show 2 ≤ sizeLine; decide), fun z nz => ?_⟩
            have eF6 := x3.keep F _ (hB.nb nF) eF5
            exact ⟨F, _, _, rfl, rfl, (upd_ne (ne_of_none eF6 nz)).trans eF6, sx, _, _, _, rfl, one (kG2.trans (x3.kp (.inl hB.old))) (xG2.trans x3) eF6 nz (okc c hc) (fun d hd => by rw [List.mem_singleton.mp hd]; exact hc) rfl⟩
    · obtain ⟨y4, y5, y6, rfl, x2, xs, as, eF, li, pp, ok⟩ := h
      refine ⟨.ref F, rfl, F, xs, rfl, .inl ⟨.of eF, fun z nz => ?_⟩⟩
      refine q _ _ as (x2.trans (.new x2.bag nz)) (rp_tup ?_ upd_same ?_ (Paired.mapP pp fun _ _ r => (r.mv (Kp.new nz)).weak fun a h => .inl h)) (by omega) ok
      · exact fun h => h (x2.back nz)
      · have := Paired.length pp
        rw [List.length_map] at this
        omega

/-! ### the refusals: what their making does -/
abbrev xdOf (n : Int) (w : Str) : List (Str × V) := [(Str.ofString "at", .int n), (Str.ofString "word", .str w)]
def sp_leak (K : PySem.W.Frag) : Sp := fun vs H Q _ => ∃ (a C : Addr) (n : Int) (w : Str), vs = [.ref a, .int n, .str w] ∧ OexC K C ∧ PySem.W.findIn K (.ref C) "word" = some none ∧ PySem.W.findIn K (.ref C) "at" = some none ∧ H a = some (exo a C none) ∧ w.length < 1000 ∧ (n < 0 ∨ (0 ≤ n ∧ n < 512)) ∧ n.natAbs.log2 < 1920 ∧
  ∀ d, H d = none → d ≠ a → Q .non (upd (upd (upd H d (exd d [(Str.ofString "word", .str w)])) a (exo a C (some d))) d (exd d (xdOf n w)))
def sp_err (K : PySem.W.Frag) (w : Str) : Sp := fun vs H Q _ => ∃ (a C : Addr) (n : Int), vs = [.ref a, .int n] ∧ OexC K C ∧ PySem.W.findIn K (.ref C) "word" = some none ∧ PySem.W.findIn K (.ref C) "at" = some none ∧ H a = some (exo a C none) ∧ (n < 0 ∨ (0 ≤ n ∧ n < 512)) ∧ n.natAbs.log2 < 1920 ∧
  ∀ d, H d = none → d ≠ a → Q .non (upd (upd (upd H d (exd d [(Str.ofString "word", .str w)])) a (exo a C (some d))) d (exd d (xdOf n w)))
theorem small_text {n : Int} (h0 : 0 ≤ n) (h1 : n < 512) : (toString n : Str).length ≤ 100 := by
  obtain ⟨k, rfl⟩ := Int.eq_ofNat_of_zero_le h0
  have all : ∀ j : Fin 512, (toString ((j.val : Nat) : Int) : Str).length ≤ 100 := by decide +kernel
  exact all ⟨k, by omega⟩
theorem ok_LeakError_init (T : Tx K mg) : FnOk P w K mg base CX0 1 T.f_LeakError_init T.fd_LeakError_init P_LeakError_init (sp_leak K) := by
  refine T.F_LeakError_init.ok sc_LeakError_init (fun vs H Q E h => ?_) (fun cdv A outer s H vs Q E hr h => ?_)
  · obtain ⟨a, C, n, w, rfl, _⟩ := h
    rfl
  · obtain ⟨a, C, n, w, rfl, oc, nw, na, ha, lw, sn, ln, q⟩ := h
    refine ⟨_, PSs.nox 
      (pss_cons (ps_expr (pe_veinit (by rfl) T.m_ValueError T.vV (pa_cons (L2.pv 0) (pa_cons (pe_ifExp (pt_cmpR op_lt (L2.pv 1) pe_int (nomark _)) (L2.pv 2) (pe_joined (PJ.cons (pe_fmt (L2.pv 2)) (PJ.cons pe_str (PJ.cons (pe_fmt (L2.pv 1)) PJ.nil))))) pa_nil))))
      (pss_cons (ps_ost (L2.pv 0) (L2.pv 2))
      (pss_one (ps_ost (L2.pv 0) (L2.pv 1))))), ?_⟩
    have sw : w.length ≤ sizeLine := by rw [sizeLine_eq]; omega
    have at0 : ∀ d, d ≠ a → (upd (upd H d (exd d [(Str.ofString "word", .str w)])) a (exo a C (some d))) d = some (exd d [(Str.ofString "word", .str w)]) := fun d nda => (upd_ne nda).trans upd_same
    refine ⟨.ref a, rfl, .int n, rfl, n, 0, rfl, rfl, _, rfl, ite2 (fun _ => ?_) (fun hn => ?_)⟩
    · refine ⟨.str w, rfl, a, C, [.str w], rfl, by show 1 ≤ 1000; decide, oc, ha, ?_⟩
      refine ⟨.str w, rfl, .ref a, rfl, a, C, rfl, oc, nw, .inl ⟨ha, fun d nd nda => ?_⟩⟩
      exact ⟨.int n, rfl, .ref a, rfl, a, C, rfl, oc, na, .inr ⟨d, _, upd_same, at0 d nda, by show 1 ≤ 900; decide, q d nd nda⟩⟩
    · have hn0 : 0 ≤ n ∧ n < 512 := by
        rcases sn with h | h
        · exact absurd (decide_eq_true h) hn
        · exact h
      have tl := small_text hn0.1 hn0.2
      have la : ∀ x y : Str, (x ++ y).length = x.length + y.length := fun x y => by
        show (x.cps ++ y.cps).size = x.cps.size + y.cps.size
        exact Array.size_append
      have l4 : (Str.ofString " at ").length = 4 := by decide +kernel
      have le : Str.empty.length = 0 := rfl
      refine ⟨.str w, rfl, .inl ⟨w, rfl, sw, w, rfl, by rw [la, le, sizeLine_eq]; omega, _, rfl, by rw [la, la, le, l4, sizeLine_eq]; omega, .int n, rfl, .inr ⟨n, rfl, ln, _, rfl, by rw [la, la, la, le, l4, sizeLine_eq]; omega, ?_⟩⟩⟩
      refine ⟨a, C, [.str _], rfl, by show 1 ≤ 1000; decide, oc, ha, ?_⟩
      refine ⟨.str w, rfl, .ref a, rfl, a, C, rfl, oc, nw, .inl ⟨ha, fun d nd nda => ?_⟩⟩
      exact ⟨.int n, rfl, .ref a, rfl, a, C, rfl, oc, na, .inr ⟨d, _, upd_same, at0 d nda, by show 1 ≤ 900; decide, q d nd nda⟩⟩
theorem ok_BadAtom_init (T : Tx K mg) : FnOk P w K mg base CX0 2 T.f_BadAtom_init T.fd_BadAtom_init P_BadAtom_init (sp_err K "badatom") := by
  have G_LeakError_init : FnOk P w K mg base CX0 1 T.f_LeakError_init T.fd_LeakError_init P_LeakError_init (sp_leak K) := ok_LeakError_init T
  refine T.F_BadAtom_init.ok sc_BadAtom_init (fun vs H Q E h => ?_) (fun cdv A outer s H vs Q E hr h => ?_)
  · obtain ⟨a, C, n, rfl, _⟩ := h
    rfl
  · obtain ⟨a, C, n, rfl, oc, nw, na, ha, sn, ln, q⟩ := h
    refine ⟨_, PSs.nox 
      (pss_one (ps_expr (LB.pe_cfn T.cf_LeakError_init G_LeakError_init (hr.mono (by decide)) (by rfl) T.gC_LeakError T.b_LeakError_init_3 T.dv_LeakError_init_3 pass0 (pa_cons (L2.pv 0) (pa_cons (L2.pv 1) (pa_cons pe_str pa_nil)))))), ?_⟩
    exact ⟨.ref a, rfl, .int n, rfl, a, C, n, _, rfl, oc, nw, na, ha, (by decide), sn, ln, q⟩

theorem ok_BadText_init (T : Tx K mg) : FnOk P w K mg base CX0 2 T.f_BadText_init T.fd_BadText_init P_BadText_init (sp_err K "badtext") := by
  have G_LeakError_init : FnOk P w K mg base CX0 1 T.f_LeakError_init T.fd_LeakError_init P_LeakError_init (sp_leak K) := ok_LeakError_init T
  refine T.F_BadText_init.ok sc_BadText_init (fun vs H Q E h => ?_) (fun cdv A outer s H vs Q E hr h => ?_)
  · obtain ⟨a, C, n, rfl, _⟩ := h
    rfl
  · obtain ⟨a, C, n, rfl, oc, nw, na, ha, sn, ln, q⟩ := h
    refine ⟨_, PSs.nox 
      (pss_one (ps_expr (LB.pe_cfn T.cf_LeakError_init G_LeakError_init (hr.mono (by decide)) (by rfl) T.gC_LeakError T.b_LeakError_init_3 T.dv_LeakError_init_3 pass0 (pa_cons (L2.pv 0) (pa_cons (L2.pv 1) (pa_cons pe_str pa_nil)))))), ?_⟩
    exact ⟨.ref a, rfl, .int n, rfl, a, C, n, _, rfl, oc, nw, na, ha, (by decide), sn, ln, q⟩

theorem exc_heap {H : Hp} {a d : Addr} {x0 x1 x2 x3 o : HO} (ha : H a = none) (da : d ≠ a) : upd (del (upd (upd (upd (upd H a x0) d x1) a x2) d x3) a) d o = upd H d o := by
  funext b
  by_cases hd : b = d
  · subst hd
    rw [upd_same, upd_same]
  · rw [upd_ne hd, upd_ne hd]
    by_cases hb : b = a
    · subst hb
      rw [del_same, ha]
    · rw [del_ne hb, upd_ne hd, upd_ne hb, upd_ne hd, upd_ne hb]

/-! ### what is a product, and what is none -/
theorem rsg_zip : ∀ zs : List Nat, ((zs.zip (zs.drop 1)).map fun p => decide (p.1 < p.2)).all id = rsg zs
  | [] => rfl
  | [c] => rfl
  | c :: d :: r => by
    have ih := rsg_zip (d :: r)
    show (decide (c < d) && (((d :: r).zip r).map fun p => decide (p.1 < p.2)).all id) = (decide (c < d) && rsg (d :: r))
    rw [← ih]
    rfl
def sp_p_is_rising : Sp := fun vs H Q _ => ∃ zs : List Nat, vs = [.str (tx zs)] ∧ zs.length < 1000 ∧ ∀ H', Same H H' → Q (.bl (low zs && rsg zs)) H'
theorem ok_p_is_rising (T : Tx K mg) : FnOk P w K mg base CX0 2 T.f_p_is_rising T.fd_p_is_rising P_p_is_rising sp_p_is_rising := by
  have G_p_is_word : FnOk P w K mg base CX0 1 T.f_p_is_word T.fd_p_is_word P_p_is_word sp_p_is_word := ok_p_is_word T
  refine T.F_p_is_rising.ok sc_p_is_rising (fun vs H Q E h => ?_) (fun cdv A outer s H vs Q E hr h => ?_)
  · obtain ⟨zs, rfl, _⟩ := h
    rfl
  · obtain ⟨zs, rfl, lz, q⟩ := h
    have zl : (tx zs).length ≤ sizeLine := by rw [tx_len]; exact Nat.le_of_lt (small1000 (by omega))
    refine ⟨_, 
      (pss_one (ps_ret (pe_and (pe_call G_p_is_word (hr.mono (by decide)) (by rfl) T.g_p_is_word T.F_p_is_word.kp T.b_p_is_word .nil pass0 (pa_cons (L2.pv 0) pa_nil)) (pe_one (pe_callB (cr_all rfl) (by rfl) T.m_all (by decide +kernel) (pa_cons (pe_lc (own := [("low", 1), ("high", 2)]) (g := (gTup K 2 (gCons (gName 1) (gCons (gName 2) gNil)))) (tt := tYes) (by rfl) sc_p_is_rising.nd (LB.pi_zipS (by rfl) T.m_zip (pa_cons (L2.pv 0) (pa_cons (pe_slice sl_str (L2.pv 0) (po_some pe_int) po_none) pa_nil))) (blkOk_by (own := [("low", 1), ("high", 2)]) (N := N_p_is_rising) (sc := defScope s_p_is_rising) (by decide +kernel)) (fun _ _ _ _ _ => (pg_tup (by rfl) (pgs_cons (pg_name (i := 1) sc_p_is_rising.nd rfl (.inl rfl)) (pgs_cons (pg_name (i := 2) sc_p_is_rising.nd rfl (.inl rfl)) pgs_nil)))) (fun _ _ _ _ _ => pts_nil) (fun _ _ _ _ _ => (pe_cmpR op_lt_str (L2.pv 1) (L2.pv 2) (nomark _)))) pa_nil)))))), ?_⟩
    refine ⟨.str (tx zs), rfl, zs, rfl, lz, fun H1 s1 => ⟨_, rfl, ?_⟩⟩
    cases hl : low zs with
    | false =>
      rw [hl] at q
      exact iteF (q _ s1)
    | true =>
      rw [hl, Bool.true_and] at q
      refine iteT ⟨.str (tx zs), rfl, .str (tx zs), rfl, 1, rfl, tx zs, rfl, zl, ?_⟩
      rw [show cutS (tx zs) (some 1) none = tx (zs.drop 1) from cutS_drop zs 1]
      refine ⟨_, _, rfl, fun D nD => ?_⟩
      have nD0 : H D = none := s1.free nD
      have ln : min (tx zs).cps.size (tx (zs.drop 1)).cps.size = (zs.zip (zs.drop 1)).length := by
        rw [show (tx zs).cps.size = zs.length from tx_len zs, show (tx (zs.drop 1)).cps.size = (zs.drop 1).length from tx_len _, List.length_zip]
      have lz2 : (zs.zip (zs.drop 1)).length ≤ zs.length := by
        rw [List.length_zip]
        exact Nat.min_le_left _ _
      refine lc_it (walk_zipS rfl) (fun i H' => Same H H' ∧ H' D = some (.lst (((zs.zip (zs.drop 1)).take i).map fun p => V.bl (decide (p.1 < p.2))))) ⟨same_mut s1 nD0, upd_same⟩ (fun _ _ _ _ => trivial) (fun i x H2 H' hi h y => ?_) (fun H2 h => ?_)
      · obtain ⟨sm, eD⟩ := h
        obtain ⟨U, c, d, rfl, nU, e1, e2, rfl⟩ := y
        rw [← Array.getElem?_toList] at e1 e2
        have e1 : zs[i]? = some c := e1
        have e2 : (zs.drop 1)[i]? = some d := e2
        have e3 : (zs.zip (zs.drop 1))[i]? = some (c, d) := List.getElem?_zip_eq_some.mpr ⟨e1, e2⟩
        have hi2 : i < (zs.zip (zs.drop 1)).length := (List.getElem?_eq_some_iff.mp e3).1
        refine ⟨U, _, rfl, .of upd_same, rfl, _, _, rfl, _, _, rfl, rfl, ?_⟩
        refine ⟨rfl, .str (sg c), rfl, .str (sg d), rfl, _, _, rfl, rfl, _, (upd_ne (ne_of_none eD nU)).trans eD, ?_, same_mut (sm.trans (same_new nU)) nD0, ?_⟩
        · rw [List.length_map, List.length_take]
          exact small1000 (by omega)
        · rw [upd_same, List.take_add_one, e3, List.map_append]
          have : decide ((sg c).cps.toList < (sg d).cps.toList) = decide (c < d) := by
            show decide ([c] < [d]) = _
            by_cases h : c < d
            · rw [decide_eq_true h, decide_eq_true (show [c] < [d] from List.Lex.rel h)]
            · rw [decide_eq_false h, decide_eq_false (show ¬ [c] < [d] from fun z => ?_)]
              cases z with
              | rel z => exact h z
              | cons z => cases z
          rw [this]
          rfl
      · obtain ⟨sm, eD⟩ := h
        rw [ln, List.take_length] at eD
        refine ⟨D, (zs.zip (zs.drop 1)).map fun p => decide (p.1 < p.2), rfl, .of (by rw [eD, List.map_map]; rfl), ?_⟩
        rw [rsg_zip]
        exact q _ sm
theorem str_empty (zs : List Nat) : decide (V.str (tx zs) = V.str (Str.ofString "")) = decide (zs = []) := by
  by_cases h : zs = []
  · subst h
    rfl
  · rw [decide_eq_false h]
    exact decide_eq_false fun z => h (by
      injection z with z
      have := congrArg (fun s : Str => s.cps.toList) z
      exact this.trans (by decide +kernel))
def sp_p_is_atom : Sp := fun vs H Q _ => ∃ a : Atm, vs = [.str (tx a.1), .bl a.2] ∧ a.1.length < 1000 ∧ ∀ H', Same H H' → Q (.bl (atB a)) H'
theorem ok_p_is_atom (T : Tx K mg) : FnOk P w K mg base CX0 3 T.f_p_is_atom T.fd_p_is_atom P_p_is_atom sp_p_is_atom := by
  have G_p_is_rising : FnOk P w K mg base CX0 2 T.f_p_is_rising T.fd_p_is_rising P_p_is_rising sp_p_is_rising := ok_p_is_rising T
  refine T.F_p_is_atom.ok sc_p_is_atom (fun vs H Q E h => ?_) (fun cdv A outer s H vs Q E hr h => ?_)
  · obtain ⟨a, rfl, _⟩ := h
    rfl
  · obtain ⟨⟨zs, m⟩, rfl, lz, q⟩ := h
    have lz : zs.length < 1000 := lz
    have zl : (tx zs).length ≤ sizeLine := by rw [tx_len]; exact Nat.le_of_lt (small1000 (by omega))
    refine ⟨_, 
      (pss_cons (ps_if (PW.pt (pw_or (pt_cmpR op_eq (L2.pv 0) pe_str (nomark _)) (pw_or1 (pt_not (pt_val (pe_call G_p_is_rising (hr.mono (by decide)) (by rfl) T.g_p_is_rising T.F_p_is_rising.kp T.b_p_is_rising .nil pass0 (pa_cons (L2.pv 0) pa_nil)))))))
        (pss_one (ps_ret pe_bl))
        pss_nil)
      (pss_one (ps_ret (pe_or (L2.pv 1) (pe_one (pe_cmpR op_eq (pe_callB call_len_str (by rfl) T.m_len PySem.boot_len (pa_cons (L2.pv 0) pa_nil)) pe_int (nomark _))))))), ?_⟩
    refine ⟨.str (tx zs), rfl, rfl, _, rfl, ?_⟩
    rw [str_empty]
    have eA : atB (zs, m) = (!decide (zs = []) && (low zs && rsg zs) && (m || decide (zs.length = 1))) := rfl
    cases h0 : decide (zs = []) with
    | true =>
      rw [eA, h0] at q
      exact iteT (iteT (q _ (.refl H)))
    | false =>
      rw [eA, h0] at q
      refine iteF ⟨.str (tx zs), rfl, zs, rfl, by omega, fun H1 s1 => ⟨_, rfl, ?_⟩⟩
      cases h1 : (low zs && rsg zs) with
      | false =>
        rw [h1] at q
        exact iteT (q _ s1)
      | true =>
        rw [h1] at q
        refine iteF ⟨.bl m, rfl, m, rfl, ?_⟩
        cases m with
        | true => exact iteT (q _ s1)
        | false =>
          refine iteF ⟨.str (tx zs), rfl, tx zs, rfl, zl, rfl, ?_⟩
          have e : decide (V.int (((tx zs).length : Nat) : Int) = V.int 1) = decide (zs.length = 1) := by
            rw [tx_len]
            by_cases h : zs.length = 1
            · rw [decide_eq_true h, h]
              rfl
            · rw [decide_eq_false h]
              exact decide_eq_false fun z => h (by injection z with z; omega)
          rw [e]
          exact q _ s1
def sp_p_is_product : Sp := fun vs H Q _ => ∃ (av : Addr → Prop) (v : V) (as : List Atm), vs = [v] ∧ Rp av H 2 v (prD as) ∧ (∀ a ∈ as, a.1.length < 1000) ∧ as.length < 1000 ∧ ∀ H', Same H H' → Q (.bl (as.all atB)) H'
theorem ok_p_is_product (T : Tx K mg) : FnOk P w K mg base CX0 4 T.f_p_is_product T.fd_p_is_product P_p_is_product sp_p_is_product := by
  have G_p_is_atom : FnOk P w K mg base CX0 3 T.f_p_is_atom T.fd_p_is_atom P_p_is_atom sp_p_is_atom := ok_p_is_atom T
  refine T.F_p_is_product.ok sc_p_is_product (fun vs H Q E h => ?_) (fun cdv A outer s H vs Q E hr h => ?_)
  · obtain ⟨av, v, as, rfl, _⟩ := h
    rfl
  · obtain ⟨av, v, as, rfl, hv, ok, la, q⟩ := h
    obtain ⟨p, xs, rfl, na, hp, hl, _, pp⟩ := hv.prod
    refine ⟨_, 
      (pss_one (ps_ret (pe_callB (cr_all rfl) (by rfl) T.m_all (by decide +kernel) (pa_cons (pe_lc (own := [("letters", 1), ("many", 2)]) (g := (gTup K 2 (gCons (gName 1) (gCons (gName 2) gNil)))) (tt := tYes) (by rfl) sc_p_is_product.nd (pi_tup (L2.pv 0)) (blkOk_by (own := [("letters", 1), ("many", 2)]) (N := N_p_is_product) (sc := defScope s_p_is_product) (by decide +kernel)) (fun _ _ _ _ _ => (pg_tup (by rfl) (pgs_cons (pg_name (i := 1) sc_p_is_product.nd rfl (.inl rfl)) (pgs_cons (pg_name (i := 2) sc_p_is_product.nd rfl (.inl rfl)) pgs_nil)))) (fun _ _ _ _ _ => pts_nil) (fun _ _ _ _ _ => (pe_call G_p_is_atom (hr.mono (by decide)) (by rfl) T.g_p_is_atom T.F_p_is_atom.kp T.b_p_is_atom .nil pass0 (pa_cons (L2.pv 1) (pa_cons (L2.pv 2) pa_nil))))) pa_nil)))), ?_⟩
    refine ⟨.ref p, rfl, p, rfl, ⟨_, .of hp⟩, fun D nD => ?_⟩
    refine lc_tup (xs := xs) (fun i H' => Same H H' ∧ H' D = some (.lst ((as.take i).map fun a => V.bl (atB a)))) ⟨same_new nD, upd_same⟩ (fun i H' _ h => .of (h.1 _ _ hp)) (fun i x H1 hx h => ?_) (fun H2 h => ?_)
    · obtain ⟨sm, eD⟩ := h
      obtain ⟨a, ha, r, rfl, _, hr'⟩ := prod_get pp hx
      have li := (List.getElem?_eq_some_iff.mp ha).1
      refine ⟨r, _, rfl, .of (sm _ _ hr'), rfl, _, _, rfl, _, _, rfl, rfl, rfl, ?_⟩
      refine ⟨.str (tx a.1), rfl, .bl a.2, rfl, a, rfl, ok a (mem_of_get ha), fun H2 s2 => ?_⟩
      refine ⟨_, s2 _ _ eD, ?_, same_mut (sm.trans s2) nD, ?_⟩
      · rw [List.length_map, List.length_take]
        exact small1000 (by omega)
      · rw [upd_same, List.take_add_one, ha, List.map_append]
        rfl
    · obtain ⟨sm, eD⟩ := h
      rw [hl, List.take_length] at eD
      refine ⟨D, as.map atB, rfl, .of (by rw [eD, List.map_map]; rfl), ?_⟩
      rw [List.all_map]
      exact q _ sm
theorem all_ok {as : List Atm} (ok : ∀ a ∈ as, AtOk a) : as.all atB = true := List.all_eq_true.mpr fun a h => atB_iff.mpr (ok a h)
theorem okLen {as : List Atm} (ok : ∀ a ∈ as, AtOk a) : ∀ a ∈ as, a.1.length < 1000 := fun a h => Nat.lt_of_lt_of_le (ok a h).len (by decide)
def sp_p_check_product : Sp := fun vs H Q _ => ∃ (av : Addr → Prop) (v : V) (as : List Atm), vs = [v] ∧ Rp av H 2 v (prD as) ∧ (∀ a ∈ as, AtOk a) ∧ as.length < 1000 ∧ ∀ H', Same H H' → Q .non H'
theorem ok_p_check_product (T : Tx K mg) : FnOk P w K mg base CX0 5 T.f_p_check_product T.fd_p_check_product P_p_check_product sp_p_check_product := by
  have G_p_is_product : FnOk P w K mg base CX0 4 T.f_p_is_product T.fd_p_is_product P_p_is_product sp_p_is_product := ok_p_is_product T
  refine T.F_p_check_product.ok sc_p_check_product (fun vs H Q E h => ?_) (fun cdv A outer s H vs Q E hr h => ?_)
  · obtain ⟨av, v, as, rfl, _⟩ := h
    rfl
  · obtain ⟨av, v, as, rfl, hv, ok, la, q⟩ := h
    refine ⟨_, 
      (pss_one (ps_if (pt_not (pt_val (pe_call G_p_is_product (hr.mono (by decide)) (by rfl) T.g_p_is_product T.F_p_is_product.kp T.b_p_is_product .nil pass0 (pa_cons (L2.pv 0) pa_nil))))
        pss_never
        pss_nil)), ?_⟩
    refine ⟨v, rfl, av, v, as, rfl, hv, okLen ok, la, fun H1 s1 => ⟨_, rfl, ?_⟩⟩
    rw [all_ok ok]
    exact iteF (q _ s1)

/-! ### a product in writing -/
def prT (as : List Atm) : List Nat := if as = [] then [45] else joinL (as.map atmTx)
theorem atT_len {a : Atm} (h : AtOk a) : (atmTx a).length ≤ 100 := by
  have := h.len
  unfold atmTx
  split
  · rw [List.length_append, List.length_singleton]
    omega
  · omega
theorem tot_le : ∀ {ws : List (List Nat)} {k : Nat}, (∀ p ∈ ws, p.length ≤ k) → tot ws ≤ k * ws.length
  | [], k, _ => Nat.zero_le _
  | p :: r, k, h => by
    have := tot_le (ws := r) (k := k) fun q hq => h q (List.mem_cons_of_mem _ hq)
    have := h p List.mem_cons_self
    show p.length + tot r ≤ k * (r.length + 1)
    rw [Nat.mul_add, Nat.mul_one]
    omega
theorem tot_tx (ws : List (List Nat)) : ((ws.map tx).map (·.length)).sum = tot ws := by
  unfold tot
  rw [List.map_map]
  congr 1
def sp_p_product_text : Sp := fun vs H Q _ => ∃ (av : Addr → Prop) (v : V) (as : List Atm), vs = [v] ∧ Rp av H 2 v (prD as) ∧ (∀ a ∈ as, AtOk a) ∧ as.length < 100 ∧ ∀ H', Same H H' → Q (.str (tx (prT as))) H'
theorem ok_p_product_text (T : Tx K mg) : FnOk P w K mg base CX0 6 T.f_p_product_text T.fd_p_product_text P_p_product_text sp_p_product_text := by
  have G_p_check_product : FnOk P w K mg base CX0 5 T.f_p_check_product T.fd_p_check_product P_p_check_product sp_p_check_product := ok_p_check_product T
  refine T.F_p_product_text.ok sc_p_product_text (fun vs H Q E h => ?_) (fun cdv A outer s H vs Q E hr h => ?_)
  · obtain ⟨av, v, as, rfl, _⟩ := h
    rfl
  · obtain ⟨av, v, as, rfl, hv, ok, la, q⟩ := h
    obtain ⟨p, xs, rfl, na, hp, hl, _, pp⟩ := id hv.prod
    refine ⟨_, 
      (pss_cons (ps_expr (pe_call G_p_check_product (hr.mono (by decide)) (by rfl) T.g_p_check_product T.F_p_check_product.kp T.b_p_check_product .nil pass0 (pa_cons (L2.pv 0) pa_nil)))
      (pss_cons (ps_if (pt_cmpR op_eq (pe_callB call_len_seq (by rfl) T.m_len PySem.boot_len (pa_cons (L2.pv 0) pa_nil)) pe_int (nomark _))
        (pss_one (ps_ret pe_str))
        pss_nil)
      (pss_one (ps_ret (pe_join pe_str (pe_lc (own := [("letters", 1), ("many", 2)]) (g := (gTup K 2 (gCons (gName 1) (gCons (gName 2) gNil)))) (tt := tYes) (by rfl) sc_p_product_text.nd (pi_tup (L2.pv 0)) (blkOk_by (own := [("letters", 1), ("many", 2)]) (N := N_p_product_text) (sc := defScope s_p_product_text) (by decide +kernel)) (fun _ _ _ _ _ => (pg_tup (by rfl) (pgs_cons (pg_name (i := 1) sc_p_product_text.nd rfl (.inl rfl)) (pgs_cons (pg_name (i := 2) sc_p_product_text.nd rfl (.inl rfl)) pgs_nil)))) (fun _ _ _ _ _ => pts_nil) (fun _ _ _ _ _ => (pe_ifExp (pt_val (L2.pv 2)) (pe_op op_add_str (L2.pv 1) pe_str) (L2.pv 1))))))))), ?_⟩
    refine ⟨.ref p, rfl, av, _, as, rfl, hv, ok, by omega, fun H1 s1 => ?_⟩
    refine ⟨.ref p, rfl, p, xs, rfl, .inr (.of (s1 _ _ hp)), rfl, _, rfl, ?_⟩
    rw [hl]
    by_cases h0 : as = []
    · subst h0
      exact iteT (q _ s1)
    · have l0 : 0 < as.length := List.length_pos_iff.mpr h0
      rw [show decide (V.int ((as.length : Nat) : Int) = V.int 0) = false from decide_eq_false fun z => by injection z with z; omega]
      refine iteF ⟨⟨_, rfl⟩, .ref p, rfl, p, rfl, ⟨_, .of (s1 _ _ hp)⟩, fun D nD => ?_⟩
      have nD0 : H D = none := s1.free nD
      refine lc_tup (xs := xs) (fun i H' => Same H H' ∧ H' D = some (.lst ((as.take i).map fun a => V.str (tx (atmTx a))))) ⟨same_mut s1 nD0, upd_same⟩ (fun i H' _ h => .of (h.1 _ _ hp)) (fun i x H2 hx h => ?_) (fun H2 h => ?_)
      · obtain ⟨sm, eD⟩ := h
        obtain ⟨⟨ls, m⟩, ha, r, rfl, _, hr'⟩ := prod_get pp hx
        have li := (List.getElem?_eq_some_iff.mp ha).1
        have oka := ok _ (mem_of_get ha)
        have lls : ls.length < 100 := oka.len
        refine ⟨r, _, rfl, .of (sm _ _ hr'), rfl, _, _, rfl, _, _, rfl, rfl, rfl, ?_⟩
        have fin : ∀ z : List Nat, z = atmTx (ls, m) → ∃ xs, H2 D = some (.lst xs) ∧ xs.length < sizeLine ∧ Same H (upd H2 D (.lst (xs ++ [V.str (tx z)]))) ∧ (upd H2 D (.lst (xs ++ [V.str (tx z)]))) D = some (.lst ((as.take (i + 1)).map fun a => V.str (tx (atmTx a)))) := fun z e => by
          refine ⟨_, eD, ?_, same_mut sm nD0, ?_⟩
          · rw [List.length_map, List.length_take]
            exact small1000 (by omega)
          · rw [upd_same, List.take_add_one, ha, List.map_append, e]
            rfl
        refine ⟨.bl m, rfl, m, rfl, ?_⟩
        cases m with
        | true =>
          refine iteT ⟨.str (tx ls), rfl, _, _, rfl, rfl, ?_, ?_⟩
          · rw [tx_len]
            have e1 : (Str.ofString "*").length = 1 := by decide +kernel
            exact Nat.le_of_lt (small1000 (by omega))
          · rw [show Str.ofString "*" = tx [42] from by decide +kernel, tx_app]
            exact fin _ rfl
        | false => exact iteF ⟨.str (tx ls), rfl, fin _ rfl⟩
      · obtain ⟨sm, eD⟩ := h
        rw [hl, List.take_length] at eD
        have tl : tot (as.map atmTx) ≤ 100 * as.length := by
          have := tot_le (ws := as.map atmTx) (k := 100) fun p hp => by
            obtain ⟨a, ha, rfl⟩ := List.mem_map.mp hp
            exact atT_len (ok a ha)
          rw [List.length_map] at this
          exact this
        refine ⟨_, D, (as.map atmTx).map tx, rfl, rfl, .inl (.of ?_), ?_, ?_⟩
        · rw [eD, List.map_map, List.map_map]
          rfl
        · rw [tot_tx, List.length_map, List.length_map]
          show tot _ + as.length * 1 ≤ _
          omega
        · rw [join_blank]
          have e : prT as = joinL (as.map atmTx) := if_neg h0
          rw [← e]
          exact q _ sm

/-! ### a product read -/
def sp_p_atom_of : Sp := fun vs H Q _ => ∃ ws : List Nat, vs = [.str (tx ws)] ∧ ws.length < 1000 ∧ ∀ H' z, Same H H' → H z = none → H' z = some (.tup [.str (tx (atomOf ws).1), .bl (atomOf ws).2]) → Q (.ref z) H'
theorem ok_p_atom_of (T : Tx K mg) : FnOk P w K mg base CX0 1 T.f_p_atom_of T.fd_p_atom_of P_p_atom_of sp_p_atom_of := by
  refine T.F_p_atom_of.ok sc_p_atom_of (fun vs H Q E h => ?_) (fun cdv A outer s H vs Q E hr h => ?_)
  · obtain ⟨ws, rfl, _⟩ := h
    rfl
  · obtain ⟨ws, rfl, lw, q⟩ := h
    have zl : (tx ws).length ≤ sizeLine := by rw [tx_len]; exact Nat.le_of_lt (small1000 (by omega))
    refine ⟨_, 
      (pss_one (ps_ret (pe_ifExp (pt_val (pe_m1 PySem.F.slot_str_endswith PySem.F.type_str_endswith mt_endswith (L2.pv 0) pe_str)) (pe_tup (pa_cons (pe_slice sl_str (L2.pv 0) po_none (po_some (pe_un un_neg pe_int))) (pa_cons pe_bl pa_nil))) (pe_tup (pa_cons (L2.pv 0) (pa_cons pe_bl pa_nil)))))), ?_⟩
    refine ⟨.str (tx ws), rfl, ⟨_, rfl⟩, _, _, rfl, rfl, _, rfl, ?_⟩
    rw [show Str.ofString "*" = sg 42 from by decide +kernel, endsw]
    by_cases h : ws.getLast? = some 42
    · rw [decide_eq_true h]
      have e : atomOf ws = (ws.dropLast, true) := if_pos h
      rw [e] at q
      refine iteT ⟨.str (tx ws), rfl, noPart ⟨1, rfl, _, rfl, tx ws, rfl, zl, ?_⟩⟩
      rw [cutS_init]
      exact ⟨(by show 2 ≤ sizeLine; decide), fun z nz => q _ _ (same_new nz) nz upd_same⟩
    · rw [decide_eq_false h]
      have e : atomOf ws = (ws, false) := if_neg h
      rw [e] at q
      exact iteF ⟨.str (tx ws), rfl, (by show 2 ≤ sizeLine; decide), fun z nz => q _ _ (same_new nz) nz upd_same⟩
def rdP (ws : List Nat) : List Atm := if ws = [45] then [] else (splitL ws).map atomOf
theorem rdP_tx {as : List Atm} (ok : ∀ a ∈ as, AtOk a) : rdP (prT as) = as := by
  unfold rdP prT
  by_cases h : as = []
  · subst h
    rfl
  · rw [if_neg h]
    have hb : ∀ p ∈ as.map atmTx, ∀ c ∈ p, c ≠ 32 ∧ c ≠ 45 := fun p hp c hc => by
      obtain ⟨a, ha, rfl⟩ := List.mem_map.mp hp
      have oka := ok a ha
      unfold atmTx at hc
      split at hc
      · rcases List.mem_append.mp hc with z | z
        · have := oka.lw c z
          omega
        · rw [List.mem_singleton.mp z]
          omega
      · have := oka.lw c hc
        omega
    rw [if_neg fun z => ?_, split_join _ (by simpa using h) fun p hp c hc => (hb p hp c hc).1, List.map_map]
    · refine (List.map_congr_left fun a ha => ?_).trans (List.map_id as)
      exact atomOf_atT (ok a ha)
    · cases as with
      | nil => exact h rfl
      | cons a r =>
        have h2 := hb (atmTx a) List.mem_cons_self
        have hne : atmTx a ≠ [] := by
          have := (ok a List.mem_cons_self).ne
          unfold atmTx
          split
          · simp
          · exact this
        have : ∃ c t, atmTx a = c :: t := by
          cases e : atmTx a with
          | nil => exact absurd e hne
          | cons c t => exact ⟨c, t, rfl⟩
        obtain ⟨c, t, e⟩ := this
        have hh : ∃ u, joinL ((a :: r).map atmTx) = c :: u := by
          rw [List.map_cons, e]
          cases r with
          | nil => exact ⟨_, rfl⟩
          | cons b r => exact ⟨_, rfl⟩
        obtain ⟨u, hu⟩ := hh
        rw [hu] at z
        have : c = 45 := (List.cons.inj z).1
        exact (h2 c (by rw [e]; exact List.mem_cons_self)).2 this
theorem atomOf_len (ws : List Nat) : (atomOf ws).1.length ≤ ws.length := by
  unfold atomOf
  split
  · show ws.dropLast.length ≤ _
    rw [List.length_dropLast]
    omega
  · exact Nat.le_refl _
theorem atomOf_sub {ws : List Nat} {c : Nat} (h : c ∈ (atomOf ws).1) : c ∈ ws := by
  unfold atomOf at h
  split at h
  · exact List.dropLast_subset _ h
  · exact h
theorem split_sub : ∀ {l p : List Nat}, p ∈ splitL l → ∀ c ∈ p, c ∈ l
  | [], p, h, c, hc => by
    rw [List.mem_singleton.mp (show p ∈ [[]] from h)] at hc
    cases hc
  | d :: r, p, h, c, hc => by
    rw [splitL_cons] at h
    obtain ⟨p', q', e⟩ := splitL_ne r
    by_cases h32 : d = 32
    · rw [if_pos h32] at h
      rcases List.mem_cons.mp h with rfl | h
      · cases hc
      · exact List.mem_cons_of_mem _ (split_sub h c hc)
    · rw [if_neg h32, e] at h
      rcases List.mem_cons.mp (show p ∈ (d :: p') :: q' from h) with rfl | h
      · rcases List.mem_cons.mp hc with rfl | hc
        · exact List.mem_cons_self
        · exact List.mem_cons_of_mem _ (split_sub (by rw [e]; exact List.mem_cons_self) c hc)
      · exact List.mem_cons_of_mem _ (split_sub (by rw [e]; exact List.mem_cons_of_mem _ h) c hc)
def sp_p_read_product (C : Addr) : Sp := fun vs H Q E => ∃ ws : List Nat, vs = [.str (tx ws)] ∧ (∀ c ∈ ws, c < 128) ∧ ws.length < 500 ∧
  ((rdP ws).all atB = true → ∀ H' v, Same H H' → Rp (Old H) H' 2 v (prD (rdP ws)) → Q v H') ∧
  ((rdP ws).all atB = false → ∀ H' d, Same H H' → H d = none → H' d = some (.xd (xdOf 0 "badtext")) → E (.ref C) (some d) H')
theorem ok_p_read_product (T : Tx K mg) : FnOk P w K mg base (L2.CX P w) 5 T.f_p_read_product T.fd_p_read_product P_p_read_product (sp_p_read_product T.C_BadText) := by
  have G_p_is_product : FnOk P w K mg base CX0 4 T.f_p_is_product T.fd_p_is_product P_p_is_product sp_p_is_product := ok_p_is_product T
  have G_p_atom_of : FnOk P w K mg base CX0 1 T.f_p_atom_of T.fd_p_atom_of P_p_atom_of sp_p_atom_of := ok_p_atom_of T
  have G_BadText_init : FnOk P w K mg base CX0 2 T.f_BadText_init T.fd_BadText_init P_BadText_init (sp_err K "badtext") := ok_BadText_init T
  refine T.F_p_read_product.okX sc_p_read_product (fun vs H Q E h => ?_) (fun cdv A outer s H vs Q E hr h => ?_)
  · obtain ⟨ws, rfl, _⟩ := h
    rfl
  · obtain ⟨ws, rfl, asc, lw, qg, qb⟩ := h
    have zl : (tx ws).length + 2 ≤ sizeLine := by rw [tx_len, sizeLine_eq]; omega
    refine ⟨_, 
      (pss_cons (ps_if (pt_cmpR op_eq (L2.pv 0) pe_str (nomark _))
        (pss_one (ps_ret (pe_tup pa_nil)))
        pss_nil)
      (pss_cons (ps_set (i := 1) sc_p_read_product.nd rfl (.inl rfl) (pe_callTy call_tuple_of (by rfl) T.m_tuple (by decide +kernel) (pa_cons (pe_lc (own := [("piece", 2)]) (g := (gName 2)) (tt := tYes) (by rfl) sc_p_read_product.nd (pi_list (pe_split (L2.pv 0) pe_str)) (blkOk_by (own := [("piece", 2)]) (N := N_p_read_product) (sc := defScope s_p_read_product) (by decide +kernel)) (fun _ _ _ _ _ => (pg_name (i := 2) sc_p_read_product.nd rfl (.inl rfl))) (fun _ _ _ _ _ => pts_nil) (fun _ _ _ _ _ => (pe_call G_p_atom_of (hr.mono (by decide)) (by rfl) T.g_p_atom_of T.F_p_atom_of.kp T.b_p_atom_of .nil pass0 (pa_cons (L2.pv 2) pa_nil)))) pa_nil)))
      (pss_cons (ps_if (pt_not (pt_val (pe_call G_p_is_product (hr.mono (by decide)) (by rfl) T.g_p_is_product T.F_p_is_product.kp T.b_p_is_product .nil pass0 (pa_cons (L2.pv 1) pa_nil))))
        (pss_one (ps_raise rfl (takes_of rfl rfl rfl rfl) (pmk_oex T.ox_BadText T.iC_BadText T.tI_BadText G_BadText_init (hr.mono (by decide)) T.b_BadText_init_2 T.dv_BadText_init_2 pass0 (by rfl) T.gC_BadText (pa_cons pe_int pa_nil))))
        pss_nil)
      (pss_one (ps_ret (L2.pv 1)))))), ?_⟩
    refine ⟨.str (tx ws), rfl, rfl, _, rfl, ?_⟩
    have e45 : decide (V.str (tx ws) = V.str (Str.ofString "-")) = decide (ws = [45]) := by
      by_cases h : ws = [45]
      · subst h
        rfl
      · rw [decide_eq_false h]
        exact decide_eq_false fun z => h (by
          injection z with z
          have := congrArg (fun s : Str => s.cps.toList) z
          exact this.trans (by decide +kernel))
    rw [e45]
    by_cases h45 : ws = [45]
    · rw [decide_eq_true h45]
      have e : rdP ws = [] := if_pos h45
      rw [e] at qg
      refine iteT ⟨Nat.zero_le _, fun p np => qg rfl _ _ (same_new np) (rp_tup (fun h => h np) upd_same (by decide) .nil)⟩
    · rw [decide_eq_false h45]
      have e : rdP ws = (splitL ws).map atomOf := if_neg h45
      have ls := splitL_len ws
      have lt : ∀ p ∈ splitL ws, p.length < 1000 := fun p hp => by
        have := tot_mem hp
        omega
      refine iteF ⟨.str (tx ws), rfl, ⟨_, rfl⟩, _, _, rfl, rfl, (by decide +kernel), zl, fun p np => ?_⟩
      rw [show Str.ofString " " = sg 32 from by decide +kernel, split_tx fun c hc => Nat.lt_trans (asc c hc) (by decide)]
      refine ⟨p, rfl, ⟨_, .of upd_same⟩, fun D nD => ?_⟩
      have pD : p ≠ D := ne_of_none upd_same nD
      have nD0 : H D = none := (same_new np).free nD
      refine lc_list (xs := ((splitL ws).map tx).map V.str) (fun i H' => Same H H' ∧ H' p = some (.lst (((splitL ws).map tx).map V.str)) ∧ ∃ ys, H' D = some (.lst ys) ∧ ys.length = i ∧ Paired (Rp (fun a => Old H a ∨ a = D) H' 1) ys ((((splitL ws).take i).map atomOf).map atD)) ⟨same_mut (same_new np) nD0, (upd_ne pD).trans upd_same, [], upd_same, rfl, .nil⟩ (fun i G _ h => .of h.2.1) (fun i x G hx h => ?_) (fun G h => ?_)
      · obtain ⟨sm, ep, ys, eD, ly, pp⟩ := h
        obtain ⟨w1, hw1, rfl⟩ : ∃ w1, (splitL ws)[i]? = some w1 ∧ x = V.str (tx w1) := by
          rw [List.getElem?_map, List.getElem?_map] at hx
          cases e : (splitL ws)[i]? with
          | none => rw [e] at hx; cases hx
          | some c => rw [e] at hx; exact ⟨c, rfl, (Option.some.inj hx).symm⟩
        have li := (List.getElem?_eq_some_iff.mp hw1).1
        have mw := mem_of_get hw1
        refine ⟨rfl, .str (tx w1), rfl, w1, rfl, lt w1 mw, fun G2 z s2 nz hz => ?_⟩
        have zD : z ≠ D := (ne_of_none eD nz).symm
        refine ⟨ys, s2 _ _ eD, small1000 (by omega), same_mut (sm.trans s2) nD0, (upd_ne pD).trans (s2 _ _ ep), ys ++ [.ref z], upd_same, by simp [ly], ?_⟩
        have k1 : Kp (fun a => Old H a ∨ a = D) G (upd G2 D (.lst (ys ++ [.ref z]))) := (Same.kp s2).trans (Kp.mut (.inr rfl))
        rw [List.take_add_one, hw1, List.map_append, List.map_append]
        refine paired_app (Paired.mapP pp fun _ _ r => r.mv k1) (rp_atom (a := atomOf w1) ?_ ?_ ?_)
        · rintro (h | h)
          · exact h (sm.free nz)
          · exact zD h
        · exact fun c hc => asc c (split_sub mw c (atomOf_sub hc))
        · rw [upd_ne zD]
          exact hz
      · obtain ⟨sm, ep, ys, eD, ly, pp⟩ := h
        rw [List.length_map, List.length_map] at ly
        rw [List.length_map, List.length_map, List.take_length, ← e] at pp
        refine ⟨D, ys, rfl, .inl ⟨.of eD, fun z nz => ?_⟩⟩
        have s3 := sm.trans (same_new (o := .tup ys) nz)
        have r3 : Rp (Old H) (upd G z (.tup ys)) 2 (.ref z) (prD (rdP ws)) := rp_tup (fun h => h (sm.free nz)) upd_same (by omega) (Paired.mapP pp fun _ _ r => (r.mv (Kp.new nz)).weak fun a h => .inl h)
        refine ⟨.ref z, rfl, _, _, rdP ws, rfl, r3, ?_, ?_, fun H4 s4 => ⟨_, rfl, ?_⟩⟩
        · intro a ha
          rw [e] at ha
          obtain ⟨w1, hw1, rfl⟩ := List.mem_map.mp ha
          exact Nat.lt_of_le_of_lt (atomOf_len w1) (lt w1 hw1)
        · rw [e, List.length_map]
          omega
        · cases hB : (rdP ws).all atB with
          | true => exact iteF ⟨.ref z, rfl, qg hB _ _ (s3.trans s4) (r3.mv (Same.kp s4))⟩
          | false =>
            refine iteT ⟨(by show 1 ≤ 1000; decide), fun a na => ?_⟩
            refine ⟨a, T.C_BadText, 0, rfl, T.ox_BadText, T.no_BadText_word, T.no_BadText_at, upd_same, .inr ⟨by decide, by decide⟩, by decide, fun d nd nda => ⟨rfl, d, xdOf 0 "badtext", (upd_ne nda.symm).trans upd_same, upd_same, ?_, ?_⟩⟩
            · rw [upd_ne nda] at nd
              exact nd
            · rw [exc_heap na nda]
              rw [upd_ne nda] at nd
              exact qb hB _ d ((s3.trans s4).trans (same_new nd)) ((s3.trans s4).free nd) upd_same

/-! ### the law's own text of a product, its own reading of an atom -/
def sp_atoms_text : Sp := fun vs H Q _ => ∃ (av : Addr → Prop) (v : V) (as : List Atm), vs = [v] ∧ Rp av H 2 v (prD as) ∧ (∀ a ∈ as, AtOk a) ∧ as.length < 100 ∧ ∀ H', Same H H' → Q (.str (tx (prT as))) H'
theorem ok_atoms_text (T : Tx K mg) : FnOk P w K mg base CX0 1 T.f_atoms_text T.fd_atoms_text P_atoms_text sp_atoms_text := by
  refine T.F_atoms_text.ok sc_atoms_text (fun vs H Q E h => ?_) (fun cdv A outer s H vs Q E hr h => ?_)
  · obtain ⟨av, v, as, rfl, _⟩ := h
    rfl
  · obtain ⟨av, v, as, rfl, hv, ok, la, q⟩ := h
    obtain ⟨p, xs, rfl, na, hp, hl, _, pp⟩ := id hv.prod
    refine ⟨_, 
      (pss_cons (ps_setLc (i := 1) (own := [("_law_letters_here", 2), ("_law_many", 3)]) (g := (gTup K 2 (gCons (gName 2) (gCons (gName 3) gNil)))) (tt := tYes) (by rfl) sc_atoms_text.nd rfl rfl (sw_true rfl rfl rfl (by decide +kernel)) (pi_tup (L2.pv 0)) (blkOk_by (own := [("_law_letters_here", 2), ("_law_many", 3)]) (N := N_atoms_text) (sc := defScope s_atoms_text) (by decide +kernel)) (fun _ _ _ _ _ => (pg_tup (by rfl) (pgs_cons (pg_name (i := 2) sc_atoms_text.nd rfl (.inl rfl)) (pgs_cons (pg_name (i := 3) sc_atoms_text.nd rfl (.inl rfl)) pgs_nil)))) (fun _ _ _ _ _ => pts_nil) (fun _ _ _ _ _ => (pe_op op_add_str (L2.pv 2) (pe_op LB.op_mulZ pe_str (pe_callTy call_int1 (by rfl) T.m_int (by decide +kernel) (pa_cons (L2.pv 3) pa_nil))))))
      (pss_one (ps_ret (pe_ifExp (pt_cmpR (op_neD hr.units) (L2.pv 1) (pe_lst pa_nil) (nomark _)) (pe_join pe_str (L2.pv 1)) pe_str)))), ?_⟩
    refine ⟨.ref p, rfl, p, rfl, ⟨_, .of hp⟩, fun D nD => ?_⟩
    refine lc_tup (xs := xs) (fun i H' => Same H H' ∧ H' D = some (.lst ((as.take i).map fun a => V.str (tx (atmTx a))))) ⟨same_new nD, upd_same⟩ (fun i H' _ h => .of (h.1 _ _ hp)) (fun i x H2 hx h => ?_) (fun H2 h => ?_)
    · obtain ⟨sm, eD⟩ := h
      obtain ⟨⟨ls, m⟩, ha, r, rfl, _, hr'⟩ := prod_get pp hx
      have li := (List.getElem?_eq_some_iff.mp ha).1
      have oka := ok _ (mem_of_get ha)
      have lls : ls.length < 100 := oka.len
      refine ⟨r, _, rfl, .of (sm _ _ hr'), rfl, _, _, rfl, _, _, rfl, rfl, rfl, ?_⟩
      refine ⟨.str (tx ls), rfl, .bl m, rfl, .inr ⟨m, rfl, [42], _, rfl, rfl, by cases m <;> decide, by cases m <;> decide, by decide, _, _, rfl, rfl, ?_, ?_⟩⟩
      · rw [tx_len, tx_len]
        exact Nat.le_of_lt (small1000 (by cases m <;> (show ls.length + _ ≤ 1000; simp; omega)))
      · refine ⟨_, eD, ?_, same_mut sm nD, ?_⟩
        · rw [List.length_map, List.length_take]
          exact small1000 (by omega)
        · rw [upd_same, List.take_add_one, ha, List.map_append, tx_app]
          have e : ls ++ (List.replicate (if m = true then (1 : Int) else 0).toNat [42]).flatten = atmTx (ls, m) := by
            unfold atmTx
            cases m with
            | true => rfl
            | false => exact List.append_nil _
          rw [e]
          rfl
    · obtain ⟨sm, eD⟩ := h
      rw [hl, List.take_length] at eD
      have eD : H2 D = some (.lst ((as.map atmTx).map fun l => V.str (tx l))) := by
        rw [eD, List.map_map]
        rfl
      refine ⟨.ref D, rfl, Nat.zero_le _, fun z nz => ?_⟩
      have sz := same_new (o := .lst []) nz
      have asc : ∀ l ∈ as.map atmTx, ∀ c ∈ l, c < 128 := fun l hl c hc => by
        obtain ⟨a, ha, rfl⟩ := List.mem_map.mp hl
        have oka := ok a ha
        unfold atmTx at hc
        split at hc
        · rcases List.mem_append.mp hc with y | y
          · have := oka.lw c y
            omega
          · rw [List.mem_singleton.mp y]
            decide
        · have := oka.lw c hc
          omega
      refine ⟨.list (txsD (as.map atmTx)), .list [], .lst (.of (sz _ _ eD)) (txs_dp _), .lst (.of upd_same) .nil, txs_shaped asc, rfl, _, rfl, ?_⟩
      cases as with
      | nil =>
        refine iteF ?_
        exact q _ (sm.trans sz)
      | cons a r =>
        refine iteT ⟨⟨_, rfl⟩, .ref D, rfl, ?_⟩
        have tl : tot ((a :: r).map atmTx) ≤ 100 * (a :: r).length := by
          have := tot_le (ws := (a :: r).map atmTx) (k := 100) fun p hp => by
            obtain ⟨a, ha, rfl⟩ := List.mem_map.mp hp
            exact atT_len (ok a ha)
          rw [List.length_map] at this
          exact this
        refine ⟨_, D, ((a :: r).map atmTx).map tx, rfl, rfl, .inl (.of ?_), ?_, ?_⟩
        · rw [sz _ _ eD, List.map_map, List.map_map, List.map_map]
          rfl
        · rw [tot_tx, List.length_map, List.length_map]
          show tot _ + (a :: r).length * 1 ≤ _
          omega
        · rw [join_blank]
          have e : prT (a :: r) = joinL ((a :: r).map atmTx) := if_neg (by simp)
          rw [← e]
          exact q _ (sm.trans sz)
def sp_atom_read : Sp := fun vs H Q _ => ∃ ws : List Nat, vs = [.str (tx ws)] ∧ ws.length < 900 ∧ (atB (atomOf ws) = false → ∀ H', Same H H' → Q .non H') ∧
  (atB (atomOf ws) = true → ∀ H' z, Same H H' → H z = none → H' z = some (.tup [.str (tx (atomOf ws).1), .bl (atomOf ws).2]) → Q (.ref z) H')
theorem ok_atom_read (T : Tx K mg) : FnOk P w K mg base CX0 1 T.f_atom_read T.fd_atom_read P_atom_read sp_atom_read := by
  refine T.F_atom_read.ok sc_atom_read (fun vs H Q E h => ?_) (fun cdv A outer s H vs Q E hr h => ?_)
  · obtain ⟨ws, rfl, _⟩ := h
    rfl
  · obtain ⟨ws, rfl, lw, qn, qg⟩ := h
    have zl : (tx ws).length ≤ sizeLine := by rw [tx_len]; exact Nat.le_of_lt (small1000 (by omega))
    refine ⟨_, 
      (pss_cons (ps_set (i := 1) sc_atom_read.nd rfl (.inl rfl) (pe_cmpR op_eq (pe_slice sl_str (L2.pv 0) (po_some (pe_un un_neg pe_int)) po_none) pe_str (nomark _)))
      (Evl.pss_cut (ps_set (i := 2) sc_atom_read.nd rfl (.inl rfl) (pe_ifExp (pt_val (L2.pv 1)) (pe_slice sl_str (L2.pv 0) po_none (po_some (pe_un un_neg pe_int))) (L2.pv 0)))
      (Evl.pss_cut (ps_if (PW.pt (pw_or (pt_cmpR op_eq (L2.pv 2) pe_str (nomark _)) (pw_or (pt_cmpR op_ne (pe_join pe_str (pe_callB (LB.cr_sortX (by rfl)) (by rfl) T.m_sorted (by decide +kernel) (pa_cons (pe_callTy (LB.cr_setZ (by rfl)) (by rfl) T.m_set (by decide +kernel) (pa_cons (L2.pv 2) pa_nil)) pa_nil))) (L2.pv 2) (nomark _)) (pw_or1 (PW.pt (pw_and (pt_not (pt_val (L2.pv 1))) (pw_and1 (pt_cmpR op_gt (pe_callB call_len_str (by rfl) T.m_len PySem.boot_len (pa_cons (L2.pv 2) pa_nil)) pe_int (nomark _)))))))))
        (pss_one (ps_ret pe_non))
        pss_nil)
      (pss_cons (ps_if (pt_not (pt_val (pe_callB (cr_all rfl) (by rfl) T.m_all (by decide +kernel) (pa_cons (pe_lc (own := [("_law_letter", 3)]) (g := (gName 3)) (tt := tYes) (by rfl) sc_atom_read.nd (pi_str (L2.pv 2)) (blkOk_by (own := [("_law_letter", 3)]) (N := N_atom_read) (sc := defScope s_atom_read) (by decide +kernel)) (fun _ _ _ _ _ => (pg_name (i := 3) sc_atom_read.nd rfl (.inl rfl))) (fun _ _ _ _ _ => pts_nil) (fun _ _ _ _ _ => (pe_cmpR op_in_sign (L2.pv 3) pe_str rfl))) pa_nil))))
        (pss_one (ps_ret pe_non))
        pss_nil)
      (pss_one (ps_ret (pe_tup (pa_cons (L2.pv 2) (pa_cons (L2.pv 1) pa_nil))))))))), ?_⟩
    refine ⟨.str (tx ws), rfl, 1, rfl, _, rfl, noPart ⟨tx ws, rfl, zl, rfl, ?_⟩⟩
    rw [cutS_last]
    have em : decide (V.str (tx (ws.drop (ws.length - 1))) = V.str (Str.ofString "*")) = (atomOf ws).2 := by
      unfold atomOf
      by_cases h : ws.getLast? = some 42
      · rw [if_pos h, (last_star ws).mpr h]
        rfl
      · rw [if_neg h]
        exact decide_eq_false fun z => h ((last_star ws).mp (by
          injection z with z
          have := congrArg (fun s : Str => s.cps.toList) z
          exact this.trans (by decide +kernel)))
    rw [em]
    have al := atomOf_len ws
    refine ⟨fun σ G => σ = [some (.str (tx ws)), some (.bl (atomOf ws).2), some (.str (tx (atomOf ws).1)), none] ∧ G = H, ?_, fun σ G h => ?_⟩
    · refine ⟨.bl (atomOf ws).2, rfl, _, rfl, ?_⟩
      by_cases h : ws.getLast? = some 42
      · have e : atomOf ws = (ws.dropLast, true) := if_pos h
        rw [e]
        refine iteT ⟨.str (tx ws), rfl, noPart ⟨1, rfl, _, rfl, tx ws, rfl, zl, ?_⟩⟩
        rw [cutS_init]
        exact ⟨rfl, rfl⟩
      · have e : atomOf ws = (ws, false) := if_neg h
        rw [e]
        exact iteF ⟨.str (tx ws), rfl, rfl, rfl⟩
    obtain ⟨rfl, rfl⟩ := h
    generalize atomOf ws = am at qn qg al ⊢
    obtain ⟨zs, m⟩ := am
    have lz : zs.length < 900 := Nat.lt_of_le_of_lt al lw
    have zz : (tx zs).length ≤ sizeLine := by rw [tx_len]; exact Nat.le_of_lt (small1000 (by omega))
    have eA : atB (zs, m) = (!decide (zs = []) && (low zs && rsg zs) && (m || decide (zs.length = 1))) := rfl
    rw [eA] at qn qg
    refine ⟨fun σ G2 => σ = [some (.str (tx ws)), some (.bl m), some (.str (tx zs)), none] ∧ Same G G2 ∧ decide (zs = []) = false ∧ rsg zs = true ∧ (m || decide (zs.length = 1)) = true, ?_, fun σ G2 h => ?_⟩
    · refine ⟨.str (tx zs), rfl, rfl, _, rfl, ?_⟩
      rw [str_empty]
      cases h0 : decide (zs = []) with
      | true =>
        rw [h0] at qn
        exact iteT (iteT (qn rfl _ (.refl _)))
      | false =>
        rw [h0] at qn qg
        have l1 : 0 < zs.length := List.length_pos_iff.mpr (of_decide_eq_false h0)
        refine iteF ⟨⟨_, rfl⟩, .str (tx zs), rfl, tx zs, rfl, by rw [show (tx zs).cps.size = zs.length from tx_len zs]; omega, fun a ks na nd hm lk => ⟨a, ks, rfl, upd_same, ?_, fun ys p py sy np => ?_⟩⟩
        · rw [show (tx zs).cps.size = zs.length from tx_len zs] at lk
          omega
        obtain ⟨ds, rfl, rs, md⟩ := set_srt (zs := zs) nd hm py sy
        have s2 : Same G (upd (upd G a (SetXO P w a ks)) p (.lst ((ds.map sg).map V.str))) := (same_new na).trans (same_new np)
        have ld : ds.length ≤ zs.length := by
          have h1 := py.length_eq
          rw [List.length_map] at h1
          rw [show (tx zs).cps.size = zs.length from tx_len zs] at lk
          omega
        refine ⟨_, p, ds.map sg, rfl, rfl, .inl (.of upd_same), ?_, ?_⟩
        · rw [ones_sum, List.length_map]
          show ds.length + ds.length * 0 ≤ _
          omega
        rw [join_sg]
        refine ⟨.str (tx zs), rfl, rfl, _, rfl, ?_⟩
        rw [rise_dec rs md]
        cases h1 : rsg zs with
        | false =>
          rw [h1, Bool.and_false] at qn
          exact iteT (iteT (qn rfl _ s2))
        | true =>
          rw [h1, Bool.and_true] at qn qg
          cases m with
          | true => exact iteF ⟨.bl true, rfl, true, rfl, iteF (iteF ⟨rfl, s2, rfl, rfl, rfl⟩)⟩
          | false =>
            refine iteF ⟨.bl false, rfl, false, rfl, iteT ⟨.str (tx zs), rfl, tx zs, rfl, zz, _, _, rfl, rfl, _, rfl, ?_⟩⟩
            rw [tx_len]
            by_cases hz : zs.length = 1
            · rw [show decide ((1 : Int) < ((zs.length : Nat) : Int)) = false from decide_eq_false (by omega)]
              exact iteF ⟨rfl, s2, rfl, rfl, by rw [decide_eq_true hz]; rfl⟩
            · rw [show decide ((1 : Int) < ((zs.length : Nat) : Int)) = true from decide_eq_true (by omega)]
              rw [decide_eq_false hz, Bool.or_false, Bool.and_false] at qn
              exact iteT (qn rfl _ s2)
    obtain ⟨rfl, s2, h0, h1, h2⟩ := h
    rw [h0, h1, h2, Bool.and_true, Bool.and_true] at qn qg
    refine ⟨.str (tx zs), rfl, tx zs, rfl, fun D nD => ?_⟩
    have nD0 : G D = none := s2.free nD
    refine lc_it walk_str (fun i H' => Same G H' ∧ H' D = some (.lst ((zs.take i).map fun c => V.bl (decide (c ∈ alphabet.cps.toList))))) ⟨same_mut s2 nD0, upd_same⟩ (fun _ _ _ _ => trivial) (fun i x H1 H' hi h y => ?_) (fun H1 h => ?_)
    · obtain ⟨sm, eD⟩ := h
      obtain ⟨rfl, c, hc, rfl⟩ := y
      have hi' : i < zs.length := by simpa using hi
      have hc' : zs[i]? = some c := by
        rw [← Array.getElem?_toList] at hc
        exact hc
      refine ⟨rfl, .str (sg c), rfl, c, alphabet, rfl, rfl, _, eD, ?_, same_mut sm nD0, ?_⟩
      · rw [List.length_map, List.length_take]
        exact small1000 (by omega)
      · rw [upd_same, List.take_add_one, hc', List.map_append]
        rfl
    · obtain ⟨sm, eD⟩ := h
      have ez : zs.take (tx zs).cps.size = zs := List.take_of_length_le (by simp)
      rw [ez] at eD
      refine ⟨D, zs.map fun c => decide (c ∈ alphabet.cps.toList), rfl, .of ?_, ?_⟩
      · rw [eD, List.map_map]
        rfl
      · rw [List.all_map]
        refine ⟨_, rfl, ?_⟩
        show ite ((!low zs) = true) _ _
        cases hl : low zs with
        | false =>
          rw [hl] at qn
          exact iteT (qn rfl _ sm)
        | true =>
          rw [hl] at qg
          exact iteF ⟨.str (tx zs), rfl, .bl m, rfl, (by show 2 ≤ sizeLine; decide), fun z nz => qg rfl _ _ (sm.trans (same_new nz)) (sm.free nz) upd_same⟩

/-! ### a text bent -/
def oddTx : List Str := [Str.ofString "", Str.ofString "*", Str.ofString "ab", Str.ofString "ba*", Str.ofString "a**", Str.ofString "aa*", Str.ofString "-", Str.ofString "ab*", Str.ofString "*a", Str.ofString "a"]
theorem odd_ok : ∀ z ∈ oddTx, z.length ≤ 3 ∧ (z.cps.toList.all fun c => decide (c < 128)) = true := by decide +kernel
def sp_bent_text : Sp := fun vs H Q _ => ∃ (b s : Addr) (ws : List Nat), vs = [.ref b, .str (tx ws)] ∧ Bag b s H ∧ (∀ c ∈ ws, c < 128) ∧ ws.length < 400 ∧
  ∀ H' zs, BX b s H H' → (∀ c ∈ zs, c < 128) → zs.length ≤ ws.length + 4 → Q (.str (tx zs)) H'
theorem ok_bent_text (T : Tx K mg) : FnOk P w K mg base CX0 3 T.f_bent_text T.fd_bent_text P_bent_text sp_bent_text := by
  have G_pull : FnOk P w K mg base CX0 1 T.f_pull T.fd_pull P_pull sp_pull := ok_pull T
  have G_of : FnOk P w K mg base CX0 2 T.f_of T.fd_of P_of sp_of := ok_of T
  refine T.F_bent_text.ok sc_bent_text (fun vs H Q E h => ?_) (fun cdv A outer s H vs Q E hr h => ?_)
  · obtain ⟨b, s, ws, rfl, _⟩ := h
    rfl
  · obtain ⟨b, cl, ws, rfl, hB, asc, lw, q⟩ := h
    have zl : (tx ws).length ≤ sizeLine := by rw [tx_len]; exact Nat.le_of_lt (small1000 (by omega))
    have zl2 : (tx ws).length + 2 ≤ sizeLine := by rw [tx_len, sizeLine_eq]; omega
    refine ⟨_, 
      (pss_cons (ps_set (i := 2) sc_bent_text.nd rfl (.inl rfl) (pe_call G_pull (hr.mono (by decide)) (by rfl) T.g_pull T.F_pull.kp T.b_pull .nil pass0 (pa_cons (L2.pv 0) (pa_cons (pe_op op_add (pe_callB call_len_str (by rfl) T.m_len PySem.boot_len (pa_cons (L2.pv 1) pa_nil)) pe_int) pa_nil))))
      (pss_cons (ps_set (i := 3) sc_bent_text.nd rfl (.inl rfl) (pe_call G_of (hr.mono (by decide)) (by rfl) T.g_of T.F_of.kp T.b_of .nil pass0 (pa_cons (L2.pv 0) (pa_cons pe_str pa_nil))))
      (pss_cons (ps_set (i := 4) sc_bent_text.nd rfl (.inl rfl) (pe_call G_pull (hr.mono (by decide)) (by rfl) T.g_pull T.F_pull.kp T.b_pull .nil pass0 (pa_cons (L2.pv 0) (pa_cons pe_int pa_nil))))
      (pss_cons (ps_set (i := 5) sc_bent_text.nd rfl (.inl rfl) (pe_split (L2.pv 1) pe_str))
      (pss_cons (ps_set (i := 6) sc_bent_text.nd rfl (.inl rfl) (pe_call G_pull (hr.mono (by decide)) (by rfl) T.g_pull T.F_pull.kp T.b_pull .nil pass0 (pa_cons (L2.pv 0) (pa_cons (pe_callB call_len_seq (by rfl) T.m_len PySem.boot_len (pa_cons (L2.pv 5) pa_nil)) pa_nil))))
      (pss_cons (ps_if (pt_cmpR op_lt (L2.pv 4) pe_int (nomark _))
        (pss_one (ps_ret (pe_op op_add_str (pe_op op_add_str (pe_slice sl_str (L2.pv 1) po_none (po_some (L2.pv 2))) (pe_ix ix_list (pe_lst (pa_cons (L2.pv 3) (pa_cons pe_str (pa_cons (L2.pv 3) pa_nil)))) (L2.pv 4) (fun _ _ => rfl))) (pe_slice sl_str (L2.pv 1) (po_some (pe_op op_add (L2.pv 2) (pe_callTy call_int1 (by rfl) T.m_int (by decide +kernel) (pa_cons (pe_cmpR op_gt (L2.pv 4) pe_int (nomark _)) pa_nil)))) po_none))))
        pss_nil)
      (pss_cons (ps_if (pt_cmpR op_eq (L2.pv 4) pe_int (nomark _))
        (pss_one (ps_ret (pe_join pe_str (pe_op op_cat (pe_slice sl_list (L2.pv 5) po_none (po_some (L2.pv 6))) (pe_slice sl_list (L2.pv 5) (po_some (pe_op op_add (L2.pv 6) pe_int)) po_none)))))
        pss_nil)
      (pss_cons (ps_set (i := 7) sc_bent_text.nd rfl (.inl rfl) (pe_lst (pa_cons pe_str (pa_cons pe_str (pa_cons pe_str (pa_cons pe_str (pa_cons pe_str (pa_cons pe_str (pa_cons pe_str (pa_cons pe_str (pa_cons pe_str (pa_cons pe_str pa_nil))))))))))))
      (pss_one (ps_ret (pe_join pe_str (pe_op op_cat (pe_op op_cat (pe_slice sl_list (L2.pv 5) po_none (po_some (L2.pv 6))) (pe_lst (pa_cons (pe_call G_of (hr.mono (by decide)) (by rfl) T.g_of T.F_of.kp T.b_of .nil pass0 (pa_cons (L2.pv 0) (pa_cons (L2.pv 7) pa_nil))) pa_nil))) (pe_slice sl_list (L2.pv 5) (po_some (pe_op op_sub (pe_op op_add (L2.pv 6) (L2.pv 4)) pe_int)) po_none))))))))))))), ?_⟩
    refine ⟨.ref b, rfl, .str (tx ws), rfl, tx ws, rfl, zl, _, 1, rfl, rfl, b, cl, _, rfl, hB, by rw [tx_len]; omega, by rw [tx_len]; omega, fun H1 n x1 n0 n1 => ?_⟩
    obtain ⟨n, rfl⟩ := Int.eq_ofNat_of_zero_le n0
    refine ⟨.ref b, rfl, b, cl, x1.bag, .inr ⟨_, rfl, by decide +kernel, by decide +kernel, fun H2 c x2 hc => ?_⟩⟩
    have hc : c < 128 := by
      have all : ∀ c ∈ (Str.ofString "a*z -A1\n").cps.toList, c < 128 := by decide +kernel
      exact all c hc
    refine ⟨.ref b, rfl, b, cl, 6, rfl, x2.bag, by decide, by decide, fun H3 k x3 k0 k1 => ?_⟩
    have x13 := x1.trans (x2.trans x3)
    refine ⟨.str (tx ws), rfl, ⟨_, rfl⟩, _, _, rfl, rfl, (by decide +kernel), zl2, fun p np => ?_⟩
    rw [show Str.ofString " " = sg 32 from by decide +kernel, split_tx fun c hc => Nat.lt_trans (asc c hc) (by decide)]
    have ls := splitL_len ws
    have l0 : 0 < (splitL ws).length := by
      obtain ⟨p, q, e⟩ := splitL_ne ws
      rw [e]
      simp
    have x4 := x13.trans (.new (o := .lst (((splitL ws).map tx).map V.str)) x13.bag np)
    refine ⟨.ref b, rfl, .ref p, rfl, p, _, rfl, .inl (.of upd_same), b, cl, _, rfl, x4.bag, by rw [List.length_map, List.length_map]; omega, by rw [List.length_map, List.length_map]; omega, fun H5 o x5 o0 o1 => ?_⟩
    obtain ⟨o, rfl⟩ := Int.eq_ofNat_of_zero_le o0
    have x45 := x4.trans x5
    have ep := x5.keep p _ (x13.bag.nb np) upd_same
    have asS : ∀ r ∈ splitL ws, ∀ c ∈ r, c < 128 := fun r hr c hc => asc c (split_sub hr c hc)
    refine ⟨.int k, rfl, _, _, rfl, rfl, _, rfl, ite2 (fun hk => ?_) (fun hk => ?_)⟩
    · have hk : k < 3 := of_decide_eq_true hk
      refine ⟨.str (tx ws), rfl, noPart ⟨.int (n : Nat), rfl, _, rfl, tx ws, rfl, zl, ?_⟩⟩
      rw [cutS_take]
      refine ⟨.str (sg c), rfl, .str (sg c), rfl, (by show 3 ≤ sizeLine; decide), fun l nl => ?_⟩
      have x6 := x45.trans (.new (o := .lst [.str (sg c), .str (Str.ofString ""), .str (sg c)]) x45.bag nl)
      obtain ⟨vs, ev, lv, av⟩ : ∃ vs : List Nat, atI [V.str (sg c), .str (Str.ofString ""), .str (sg c)] k = some (.str (tx vs)) ∧ vs.length ≤ 1 ∧ ∀ d ∈ vs, d < 128 := by
        have h3 : k = 0 ∨ k = 1 ∨ k = 2 := by omega
        rcases h3 with rfl | rfl | rfl
        · exact ⟨[c], rfl, Nat.le_refl _, fun d hd => by rw [List.mem_singleton.mp hd]; exact hc⟩
        · exact ⟨[], rfl, Nat.zero_le _, fun d hd => by cases hd⟩
        · exact ⟨[c], rfl, Nat.le_refl _, fun d hd => by rw [List.mem_singleton.mp hd]; exact hc⟩
      have lt1 : (ws.take n).length ≤ ws.length := by rw [List.length_take]; omega
      refine ⟨.int k, rfl, l, _, _, .str (tx vs), rfl, rfl, .of upd_same, ev, _, _, rfl, rfl, by rw [tx_len, tx_len, sizeLine_eq]; omega, ?_⟩
      refine ⟨.str (tx ws), rfl, .int (n : Nat), rfl, .int k, rfl, _, _, rfl, rfl, .inr ⟨_, rfl, _, _, rfl, rfl, _, rfl, noPart ⟨tx ws, rfl, zl, ?_⟩⟩⟩
      obtain ⟨m, hm⟩ : ∃ m : Nat, (n : Int) + (if decide (0 < k) = true then 1 else 0) = (m : Nat) := by
        by_cases h : 0 < k
        · exact ⟨n + 1, by rw [if_pos (decide_eq_true h)]; omega⟩
        · exact ⟨n, by rw [if_neg (by simpa using h)]; omega⟩
      rw [hm, cutS_drop, tx_app]
      have ld : (ws.drop m).length ≤ ws.length := by rw [List.length_drop]; omega
      have hm2 : n ≤ m := by
        have : (0 : Int) ≤ if decide (0 < k) = true then 1 else 0 := by split <;> decide
        omega
      have lall : (ws.take n).length + (ws.drop m).length ≤ ws.length := by
        rw [List.length_take, List.length_drop]
        omega
      refine ⟨_, _, rfl, rfl, by rw [tx_len, tx_len, List.length_append, sizeLine_eq]; omega, ?_⟩
      rw [tx_app]
      refine q _ _ x6 (fun d hd => ?_) (by rw [List.length_append, List.length_append]; omega)
      rcases List.mem_append.mp hd with hd | hd
      · rcases List.mem_append.mp hd with hd | hd
        · exact asc d (List.mem_of_mem_take hd)
        · exact av d hd
      · exact asc d (List.mem_of_mem_drop hd)
    · have hk : ¬ k < 3 := fun h => hk (decide_eq_true h)
      have fin : ∀ (G : Hp) (L : List (List Nat)) (D : Addr), BX b cl H G → G D = some (.lst ((L.map tx).map V.str)) → tot L + L.length ≤ ws.length + 5 → (tot L + L.length ≤ ws.length + 4 ∨ L ≠ []) → (∀ p ∈ L, ∀ c ∈ p, c < 128) →
          ∃ a p, ∃ ys : List Str, V.str (Str.ofString " ") = .str a ∧ [V.ref D] = [.ref p] ∧ (SqL K G p (ys.map V.str) ∨ SqT K G p (ys.map V.str)) ∧ (ys.map (·.length)).sum + ys.length * a.length ≤ 16777216 ∧ Q (.str (Txt.join a ys)) G := fun G L D xG eD t1 t2 ha => by
        refine ⟨_, D, L.map tx, rfl, rfl, .inl (.of eD), ?_, ?_⟩
        · rw [tot_tx, List.length_map]
          have : (Str.ofString " ").length = 1 := by decide +kernel
          rw [this]
          omega
        · rw [join_blank]
          have jl := joinL_le L
          refine q _ _ xG (fun c hc => ?_) ?_
          · rcases joinL_mem hc with z | ⟨p, hp, z⟩
            · rw [z]
              decide
            · exact ha p hp c z
          · rcases t2 with t2 | t2
            · omega
            · have := jl.2 t2
              omega
      refine ⟨.int k, rfl, rfl, _, rfl, ite2 (fun h3 => ?_) (fun h3 => ?_)⟩
      · refine ⟨⟨_, rfl⟩, .ref p, rfl, noPart ⟨.int (o : Nat), rfl, _, rfl, p, _, rfl, .of ep, fun u nu => ?_⟩⟩
        rw [cut_take]
        have epu : (upd H5 u (.lst ((((splitL ws).map tx).map V.str).take o))) p = some (.lst (((splitL ws).map tx).map V.str)) := (upd_ne (ne_of_none ep nu)).trans ep
        refine ⟨.ref p, rfl, .int (o : Nat), rfl, _, 1, rfl, rfl, _, rfl, noPart ⟨p, _, rfl, .of epu, fun v nv => ?_⟩⟩
        rw [show ((o : Nat) : Int) + 1 = ((o + 1 : Nat) : Int) by omega, cut_dropV]
        have uv : u ≠ v := ne_of_none upd_same nv
        refine ⟨u, v, _, _, rfl, rfl, (upd_ne uv).trans upd_same, upd_same, ?_, fun t nt => ?_⟩
        · rw [List.length_take, List.length_drop, List.length_map, List.length_map, sizeLine_eq]
          omega
        · have x6 := x45.trans (.new (o := .lst ((((splitL ws).map tx).map V.str).take o)) x45.bag nu)
          have x7 := x6.trans (.new (o := .lst ((((splitL ws).map tx).map V.str).drop (o + 1))) x6.bag nv)
          have cs := cut_sub (splitL ws) (show o ≤ o + 1 by omega)
          have ts := tot_sub cs
          have lsb := cs.length_le
          refine fin _ ((splitL ws).take o ++ (splitL ws).drop (o + 1)) t (x7.trans (.new x7.bag nt)) ?_ (by omega) (.inl (by omega)) fun r hr => asS r (cs.subset hr)
          rw [upd_same, List.map_append, List.map_append, List.map_take, List.map_take, List.map_drop, List.map_drop]
      · refine ⟨(by show 10 ≤ sizeLine; decide), fun g ng => ?_⟩
        have x6 := x45.trans (.new (o := .lst (oddTx.map V.str)) x45.bag ng)
        have epg : (upd H5 g (.lst (oddTx.map V.str))) p = some (.lst (((splitL ws).map tx).map V.str)) := (upd_ne (ne_of_none ep ng)).trans ep
        refine ⟨⟨_, rfl⟩, .ref p, rfl, noPart ⟨.int (o : Nat), rfl, _, rfl, p, _, rfl, .of epg, fun u nu => ?_⟩⟩
        rw [cut_take]
        have x7 := x6.trans (.new (o := .lst ((((splitL ws).map tx).map V.str).take o)) x6.bag nu)
        have gu : g ≠ u := ne_of_none (H := upd H5 g (.lst (oddTx.map V.str))) upd_same nu
        refine ⟨.ref b, rfl, .ref g, rfl, b, cl, x7.bag, .inl ⟨g, oddTx.map V.str, rfl, ⟨x45.bag.nb ng, (upd_ne gu).trans upd_same⟩, by show 0 < 10; decide, by show 10 < 1000000; decide, fun G v xv hv => ?_⟩⟩
        obtain ⟨z, hz, rfl⟩ := List.mem_map.mp hv
        obtain ⟨lz, az⟩ := odd_ok z hz
        have ez := tx_of z
        generalize z.cps.toList = zs at az ez
        subst ez
        rw [tx_len] at lz
        have eu := xv.keep u _ (x6.bag.nb nu) upd_same
        have epG := xv.keep p _ (x13.bag.nb np) ((upd_ne (ne_of_none epg nu)).trans epg)
        refine ⟨(by show 1 ≤ sizeLine; decide), fun t nt => ?_⟩
        have x8 := (x7.trans xv).trans (.new (o := .lst [.str (tx zs)]) (x7.trans xv).bag nt)
        refine ⟨u, t, _, _, rfl, rfl, (upd_ne (ne_of_none eu nt)).trans eu, upd_same, ?_, fun r nr => ?_⟩
        · rw [List.length_take, List.length_map, List.length_map, sizeLine_eq]
          show _ + 1 ≤ _
          omega
        have x9 := x8.trans (.new (o := .lst ((((splitL ws).map tx).map V.str).take o ++ [.str (tx zs)])) x8.bag nr)
        have ept := (upd_ne (o := .lst [.str (tx zs)]) (ne_of_none epG nt)).trans epG
        refine ⟨.ref p, rfl, .int (o : Nat), rfl, .int k, rfl, _, _, rfl, rfl, _, 4, rfl, rfl, _, rfl, noPart ⟨p, _, rfl, .of ((upd_ne (ne_of_none ept nr)).trans ept), fun y ny => ?_⟩⟩
        have hk4 : 4 ≤ k := by
          have : k ≠ 3 := fun e => h3 (decide_eq_true (by rw [e]))
          omega
        obtain ⟨m, hm⟩ : ∃ m : Nat, (o : Int) + k - 4 = (m : Nat) := ⟨((o : Int) + k - 4).toNat, by omega⟩
        rw [hm, cut_dropV]
        have ry : r ≠ y := ne_of_none upd_same ny
        refine ⟨r, y, _, _, rfl, rfl, (upd_ne ry).trans upd_same, upd_same, ?_, fun t2 nt2 => ?_⟩
        · rw [List.length_append, List.length_take, List.length_drop, List.length_map, List.length_map, sizeLine_eq]
          show _ + 1 + _ ≤ _
          omega
        · have x10 := x9.trans (.new (o := .lst ((((splitL ws).map tx).map V.str).drop m)) x9.bag ny)
          have cs := cut_sub (splitL ws) (show o ≤ m by omega)
          have ts := tot_sub cs
          have lsb := cs.length_le
          rw [tot_app] at ts
          rw [List.length_append] at lsb
          refine fin _ ((splitL ws).take o ++ [zs] ++ (splitL ws).drop m) t2 (x10.trans (.new x10.bag nt2)) ?_ ?_ (.inr (by simp)) fun r hr => ?_
          · rw [upd_same, List.map_append, List.map_append, List.map_append, List.map_append, List.map_take, List.map_take, List.map_drop, List.map_drop]
            rfl
          · rw [tot_app, tot_app, List.length_append, List.length_append]
            show tot _ + (zs.length + 0) + tot _ + (_ + 1 + _) ≤ _
            omega
          · rcases List.mem_append.mp hr with hr | hr
            · rcases List.mem_append.mp hr with hr | hr
              · exact asS r (List.mem_of_mem_take hr)
              · rw [List.mem_singleton.mp hr]
                exact fun c hc => of_decide_eq_true (List.all_eq_true.mp az c hc)
            · exact asS r (List.mem_of_mem_drop hr)

/-! ### what is due: atoms, and None where there is none -/
def DueR (H : Hp) (v : V) (a : Atm) : Prop := (atB a = true ∧ ∃ r, v = .ref r ∧ H r = some (.tup [.str (tx a.1), .bl a.2])) ∨ (atB a = false ∧ v = .non)
theorem DueR.mv {H H' : Hp} (k : ∀ r t, H r = some (.tup t) → H' r = some (.tup t)) {v : V} {a : Atm} (h : DueR H v a) : DueR H' v a := by
  rcases h with ⟨h1, r, h2, h3⟩ | h
  · exact .inl ⟨h1, r, h2, k r _ h3⟩
  · exact .inr h
theorem due_dp {H : Hp} {xs : List V} {as : List Atm} (p : Paired (DueR H) xs as) : ∃ ds, DpAll K H xs ds ∧ PyData.canLayAll0 ds = true ∧ PyData.depthAll ds ≤ 1 ∧ (ds.any fun z => PyData.eqv z .none) = !as.all atB := by
  induction p with
  | nil => exact ⟨[], .nil, rfl, Nat.zero_le _, rfl⟩
  | @cons v a xs as r _ ih =>
    obtain ⟨ds, h1, h2, h3, h4⟩ := ih
    rcases r with ⟨hb, r, rfl, hr⟩ | ⟨hb, rfl⟩
    · refine ⟨dA a :: ds, .cons (.tup (.of hr) (.cons (.str _) (.cons (.bl _) .nil))) h1, ?_, ?_, ?_⟩
      · show (PyData.canLay0 (dA a) && PyData.canLayAll0 ds) = true
        rw [dA_lay (atB_iff.mp hb).ascii, h2]
        rfl
      · show max (PyData.depth (dA a)) (PyData.depthAll ds) ≤ 1
        have : PyData.depth (dA a) = 1 := rfl
        omega
      · rw [List.any_cons, List.all_cons, h4, hb]
        rfl
    · refine ⟨.none :: ds, .cons .non h1, ?_, ?_, ?_⟩
      · show (true && PyData.canLayAll0 ds) = true
        rw [h2]
        rfl
      · show max 0 (PyData.depthAll ds) ≤ 1
        omega
      · rw [List.any_cons, List.all_cons, hb]
        rfl
theorem due_shaped {ds : List PyData} (h2 : PyData.canLayAll0 ds = true) (h3 : PyData.depthAll ds ≤ 1) : SeqAt.shaped (.tuple ds) = true := by
  unfold SeqAt.shaped
  rw [show PyData.canLay0 (.tuple ds) = PyData.canLayAll0 ds from rfl, h2, show PyData.depth (.tuple ds) = PyData.depthAll ds + 1 from rfl]
  exact decide_eq_true (by omega)
theorem due_rp {H : Hp} {xs : List V} {as : List Atm} (p : Paired (DueR H) xs as) : as.all atB = true → Paired (Rp (fun _ => False) H 1) xs (as.map atD) := by
  induction p with
  | nil => exact fun _ => .nil
  | @cons v a xs as r _ ih =>
    intro h
    rw [List.all_cons, Bool.and_eq_true] at h
    rcases r with ⟨hb, r, rfl, hr⟩ | ⟨hb, rfl⟩
    · exact .cons (rp_atom (fun z => z) (atB_iff.mp hb).ascii hr) (ih h.2)
    · rw [hb] at h
      cases h.1
theorem Sam.up {H : Hp} : ∀ {n : Nat} {v w : V}, Sam K H n v w → Sam K H (n + 1) v w
  | 0, _, _, h => .inl h
  | n + 1, _, _, h => by
    rcases h with h | ⟨a, c, xs, ys, e1, e2, h, hz, p⟩
    · exact .inl h
    · exact .inr ⟨a, c, xs, ys, e1, e2, h, hz, Paired.mapP p fun _ _ q => Sam.up q⟩
theorem prT_len {as : List Atm} (ok : ∀ a ∈ as, AtOk a) (la : as.length ≤ 6) : (prT as).length ≤ 180 ∧ ∀ c ∈ prT as, c < 128 := by
  unfold prT
  by_cases h : as = []
  · rw [if_pos h]
    exact ⟨by decide, fun c hc => by rw [List.mem_singleton.mp hc]; decide⟩
  · rw [if_neg h]
    have al : ∀ p ∈ as.map atmTx, p.length ≤ 27 ∧ ∀ c ∈ p, c < 128 := fun p hp => by
      obtain ⟨a, ha, rfl⟩ := List.mem_map.mp hp
      have oka := ok a ha
      have := rise_few oka.rs oka.lw
      unfold atmTx
      split
      · refine ⟨by rw [List.length_append, List.length_singleton]; omega, fun c hc => ?_⟩
        rcases List.mem_append.mp hc with z | z
        · have := oka.lw c z
          omega
        · rw [List.mem_singleton.mp z]
          decide
      · exact ⟨by omega, fun c hc => by have := oka.lw c hc; omega⟩
    refine ⟨?_, fun c hc => ?_⟩
    · have h1 := (joinL_le (as.map atmTx)).1
      have h2 := tot_le (ws := as.map atmTx) (k := 27) fun p hp => (al p hp).1
      rw [List.length_map] at h1 h2
      have : 27 * as.length ≤ 27 * 6 := Nat.mul_le_mul_left 27 la
      omega
    · rcases joinL_mem hc with z | ⟨p, hp, z⟩
      · rw [z]
        decide
      · exact (al p hp).2 c z

/-! ### the law -/
theorem lett_nd {f y : Int} (hy : y ∈ [(1 : Int), 3, 5, 7, 9, 11]) {n : Nat} (hn : n ≤ 26) : ((List.range n).map (lett f y)).Nodup := by
  refine List.pairwise_map.mpr ((List.nodup_range (n := n)).imp_of_mem fun {i j} hi hj ne h => ne (lett_inj hy ?_ ?_ h))
  · have := List.mem_range.mp hi
    omega
  · have := List.mem_range.mp hj
    omega
theorem lett_lw {f y : Int} {n : Nat} : ∀ c ∈ (List.range n).map (lett f y), 97 ≤ c ∧ c < 123 := fun c hc => by
  obtain ⟨k, _, rfl⟩ := List.mem_map.mp hc
  exact lett_bd f y k
theorem str_dash (ws : List Nat) : decide (V.str (tx ws) = V.str (Str.ofString "-")) = decide (ws = [45]) := by
  by_cases h : ws = [45]
  · subst h
    rfl
  · rw [decide_eq_false h]
    exact decide_eq_false fun z => h (by
      injection z with z
      have := congrArg (fun s : Str => s.cps.toList) z
      exact this.trans (by decide +kernel))
abbrev lamQ : Str := (envOfC (Str.ofString "law") (defScope s_law) 0 0 .none).qual ++ "<lambda>"
def sp_law (K : PySem.W.Frag) (P1 : Addr) : Sp := fun vs H Q _ => ∃ (a : Addr) (ns : List Int), vs = [.ref a] ∧ SqL K H a (ns.map V.int) ∧ ns.length ≤ 63 ∧ H P1 = some (.tbl #[]) ∧ ∀ H', Q (.bl true) H'
theorem ok_law_at {c1 P1 : Addr} (T : Tx K mg) (TB : LamX.TabB base mg c1 P1) (hcode : T.fd_law.code = .ref c1) : FnOk P w K mg base CX0 9 T.f_law T.fd_law P_law (sp_law K P1) := by
  have G_bag : FnOk P w K mg base CX0 1 T.f_bag T.fd_bag P_bag (sp_bag K) := ok_bag T
  have G_pull : FnOk P w K mg base CX0 1 T.f_pull T.fd_pull P_pull sp_pull := ok_pull T
  have G_of : FnOk P w K mg base CX0 2 T.f_of T.fd_of P_of sp_of := ok_of T
  have G_letters : FnOk P w K mg base CX0 3 T.f_letters T.fd_letters P_letters sp_letters := ok_letters T
  have G_product : FnOk P w K mg base CX0 3 T.f_product T.fd_product P_product sp_product := ok_product T
  have G_atoms_text : FnOk P w K mg base CX0 1 T.f_atoms_text T.fd_atoms_text P_atoms_text sp_atoms_text := ok_atoms_text T
  have G_bent_text : FnOk P w K mg base CX0 3 T.f_bent_text T.fd_bent_text P_bent_text sp_bent_text := ok_bent_text T
  have G_atom_read : FnOk P w K mg base CX0 1 T.f_atom_read T.fd_atom_read P_atom_read sp_atom_read := ok_atom_read T
  have G_same : FnOk P w K mg base CX0 4 T.f_same T.fd_same P_same (sp_same K 3) := ok_same T 3
  have G_p_product_text : FnOk P w K mg base CX0 6 T.f_p_product_text T.fd_p_product_text P_p_product_text sp_p_product_text := ok_p_product_text T
  have G_p_read_product : FnOk P w K mg base (L2.CX P w) 5 T.f_p_read_product T.fd_p_read_product P_p_read_product (sp_p_read_product T.C_BadText) := ok_p_read_product T
  obtain ⟨oR, dR, kR, mR, pR, aR, cR, tR, sR, eR, lR, hR⟩ := T.F_refusal.ex
  have bR := T.b_refusal
  rw [eR] at lR bR
  refine okC T.F_law sc_law (fun vs H Q E h => ?_) (fun cdv hcd A outer s H vs Q E hr h => ?_)
  · obtain ⟨a, ns, rfl, _⟩ := h
    rfl
  · obtain ⟨a, ns, rfl, hS, hlen, hT0, q⟩ := h
    obtain rfl : cdv = .ref c1 := hcd.symm.trans hcode
    refine ⟨_, 
      (pss_cons (ps_set (i := 1) sc_law.nd rfl (.inl rfl) (pe_call G_bag (hr.mono (by decide)) (by rfl) T.g_bag T.F_bag.kp T.b_bag .nil pass0 (pa_cons (L2.pv 0) pa_nil)))
      (pss_cons (ps_set (i := 2) sc_law.nd rfl (.inl rfl) (pe_call G_letters (hr.mono (by decide)) (by rfl) T.g_letters T.F_letters.kp T.b_letters .nil pass0 (pa_cons (L2.pv 1) pa_nil)))
      (pss_cons (ps_for PassesOwn.never rfl (pi_range1 (by rfl) T.m_range (pa_cons pe_int pa_nil)) (pg_name (i := 3) sc_law.nd rfl (.inl rfl))
        (pss_cons (ps_set (i := 4) sc_law.nd rfl (.inl rfl) (pe_call G_product (hr.mono (by decide)) (by rfl) T.g_product T.F_product.kp T.b_product .nil pass0 (pa_cons (L2.pv 1) (pa_cons (L2.pv 2) (pa_cons pe_int pa_nil)))))
        (pss_cons (ps_set (i := 7) sc_law.nd rfl (.inr rfl) (pe_call G_atoms_text (hr.mono (by decide)) (by rfl) T.g_atoms_text T.F_atoms_text.kp T.b_atoms_text .nil pass0 (pa_cons (L2.pv 4) pa_nil)))
        (pss_cons (ps_if (pt_not (pt_val (pe_call G_same (hr.mono (by decide)) (by rfl) T.g_same T.F_same.kp T.b_same .nil pass0 (pa_cons (pe_lst (pa_cons (pe_call G_p_product_text (hr.mono (by decide)) (by rfl) T.g_p_product_text T.F_p_product_text.kp T.b_p_product_text .nil pass0 (pa_cons (L2.pv 4) pa_nil)) (pa_cons (pe_call G_p_read_product (hr.mono (by decide)) (by rfl) T.g_p_read_product T.F_p_read_product.kp T.b_p_read_product .nil passL (pa_cons (L2.pv 7) pa_nil)) pa_nil))) (pa_cons (pe_lst (pa_cons (L2.pv 7) (pa_cons (L2.pv 4) pa_nil))) pa_nil)))))
          (pss_one (ps_ret pe_bl))
          pss_nil)
        (pss_cons (ps_for PassesOwn.never rfl (pi_range1 (by rfl) T.m_range (pa_cons (pe_op op_add pe_int (pe_call G_pull (hr.mono (by decide)) (by rfl) T.g_pull T.F_pull.kp T.b_pull .nil pass0 (pa_cons (L2.pv 1) (pa_cons pe_int pa_nil)))) pa_nil)) (pg_name (i := 5) sc_law.nd rfl (.inl rfl))
          (pss_one (ps_set (i := 7) sc_law.nd rfl (.inr rfl) (pe_call G_bent_text (hr.mono (by decide)) (by rfl) T.g_bent_text T.F_bent_text.kp T.b_bent_text .nil pass0 (pa_cons (L2.pv 1) (pa_cons (L2.pv 7) pa_nil))))))
        (Evl.pss_cut (ps_set (i := 6) sc_law.nd rfl (.inl rfl) (pe_ifExp (pt_cmpR op_eq (L2.pv 7) pe_str (nomark _)) (pe_tup pa_nil) (pe_callTy call_tuple_of (by rfl) T.m_tuple (by decide +kernel) (pa_cons (pe_lc (own := [("_law_word", 8)]) (g := (gName 8)) (tt := tYes) (by rfl) sc_law.nd (pi_list (pe_split (L2.pv 7) pe_str)) (blkOk_by (own := [("_law_word", 8)]) (N := N_law) (sc := defScope s_law) (by decide +kernel)) (fun _ _ _ _ _ => (pg_name (i := 8) sc_law.nd rfl (.inl rfl))) (fun _ _ _ _ _ => pts_nil) (fun _ _ _ _ _ => (pe_call G_atom_read (hr.mono (by decide)) (by rfl) T.g_atom_read T.F_atom_read.kp T.b_atom_read .nil pass0 (pa_cons (L2.pv 8) pa_nil)))) pa_nil))))
        (pss_one (ps_if (pt_cmpR (LB.op_inDT (LB.units65 hr)) pe_non (L2.pv 6) (by with_unfolding_all rfl))
          (pss_one (ps_if (pt_cmpR (op_neD hr.units) (LamX.pe_lamcall (k := 5) (T := [(P1, _)]) (by rfl) T.g_refusal T.F_refusal.kp lR hR bR sc_refusal rfl (.inl rfl) (refusal_gives T.gC_LeakError T.m_isinstance T.m_ValueError T.m_LookupError) TB rfl List.mem_cons_self (fun p hp _ => by rw [List.mem_singleton.mp hp]) (hr.mono (by decide)) (LamX.lamS_by (by show LamX.lamSB (defScope s_law) _ = true; decide +kernel)) rfl (fun _ _ _ _ _ => rfl) (fun A2 o2 s2 H2 E2 f2 c2 hr2 => pe_call G_p_read_product hr2 (by rfl) T.g_p_read_product T.F_p_read_product.kp T.b_p_read_product .nil (passes_call (takes_of rfl rfl rfl rfl) (fun _ _ _ _ h => h)) (pa_cons (L2.pv 7) pa_nil))) (pe_tup (pa_cons pe_str (pa_cons pe_int pa_nil))) (nomark _))
            (pss_one (ps_ret pe_bl))
            pss_nil))
          (pss_one (ps_if (pt_not (pt_val (pe_call G_same (hr.mono (by decide)) (by rfl) T.g_same T.F_same.kp T.b_same .nil pass0 (pa_cons (pe_call G_p_read_product (hr.mono (by decide)) (by rfl) T.g_p_read_product T.F_p_read_product.kp T.b_p_read_product .nil passL (pa_cons (L2.pv 7) pa_nil)) (pa_cons (L2.pv 6) pa_nil)))))
            (pss_one (ps_ret pe_bl))
            pss_nil))))))))))
      (pss_one (ps_ret (pe_cmpR (op_eqD hr.units) (LamX.pe_lamcall (k := 5) (T := [(P1, _)]) (by rfl) T.g_refusal T.F_refusal.kp lR hR bR sc_refusal rfl (.inl rfl) (refusal_gives T.gC_LeakError T.m_isinstance T.m_ValueError T.m_LookupError) TB rfl List.mem_cons_self (fun p hp _ => by rw [List.mem_singleton.mp hp]) (hr.mono (by decide)) (LamX.lamS_by (by show LamX.lamSB (defScope s_law) _ = true; decide +kernel)) rfl (fun _ _ _ _ _ => rfl) (fun A2 o2 s2 H2 E2 f2 c2 hr2 => pe_call G_p_read_product hr2 (by rfl) T.g_p_read_product T.F_p_read_product.kp T.b_p_read_product .nil (passes_call (takes_of rfl rfl rfl rfl) (fun _ _ _ _ h => h)) (pa_cons pe_str pa_nil))) (pe_tup (pa_cons pe_str (pa_cons pe_int pa_nil))) (nomark _))))))), ?_⟩
    refine ⟨.ref a, rfl, a, ns, rfl, hS, hlen, fun H1 b cl s1 hB nb => ?_⟩
    refine ⟨.ref b, rfl, b, cl, rfl, hB, fun H2 p f y x2 np f0 f1 hy ep => ?_⟩
    have hT1 : LamX.Tabs [(P1, lamQ)] H1 := fun z hz => by
      rw [List.mem_singleton.mp hz]
      exact LamX.TabS.nil (s1 _ _ hT0)
    have hT2 := tabs_bx hB x2 hT1
    have nd := lett_nd (f := f) hy (n := 3) (by decide)
    have lw := lett_lw (f := f) (y := y) (n := 3)
    have l3 : ((List.range 3).map (lett f y)).length = 3 := by simp
    have hP : At b H2 p (.lst (lets ((List.range 3).map (lett f y)))) := ⟨hB.nb np, ep⟩
    generalize (List.range 3).map (lett f y) = cs at nd lw l3 hP
    refine ⟨6, rfl, by decide, by decide, for_range (lo := 0) (n := 6) (fun _ σ G => ∃ y3 y4 y5 y6 y7, σ = [some (.ref a), some (.ref b), some (.ref p), y3, y4, y5, y6, y7, none] ∧ Bag b cl G ∧ At b G p (.lst (lets cs)) ∧ LamX.Tabs [(P1, lamQ)] G) ⟨none, none, none, none, none, rfl, x2.bag, hP, hT2⟩ (fun i σ H3 hi h => ?_) (fun σ H3 h => ?_)⟩
    · obtain ⟨y3, y4, y5, y6, y7, rfl, hB3, hP3, hT3⟩ := h
      refine ⟨.ref b, rfl, .ref p, rfl, b, cl, p, cs, 6, rfl, hB3, hP3, by omega, by omega, nd, lw, by decide, by decide, fun H4 v as x4 rp la oka => ?_⟩
      have ok : ∀ x ∈ as, AtOk x := fun x hx => (oka x hx).1
      have la6 : as.length ≤ 6 := by omega
      obtain ⟨pl, pa⟩ := prT_len ok la6
      refine ⟨v, rfl, _, v, as, rfl, rp, ok, by omega, fun H5 s5 => ?_⟩
      have rp5 := rp.mv (Same.kp s5)
      refine ⟨v, rfl, _, v, as, rfl, rp5, ok, by omega, fun H6 s6 => ?_⟩
      have rp6 := rp5.mv (Same.kp s6)
      have eR2 : rdP (prT as) = as := rdP_tx ok
      refine ⟨.str (tx (prT as)), rfl, prT as, rfl, pa, by omega, fun _ H7 u s7 ru => ?_, fun h => by
        rw [eR2, all_ok ok] at h
        cases h⟩
      rw [eR2] at ru
      refine ⟨(by show 2 ≤ sizeLine; decide), fun t1 n1 => ⟨.str (tx (prT as)), rfl, v, rfl, (by show 2 ≤ sizeLine; decide), fun t2 n2 => ?_⟩⟩
      have st := (same_new (o := .lst [.str (tx (prT as)), u]) n1).trans (same_new (o := .lst [.str (tx (prT as)), v]) n2)
      have n12 : t1 ≠ t2 := ne_of_none upd_same n2
      refine ⟨_, _, rfl, sam_lst ((upd_ne n12).trans upd_same) upd_same (by show 2 < 100000; decide) (.cons (.flat 2 rfl) (.cons (rp_sam (ru.mv (Same.kp st)) ((rp6.mv (Same.kp s7)).mv (Same.kp st))) .nil)), fun H8 s8 => ⟨_, rfl, iteF ?_⟩⟩
      have s48 := s5.trans (s6.trans (s7.trans (st.trans s8)))
      have x8 := x4.andSame s48
      have hB8 := x8.bag
      have hP8 := hP3.mv x8
      have hT8 := tabs_bx hB3 x8 hT3
      refine ⟨.ref b, rfl, b, cl, 2, rfl, hB8, by decide, by decide, fun H9 n x9 n0 n1 => ⟨1, _, rfl, rfl, _, rfl, by omega, by omega, ?_⟩⟩
      have hP9 := hP8.mv x9
      have hT9 := tabs_bx hB8 x9 hT8
      refine for_range (lo := 0) (n := (1 + n).toNat) (fun j σ G => ∃ y5 zs, σ = [some (.ref a), some (.ref b), some (.ref p), some (.int (0 + i)), some v, y5, y6, some (.str (tx zs)), none] ∧ Bag b cl G ∧ At b G p (.lst (lets cs)) ∧ LamX.Tabs [(P1, lamQ)] G ∧ (∀ c ∈ zs, c < 128) ∧ zs.length ≤ 180 + 4 * j) ⟨y5, prT as, rfl, x9.bag, hP9, hT9, pa, pl⟩ (fun j σ G hj h => ?_) (fun σ G h => ?_)
      · obtain ⟨y5, zs, rfl, hB, hP, hT, az, lz⟩ := h
        refine ⟨.ref b, rfl, .str (tx zs), rfl, b, cl, zs, rfl, hB, az, by omega, fun G2 zs2 x2 az2 lz2 => ?_⟩
        exact ⟨_, zs2, rfl, x2.bag, hP.mv x2, tabs_bx hB x2 hT, az2, by omega⟩
      obtain ⟨y5, zs, rfl, hB, hP, hT, az, lz⟩ := h
      have lz : zs.length < 200 := by omega
      clear hT9 hT8 hT3 hT2 hT1 hP9 hP8 hP3
      have zl2 : (tx zs).length + 2 ≤ sizeLine := by rw [tx_len, sizeLine_eq]; omega
      refine ⟨fun σ G2 => ∃ z xs, σ = [some (.ref a), some (.ref b), some (.ref p), some (.int (0 + i)), some v, y5, some (.ref z), some (.str (tx zs)), none] ∧ Same G G2 ∧ G2 z = some (.tup xs) ∧ xs.length < 100000 ∧ Paired (DueR G2) xs (rdP zs), ?_, fun σ G2 h => ?_⟩
      · refine ⟨.str (tx zs), rfl, rfl, _, rfl, ?_⟩
        rw [str_dash]
        by_cases h45 : zs = [45]
        · rw [decide_eq_true h45]
          have e : rdP zs = [] := if_pos h45
          rw [e]
          exact iteT ⟨Nat.zero_le _, fun z nz => ⟨z, [], rfl, same_new nz, upd_same, by decide, .nil⟩⟩
        · rw [decide_eq_false h45]
          have e : rdP zs = (splitL zs).map atomOf := if_neg h45
          rw [e]
          have ls := splitL_len zs
          have lt : ∀ r ∈ splitL zs, r.length < 900 := fun r hr => by
            have := tot_mem hr
            omega
          refine iteF ⟨.str (tx zs), rfl, ⟨_, rfl⟩, _, _, rfl, rfl, (by decide +kernel), zl2, fun r nr => ?_⟩
          rw [show Str.ofString " " = sg 32 from by decide +kernel, split_tx fun c hc => Nat.lt_trans (az c hc) (by decide)]
          refine ⟨r, rfl, ⟨_, .of upd_same⟩, fun D nD => ?_⟩
          have rD : r ≠ D := ne_of_none upd_same nD
          have nD0 : G D = none := (same_new nr).free nD
          refine lc_list (xs := ((splitL zs).map tx).map V.str) (fun i G2 => Same G G2 ∧ G2 r = some (.lst (((splitL zs).map tx).map V.str)) ∧ ∃ ys, G2 D = some (.lst ys) ∧ ys.length = i ∧ Paired (DueR G2) ys (((splitL zs).take i).map atomOf)) ⟨same_mut (same_new nr) nD0, (upd_ne rD).trans upd_same, [], upd_same, rfl, .nil⟩ (fun i G2 _ h => .of h.2.1) (fun i x G2 hx h => ?_) (fun G2 h => ?_)
          · obtain ⟨sm, er, ys, eD, ly, pp⟩ := h
            obtain ⟨w1, hw1, rfl⟩ : ∃ w1, (splitL zs)[i]? = some w1 ∧ x = V.str (tx w1) := by
              rw [List.getElem?_map, List.getElem?_map] at hx
              cases e : (splitL zs)[i]? with
              | none => rw [e] at hx; cases hx
              | some c => rw [e] at hx; exact ⟨c, rfl, (Option.some.inj hx).symm⟩
            have li := (List.getElem?_eq_some_iff.mp hw1).1
            have mw := mem_of_get hw1
            have app : ∀ (G3 : Hp) (u : V), Same G2 G3 → DueR G3 u (atomOf w1) → ∃ acc, G3 D = some (.lst acc) ∧ acc.length < sizeLine ∧ Same G (upd G3 D (.lst (acc ++ [u]))) ∧ (upd G3 D (.lst (acc ++ [u]))) r = some (.lst (((splitL zs).map tx).map V.str)) ∧ ∃ ys, (upd G3 D (.lst (acc ++ [u]))) D = some (.lst ys) ∧ ys.length = i + 1 ∧ Paired (DueR (upd G3 D (.lst (acc ++ [u])))) ys (((splitL zs).take (i + 1)).map atomOf) := fun G3 u s3 du => by
              have eD3 := s3 _ _ eD
              have kk : ∀ q t, G3 q = some (.tup t) → (upd G3 D (.lst (ys ++ [u]))) q = some (.tup t) := fun q t hq => by
                rw [upd_ne fun z => ?_]
                · exact hq
                · rw [z, eD3] at hq
                  cases hq
              refine ⟨ys, eD3, small1000 (by omega), same_mut (sm.trans s3) nD0, (upd_ne rD).trans (s3 _ _ er), ys ++ [u], upd_same, by simp [ly], ?_⟩
              rw [List.take_add_one, hw1, List.map_append]
              exact paired_app (Paired.mapP pp fun _ _ r => r.mv fun q t hq => kk q t (s3 _ _ hq)) (du.mv kk)
            refine ⟨rfl, .str (tx w1), rfl, w1, rfl, lt w1 mw, fun hb G3 s3 => ?_, fun hb G3 z s3 nz hz => ?_⟩
            · exact app G3 .non s3 (.inr ⟨hb, rfl⟩)
            · exact app G3 (.ref z) s3 (.inl ⟨hb, z, rfl, hz⟩)
          · obtain ⟨sm, er, ys, eD, ly, pp⟩ := h
            rw [List.length_map, List.length_map] at ly
            rw [List.length_map, List.length_map, List.take_length] at pp
            refine ⟨D, ys, rfl, .inl ⟨.of eD, fun z nz => ?_⟩⟩
            exact ⟨z, ys, rfl, sm.trans (same_new nz), upd_same, by omega, Paired.mapP pp fun _ _ r => r.mv fun q t hq => same_new nz _ _ hq⟩
      obtain ⟨z, xs, rfl, sG, ez, lx, pd⟩ := h
      have hB2 := hB.same sG
      have hP2 : At b G2 p (.lst (lets cs)) := ⟨hP.1, sG _ _ hP.2⟩
      have hT2 := tabs_same sG hT
      obtain ⟨ds, d1, d2, d3, d4⟩ := due_dp (K := K) pd
      refine ⟨.ref z, rfl, .none, ds, .non, .tup (.of ez) d1, rfl, due_shaped d2 d3, _, rfl, ?_⟩
      rw [d4]
      cases hA : (rdP zs).all atB with
      | false =>
        refine iteT ⟨hT2, fun G3 ex t3 p0 np0 => ?_⟩
        refine ⟨.str (tx zs), rfl, zs, rfl, az, by omega, (fun h => by rw [hA] at h; cases h), fun _ H' d sm nd hd => ?_⟩
        refine ⟨T.C_BadText, d, _, .str "badtext", .int 0, rfl, rfl, T.xc_BadText, T.em_BadText, T.kv_BadText, T.kl_BadText, T.no_BadText_word, T.no_BadText_at, hd, rfl, rfl, fun p1 np1 p2 np2 => ?_⟩
        refine ⟨(by show 2 ≤ sizeLine; decide), fun t nt => ?_⟩
        have n2t : p2 ≠ t := ne_of_none upd_same nt
        refine ⟨.tuple [.str "badtext", .int 0], .tuple [.str "badtext", .int 0], .tup (.of ((upd_ne n2t).trans upd_same)) (.cons (.str _) (.cons (.int _) .nil)), .tup (.of upd_same) (.cons (.str _) (.cons (.int _) .nil)), by decide +kernel, by decide +kernel, _, rfl, ?_⟩
        rw [show (!PyData.eqv (.tuple [.str "badtext", .int 0]) (.tuple [.str "badtext", .int 0])) = false from by decide +kernel]
        have S := (same_new np0).trans (sm.trans ((same_new np1).trans ((same_new np2).trans (same_new (o := .tup [.str "badtext", .int 0]) nt))))
        have hP3 := at_extN hP2 ex
        exact iteF ⟨_, _, _, _, _, rfl, (bag_extN hB2 ex).same S, ⟨hP3.1, S _ _ hP3.2⟩, tabs_same S t3⟩
      | true =>
        refine iteF ⟨.str (tx zs), rfl, zs, rfl, az, by omega, fun _ H7 u s7 ru => ?_, fun h => by rw [hA] at h; cases h⟩
        refine ⟨.ref z, rfl, _, _, rfl, Sam.up (rp_sam ru (rp_tup (av := fun _ => False) (fun h => h) (s7 _ _ ez) lx (Paired.mapP (due_rp pd hA) fun _ _ r => r.mv (Same.kp s7)))), fun H8 s8 => ⟨_, rfl, iteF ?_⟩⟩
        have S := s7.trans s8
        exact ⟨_, _, _, _, _, rfl, hB2.same S, ⟨hP2.1, S _ _ hP2.2⟩, tabs_same S hT2⟩
    · obtain ⟨y3, y4, y5, y6, y7, rfl, hB3, hP3, hT3⟩ := h
      refine ⟨hT3, fun G3 ex t3 p0 np0 => ?_⟩
      refine ⟨[], rfl, (fun c hc => by cases hc), by decide, fun h => absurd h (by decide), fun _ H' d sm nd hd => ?_⟩
      refine ⟨T.C_BadText, d, _, .str "badtext", .int 0, rfl, rfl, T.xc_BadText, T.em_BadText, T.kv_BadText, T.kl_BadText, T.no_BadText_word, T.no_BadText_at, hd, rfl, rfl, fun p1 np1 p2 np2 => ?_⟩
      refine ⟨(by show 2 ≤ sizeLine; decide), fun t nt => ?_⟩
      have n2t : p2 ≠ t := ne_of_none upd_same nt
      refine ⟨.tuple [.str "badtext", .int 0], .tuple [.str "badtext", .int 0], .tup (.of ((upd_ne n2t).trans upd_same)) (.cons (.str _) (.cons (.int _) .nil)), .tup (.of upd_same) (.cons (.str _) (.cons (.int _) .nil)), by decide +kernel, by decide +kernel, ?_⟩
      rw [show PyData.eqv (.tuple [.str "badtext", .int 0]) (.tuple [.str "badtext", .int 0]) = true from by decide +kernel]
      exact q _

end
set_option maxHeartbeats 0 in
theorem all_mk {l : PySem.W.OpenLaw} {w : World} {K : PySem.W.Frag} {h : Heap} {mg : Str → Option Value} {fa : Addr} (X : K.In h) (G : h.Ns mainGlobals mg) (hfa : mg "law" = some (.ref fa))
    {cC PC : Addr} {eC : Value} {dC : Option Addr} {vC : Array Value} {sC : Array (Option Value)}
    {f0 : Addr} {od0 an0 : Option Addr} {sl0 : Array (Option Value)} {oc0 kV0 dc0 pm0 cd0 ct0 : Value}
    {td0 : Addr} {ot0 : Value} {ht0 : Option Addr} {st0 : Array (Option Value)} {nt0 : Nat}
    {w0_0 : Tok}
    {w0_1 : Tok}
    {f1 : Addr} {od1 an1 : Option Addr} {sl1 : Array (Option Value)} {oc1 kV1 dc1 pm1 cd1 ct1 : Value}
    {td1 : Addr} {ot1 : Value} {ht1 : Option Addr} {st1 : Array (Option Value)} {nt1 : Nat}
    {w1_0 : Tok}
    {f2 : Addr} {od2 an2 : Option Addr} {sl2 : Array (Option Value)} {oc2 kV2 dc2 pm2 cd2 ct2 : Value}
    {td2 : Addr} {ot2 : Value} {ht2 : Option Addr} {st2 : Array (Option Value)} {nt2 : Nat}
    {w2_0 : Tok}
    {f3 : Addr} {od3 an3 : Option Addr} {sl3 : Array (Option Value)} {oc3 kV3 dc3 pm3 cd3 ct3 : Value}
    {f4 : Addr} {od4 an4 : Option Addr} {sl4 : Array (Option Value)} {oc4 kV4 dc4 pm4 cd4 ct4 : Value}
    {f5 : Addr} {od5 an5 : Option Addr} {sl5 : Array (Option Value)} {oc5 kV5 dc5 pm5 cd5 ct5 : Value}
    {f6 : Addr} {od6 an6 : Option Addr} {sl6 : Array (Option Value)} {oc6 kV6 dc6 pm6 cd6 ct6 : Value}
    {f7 : Addr} {od7 an7 : Option Addr} {sl7 : Array (Option Value)} {oc7 kV7 dc7 pm7 cd7 ct7 : Value}
    {f8 : Addr} {od8 an8 : Option Addr} {sl8 : Array (Option Value)} {oc8 kV8 dc8 pm8 cd8 ct8 : Value}
    {f9 : Addr} {od9 an9 : Option Addr} {sl9 : Array (Option Value)} {oc9 kV9 dc9 pm9 cd9 ct9 : Value}
    {f10 : Addr} {od10 an10 : Option Addr} {sl10 : Array (Option Value)} {oc10 kV10 dc10 pm10 cd10 ct10 : Value}
    {f11 : Addr} {od11 an11 : Option Addr} {sl11 : Array (Option Value)} {oc11 kV11 dc11 pm11 cd11 ct11 : Value}
    {f12 : Addr} {od12 an12 : Option Addr} {sl12 : Array (Option Value)} {oc12 kV12 dc12 pm12 cd12 ct12 : Value}
    {f13 : Addr} {od13 an13 : Option Addr} {sl13 : Array (Option Value)} {oc13 kV13 dc13 pm13 cd13 ct13 : Value}
    {f14 : Addr} {od14 an14 : Option Addr} {sl14 : Array (Option Value)} {oc14 kV14 dc14 pm14 cd14 ct14 : Value}
    {f15 : Addr} {od15 an15 : Option Addr} {sl15 : Array (Option Value)} {oc15 kV15 dc15 pm15 cd15 ct15 : Value}
    {f16 : Addr} {od16 an16 : Option Addr} {sl16 : Array (Option Value)} {oc16 kV16 dc16 pm16 cd16 ct16 : Value}
    {f17 : Addr} {od17 an17 : Option Addr} {sl17 : Array (Option Value)} {oc17 kV17 dc17 pm17 cd17 ct17 : Value}
    {f18 : Addr} {od18 an18 : Option Addr} {sl18 : Array (Option Value)} {oc18 kV18 dc18 pm18 cd18 ct18 : Value}
    {f19 : Addr} {od19 an19 : Option Addr} {sl19 : Array (Option Value)} {oc19 kV19 dc19 pm19 cd19 ct19 : Value}
    {f20 : Addr} {od20 an20 : Option Addr} {sl20 : Array (Option Value)} {oc20 kV20 dc20 pm20 cd20 ct20 : Value}
    {f21 : Addr} {od21 an21 : Option Addr} {sl21 : Array (Option Value)} {oc21 kV21 dc21 pm21 ct21 : Value}
    {q0 : Addr}
    {q1 : Addr}
    {q2 : Addr}
    {q0nm q0qn : Str} {q0N : Addr} {q0bs q0sub : List Value} {q0sn : List Str} {q0ab : Bool} {q0col : Option Bool} {q0dd : Option Addr} {q0m0 q0m1 q0m2 q0m3 q0m5 : Option Value}
    {q1nm q1qn : Str} {q1N : Addr} {q1bs q1sub : List Value} {q1sn : List Str} {q1ab : Bool} {q1col : Option Bool} {q1dd : Option Addr} {q1m0 q1m1 q1m2 q1m3 q1m5 : Option Value}
    {q2nm q2qn : Str} {q2N : Addr} {q2bs q2sub : List Value} {q2sn : List Str} {q2ab : Bool} {q2col : Option Bool} {q2dd : Option Addr} {q2m0 q2m1 q2m2 q2m3 q2m5 : Option Value}
    (q0C : PySem.W.nsIn K mainGlobals "LeakError" = some (some (.ref q0)))
    (q0XX : K.lookup q0 = some (excClassObj q0nm q0qn q0 q0N q0bs [.type "ValueError", .type "Exception", .type "BaseException", .type "object"] true q0sn q0sub q0ab q0col q0dd q0m0 q0m1 q0m2 q0m3 q0m5 "ValueError.__new__"))
    (q0sa : PySem.W.findIn K (.ref q0) "__setattr__" = some (some (.builtin "object.__setattr__")))
    (q0ec : PySem.W.subIn K (.ref q0) (.type "BaseException") = some true)
    (q0ty : PySem.W.typeIn K (.ref q0) = some (.type "type"))
    (q0kc : PySem.W.keepIn K (.ref q0) = true)
    (q0rd : PySem.W.readsIn K q0 (.type "type") = true)
    (q0ga : PySem.W.specialIn K (.ref q0) "__getattribute__" = some (some (.builtin "type.__getattribute__")))
    (q0x1 : (PySem.W.clsIn K q0).isSome = true)
    (q0x2 : PySem.W.findIn K (.ref q0) "__getattribute__" = some (some (.builtin "BaseException.__getattribute__")))
    (q0x3 : PySem.W.findIn K (.ref q0) "__getattr__" = some none)
    (q0x5 : PySem.W.findIn K (.ref q0) "__class__" = some (some (.builtin "object.__class__")))
    (q0x6 : PySem.W.specialIn K (.builtin "object.__class__") "__get__" = some (some (.builtin "getset_descriptor.__get__")))
    (q0x7 : PySem.W.takesIn K (.builtin "object.__class__") = some true)
    (q0x8 : PySem.W.mroIn K q0 (.type "object") = some true)
    (q0x9 : PySem.W.hasDictIn K q0 = true)
    (q0nw : PySem.W.findIn K (.ref q0) "word" = some none)
    (q0na : PySem.W.findIn K (.ref q0) "at" = some none)
    (q0kv : PySem.W.kitOne K (.ref q0) (.type "ValueError") = some true)
    (q0kl : PySem.W.kitOne K (.ref q0) (.type "LookupError") = some false)
    (q1C : PySem.W.nsIn K mainGlobals "BadAtom" = some (some (.ref q1)))
    (q1XX : K.lookup q1 = some (excClassObj q1nm q1qn q1 q1N q1bs [.ref q0, .type "ValueError", .type "Exception", .type "BaseException", .type "object"] true q1sn q1sub q1ab q1col q1dd q1m0 q1m1 q1m2 q1m3 q1m5 "ValueError.__new__"))
    (q1sa : PySem.W.findIn K (.ref q1) "__setattr__" = some (some (.builtin "object.__setattr__")))
    (q1ec : PySem.W.subIn K (.ref q1) (.type "BaseException") = some true)
    (q1ty : PySem.W.typeIn K (.ref q1) = some (.type "type"))
    (q1kc : PySem.W.keepIn K (.ref q1) = true)
    (q1rd : PySem.W.readsIn K q1 (.type "type") = true)
    (q1ga : PySem.W.specialIn K (.ref q1) "__getattribute__" = some (some (.builtin "type.__getattribute__")))
    (q1x1 : (PySem.W.clsIn K q1).isSome = true)
    (q1x2 : PySem.W.findIn K (.ref q1) "__getattribute__" = some (some (.builtin "BaseException.__getattribute__")))
    (q1x3 : PySem.W.findIn K (.ref q1) "__getattr__" = some none)
    (q1x5 : PySem.W.findIn K (.ref q1) "__class__" = some (some (.builtin "object.__class__")))
    (q1x6 : PySem.W.specialIn K (.builtin "object.__class__") "__get__" = some (some (.builtin "getset_descriptor.__get__")))
    (q1x7 : PySem.W.takesIn K (.builtin "object.__class__") = some true)
    (q1x8 : PySem.W.mroIn K q1 (.type "object") = some true)
    (q1x9 : PySem.W.hasDictIn K q1 = true)
    (q1nw : PySem.W.findIn K (.ref q1) "word" = some none)
    (q1na : PySem.W.findIn K (.ref q1) "at" = some none)
    (q1kv : PySem.W.kitOne K (.ref q1) (.type "ValueError") = some true)
    (q1kl : PySem.W.kitOne K (.ref q1) (.type "LookupError") = some false)
    (q2C : PySem.W.nsIn K mainGlobals "BadText" = some (some (.ref q2)))
    (q2XX : K.lookup q2 = some (excClassObj q2nm q2qn q2 q2N q2bs [.ref q0, .type "ValueError", .type "Exception", .type "BaseException", .type "object"] true q2sn q2sub q2ab q2col q2dd q2m0 q2m1 q2m2 q2m3 q2m5 "ValueError.__new__"))
    (q2sa : PySem.W.findIn K (.ref q2) "__setattr__" = some (some (.builtin "object.__setattr__")))
    (q2ec : PySem.W.subIn K (.ref q2) (.type "BaseException") = some true)
    (q2ty : PySem.W.typeIn K (.ref q2) = some (.type "type"))
    (q2kc : PySem.W.keepIn K (.ref q2) = true)
    (q2rd : PySem.W.readsIn K q2 (.type "type") = true)
    (q2ga : PySem.W.specialIn K (.ref q2) "__getattribute__" = some (some (.builtin "type.__getattribute__")))
    (q2x1 : (PySem.W.clsIn K q2).isSome = true)
    (q2x2 : PySem.W.findIn K (.ref q2) "__getattribute__" = some (some (.builtin "BaseException.__getattribute__")))
    (q2x3 : PySem.W.findIn K (.ref q2) "__getattr__" = some none)
    (q2x5 : PySem.W.findIn K (.ref q2) "__class__" = some (some (.builtin "object.__class__")))
    (q2x6 : PySem.W.specialIn K (.builtin "object.__class__") "__get__" = some (some (.builtin "getset_descriptor.__get__")))
    (q2x7 : PySem.W.takesIn K (.builtin "object.__class__") = some true)
    (q2x8 : PySem.W.mroIn K q2 (.type "object") = some true)
    (q2x9 : PySem.W.hasDictIn K q2 = true)
    (q2nw : PySem.W.findIn K (.ref q2) "word" = some none)
    (q2na : PySem.W.findIn K (.ref q2) "at" = some none)
    (q2kv : PySem.W.kitOne K (.ref q2) (.type "ValueError") = some true)
    (q2kl : PySem.W.kitOne K (.ref q2) (.type "LookupError") = some false)
    (vV : PySem.W.findCls K (.type "ValueError") (.type "type") "__init__" = some (.val (.builtin "ValueError.__init__")))
    (a0 : PySem.W.findIn K (.ref q0) "__init__" = some (some (.ref f0)))
    (i0 : PySem.W.isFn K (.ref f0) = true)
    (l0 : K.lookup f0 = some ⟨oc0, od0, .func (PySem.W.fnOf "__init__" "LeakError.__init__" (defArgs s_LeakError_init) (defBody s_LeakError_init) (defScope s_LeakError_init) (.ref td0) kV0 dc0 pm0 an0 cd0 ct0), sl0⟩)
    (c0 : PySem.W.codeIn K cd0 "LeakError.__init__" = true)
    (k0 : PySem.W.keepIn K (.ref f0) = true)
    (t0 : K.lookup td0 = some ⟨ot0, ht0, .seq ([.int (-1) w0_0, .str (PySem.Str.ofString "leakerror") w0_1] : List Value).toArray nt0, st0⟩)
    (a1 : PySem.W.findIn K (.ref q1) "__init__" = some (some (.ref f1)))
    (i1 : PySem.W.isFn K (.ref f1) = true)
    (l1 : K.lookup f1 = some ⟨oc1, od1, .func (PySem.W.fnOf "__init__" "BadAtom.__init__" (defArgs s_BadAtom_init) (defBody s_BadAtom_init) (defScope s_BadAtom_init) (.ref td1) kV1 dc1 pm1 an1 cd1 ct1), sl1⟩)
    (c1 : PySem.W.codeIn K cd1 "BadAtom.__init__" = true)
    (k1 : PySem.W.keepIn K (.ref f1) = true)
    (t1 : K.lookup td1 = some ⟨ot1, ht1, .seq ([.int (-1) w1_0] : List Value).toArray nt1, st1⟩)
    (a2 : PySem.W.findIn K (.ref q2) "__init__" = some (some (.ref f2)))
    (i2 : PySem.W.isFn K (.ref f2) = true)
    (l2 : K.lookup f2 = some ⟨oc2, od2, .func (PySem.W.fnOf "__init__" "BadText.__init__" (defArgs s_BadText_init) (defBody s_BadText_init) (defScope s_BadText_init) (.ref td2) kV2 dc2 pm2 an2 cd2 ct2), sl2⟩)
    (c2 : PySem.W.codeIn K cd2 "BadText.__init__" = true)
    (k2 : PySem.W.keepIn K (.ref f2) = true)
    (t2 : K.lookup td2 = some ⟨ot2, ht2, .seq ([.int (-1) w2_0] : List Value).toArray nt2, st2⟩)
    (a3 : PySem.W.nsIn K mainGlobals "is_word" = some (some (.ref f3)))
    (l3 : K.lookup f3 = some ⟨oc3, od3, .func (PySem.W.fnOf "is_word" "is_word" (defArgs s_p_is_word) (defBody s_p_is_word) (defScope s_p_is_word) .none kV3 dc3 pm3 an3 cd3 ct3), sl3⟩)
    (c3 : PySem.W.codeIn K cd3 "is_word" = true)
    (k3 : PySem.W.keepIn K (.ref f3) = true)
    (a4 : PySem.W.nsIn K mainGlobals "is_rising" = some (some (.ref f4)))
    (l4 : K.lookup f4 = some ⟨oc4, od4, .func (PySem.W.fnOf "is_rising" "is_rising" (defArgs s_p_is_rising) (defBody s_p_is_rising) (defScope s_p_is_rising) .none kV4 dc4 pm4 an4 cd4 ct4), sl4⟩)
    (c4 : PySem.W.codeIn K cd4 "is_rising" = true)
    (k4 : PySem.W.keepIn K (.ref f4) = true)
    (a5 : PySem.W.nsIn K mainGlobals "is_atom" = some (some (.ref f5)))
    (l5 : K.lookup f5 = some ⟨oc5, od5, .func (PySem.W.fnOf "is_atom" "is_atom" (defArgs s_p_is_atom) (defBody s_p_is_atom) (defScope s_p_is_atom) .none kV5 dc5 pm5 an5 cd5 ct5), sl5⟩)
    (c5 : PySem.W.codeIn K cd5 "is_atom" = true)
    (k5 : PySem.W.keepIn K (.ref f5) = true)
    (a6 : PySem.W.nsIn K mainGlobals "is_product" = some (some (.ref f6)))
    (l6 : K.lookup f6 = some ⟨oc6, od6, .func (PySem.W.fnOf "is_product" "is_product" (defArgs s_p_is_product) (defBody s_p_is_product) (defScope s_p_is_product) .none kV6 dc6 pm6 an6 cd6 ct6), sl6⟩)
    (c6 : PySem.W.codeIn K cd6 "is_product" = true)
    (k6 : PySem.W.keepIn K (.ref f6) = true)
    (a7 : PySem.W.nsIn K mainGlobals "check_product" = some (some (.ref f7)))
    (l7 : K.lookup f7 = some ⟨oc7, od7, .func (PySem.W.fnOf "check_product" "check_product" (defArgs s_p_check_product) (defBody s_p_check_product) (defScope s_p_check_product) .none kV7 dc7 pm7 an7 cd7 ct7), sl7⟩)
    (c7 : PySem.W.codeIn K cd7 "check_product" = true)
    (k7 : PySem.W.keepIn K (.ref f7) = true)
    (a8 : PySem.W.nsIn K mainGlobals "product_text" = some (some (.ref f8)))
    (l8 : K.lookup f8 = some ⟨oc8, od8, .func (PySem.W.fnOf "product_text" "product_text" (defArgs s_p_product_text) (defBody s_p_product_text) (defScope s_p_product_text) .none kV8 dc8 pm8 an8 cd8 ct8), sl8⟩)
    (c8 : PySem.W.codeIn K cd8 "product_text" = true)
    (k8 : PySem.W.keepIn K (.ref f8) = true)
    (a9 : PySem.W.nsIn K mainGlobals "atom_of" = some (some (.ref f9)))
    (l9 : K.lookup f9 = some ⟨oc9, od9, .func (PySem.W.fnOf "atom_of" "atom_of" (defArgs s_p_atom_of) (defBody s_p_atom_of) (defScope s_p_atom_of) .none kV9 dc9 pm9 an9 cd9 ct9), sl9⟩)
    (c9 : PySem.W.codeIn K cd9 "atom_of" = true)
    (k9 : PySem.W.keepIn K (.ref f9) = true)
    (a10 : PySem.W.nsIn K mainGlobals "read_product" = some (some (.ref f10)))
    (l10 : K.lookup f10 = some ⟨oc10, od10, .func (PySem.W.fnOf "read_product" "read_product" (defArgs s_p_read_product) (defBody s_p_read_product) (defScope s_p_read_product) .none kV10 dc10 pm10 an10 cd10 ct10), sl10⟩)
    (c10 : PySem.W.codeIn K cd10 "read_product" = true)
    (k10 : PySem.W.keepIn K (.ref f10) = true)
    (a11 : PySem.W.nsIn K mainGlobals "_law_bag" = some (some (.ref f11)))
    (l11 : K.lookup f11 = some ⟨oc11, od11, .func (PySem.W.fnOf "_law_bag" "_law_bag" (defArgs s_bag) (defBody s_bag) (defScope s_bag) .none kV11 dc11 pm11 an11 cd11 ct11), sl11⟩)
    (c11 : PySem.W.codeIn K cd11 "_law_bag" = true)
    (k11 : PySem.W.keepIn K (.ref f11) = true)
    (a12 : PySem.W.nsIn K mainGlobals "_law_pull" = some (some (.ref f12)))
    (l12 : K.lookup f12 = some ⟨oc12, od12, .func (PySem.W.fnOf "_law_pull" "_law_pull" (defArgs s_pull) (defBody s_pull) (defScope s_pull) .none kV12 dc12 pm12 an12 cd12 ct12), sl12⟩)
    (c12 : PySem.W.codeIn K cd12 "_law_pull" = true)
    (k12 : PySem.W.keepIn K (.ref f12) = true)
    (a13 : PySem.W.nsIn K mainGlobals "_law_of" = some (some (.ref f13)))
    (l13 : K.lookup f13 = some ⟨oc13, od13, .func (PySem.W.fnOf "_law_of" "_law_of" (defArgs s_of) (defBody s_of) (defScope s_of) .none kV13 dc13 pm13 an13 cd13 ct13), sl13⟩)
    (c13 : PySem.W.codeIn K cd13 "_law_of" = true)
    (k13 : PySem.W.keepIn K (.ref f13) = true)
    (a14 : PySem.W.nsIn K mainGlobals "_law_same" = some (some (.ref f14)))
    (l14 : K.lookup f14 = some ⟨oc14, od14, .func (PySem.W.fnOf "_law_same" "_law_same" (defArgs s_same) (defBody s_same) (defScope s_same) .none kV14 dc14 pm14 an14 cd14 ct14), sl14⟩)
    (c14 : PySem.W.codeIn K cd14 "_law_same" = true)
    (k14 : PySem.W.keepIn K (.ref f14) = true)
    (a15 : PySem.W.nsIn K mainGlobals "_law_letters" = some (some (.ref f15)))
    (l15 : K.lookup f15 = some ⟨oc15, od15, .func (PySem.W.fnOf "_law_letters" "_law_letters" (defArgs s_letters) (defBody s_letters) (defScope s_letters) .none kV15 dc15 pm15 an15 cd15 ct15), sl15⟩)
    (c15 : PySem.W.codeIn K cd15 "_law_letters" = true)
    (k15 : PySem.W.keepIn K (.ref f15) = true)
    (a16 : PySem.W.nsIn K mainGlobals "_law_refusal" = some (some (.ref f16)))
    (l16 : K.lookup f16 = some ⟨oc16, od16, .func (PySem.W.fnOf "_law_refusal" "_law_refusal" (defArgs s_refusal) (defBody s_refusal) (defScope s_refusal) .none kV16 dc16 pm16 an16 cd16 ct16), sl16⟩)
    (c16 : PySem.W.codeIn K cd16 "_law_refusal" = true)
    (k16 : PySem.W.keepIn K (.ref f16) = true)
    (a17 : PySem.W.nsIn K mainGlobals "_law_product" = some (some (.ref f17)))
    (l17 : K.lookup f17 = some ⟨oc17, od17, .func (PySem.W.fnOf "_law_product" "_law_product" (defArgs s_product) (defBody s_product) (defScope s_product) .none kV17 dc17 pm17 an17 cd17 ct17), sl17⟩)
    (c17 : PySem.W.codeIn K cd17 "_law_product" = true)
    (k17 : PySem.W.keepIn K (.ref f17) = true)
    (a18 : PySem.W.nsIn K mainGlobals "_law_atoms_text" = some (some (.ref f18)))
    (l18 : K.lookup f18 = some ⟨oc18, od18, .func (PySem.W.fnOf "_law_atoms_text" "_law_atoms_text" (defArgs s_atoms_text) (defBody s_atoms_text) (defScope s_atoms_text) .none kV18 dc18 pm18 an18 cd18 ct18), sl18⟩)
    (c18 : PySem.W.codeIn K cd18 "_law_atoms_text" = true)
    (k18 : PySem.W.keepIn K (.ref f18) = true)
    (a19 : PySem.W.nsIn K mainGlobals "_law_bent_text" = some (some (.ref f19)))
    (l19 : K.lookup f19 = some ⟨oc19, od19, .func (PySem.W.fnOf "_law_bent_text" "_law_bent_text" (defArgs s_bent_text) (defBody s_bent_text) (defScope s_bent_text) .none kV19 dc19 pm19 an19 cd19 ct19), sl19⟩)
    (c19 : PySem.W.codeIn K cd19 "_law_bent_text" = true)
    (k19 : PySem.W.keepIn K (.ref f19) = true)
    (a20 : PySem.W.nsIn K mainGlobals "_law_atom_read" = some (some (.ref f20)))
    (l20 : K.lookup f20 = some ⟨oc20, od20, .func (PySem.W.fnOf "_law_atom_read" "_law_atom_read" (defArgs s_atom_read) (defBody s_atom_read) (defScope s_atom_read) .none kV20 dc20 pm20 an20 cd20 ct20), sl20⟩)
    (c20 : PySem.W.codeIn K cd20 "_law_atom_read" = true)
    (k20 : PySem.W.keepIn K (.ref f20) = true)
    (a21 : PySem.W.nsIn K mainGlobals "law" = some (some (.ref f21)))
    (l21 : K.lookup f21 = some ⟨oc21, od21, .func (PySem.W.fnOf "law" "law" (defArgs s_law) (defBody s_law) (defScope s_law) .none kV21 dc21 pm21 an21 (.ref cC) ct21), sl21⟩)
    (c21 : PySem.W.codeIn K (.ref cC) "law" = true)
    (k21 : PySem.W.keepIn K (.ref f21) = true)
    (q0ti : PySem.W.typeIn K (.ref f0) = some (.type "function"))
    (q0fn : PySem.W.findCls K (.ref q0) (.type "type") "__init__" = some (.val (.ref f0)))
    (q0em : PySem.W.exmOne K (.ref q0) (.ref q0) = some true)
    (q1ti : PySem.W.typeIn K (.ref f1) = some (.type "function"))
    (q1fn : PySem.W.findCls K (.ref q1) (.type "type") "__init__" = some (.val (.ref f1)))
    (q1em : PySem.W.exmOne K (.ref q1) (.ref q0) = some true)
    (q2ti : PySem.W.typeIn K (.ref f2) = some (.type "function"))
    (q2fn : PySem.W.findCls K (.ref q2) (.type "type") "__init__" = some (.val (.ref f2)))
    (q2em : PySem.W.exmOne K (.ref q2) (.ref q0) = some true)
    (z0 : PySem.W.nsIn K mainGlobals "LookupError" = some none)
    (z1 : PySem.W.nsIn K mainGlobals "ValueError" = some none)
    (z2 : PySem.W.nsIn K mainGlobals "all" = some none)
    (z3 : PySem.W.nsIn K mainGlobals "bool" = some none)
    (z4 : PySem.W.nsIn K mainGlobals "int" = some none)
    (z5 : PySem.W.nsIn K mainGlobals "isinstance" = some none)
    (z6 : PySem.W.nsIn K mainGlobals "len" = some none)
    (z7 : PySem.W.nsIn K mainGlobals "list" = some none)
    (z8 : PySem.W.nsIn K mainGlobals "range" = some none)
    (z9 : PySem.W.nsIn K mainGlobals "set" = some none)
    (z10 : PySem.W.nsIn K mainGlobals "sorted" = some none)
    (z11 : PySem.W.nsIn K mainGlobals "str" = some none)
    (z12 : PySem.W.nsIn K mainGlobals "tuple" = some none)
    (z13 : PySem.W.nsIn K mainGlobals "zip" = some none)
    {u0 : Value}
    (d0 : PySem.W.nsIn K mainGlobals "LETTERS" = some (some u0))
    (e0 : RelV (V.str (PySem.Str.ofString "abcdefghijklmnopqrstuvwxyz")) u0)
    (kc1 : K.lookup cC = some ⟨eC, dC, .fields vC, sC⟩) (kc2 : vC[11]? = some (.ref PC)) (kc3 : K.lookup PC = none) (kc4 : PySem.W.codeHdIn K cC PC = true)
    (own : LamX.OwnTab K fa h) : LamX.LawAtS l w K CX0 9 63 "_law_script" mg fa h := by
  have e := hfa.symm.trans (PySem.W.mg_of X G a21)
  cases e
  have F0 : FunD K "__init__" "LeakError.__init__" (defArgs s_LeakError_init) (defBody s_LeakError_init) (defScope s_LeakError_init) [V.int (-1), V.str (PySem.Str.ofString "leakerror")] [] f0 _ := ⟨⟨oc0, od0, .ref td0, kV0, dc0, pm0, an0, cd0, ct0, sl0, rfl, l0, c0, .inr ⟨by simp, td0, _, _, nt0, rfl, t0, rfl, (.cons ⟨_, rfl⟩ (.cons ⟨_, rfl⟩ .nil))⟩, .inl rfl⟩, k0⟩
  obtain ⟨ds0_1, dv0_1, b0_1⟩ := F0.binds1 (ps := P_LeakError_init) 1 0 (by simp) rfl (fun _ _ _ _ _ _ _ us its h1 h2 => match us, its, h1, h2 with | [_], [_, _], _, _ => ⟨_, rfl, rfl⟩)
  obtain ⟨ds0_2, dv0_2, b0_2⟩ := F0.binds1 (ps := P_LeakError_init) 2 1 (by simp) rfl (fun _ _ _ _ _ _ _ us its h1 h2 => match us, its, h1, h2 with | [_, _], [_, _], _, _ => ⟨_, rfl, rfl⟩)
  obtain ⟨ds0_3, dv0_3, b0_3⟩ := F0.binds1 (ps := P_LeakError_init) 3 2 (by simp) rfl (fun _ _ _ _ _ _ _ us its h1 h2 => match us, its, h1, h2 with | [_, _, _], [_, _], _, _ => ⟨_, rfl, rfl⟩)
  have F1 : FunD K "__init__" "BadAtom.__init__" (defArgs s_BadAtom_init) (defBody s_BadAtom_init) (defScope s_BadAtom_init) [V.int (-1)] [] f1 _ := ⟨⟨oc1, od1, .ref td1, kV1, dc1, pm1, an1, cd1, ct1, sl1, rfl, l1, c1, .inr ⟨by simp, td1, _, _, nt1, rfl, t1, rfl, (.cons ⟨_, rfl⟩ .nil)⟩, .inl rfl⟩, k1⟩
  obtain ⟨ds1_1, dv1_1, b1_1⟩ := F1.binds1 (ps := P_BadAtom_init) 1 0 (by simp) rfl (fun _ _ _ _ _ _ _ us its h1 h2 => match us, its, h1, h2 with | [_], [_], _, _ => ⟨_, rfl, rfl⟩)
  obtain ⟨ds1_2, dv1_2, b1_2⟩ := F1.binds1 (ps := P_BadAtom_init) 2 1 (by simp) rfl (fun _ _ _ _ _ _ _ us its h1 h2 => match us, its, h1, h2 with | [_, _], [_], _, _ => ⟨_, rfl, rfl⟩)
  have F2 : FunD K "__init__" "BadText.__init__" (defArgs s_BadText_init) (defBody s_BadText_init) (defScope s_BadText_init) [V.int (-1)] [] f2 _ := ⟨⟨oc2, od2, .ref td2, kV2, dc2, pm2, an2, cd2, ct2, sl2, rfl, l2, c2, .inr ⟨by simp, td2, _, _, nt2, rfl, t2, rfl, (.cons ⟨_, rfl⟩ .nil)⟩, .inl rfl⟩, k2⟩
  obtain ⟨ds2_1, dv2_1, b2_1⟩ := F2.binds1 (ps := P_BadText_init) 1 0 (by simp) rfl (fun _ _ _ _ _ _ _ us its h1 h2 => match us, its, h1, h2 with | [_], [_], _, _ => ⟨_, rfl, rfl⟩)
  obtain ⟨ds2_2, dv2_2, b2_2⟩ := F2.binds1 (ps := P_BadText_init) 2 1 (by simp) rfl (fun _ _ _ _ _ _ _ us its h1 h2 => match us, its, h1, h2 with | [_, _], [_], _, _ => ⟨_, rfl, rfl⟩)
  have F3 := fun_mk (st := s_p_is_word) l3 c3 k3
  have b3 := F3.binds (ps := P_p_is_word) fun _ _ _ _ _ _ us hl => match us, hl with | [_], _ => rfl
  have F4 := fun_mk (st := s_p_is_rising) l4 c4 k4
  have b4 := F4.binds (ps := P_p_is_rising) fun _ _ _ _ _ _ us hl => match us, hl with | [_], _ => rfl
  have F5 := fun_mk (st := s_p_is_atom) l5 c5 k5
  have b5 := F5.binds (ps := P_p_is_atom) fun _ _ _ _ _ _ us hl => match us, hl with | [_, _], _ => rfl
  have F6 := fun_mk (st := s_p_is_product) l6 c6 k6
  have b6 := F6.binds (ps := P_p_is_product) fun _ _ _ _ _ _ us hl => match us, hl with | [_], _ => rfl
  have F7 := fun_mk (st := s_p_check_product) l7 c7 k7
  have b7 := F7.binds (ps := P_p_check_product) fun _ _ _ _ _ _ us hl => match us, hl with | [_], _ => rfl
  have F8 := fun_mk (st := s_p_product_text) l8 c8 k8
  have b8 := F8.binds (ps := P_p_product_text) fun _ _ _ _ _ _ us hl => match us, hl with | [_], _ => rfl
  have F9 := fun_mk (st := s_p_atom_of) l9 c9 k9
  have b9 := F9.binds (ps := P_p_atom_of) fun _ _ _ _ _ _ us hl => match us, hl with | [_], _ => rfl
  have F10 := fun_mk (st := s_p_read_product) l10 c10 k10
  have b10 := F10.binds (ps := P_p_read_product) fun _ _ _ _ _ _ us hl => match us, hl with | [_], _ => rfl
  have F11 := fun_mk (st := s_bag) l11 c11 k11
  have b11 := F11.binds (ps := P_bag) fun _ _ _ _ _ _ us hl => match us, hl with | [_], _ => rfl
  have F12 := fun_mk (st := s_pull) l12 c12 k12
  have b12 := F12.binds (ps := P_pull) fun _ _ _ _ _ _ us hl => match us, hl with | [_, _], _ => rfl
  have F13 := fun_mk (st := s_of) l13 c13 k13
  have b13 := F13.binds (ps := P_of) fun _ _ _ _ _ _ us hl => match us, hl with | [_, _], _ => rfl
  have F14 := fun_mk (st := s_same) l14 c14 k14
  have b14 := F14.binds (ps := P_same) fun _ _ _ _ _ _ us hl => match us, hl with | [_, _], _ => rfl
  have F15 := fun_mk (st := s_letters) l15 c15 k15
  have b15 := F15.binds (ps := P_letters) fun _ _ _ _ _ _ us hl => match us, hl with | [_], _ => rfl
  have F16 := fun_mk (st := s_refusal) l16 c16 k16
  have b16 := F16.binds (ps := P_refusal) fun _ _ _ _ _ _ us hl => match us, hl with | [_], _ => rfl
  have F17 := fun_mk (st := s_product) l17 c17 k17
  have b17 := F17.binds (ps := P_product) fun _ _ _ _ _ _ us hl => match us, hl with | [_, _, _], _ => rfl
  have F18 := fun_mk (st := s_atoms_text) l18 c18 k18
  have b18 := F18.binds (ps := P_atoms_text) fun _ _ _ _ _ _ us hl => match us, hl with | [_], _ => rfl
  have F19 := fun_mk (st := s_bent_text) l19 c19 k19
  have b19 := F19.binds (ps := P_bent_text) fun _ _ _ _ _ _ us hl => match us, hl with | [_, _], _ => rfl
  have F20 := fun_mk (st := s_atom_read) l20 c20 k20
  have b20 := F20.binds (ps := P_atom_read) fun _ _ _ _ _ _ us hl => match us, hl with | [_], _ => rfl
  have F21 := fun_mk (st := s_law) l21 c21 k21
  have b21 := F21.binds (ps := P_law) fun _ _ _ _ _ _ us hl => match us, hl with | [_], _ => rfl
  have hTab := own cC PC _ _ _ _ _ _ l21 rfl rfl kc1 kc2
  refine ⟨PySem.W.fnOf "law" "law" (defArgs s_law) (defBody s_law) (defScope s_law) .none kV21 dc21 pm21 an21 (.ref cC) ct21, [(cC, PC)], sp_law K PC, ?_, ?_, ?_, fun s v => .of_eq rfl, ?_, fun base _ _ TB => ok_law_at ⟨q0, PySem.W.mg_of X G q0C, q1, PySem.W.mg_of X G q1C, q2, PySem.W.mg_of X G q2C, _, _, F0, ds0_1, dv0_1, b0_1, ds0_2, dv0_2, b0_2, ds0_3, dv0_3, b0_3, _, _, F1, ds1_1, dv1_1, b1_1, ds1_2, dv1_2, b1_2, _, _, F2, ds2_1, dv2_1, b2_1, ds2_2, dv2_2, b2_2, _, _, F3, b3, PySem.W.mg_of X G a3, _, _, F4, b4, PySem.W.mg_of X G a4, _, _, F5, b5, PySem.W.mg_of X G a5, _, _, F6, b6, PySem.W.mg_of X G a6, _, _, F7, b7, PySem.W.mg_of X G a7, _, _, F8, b8, PySem.W.mg_of X G a8, _, _, F9, b9, PySem.W.mg_of X G a9, _, _, F10, b10, PySem.W.mg_of X G a10, _, _, F11, b11, PySem.W.mg_of X G a11, _, _, F12, b12, PySem.W.mg_of X G a12, _, _, F13, b13, PySem.W.mg_of X G a13, _, _, F14, b14, PySem.W.mg_of X G a14, _, _, F15, b15, PySem.W.mg_of X G a15, _, _, F16, b16, PySem.W.mg_of X G a16, _, _, F17, b17, PySem.W.mg_of X G a17, _, _, F18, b18, PySem.W.mg_of X G a18, _, _, F19, b19, PySem.W.mg_of X G a19, _, _, F20, b20, PySem.W.mg_of X G a20, _, _, F21, b21, PySem.W.mg_of X G a21, ⟨⟨_, _, _, _, _, _, _, _, _, _, _, _, _, _, _, q0XX, rfl⟩, q0sa, q0ec, q0ty, q0kc⟩, a0, q0ti, ⟨q0rd, q0ga, q0fn, k0⟩, ⟨q0x1, q0x2, q0x3, q0ec, q0x5, q0x6, q0x7, q0x8, q0x9⟩, q0nw, q0na, q0em, q0kv, q0kl, ⟨⟨_, _, _, _, _, _, _, _, _, _, _, _, _, _, _, q1XX, rfl⟩, q1sa, q1ec, q1ty, q1kc⟩, a1, q1ti, ⟨q1rd, q1ga, q1fn, k1⟩, ⟨q1x1, q1x2, q1x3, q1ec, q1x5, q1x6, q1x7, q1x8, q1x9⟩, q1nw, q1na, q1em, q1kv, q1kl, ⟨⟨_, _, _, _, _, _, _, _, _, _, _, _, _, _, _, q2XX, rfl⟩, q2sa, q2ec, q2ty, q2kc⟩, a2, q2ti, ⟨q2rd, q2ga, q2fn, k2⟩, ⟨q2x1, q2x2, q2x3, q2ec, q2x5, q2x6, q2x7, q2x8, q2x9⟩, q2nw, q2na, q2em, q2kv, q2kl, vV, PySem.W.mg_none_of X G z0, PySem.W.mg_none_of X G z1, PySem.W.mg_none_of X G z2, PySem.W.mg_none_of X G z3, PySem.W.mg_none_of X G z4, PySem.W.mg_none_of X G z5, PySem.W.mg_none_of X G z6, PySem.W.mg_none_of X G z7, PySem.W.mg_none_of X G z8, PySem.W.mg_none_of X G z9, PySem.W.mg_none_of X G z10, PySem.W.mg_none_of X G z11, PySem.W.mg_none_of X G z12, PySem.W.mg_none_of X G z13, _, PySem.W.mg_of X G d0, e0⟩ (TB _ List.mem_cons_self) rfl⟩
  · intro p hp; rw [List.mem_singleton.mp hp]; exact hTab
  · intro p hp; rw [List.mem_singleton.mp hp]; exact kc3
  · intro p hp; rw [List.mem_singleton.mp hp]; exact PySem.W.codeHd_of_K X kc4
  · intro H a ns hl _ hT hS; exact ⟨a, ns, rfl, hS, hl, hT (cC, PC) List.mem_cons_self, fun _ => rfl⟩
end K34
open PySem PySem.W PyProof.Rows
set_option maxHeartbeats 0 in
theorem PySem.Challenge.cw_leakpost_k34_products_written_and_read_holds : PySem.Challenge.rw_leakpost_k34_products_written_and_read.Holds := by
  w_on; o_law; k_head; (case hw => w_witness2)
  k_fill
  refine LamX.walk_ofOwn (l := PySem.Challenge.rw_leakpost_k34_products_written_and_read) (n := 63) (k := 9) (x := "_law_script") (CX := fun _ => L2.CX0) rfl (by decide) rfl ⟨rfl, by decide, by decide⟩ (by decide +kernel) (fun w h Y => PySem.W.km_in_of Y) ?F (fun _ _ _ _ _ h => h)
  case F =>
    intro w mg fa h Y KX G hmg own
    refine' K34.all_mk KX G hmg ?q0C ?q0XX ?q0sa ?q0ec ?q0ty ?q0kc ?q0rd ?q0ga ?q0x1 ?q0x2 ?q0x3 ?q0x5 ?q0x6 ?q0x7 ?q0x8 ?q0x9 ?q0nw ?q0na ?q0kv ?q0kl ?q1C ?q1XX ?q1sa ?q1ec ?q1ty ?q1kc ?q1rd ?q1ga ?q1x1 ?q1x2 ?q1x3 ?q1x5 ?q1x6 ?q1x7 ?q1x8 ?q1x9 ?q1nw ?q1na ?q1kv ?q1kl ?q2C ?q2XX ?q2sa ?q2ec ?q2ty ?q2kc ?q2rd ?q2ga ?q2x1 ?q2x2 ?q2x3 ?q2x5 ?q2x6 ?q2x7 ?q2x8 ?q2x9 ?q2nw ?q2na ?q2kv ?q2kl ?vV ?a0 ?i0 ?l0 ?c0 ?k0 ?t0 ?a1 ?i1 ?l1 ?c1 ?k1 ?t1 ?a2 ?i2 ?l2 ?c2 ?k2 ?t2 ?a3 ?l3 ?c3 ?k3 ?a4 ?l4 ?c4 ?k4 ?a5 ?l5 ?c5 ?k5 ?a6 ?l6 ?c6 ?k6 ?a7 ?l7 ?c7 ?k7 ?a8 ?l8 ?c8 ?k8 ?a9 ?l9 ?c9 ?k9 ?a10 ?l10 ?c10 ?k10 ?a11 ?l11 ?c11 ?k11 ?a12 ?l12 ?c12 ?k12 ?a13 ?l13 ?c13 ?k13 ?a14 ?l14 ?c14 ?k14 ?a15 ?l15 ?c15 ?k15 ?a16 ?l16 ?c16 ?k16 ?a17 ?l17 ?c17 ?k17 ?a18 ?l18 ?c18 ?k18 ?a19 ?l19 ?c19 ?k19 ?a20 ?l20 ?c20 ?k20 ?a21 ?l21 ?c21 ?k21 ?q0ti ?q0fn ?q0em ?q1ti ?q1fn ?q1em ?q2ti ?q2fn ?q2em ?z0 ?z1 ?z2 ?z3 ?z4 ?z5 ?z6 ?z7 ?z8 ?z9 ?z10 ?z11 ?z12 ?z13 ?d0 ?e0 ?kc1 ?kc2 ?kc3 ?kc4 own
    (case q0C => k_is)
    (case q0XX => k_is)
    (case q0sa => k_is)
    (case q0ec => k_is)
    (case q0ty => k_is)
    (case q0kc => k_is)
    (case q0rd => k_is)
    (case q0ga => k_is)
    (case q0x1 => first | rfl | decide +kernel | k_is)
    (case q0x2 => k_is)
    (case q0x3 => k_is)
    (case q0x5 => k_is)
    (case q0x6 => k_is)
    (case q0x7 => k_is)
    (case q0x8 => k_is)
    (case q0x9 => k_is)
    (case q0nw => k_is)
    (case q0na => k_is)
    (case q0kv => first | rfl | decide +kernel | k_is)
    (case q0kl => first | rfl | decide +kernel | k_is)
    (case q1C => k_is)
    (case q1XX => k_is)
    (case q1sa => k_is)
    (case q1ec => k_is)
    (case q1ty => k_is)
    (case q1kc => k_is)
    (case q1rd => k_is)
    (case q1ga => k_is)
    (case q1x1 => first | rfl | decide +kernel | k_is)
    (case q1x2 => k_is)
    (case q1x3 => k_is)
    (case q1x5 => k_is)
    (case q1x6 => k_is)
    (case q1x7 => k_is)
    (case q1x8 => k_is)
    (case q1x9 => k_is)
    (case q1nw => k_is)
    (case q1na => k_is)
    (case q1kv => first | rfl | decide +kernel | k_is)
    (case q1kl => first | rfl | decide +kernel | k_is)
    (case q2C => k_is)
    (case q2XX => k_is)
    (case q2sa => k_is)
    (case q2ec => k_is)
    (case q2ty => k_is)
    (case q2kc => k_is)
    (case q2rd => k_is)
    (case q2ga => k_is)
    (case q2x1 => first | rfl | decide +kernel | k_is)
    (case q2x2 => k_is)
    (case q2x3 => k_is)
    (case q2x5 => k_is)
    (case q2x6 => k_is)
    (case q2x7 => k_is)
    (case q2x8 => k_is)
    (case q2x9 => k_is)
    (case q2nw => k_is)
    (case q2na => k_is)
    (case q2kv => first | rfl | decide +kernel | k_is)
    (case q2kl => first | rfl | decide +kernel | k_is)
    (case vV => k_is)
    (case a0 => k_is)
    (case i0 => k_is)
    (case l0 => k_is)
    (case c0 => k_is)
    (case k0 => k_is)
    (case t0 => k_is)
    (case a1 => k_is)
    (case i1 => k_is)
    (case l1 => k_is)
    (case c1 => k_is)
    (case k1 => k_is)
    (case t1 => k_is)
    (case a2 => k_is)
    (case i2 => k_is)
    (case l2 => k_is)
    (case c2 => k_is)
    (case k2 => k_is)
    (case t2 => k_is)
    (case a3 => k_is)
    (case l3 => k_is)
    (case c3 => k_is)
    (case k3 => k_is)
    (case a4 => k_is)
    (case l4 => k_is)
    (case c4 => k_is)
    (case k4 => k_is)
    (case a5 => k_is)
    (case l5 => k_is)
    (case c5 => k_is)
    (case k5 => k_is)
    (case a6 => k_is)
    (case l6 => k_is)
    (case c6 => k_is)
    (case k6 => k_is)
    (case a7 => k_is)
    (case l7 => k_is)
    (case c7 => k_is)
    (case k7 => k_is)
    (case a8 => k_is)
    (case l8 => k_is)
    (case c8 => k_is)
    (case k8 => k_is)
    (case a9 => k_is)
    (case l9 => k_is)
    (case c9 => k_is)
    (case k9 => k_is)
    (case a10 => k_is)
    (case l10 => k_is)
    (case c10 => k_is)
    (case k10 => k_is)
    (case a11 => k_is)
    (case l11 => k_is)
    (case c11 => k_is)
    (case k11 => k_is)
    (case a12 => k_is)
    (case l12 => k_is)
    (case c12 => k_is)
    (case k12 => k_is)
    (case a13 => k_is)
    (case l13 => k_is)
    (case c13 => k_is)
    (case k13 => k_is)
    (case a14 => k_is)
    (case l14 => k_is)
    (case c14 => k_is)
    (case k14 => k_is)
    (case a15 => k_is)
    (case l15 => k_is)
    (case c15 => k_is)
    (case k15 => k_is)
    (case a16 => k_is)
    (case l16 => k_is)
    (case c16 => k_is)
    (case k16 => k_is)
    (case a17 => k_is)
    (case l17 => k_is)
    (case c17 => k_is)
    (case k17 => k_is)
    (case a18 => k_is)
    (case l18 => k_is)
    (case c18 => k_is)
    (case k18 => k_is)
    (case a19 => k_is)
    (case l19 => k_is)
    (case c19 => k_is)
    (case k19 => k_is)
    (case a20 => k_is)
    (case l20 => k_is)
    (case c20 => k_is)
    (case k20 => k_is)
    (case a21 => k_is)
    (case l21 => k_is)
    (case c21 => k_is)
    (case k21 => k_is)
    (case q0ti => k_is)
    (case q0fn => k_is)
    (case q0em => first | rfl | decide +kernel | k_is)
    (case q1ti => k_is)
    (case q1fn => k_is)
    (case q1em => first | rfl | decide +kernel | k_is)
    (case q2ti => k_is)
    (case q2fn => k_is)
    (case q2em => first | rfl | decide +kernel | k_is)
    (case z0 => k_is)
    (case z1 => k_is)
    (case z2 => k_is)
    (case z3 => k_is)
    (case z4 => k_is)
    (case z5 => k_is)
    (case z6 => k_is)
    (case z7 => k_is)
    (case z8 => k_is)
    (case z9 => k_is)
    (case z10 => k_is)
    (case z11 => k_is)
    (case z12 => k_is)
    (case z13 => k_is)
    (case d0 => k_is)
    (case e0 => exact ⟨_, rfl⟩)
    (case kc1 => k_is)
    (case kc2 => first | rfl | decide +kernel | k_is)
    (case kc3 => first | rfl | decide +kernel | k_is)
    (case kc4 => first | rfl | decide +kernel | k_is)
