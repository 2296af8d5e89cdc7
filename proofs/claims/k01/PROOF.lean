import PyProof.Rows.All
import Wide.All
import OpenK.AllK
import Wide.FinOn
import HandS.ForMost
import HandS.Walk
import HandS.Zip
import HandS.IsInst
import HandS.StrMore
import HandS.Evl
import PySem.Challenge.RW_leakpost_k01_names_letters_words
set_option Elab.async false
set_option linter.all false
set_option maxRecDepth 100000

namespace LB
open PySem PySem.Spec PyProof.Rows L2
/-! ### the bag of draws: a list of five at b, its cells at s -/
def bagL (s : Addr) (i r sd c : Int) : HO := .lst [.ref s, .int i, .int r, .int sd, .int c]
def Bag (b s : Addr) (H : Hp) : Prop := s ≠ b ∧ ∃ (ns : List Int) (i r sd c : Int), H b = some (bagL s i r sd c) ∧ H s = some (.lst (ns.map V.int)) ∧ ns.length ≤ 63 ∧ 0 ≤ i
/-- all but the bag is as it was -/
structure BX (b s : Addr) (H H' : Hp) : Prop where
  bag : Bag b s H'
  keep : ∀ a o, a ≠ b → H a = some o → H' a = some o
section
variable {b s p a : Addr} {H H' H'' : Hp} {o : HO} {K : PySem.W.Frag}
theorem Bag.nb (h : Bag b s H) (n : H p = none) : p ≠ b := by
  obtain ⟨_, ns, i, r, sd, c, e, _⟩ := h
  exact (ne_of_none e n).symm
theorem Bag.ns (h : Bag b s H) (n : H p = none) : p ≠ s := by
  obtain ⟨_, ns, i, r, sd, c, _, e, _⟩ := h
  exact (ne_of_none e n).symm
theorem BX.refl (h : Bag b s H) : BX b s H H := ⟨h, fun _ _ _ e => e⟩
theorem BX.trans (x : BX b s H H') (y : BX b s H' H'') : BX b s H H'' := ⟨y.bag, fun a o n e => y.keep a o n (x.keep a o n e)⟩
theorem Bag.same (h : Bag b s H) (x : Same H H') : Bag b s H' := by
  obtain ⟨n, ns, i, r, sd, c, e1, e2, l⟩ := h
  exact ⟨n, ns, i, r, sd, c, x _ _ e1, x _ _ e2, l⟩
theorem BX.same (h : Bag b s H) (x : Same H H') : BX b s H H' := ⟨h.same x, fun a o _ e => x a o e⟩
theorem BX.andSame (h : BX b s H H') (x : Same H' H'') : BX b s H H'' := h.trans (.same h.bag x)
theorem same_new (h : H p = none) : Same H (upd H p o) := fun c x e => by
  rw [upd_ne (ne_of_none e h)]
  exact e
theorem BX.new (h : Bag b s H) (n : H p = none) : BX b s H (upd H p o) := .same h (same_new n)
theorem BX.mut (x : BX b s H H') (h : Bag b s H) (n : H p = none) : BX b s H (upd H' p o) := by
  have n1 := h.nb n
  have n2 := h.ns n
  obtain ⟨ne, ns, i, r, sd, c, e1, e2, l⟩ := x.bag
  refine ⟨⟨ne, ns, i, r, sd, c, ?_, ?_, l⟩, fun a o na e => ?_⟩
  · rw [upd_ne n1.symm]; exact e1
  · rw [upd_ne n2.symm]; exact e2
  · rw [upd_ne (ne_of_none e n)]; exact x.keep a o na e
theorem BX.back (x : BX b s H H') (n : H' p = none) : H p = none := by
  cases e : H p with
  | none => rfl
  | some o =>
    by_cases hb : p = b
    · exact absurd hb (x.bag.nb n)
    · rw [x.keep p o hb e] at n
      cases n
theorem same_mut (x : Same H H') (n : H p = none) : Same H (upd H' p o) := fun a u e => by
  rw [upd_ne (ne_of_none e n)]
  exact x a u e
/-- an object that is not the bag -/
def At (b : Addr) (H : Hp) (a : Addr) (o : HO) : Prop := a ≠ b ∧ H a = some o
theorem At.mv (h : At b H a o) (x : BX b s H H') : At b H' a o := ⟨h.1, x.keep a o h.1 h.2⟩
theorem At.new (h : Bag b s H) (n : H p = none) : At b (upd H p o) p o := ⟨h.nb n, upd_same⟩
theorem At.l {xs : List V} (h : At b H a (.lst xs)) : SqL K H a xs := .of h.2
theorem At.t {xs : List V} (h : At b H a (.tup xs)) : SqT K H a xs := .of h.2
/-- xs[i] of a list, by values: for xs[i] op= e -/
theorem get_list {X : Cx} : PGet X (rIxL X.K) := by
  intro pins s σ H o i ov iv Q I ro ri h
  obtain ⟨p, xs, k, z, rfl, rfl, hq, he, q⟩ := h
  cases ro
  obtain ⟨t, rfl⟩ := ri
  obtain ⟨its, r, pl, hz⟩ := I.list hq
  obtain ⟨j, h1, h2, h3, h4, h5⟩ := atI_get he
  obtain ⟨w, ew, rw'⟩ := r.get h2
  have hl := r.length
  have hn := line63
  have fin : EP X pins σ Q w s := ⟨z, H, I, rw', q⟩
  by_cases h0 : 0 ≤ k
  · have hj : k.toNat = j := by
      rw [seqIndex_of h0 h5] at h1
      exact Option.some.inj h1
    exact wpAny_getItem_list pl.isList h0 (by omega) (by rw [hj]; simpa using ew) fin
  · have hj : (k + (its.toArray.size : Int)).toNat = j := by
      rw [seqIndex_neg (by omega) h4] at h1
      rw [List.size_toArray, ← hl]
      exact Option.some.inj h1
    exact wpAny_getItem_list_neg pl.isList (by omega) (by rw [List.size_toArray] <;> omega) (by omega) (by rw [hj]; simpa using ew) fin
end
theorem fmul (c : Int) (h : -(2 ^ 64) < c ∧ c < 2 ^ 64) (i : Int) : CMul i c := .inr h
theorem cut_take (xs : List V) (k : Nat) : cutV xs none (some (k : Int)) = xs.take k := by
  unfold cutV
  rw [HT.sIx_none, HT.sIx_nat]
  show (xs.drop 0).take (min k xs.length - 0) = xs.take k
  rw [List.drop_zero, Nat.sub_zero]
  by_cases h : k ≤ xs.length
  · rw [Nat.min_eq_left h]
  · rw [Nat.min_eq_right (by omega), List.take_length, List.take_of_length_le (by omega)]

theorem cut_takeI (xs : List V) {k : Int} (h : 0 ≤ k) : cutV xs none (some k) = xs.take k.toNat := by
  obtain ⟨n, rfl⟩ := Int.eq_ofNat_of_zero_le h
  exact cut_take xs n
/-! ### texts by their signs -/
abbrev sg (c : Nat) : Str := ⟨#[c]⟩
abbrev tx (l : List Nat) : Str := ⟨l.toArray⟩
theorem tx_app (a b : List Nat) : tx a ++ tx b = tx (a ++ b) := by
  show (⟨a.toArray ++ b.toArray⟩ : Str) = _
  rw [List.append_toArray]
theorem tx_len (a : List Nat) : (tx a).length = a.length := by
  show a.toArray.size = _
  rw [List.size_toArray]
theorem tx_cps (a : List Nat) : (tx a).cps.toList = a := rfl
theorem tx_of (z : Str) : z = tx z.cps.toList := by
  cases z
  rfl
theorem join_sg (cs : List Nat) : Txt.join (Str.ofString "") (cs.map sg) = tx cs := by
  show Builtin.Str.glued _ _ = _
  rw [StrLaws.glued_eq_join, show Str.ofString "" = (tx [] : Str) from by decide +kernel]
  induction cs with
  | nil => rfl
  | cons c r ih =>
    cases r with
    | nil => rfl
    | cons d t =>
      show sg c ++ tx [] ++ Str.join (tx []) ((d :: t).map sg) = _
      rw [ih, show sg c = tx [c] from rfl, tx_app, tx_app]
      rfl
theorem join_tx (ls : List (List Nat)) : Txt.join (Str.ofString "") (ls.map tx) = tx ls.flatten := by
  show Builtin.Str.glued _ _ = _
  rw [StrLaws.glued_eq_join, show Str.ofString "" = (tx [] : Str) from by decide +kernel]
  induction ls with
  | nil => rfl
  | cons c r ih =>
    cases r with
    | nil => simp [Str.join]
    | cons d t =>
      show tx c ++ tx [] ++ Str.join (tx []) ((d :: t).map tx) = _
      rw [ih, tx_app, tx_app]
      simp
theorem ones_sum (cs : List Nat) : ((cs.map sg).map (·.length)).sum = cs.length := by
  induction cs with
  | nil => rfl
  | cons c r ih =>
    rw [List.map_cons, List.map_cons, List.sum_cons, ih, List.length_cons]
    show 1 + r.length = _
    omega
abbrev alphabet : Str := Str.ofString "abcdefghijklmnopqrstuvwxyz"
theorem alpha_at {i : Int} (h0 : 0 ≤ i) (h1 : i < 26) : atI alphabet.cps.toList i = some (i.toNat + 97) := by
  obtain ⟨k, rfl⟩ := Int.eq_ofNat_of_zero_le h0
  have hk : k < 26 := by omega
  have all : ∀ j : Fin 26, atI alphabet.cps.toList ((j.val : Nat) : Int) = some (j.val + 97) := by decide +kernel
  exact all ⟨k, hk⟩
theorem alpha_codes : alphabet.cps.toList = (List.range 26).map (· + 97) := by decide +kernel
/-- the k-th of the letters drawn by (first, step) -/
def lett (f b : Int) (k : Nat) : Nat := ((f + b * (k : Int)) % 26).toNat + 97
theorem mem_get {α : Type} {xs : List α} {i : Int} {n : Nat} (hn : n = xs.length) (h0 : 0 ≤ i) (h1 : i < (n : Int)) : ∃ x, x ∈ xs ∧ atI xs i = some x := by
  obtain ⟨k, rfl⟩ := Int.eq_ofNat_of_zero_le h0
  have hk : k < xs.length := by omega
  exact ⟨xs[k], List.getElem_mem hk, atI_nat (List.getElem?_eq_getElem hk)⟩
/-! ### the same data, up to a depth -/
def flat1 : V → Bool
  | .non => true
  | .bl _ => true
  | .int _ => true
  | .str _ => true
  | _ => false
def Sam (K : PySem.W.Frag) (H : Hp) : Nat → V → V → Prop
  | 0, v, w => flat1 v = true ∧ v = w
  | n + 1, v, w => (flat1 v = true ∧ v = w) ∨ ∃ a c xs ys, v = .ref a ∧ w = .ref c ∧ ((H a = some (.lst xs) ∧ H c = some (.lst ys)) ∨ (H a = some (.tup xs) ∧ H c = some (.tup ys))) ∧ xs.length < 100000 ∧ Paired (Sam K H n) xs ys
theorem Sam.flat {K : PySem.W.Frag} {H : Hp} {v : V} (n : Nat) (h : flat1 v = true) : Sam K H n v v := by
  cases n with
  | zero => exact ⟨h, rfl⟩
  | succ n => exact .inl ⟨h, rfl⟩
theorem Sam.mono {K : PySem.W.Frag} {H H' : Hp} (x : Same H H') : ∀ {n : Nat} {v w : V}, Sam K H n v w → Sam K H' n v w
  | 0, _, _, h => h
  | n + 1, _, _, h => by
    rcases h with h | ⟨a, c, xs, ys, e1, e2, h, hz, p⟩
    · exact .inl h
    · refine .inr ⟨a, c, xs, ys, e1, e2, ?_, hz, Paired.mapP p fun _ _ q => Sam.mono x q⟩
      rcases h with ⟨h1, h2⟩ | ⟨h1, h2⟩
      · exact .inl ⟨x _ _ h1, x _ _ h2⟩
      · exact .inr ⟨x _ _ h1, x _ _ h2⟩
theorem paired_get {α β : Type} {F : α → β → Prop} : ∀ {xs : List α} {ys : List β} {i : Nat} {x : α} {y : β}, Paired F xs ys → xs[i]? = some x → ys[i]? = some y → F x y
  | _, _, _, _, _, .nil, h, _ => by simp at h
  | _, _, 0, _, _, .cons r _, h, h' => by
    simp at h h'
    subst h h'
    exact r
  | _, _, i + 1, _, _, .cons _ t, h, h' => paired_get (i := i) t (by simpa using h) (by simpa using h')
theorem sam_lst {K : PySem.W.Frag} {H : Hp} {n : Nat} {a c : Addr} {xs ys : List V} (h1 : H a = some (.lst xs)) (h2 : H c = some (.lst ys)) (hz : xs.length < 100000) (p : Paired (Sam K H n) xs ys) : Sam K H (n + 1) (.ref a) (.ref c) :=
  .inr ⟨a, c, xs, ys, rfl, rfl, .inl ⟨h1, h2⟩, hz, p⟩
theorem sam_tup {K : PySem.W.Frag} {H : Hp} {n : Nat} {a c : Addr} {xs ys : List V} (h1 : H a = some (.tup xs)) (h2 : H c = some (.tup ys)) (hz : xs.length < 100000) (p : Paired (Sam K H n) xs ys) : Sam K H (n + 1) (.ref a) (.ref c) :=
  .inr ⟨a, c, xs, ys, rfl, rfl, .inr ⟨h1, h2⟩, hz, p⟩
theorem paired_flat {K : PySem.W.Frag} {H : Hp} {n : Nat} : ∀ {xs : List V}, (∀ x ∈ xs, flat1 x = true) → Paired (Sam K H n) xs xs
  | [], _ => .nil
  | x :: r, h => .cons (.flat n (h x (by simp))) (paired_flat fun y hy => h y (by simp [hy]))
theorem kit_seq {K : PySem.W.Frag} {t : String} (h1 : kitB t "list" = some false) (h2 : kitB t "tuple" = some false) : PySem.W.kitAny K (.type t) [.type "list", .type "tuple"] = some false :=
  kitAny_cons (b := false) (kit_ty h1) (fun _ => kitAny_cons (b := false) (kit_ty h2) (fun _ => kitAny_nil) (fun z => nomatch z)) (fun z => nomatch z)
theorem kit_lst {K : PySem.W.Frag} : PySem.W.kitAny K (.type "list") [.type "list", .type "tuple"] = some true :=
  kitAny_cons (b := true) (kit_ty (by decide +kernel)) (fun z => nomatch z) (fun _ => rfl)
theorem kit_tup {K : PySem.W.Frag} : PySem.W.kitAny K (.type "tuple") [.type "list", .type "tuple"] = some true :=
  kitAny_cons (b := false) (kit_ty (by decide +kernel)) (fun _ => kitAny_cons (b := true) (kit_ty (by decide +kernel)) (fun z => nomatch z) (fun _ => rfl)) (fun z => nomatch z)
theorem kit_cls : Paired ClsV [V.ty "list", V.ty "tuple"] [.type "list", .type "tuple"] := .cons (.ty "list") (.cons (.ty "tuple") .nil)
theorem walk_zipT {K : PySem.W.Frag} {a b : Addr} {xs ys : List V} {n : Nat} (hn : n = min xs.length ys.length) : Walk (RZ.ItzT K a b) n (fun H => SqT K H a xs ∧ SqT K H b ys) (YPair (fun i => xs[i]?) (fun i => ys[i]?)) := by
  subst hn
  refine ⟨fun i _ hi q => ?_, fun _ q => ⟨xs, ys, q.1, q.2, by omega⟩, fun i H v H' _ q y => ?_⟩
  · have u1 : i < xs.length := Nat.lt_of_lt_of_le hi (Nat.min_le_left _ _)
    have u2 : i < ys.length := Nat.lt_of_lt_of_le hi (Nat.min_le_right _ _)
    exact ⟨xs, ys, xs[i], ys[i], q.1, q.2, List.getElem?_eq_getElem u1, List.getElem?_eq_getElem u2⟩
  · obtain ⟨T, x, z, g1, g2, g3, g4, g5⟩ := y
    exact ⟨T, x, z, g1, g2, g3, g4 xs q.1, g5 ys q.2⟩
/-- a comprehension whose element gives True at each turn, made beside objects that stay -/
theorem paired_len {α β : Type} {F : α → β → Prop} {xs : List α} {ys : List β} (p : Paired F xs ys) : xs.length = ys.length := Paired.length p
/-! ### f(k = v, ..): keywords alone -/
def tCallK0 (sp : Sp) (gV : List V → List V → List V) (E : XK) (tk : TA) : TE := fun σ H Q => tk σ H fun zs H2 => sp (gV [] zs) H2 Q E
theorem pe_callK0 {X : Cx} {CX : CXT} {k : Nat} {f : Addr} {fd : FuncData} {ps ks : List Str} {sp : Sp} {E : XK} {x : Str} {p pos : Pos} {kws : List Keyword} {tk : TA} {g : List Value → List Value → List Value} {gV : List V → List V → List V}
    (F : FnOk X.prog X.w X.K X.mg X.base CX k f fd ps sp) (hr : Room k X.A) (hg : Gl X x) (hm : X.mg x = some (.ref f)) (kp : PySem.W.keepIn X.K (.ref f) = true) (hb : KBinds X.K fd ps ks g gV) (hx : Passes CX X E)
    (hkw : PK X kws tk) (hall : (backToKw pos (keywordEach kws X.env)).all (·.1.isSome) = true := by rfl) (hks : (backToKw pos (keywordEach kws X.env)).filterMap (·.1) = ks := by rfl)
    (hdb : (x == ("__debug__" : Str)) = false := by decide) (hpl : ((backTo pos (starEach [] X.env)).any (·.1) || (backToKw pos (keywordEach kws X.env)).any (·.1.isNone)) = false := by rfl) :
    PE X (.Call (.Name x p) [] kws pos) (tCallK0 sp gV E tk) := by
  refine ⟨fun pins s σ H Q I h => ?_⟩
  refine wpAny_Call_Name_kw (ld_glob I hg hm ?_ hdb)
  refine PySem.W.callWith_KW0 (h₀ := X.base) I.ok.mod.kin kp hall ?_ hpl
  refine thn (hkw.run pos pins s σ H _ I h) fun ws s2 ⟨zs, H2, I2, rz, q2⟩ => ⟨I2.kIn, ?_⟩
  rw [hks]
  exact run_fnk F hr hb hx I2 .nil rz q2
/-! ### lists of texts as data: for == and != -/
def txsD (ls : List (List Nat)) : List PyData := ls.map fun l => PyData.str (tx l)
theorem strOk_tx {l : List Nat} (h : ∀ c ∈ l, c < 128) : PyData.strOk (tx l) = true := by
  unfold PyData.strOk
  rw [Array.all_eq_true_iff_forall_mem]
  intro c hc
  have := h c (by simpa using hc)
  exact decide_eq_true (by omega)
theorem txs_lay : ∀ {ls : List (List Nat)}, (∀ l ∈ ls, ∀ c ∈ l, c < 128) → PyData.canLayAll0 (txsD ls) = true
  | [], _ => rfl
  | l :: r, h => by
    show (PyData.canLay0 (.str (tx l)) && PyData.canLayAll0 (txsD r)) = true
    rw [txs_lay fun x hx => h x (by simp [hx]), Bool.and_true]
    exact strOk_tx (h l (by simp))
theorem txs_depth : ∀ ls : List (List Nat), PyData.depthAll (txsD ls) = 0
  | [] => rfl
  | l :: r => by
    show max (PyData.depth (.str (tx l))) (PyData.depthAll (txsD r)) = 0
    rw [txs_depth r]
    rfl
theorem txs_shaped {ls : List (List Nat)} (h : ∀ l ∈ ls, ∀ c ∈ l, c < 128) : SeqAt.shaped (.list (txsD ls)) = true := by
  unfold SeqAt.shaped
  rw [show PyData.canLay0 (.list (txsD ls)) = PyData.canLayAll0 (txsD ls) from rfl, txs_lay h, show PyData.depth (.list (txsD ls)) = PyData.depthAll (txsD ls) + 1 from rfl, txs_depth]
  rfl
theorem txs_dp {K : PySem.W.Frag} {H : Hp} : ∀ ls : List (List Nat), DpAll K H (ls.map fun l => V.str (tx l)) (txsD ls)
  | [] => .nil
  | l :: r => .cons (.str _) (txs_dp r)
theorem txs_nil (ls : List (List Nat)) : PyData.eqv (.list (txsD ls)) (.list []) = ls.isEmpty := by
  cases ls with
  | nil => rfl
  | cons l r => rfl
/-- an expression that gives v and leaves the heap -/
theorem pu_use {te : TE} {σ : L2.St} {H : Hp} {Q : VK} (v : V) (h : ∀ Q' : VK, Q' v H → te σ H Q') (q : Q v H) : te σ H Q := h Q q
theorem cutS_drop (zs : List Nat) (k : Nat) : cutS (tx zs) (some (k : Int)) none = tx (zs.drop k) := by
  unfold cutS
  rw [tx_len, HT.sIx_nat, HT.sIx_none, tx_cps]
  show tx _ = tx _
  congr 1
  by_cases h : k ≤ zs.length
  · rw [Nat.min_eq_left h]
    exact List.take_of_length_le (by rw [List.length_drop]; omega)
  · rw [Nat.min_eq_right (by omega), List.drop_of_length_le (Nat.le_refl _), List.drop_of_length_le (by omega), List.take_nil]
theorem cutS_take (zs : List Nat) (k : Nat) : cutS (tx zs) none (some (k : Int)) = tx (zs.take k) := by
  unfold cutS
  rw [tx_len, HT.sIx_nat, HT.sIx_none, tx_cps]
  show tx _ = tx _
  congr 1
  rw [List.drop_zero, Nat.sub_zero]
  by_cases h : k ≤ zs.length
  · rw [Nat.min_eq_left h]
  · rw [Nat.min_eq_right (by omega), List.take_length, List.take_of_length_le (by omega)]
/-! ### sep.join(xs) within a comprehension -/
def rJoin (K : PySem.W.Frag) : V → List V → Hp → VK → Prop := fun x vs H Q => ∃ sep lst, ∃ ts : List Str, x = .str sep ∧ vs = [.ref lst] ∧ (SqL K H lst (ts.map V.str) ∨ SqT K H lst (ts.map V.str)) ∧
  (ts.map (·.length)).sum + ts.length * sep.length ≤ 16777216 ∧ Q (.str (Txt.join sep ts)) H
theorem pe_joinK {X : Cx} {K : PySem.W.Frag} {o e : Expr} {to te : TE} {apos pos : Pos} (ho : PE X o to) (he : PE X e te) (hK : X.K = K := by rfl) (h1 : starEach [e] X.env = [(false, eval e X.env)] := by rfl)
    (h2 : attributeBase o "join" X.env (eval o X.env) = eval o X.env := by rfl) (h3 : (apos.endLine == pos.line) = true := by rfl) : PE X (.Call (.Attribute o "join" apos) [e] [] pos) (tM1 (rJoin K) to te) := by
  subst hK
  exact pe_join ho he h1 h2 h3
end LB

namespace K01
open PySem PySem.Spec PyProof.Rows L2 LB
def KG_p_is_letter_0_text : List V → List V → List V
  | [], [k_text] => [k_text]
  | _, _ => []
def KG_p_is_letter_0_textV : List Value → List Value → List Value
  | [], [k_text] => [k_text]
  | _, _ => []
def KG_p_is_name_0_text : List V → List V → List V
  | [], [k_text] => [k_text]
  | _, _ => []
def KG_p_is_name_0_textV : List Value → List Value → List Value
  | [], [k_text] => [k_text]
  | _, _ => []
def KG_p_is_word_0_text : List V → List V → List V
  | [], [k_text] => [k_text]
  | _, _ => []
def KG_p_is_word_0_textV : List Value → List Value → List Value
  | [], [k_text] => [k_text]
  | _, _ => []
def topS (i : Nat) : Stmt := PySem.Challenge.pw_leakpost_k01_names_letters_words.main.body.getD i (.Pass ⟨0, 0, 0, 0⟩)
abbrev s_p_is_word : Stmt := topS 3
abbrev N_p_is_word : List Str := ["text", "sign"]
abbrev P_p_is_word : List Str := ["text"]
theorem sc_p_is_word : FnScope N_p_is_word P_p_is_word (defScope s_p_is_word) := ⟨rfl, rfl, rfl, by decide +kernel, rfl, by decide +kernel, by decide +kernel⟩
abbrev s_p_is_name : Stmt := topS 4
abbrev N_p_is_name : List Str := ["text"]
abbrev P_p_is_name : List Str := ["text"]
theorem sc_p_is_name : FnScope N_p_is_name P_p_is_name (defScope s_p_is_name) := ⟨rfl, rfl, rfl, by decide +kernel, rfl, by decide +kernel, by decide +kernel⟩
abbrev s_p_is_letter : Stmt := topS 5
abbrev N_p_is_letter : List Str := ["text"]
abbrev P_p_is_letter : List Str := ["text"]
theorem sc_p_is_letter : FnScope N_p_is_letter P_p_is_letter (defScope s_p_is_letter) := ⟨rfl, rfl, rfl, by decide +kernel, rfl, by decide +kernel, by decide +kernel⟩
abbrev s_bag : Stmt := topS 7
abbrev N_bag : List Str := ["_law_script", "_law_seed", "_law_cell"]
abbrev P_bag : List Str := ["_law_script"]
theorem sc_bag : FnScope N_bag P_bag (defScope s_bag) := ⟨rfl, rfl, rfl, by decide +kernel, rfl, by decide +kernel, by decide +kernel⟩
abbrev s_pull : Stmt := topS 8
abbrev N_pull : List Str := ["_law_bag_here", "_law_many", "_law_rest", "_law_cell", "_law_one", "_law_two"]
abbrev P_pull : List Str := ["_law_bag_here", "_law_many"]
theorem sc_pull : FnScope N_pull P_pull (defScope s_pull) := ⟨rfl, rfl, rfl, by decide +kernel, rfl, by decide +kernel, by decide +kernel⟩
abbrev s_of : Stmt := topS 9
abbrev N_of : List Str := ["_law_bag_here", "_law_some"]
abbrev P_of : List Str := ["_law_bag_here", "_law_some"]
theorem sc_of : FnScope N_of P_of (defScope s_of) := ⟨rfl, rfl, rfl, by decide +kernel, rfl, by decide +kernel, by decide +kernel⟩
abbrev s_same : Stmt := topS 10
abbrev N_same : List Str := ["_law_found", "_law_due", "_law_a", "_law_b"]
abbrev P_same : List Str := ["_law_found", "_law_due"]
theorem sc_same : FnScope N_same P_same (defScope s_same) := ⟨rfl, rfl, rfl, by decide +kernel, rfl, by decide +kernel, by decide +kernel⟩
abbrev s_text : Stmt := topS 11
abbrev N_text : List Str := ["_law_bag_here", "_law_alphabet", "_law_signs", "_law_k"]
abbrev P_text : List Str := ["_law_bag_here"]
theorem sc_text : FnScope N_text P_text (defScope s_text) := ⟨rfl, rfl, rfl, by decide +kernel, rfl, by decide +kernel, by decide +kernel⟩
abbrev s_law : Stmt := topS 12
abbrev N_law : List Str := ["_law_script", "_law_bag_here", "_law_alphabet", "_law_turn", "_law_sign_row", "_law_small", "_law_due", "_law_sign"]
abbrev P_law : List Str := ["_law_script"]
theorem sc_law : FnScope N_law P_law (defScope s_law) := ⟨rfl, rfl, rfl, by decide +kernel, rfl, by decide +kernel, by decide +kernel⟩
set_option maxHeartbeats 0 in
structure Tx (K : PySem.W.Frag) (mg : Str → Option Value) where
  f_p_is_word : Addr
  fd_p_is_word : FuncData
  F_p_is_word : Fun K "is_word" "is_word" s_p_is_word f_p_is_word fd_p_is_word
  b_p_is_word : L2.Binds K fd_p_is_word P_p_is_word []
  g_p_is_word : mg "is_word" = some (.ref f_p_is_word)
  f_p_is_name : Addr
  fd_p_is_name : FuncData
  F_p_is_name : Fun K "is_name" "is_name" s_p_is_name f_p_is_name fd_p_is_name
  b_p_is_name : L2.Binds K fd_p_is_name P_p_is_name []
  g_p_is_name : mg "is_name" = some (.ref f_p_is_name)
  f_p_is_letter : Addr
  fd_p_is_letter : FuncData
  F_p_is_letter : Fun K "is_letter" "is_letter" s_p_is_letter f_p_is_letter fd_p_is_letter
  b_p_is_letter : L2.Binds K fd_p_is_letter P_p_is_letter []
  g_p_is_letter : mg "is_letter" = some (.ref f_p_is_letter)
  f_bag : Addr
  fd_bag : FuncData
  F_bag : Fun K "_law_bag" "_law_bag" s_bag f_bag fd_bag
  b_bag : L2.Binds K fd_bag P_bag []
  g_bag : mg "_law_bag" = some (.ref f_bag)
  f_pull : Addr
  fd_pull : FuncData
  F_pull : Fun K "_law_pull" "_law_pull" s_pull f_pull fd_pull
  b_pull : L2.Binds K fd_pull P_pull []
  g_pull : mg "_law_pull" = some (.ref f_pull)
  f_of : Addr
  fd_of : FuncData
  F_of : Fun K "_law_of" "_law_of" s_of f_of fd_of
  b_of : L2.Binds K fd_of P_of []
  g_of : mg "_law_of" = some (.ref f_of)
  f_same : Addr
  fd_same : FuncData
  F_same : Fun K "_law_same" "_law_same" s_same f_same fd_same
  b_same : L2.Binds K fd_same P_same []
  g_same : mg "_law_same" = some (.ref f_same)
  f_text : Addr
  fd_text : FuncData
  F_text : Fun K "_law_text" "_law_text" s_text f_text fd_text
  b_text : L2.Binds K fd_text P_text []
  g_text : mg "_law_text" = some (.ref f_text)
  f_law : Addr
  fd_law : FuncData
  F_law : Fun K "law" "law" s_law f_law fd_law
  b_law : L2.Binds K fd_law P_law []
  g_law : mg "law" = some (.ref f_law)
  kb_p_is_letter_0_text : KBinds K fd_p_is_letter P_p_is_letter ["text"] KG_p_is_letter_0_textV KG_p_is_letter_0_text
  kb_p_is_name_0_text : KBinds K fd_p_is_name P_p_is_name ["text"] KG_p_is_name_0_textV KG_p_is_name_0_text
  kb_p_is_word_0_text : KBinds K fd_p_is_word P_p_is_word ["text"] KG_p_is_word_0_textV KG_p_is_word_0_text
  m_all : mg "all" = none
  m_bool : mg "bool" = none
  m_int : mg "int" = none
  m_isinstance : mg "isinstance" = none
  m_len : mg "len" = none
  m_list : mg "list" = none
  m_range : mg "range" = none
  m_str : mg "str" = none
  m_tuple : mg "tuple" = none
  m_zip : mg "zip" = none
  u_LETTERS : Value
  c_LETTERS : mg "LETTERS" = some u_LETTERS
  r_LETTERS : RelV (V.str (PySem.Str.ofString "abcdefghijklmnopqrstuvwxyz")) u_LETTERS
  u_MOST_NAME : Value
  c_MOST_NAME : mg "MOST_NAME" = some u_MOST_NAME
  r_MOST_NAME : RelV (V.int 8) u_MOST_NAME
theorem kbp_p_is_letter_0_text {K : PySem.W.Frag} {f : Addr} {fd : FuncData} (F : Fun K "is_letter" "is_letter" s_p_is_letter f fd) : KBinds K fd P_p_is_letter ["text"] KG_p_is_letter_0_textV KG_p_is_letter_0_text := by
  obtain ⟨oc, od, kV, doc, pm, an, cdv, ct, osl, rfl, lk, hcd⟩ := F.ex
  refine ⟨fun s us ws _ hl => ?_, fun {vs us zs ws} r1 r2 => ?_⟩
  · rcases us with _ | ⟨u0, us⟩
    · rcases ws with _ | ⟨w0, ws⟩
      · simp [KG_p_is_letter_0_textV] at hl
      · rcases ws with _ | ⟨w1, ws⟩
        · exact .of_eq rfl
        · simp [KG_p_is_letter_0_textV] at hl
    · simp [KG_p_is_letter_0_textV] at hl
  · rcases r1 with _ | ⟨a0, r1⟩
    · rcases r2 with _ | ⟨b0, r2⟩
      · exact .nil
      · rcases r2 with _ | ⟨b1, r2⟩
        · exact (.cons b0 .nil)
        · exact .nil
    · exact .nil
theorem kbp_p_is_name_0_text {K : PySem.W.Frag} {f : Addr} {fd : FuncData} (F : Fun K "is_name" "is_name" s_p_is_name f fd) : KBinds K fd P_p_is_name ["text"] KG_p_is_name_0_textV KG_p_is_name_0_text := by
  obtain ⟨oc, od, kV, doc, pm, an, cdv, ct, osl, rfl, lk, hcd⟩ := F.ex
  refine ⟨fun s us ws _ hl => ?_, fun {vs us zs ws} r1 r2 => ?_⟩
  · rcases us with _ | ⟨u0, us⟩
    · rcases ws with _ | ⟨w0, ws⟩
      · simp [KG_p_is_name_0_textV] at hl
      · rcases ws with _ | ⟨w1, ws⟩
        · exact .of_eq rfl
        · simp [KG_p_is_name_0_textV] at hl
    · simp [KG_p_is_name_0_textV] at hl
  · rcases r1 with _ | ⟨a0, r1⟩
    · rcases r2 with _ | ⟨b0, r2⟩
      · exact .nil
      · rcases r2 with _ | ⟨b1, r2⟩
        · exact (.cons b0 .nil)
        · exact .nil
    · exact .nil
theorem kbp_p_is_word_0_text {K : PySem.W.Frag} {f : Addr} {fd : FuncData} (F : Fun K "is_word" "is_word" s_p_is_word f fd) : KBinds K fd P_p_is_word ["text"] KG_p_is_word_0_textV KG_p_is_word_0_text := by
  obtain ⟨oc, od, kV, doc, pm, an, cdv, ct, osl, rfl, lk, hcd⟩ := F.ex
  refine ⟨fun s us ws _ hl => ?_, fun {vs us zs ws} r1 r2 => ?_⟩
  · rcases us with _ | ⟨u0, us⟩
    · rcases ws with _ | ⟨w0, ws⟩
      · simp [KG_p_is_word_0_textV] at hl
      · rcases ws with _ | ⟨w1, ws⟩
        · exact .of_eq rfl
        · simp [KG_p_is_word_0_textV] at hl
    · simp [KG_p_is_word_0_textV] at hl
  · rcases r1 with _ | ⟨a0, r1⟩
    · rcases r2 with _ | ⟨b0, r2⟩
      · exact .nil
      · rcases r2 with _ | ⟨b1, r2⟩
        · exact (.cons b0 .nil)
        · exact .nil
    · exact .nil
section
variable {P : Program} {w : World} {K : PySem.W.Frag} {mg : Str → Option Value} {base : Heap}
/-! ### the bag: made, drawn from -/
def sp_bag (K : PySem.W.Frag) : Sp := fun vs H Q _ => ∃ (a : Addr) (ns : List Int), vs = [.ref a] ∧ SqL K H a (ns.map V.int) ∧ ns.length ≤ 63 ∧ ∀ H' b s, Same H H' → Bag b s H' → H b = none → Q (.ref b) H'
theorem ok_bag (T : Tx K mg) : FnOk P w K mg base CX0 1 T.f_bag T.fd_bag P_bag (sp_bag K) := by
  refine T.F_bag.ok sc_bag (fun vs H Q E h => ?_) (fun cdv A outer s H vs Q E hr h => ?_)
  · obtain ⟨a, ns, rfl, _⟩ := h
    rfl
  · obtain ⟨a, ns, rfl, hS, hlen, q⟩ := h
    refine ⟨_, 
      (pss_cons (ps_set (i := 1) sc_bag.nd rfl (.inl rfl) pe_int)
      (pss_cons (ps_for PassesOwn.never rfl (pi_list (pe_slice sl_list (L2.pv 0) po_none (po_some pe_int))) (pg_name (i := 2) sc_bag.nd rfl (.inl rfl))
        (pss_one (ps_set (i := 1) sc_bag.nd rfl (.inl rfl) (pe_op op_mod (pe_op op_add (pe_op op_add (pe_op op_mul (L2.pv 1) pe_int) (L2.pv 2)) pe_int) pe_int))))
      (pss_one (ps_ret (pe_lst (pa_cons (pe_callTy call_list_of (by rfl) T.m_list (by decide +kernel) (pa_cons (pe_slice sl_list (L2.pv 0) po_none (po_some pe_int)) pa_nil)) (pa_cons pe_int (pa_cons pe_int (pa_cons (L2.pv 1) (pa_cons pe_int pa_nil)))))))))), ?_⟩
    refine ⟨.ref a, rfl, 63, rfl, a, ns.map V.int, rfl, hS, fun c nc => ?_⟩
    have ec : cutV (ns.map V.int) none (some 63) = ns.map V.int := by
      rw [show (63 : Int) = ((63 : Nat) : Int) from rfl, LB.cut_take, List.take_of_length_le (by rw [List.length_map]; exact hlen)]
    rw [ec]
    have s1 : Same H (upd H c (.lst (ns.map V.int))) := LB.same_new nc
    refine ⟨c, rfl, ⟨_, .of upd_same⟩, for_list (xs := ns.map V.int) (fun _ σ H' => ∃ (sd : Int) (y : Option V), σ = [some (.ref a), some (.int sd), y] ∧ H' = upd H c (.lst (ns.map V.int))) ⟨_, _, rfl, rfl⟩ (fun i σ H' _ h => ?_) (fun i x σ H' hx h => ?_) (fun σ H' h => ?_)⟩
    · obtain ⟨sd, y, _, rfl⟩ := h
      exact .of upd_same
    · obtain ⟨sd, y, rfl, rfl⟩ := h
      obtain ⟨n, _, rfl⟩ : ∃ n, ns[i]? = some n ∧ V.int n = x := by
        rw [List.getElem?_map] at hx
        cases e : ns[i]? with
        | none => rw [e] at hx; cases hx
        | some n => rw [e] at hx; exact ⟨n, rfl, Option.some.inj hx⟩
      refine ⟨.int sd, rfl, sd, 65539, rfl, rfl, .inr ⟨by decide, by decide⟩, .int n, rfl, _, n, rfl, rfl, _, 7, rfl, rfl, _, 2147483629, rfl, rfl, (by show (0 : Int) < 2147483629; decide), _, _, rfl, rfl⟩
    · obtain ⟨sd, y, rfl, rfl⟩ := h
      refine ⟨.ref a, rfl, 63, rfl, a, ns.map V.int, rfl, s1.seq hS, fun d nd => ?_⟩
      rw [ec]
      have s2 := LB.same_new (o := .lst (ns.map V.int)) nd
      refine ⟨d, _, rfl, .inl (.of upd_same), fun l nl => ?_⟩
      have s3 := LB.same_new (o := .lst (ns.map V.int)) nl
      refine ⟨.int sd, rfl, (by show 5 ≤ sizeLine; decide), fun b nb => ?_⟩
      have s4 := LB.same_new (o := .lst [.ref l, .int 0, .int 0, .int sd, .int 0]) nb
      have nlb : l ≠ b := ne_of_none upd_same nb
      refine q _ b l (s1.trans (s2.trans (s3.trans s4))) ⟨nlb, ns, 0, 0, sd, 0, upd_same, ?_, hlen, Int.le_refl _⟩ ((s1.trans (s2.trans s3)).free nb)
      rw [upd_ne nlb, upd_same]
def sp_pull : Sp := fun vs H Q _ => ∃ (b s : Addr) (m : Int), vs = [.ref b, .int m] ∧ Bag b s H ∧ 0 < m ∧ m < 1000000 ∧ ∀ H' v, BX b s H H' → 0 ≤ v → v < m → Q (.int v) H'
theorem ok_pull (T : Tx K mg) : FnOk P w K mg base CX0 1 T.f_pull T.fd_pull P_pull sp_pull := by
  refine T.F_pull.ok sc_pull (fun vs H Q E h => ?_) (fun cdv A outer s H vs Q E hr h => ?_)
  · obtain ⟨b, s, m, rfl, _⟩ := h
    rfl
  · obtain ⟨b, cs, m, rfl, ⟨nsb, ns, i, r, sd, c, e1, e2, hl, i0⟩, m0, m1, q⟩ := h
    have fin : ∀ i' r' sd' c', 0 ≤ i' → BX b cs H (upd H b (bagL cs i' r' sd' c')) := fun i' r' sd' c' h0 =>
      ⟨⟨nsb, ns, i', r', sd', c', upd_same, (upd_ne nsb).trans e2, hl, h0⟩, fun a o na e => (upd_ne na).trans e⟩
    refine ⟨_, 
      (pss_cons (ps_augS (L2.pv 0) pe_int LB.get_list pe_int ip_add set_list)
      (pss_cons (ps_if (pt_cmpR op_gt (pe_ix ix_list (L2.pv 0) pe_int (fun _ _ => rfl)) pe_int (nomark _))
        (pss_cons (ps_set (i := 2) sc_pull.nd rfl (.inl rfl) (pe_ix ix_list (L2.pv 0) pe_int (fun _ _ => rfl)))
        (pss_cons (ps_asg (pe_op op_fdiv (L2.pv 2) (L2.pv 1)) (pg_sub (L2.pv 0) pe_int set_list))
        (pss_one (ps_ret (pe_op op_mod (L2.pv 2) (L2.pv 1))))))
        pss_nil)
      (pss_cons (ps_set (i := 3) sc_pull.nd rfl (.inl rfl) (pe_ix ix_list (L2.pv 0) pe_int (fun _ _ => rfl)))
      (Evl.pss_cut (ps_if (pt_cmpR op_lt (pe_ix ix_list (L2.pv 0) pe_int (fun _ _ => rfl)) (pe_callB call_len_seq (by rfl) T.m_len PySem.boot_len (pa_cons (pe_ix ix_list (L2.pv 0) pe_int (fun _ _ => rfl)) pa_nil)) (nomark _))
        (pss_cons (ps_set (i := 3) sc_pull.nd rfl (.inl rfl) (pe_ix ix_list (pe_ix ix_list (L2.pv 0) pe_int (fun _ _ => rfl)) (pe_ix ix_list (L2.pv 0) pe_int (fun _ _ => rfl)) (fun _ _ => rfl)))
        (pss_one (ps_augS (L2.pv 0) pe_int LB.get_list pe_int ip_add set_list)))
        pss_nil)
      (pss_cons (ps_if (pt_cmpR op_ge (L2.pv 3) (pe_op op_pow pe_int pe_int) (nomark _))
        (pss_cons (ps_asg (pe_op op_fdiv (L2.pv 3) (L2.pv 1)) (pg_sub (L2.pv 0) pe_int set_list))
        (pss_one (ps_ret (pe_op op_mod (L2.pv 3) (L2.pv 1)))))
        pss_nil)
      (pss_cons (ps_set (i := 4) sc_pull.nd rfl (.inl rfl) (pe_op op_mod (pe_op op_add (pe_op op_add (pe_op op_add (pe_op op_mul (L2.pv 3) pe_int) (pe_op op_mul (pe_ix ix_list (L2.pv 0) pe_int (fun _ _ => rfl)) pe_int)) (pe_op op_mul (pe_ix ix_list (L2.pv 0) pe_int (fun _ _ => rfl)) pe_int)) pe_int) pe_int))
      (pss_cons (ps_set (i := 5) sc_pull.nd rfl (.inl rfl) (pe_op op_mod (pe_op op_add (pe_op op_add (pe_op op_mul (L2.pv 4) (pe_op op_add (pe_op op_mod (L2.pv 4) pe_int) pe_int)) (pe_op op_mul (pe_ix ix_list (L2.pv 0) pe_int (fun _ _ => rfl)) pe_int)) (pe_op op_mod (pe_ix ix_list (L2.pv 0) pe_int (fun _ _ => rfl)) pe_int)) pe_int))
      (pss_cons (ps_asg (pe_op op_mod (pe_op op_add (pe_op op_mul (pe_ix ix_list (L2.pv 0) pe_int (fun _ _ => rfl)) pe_int) (L2.pv 5)) pe_int) (pg_sub (L2.pv 0) pe_int set_list))
      (pss_one (ps_ret (pe_op op_mod (pe_op op_fdiv (L2.pv 5) pe_int) (L2.pv 1)))))))))))), ?_⟩
    -- the count
    refine ⟨.ref b, rfl, b, _, 4, .int c, rfl, rfl, .of e1, rfl, c, 1, rfl, rfl, b, _, 4, 4, rfl, rfl, e1, rfl, ?_⟩
    show _
    have f1 : (upd H b (bagL cs i r sd (c + 1))) b = some (bagL cs i r sd (c + 1)) := upd_same
    refine ⟨.ref b, rfl, b, _, 2, .int r, rfl, rfl, .of f1, rfl, r, 0, rfl, rfl, _, rfl, ite2 (fun e => ?_) (fun e => ?_)⟩
    · -- what is left of a great number
      refine ⟨.ref b, rfl, b, _, 2, .int r, rfl, rfl, .of f1, rfl, ?_⟩
      refine ⟨.int r, rfl, .int m, rfl, r, m, rfl, rfl, ⟨m0, by omega⟩, .ref b, rfl, b, _, 2, 2, rfl, rfl, f1, rfl, ?_⟩
      refine ⟨.int r, rfl, .int m, rfl, r, m, rfl, rfl, m0, ?_⟩
      rw [upd_upd]
      exact q _ _ (fin i (r / m) sd (c + 1) i0) (Int.emod_nonneg _ (by omega)) (Int.emod_lt_of_pos _ m0)
    · refine ⟨.ref b, rfl, b, _, 3, .int sd, rfl, rfl, .of f1, rfl, ?_⟩
      -- a cell, where one is left
      have f2 : (upd H b (bagL cs i r sd (c + 1))) cs = some (.lst (ns.map V.int)) := (upd_ne nsb).trans e2
      refine ⟨fun σ G => ∃ i' cell, 0 ≤ i' ∧ σ = [some (.ref b), some (.int m), none, some (.int cell), none, none] ∧ G = upd H b (bagL cs i' r sd (c + 1)), ⟨.ref b, rfl, b, _, 1, .int i, rfl, rfl, .of f1, rfl, .ref b, rfl, b, _, 0, .ref cs, rfl, rfl, .of f1, rfl, cs, _, rfl, .inl (.of f2), i, _, rfl, rfl, _, rfl, ite2 (fun e' => ?_) (fun _ => ⟨i, sd, i0, rfl, rfl⟩)⟩, fun σ G h => ?_⟩
      · have hi : i < ns.length := by
          have := of_decide_eq_true e'
          rw [List.length_map] at this
          exact this
        have gi : (ns.map V.int)[i.toNat]? = some (.int (ns[i.toNat]'(by omega))) := by
          rw [List.getElem?_map, List.getElem?_eq_getElem (by omega)]
          rfl
        have ga : atI (ns.map V.int) i = some (.int (ns[i.toNat]'(by omega))) := by
          have := atI_nat gi
          rw [Int.toNat_of_nonneg i0] at this
          exact this
        refine ⟨.ref b, rfl, b, _, 0, .ref cs, rfl, rfl, .of f1, rfl, .ref b, rfl, b, _, 1, .int i, rfl, rfl, .of f1, rfl, cs, _, i, _, rfl, rfl, .of f2, ga, ?_⟩
        refine ⟨.ref b, rfl, b, _, 1, .int i, rfl, rfl, .of f1, rfl, i, 1, rfl, rfl, b, _, 1, 1, rfl, rfl, f1, rfl, ?_⟩
        exact ⟨i + 1, _, by omega, rfl, upd_upd⟩
      · obtain ⟨i', cell, h0, rfl, rfl⟩ := h
        have g1 : (upd H b (bagL cs i' r sd (c + 1))) b = some (bagL cs i' r sd (c + 1)) := upd_same
        refine ⟨.int cell, rfl, 10, 18, rfl, rfl, ⟨by decide, by decide, by decide⟩, cell, _, rfl, rfl, _, rfl, ite2 (fun _ => ?_) (fun _ => ?_)⟩
        · refine ⟨.int cell, rfl, .int m, rfl, cell, m, rfl, rfl, ⟨m0, by omega⟩, .ref b, rfl, b, _, 2, 2, rfl, rfl, g1, rfl, ?_⟩
          refine ⟨.int cell, rfl, .int m, rfl, cell, m, rfl, rfl, m0, ?_⟩
          rw [upd_upd]
          exact q _ _ (fin i' (cell / m) sd (c + 1) h0) (Int.emod_nonneg _ (by omega)) (Int.emod_lt_of_pos _ m0)
        · -- a number by mixing
          refine ⟨.int cell, rfl, cell, 48271, rfl, rfl, .inr ⟨by decide, by decide⟩, .ref b, rfl, b, _, 3, .int sd, rfl, rfl, .of g1, rfl, sd, 40503, rfl, rfl, .inr ⟨by decide, by decide⟩, _, _, rfl, rfl,
            .ref b, rfl, b, _, 4, .int (c + 1), rfl, rfl, .of g1, rfl, c + 1, 69621, rfl, rfl, .inr ⟨by decide, by decide⟩, _, _, rfl, rfl, _, 12345, rfl, rfl, _, 2147483629, rfl, rfl, (by show (0 : Int) < 2147483629; decide), ?_⟩
          refine ⟨_, rfl, _, rfl, _, 65521, rfl, rfl, (by show (0 : Int) < 65521; decide), _, 11, rfl, rfl, _, _, rfl, rfl, .inl ⟨by omega, by omega⟩,
            .ref b, rfl, b, _, 4, .int (c + 1), rfl, rfl, .of g1, rfl, c + 1, 40692, rfl, rfl, .inr ⟨by decide, by decide⟩, _, _, rfl, rfl,
            .ref b, rfl, b, _, 3, .int sd, rfl, rfl, .of g1, rfl, sd, 104729, rfl, rfl, (by show (0 : Int) < 104729; decide), _, _, rfl, rfl, _, 998244353, rfl, rfl, (by show (0 : Int) < 998244353; decide), ?_⟩
          refine ⟨.ref b, rfl, b, _, 3, .int sd, rfl, rfl, .of g1, rfl, sd, 16807, rfl, rfl, .inr ⟨by decide, by decide⟩, _, rfl, _, _, rfl, rfl, _, 2147483563, rfl, rfl, (by show (0 : Int) < 2147483563; decide), .ref b, rfl, b, _, 3, 3, rfl, rfl, g1, rfl, ?_⟩
          refine ⟨_, rfl, _, 7, rfl, rfl, ⟨by decide, by decide⟩, .int m, rfl, _, m, rfl, rfl, m0, ?_⟩
          rw [upd_upd]
          exact q _ _ (fin i' r _ (c + 1) h0) (Int.emod_nonneg _ (by omega)) (Int.emod_lt_of_pos _ m0)

/-! ### one of a list, one of a text's signs -/
def sp_of : Sp := fun vs H Q _ => ∃ (b s : Addr), Bag b s H ∧
  ((∃ (a : Addr) (xs : List V), vs = [.ref b, .ref a] ∧ At b H a (.lst xs) ∧ 0 < xs.length ∧ xs.length < 1000000 ∧ ∀ H' v, BX b s H H' → v ∈ xs → Q v H') ∨
   (∃ z : Str, vs = [.ref b, .str z] ∧ 0 < z.length ∧ z.length < 1000000 ∧ ∀ H' c, BX b s H H' → c ∈ z.cps.toList → Q (.str (sg c)) H'))
theorem ok_of (T : Tx K mg) : FnOk P w K mg base CX0 2 T.f_of T.fd_of P_of sp_of := by
  have G_pull : FnOk P w K mg base CX0 1 T.f_pull T.fd_pull P_pull sp_pull := ok_pull T
  refine T.F_of.ok sc_of (fun vs H Q E h => ?_) (fun cdv A outer s H vs Q E hr h => ?_)
  · obtain ⟨b, s, _, ⟨a, xs, rfl, _⟩ | ⟨z, rfl, _⟩⟩ := h
    · rfl
    · rfl
  · obtain ⟨b, cs, hB, ⟨a, xs, rfl, hA, l0, l1, q⟩ | ⟨z, rfl, l0, l1, q⟩⟩ := h
    · refine ⟨_, 
      (pss_one (ps_ret (pe_ix ix_list (L2.pv 1) (pe_call G_pull (hr.mono (by decide)) (by rfl) T.g_pull T.F_pull.kp T.b_pull .nil pass0 (pa_cons (L2.pv 0) (pa_cons (pe_callB call_len_seq (by rfl) T.m_len PySem.boot_len (pa_cons (L2.pv 1) pa_nil)) pa_nil))) (fun _ _ => rfl)))), ?_⟩
      refine ⟨.ref a, rfl, .ref b, rfl, .ref a, rfl, a, xs, rfl, .inl hA.l, b, cs, xs.length, rfl, hB, by omega, by omega, fun H1 v x v0 v1 => ?_⟩
      obtain ⟨y, hy, ay⟩ := mem_get (xs := xs) rfl v0 v1
      exact ⟨a, xs, v, y, rfl, rfl, (hA.mv x).l, ay, q _ _ x hy⟩
    · refine ⟨_, 
      (pss_one (ps_ret (pe_ix ix_str (L2.pv 1) (pe_call G_pull (hr.mono (by decide)) (by rfl) T.g_pull T.F_pull.kp T.b_pull .nil pass0 (pa_cons (L2.pv 0) (pa_cons (pe_callB call_len_str (by rfl) T.m_len PySem.boot_len (pa_cons (L2.pv 1) pa_nil)) pa_nil))) (fun _ _ => rfl)))), ?_⟩
      refine ⟨.str z, rfl, .ref b, rfl, .str z, rfl, z, rfl, Nat.le_trans (Nat.le_of_lt l1) (by decide), b, cs, z.length, rfl, hB, by omega, by omega, fun H1 v x v0 v1 => ?_⟩
      obtain ⟨y, hy, ay⟩ := mem_get (xs := z.cps.toList) (n := z.length) (by simp [Str.length]) v0 v1
      exact ⟨z, v, y, rfl, rfl, Nat.le_trans (Nat.le_of_lt l1) (by decide), ay, q _ _ x hy⟩

/-! ### the same data -/
def sp_same (K : PySem.W.Frag) (n : Nat) : Sp := fun vs H Q _ => ∃ v w, vs = [v, w] ∧ Sam K H n v w ∧ ∀ H', Same H H' → Q (.bl true) H'
theorem same_flat (T : Tx K mg) {k n : Nat} {cdv : Value} {A : Around} {outer : List Env} {s : Shared} {H : Hp} {Q : VK} {E : XK} {v : V} (hv : flat1 v = true) (q : ∀ H', Same H H' → Q (.bl true) H') :
    ∃ t, PSs (cxOf CX0 P w K mg base N_same "_law_same" (defScope s_same) T.f_same cdv A outer s H E).nox (defBody s_same) t ∧ t { nx := fun _ H' => Q .non H', rt := Q } (start N_same [v, v]) H := by
  refine ⟨_, 
      (pss_cons (ps_if (pt_val (pe_callB call_isiT (by rfl) T.m_isinstance (by decide +kernel) (pa_cons (L2.pv 1) (pa_cons (pe_tup (pa_cons (pe_bltn (v := .ty "list") (by rfl) T.m_list (by decide +kernel) rfl) (pa_cons (pe_bltn (v := .ty "tuple") (by rfl) T.m_tuple (by decide +kernel) rfl) pa_nil))) pa_nil))))
        pss_never
        pss_nil)
      (pss_cons (ps_if (PW.pt (pw_or (pt_cmpR op_isN (L2.pv 1) pe_non (nomark _)) (pw_or1 (pt_cmpR op_isN (L2.pv 0) pe_non (nomark _)))))
        (pss_one (ps_ret (pe_and (pe_cmpR op_isN (L2.pv 0) pe_non (nomark _)) (pe_one (pe_cmpR op_isN (L2.pv 1) pe_non (nomark _))))))
        pss_nil)
      (pss_cons (ps_if (PW.pt (pw_or (pt_cmpR op_ne (pe_callB call_isi (by rfl) T.m_isinstance (by decide +kernel) (pa_cons (L2.pv 0) (pa_cons (pe_bltn (v := .ty "bool") (by rfl) T.m_bool (by decide +kernel) rfl) pa_nil))) (pe_callB call_isi (by rfl) T.m_isinstance (by decide +kernel) (pa_cons (L2.pv 1) (pa_cons (pe_bltn (v := .ty "bool") (by rfl) T.m_bool (by decide +kernel) rfl) pa_nil))) (nomark _)) (pw_or1 (pt_cmpR op_ne (pe_callB call_isi (by rfl) T.m_isinstance (by decide +kernel) (pa_cons (L2.pv 0) (pa_cons (pe_bltn (v := .ty "int") (by rfl) T.m_int (by decide +kernel) rfl) pa_nil))) (pe_callB call_isi (by rfl) T.m_isinstance (by decide +kernel) (pa_cons (L2.pv 1) (pa_cons (pe_bltn (v := .ty "int") (by rfl) T.m_int (by decide +kernel) rfl) pa_nil))) (nomark _)))))
        (pss_one (ps_ret pe_bl))
        pss_nil)
      (pss_one (ps_ret (pe_and (pe_cmpR op_eq (pe_callB call_isi (by rfl) T.m_isinstance (by decide +kernel) (pa_cons (L2.pv 0) (pa_cons (pe_bltn (v := .ty "str") (by rfl) T.m_str (by decide +kernel) rfl) pa_nil))) (pe_callB call_isi (by rfl) T.m_isinstance (by decide +kernel) (pa_cons (L2.pv 1) (pa_cons (pe_bltn (v := .ty "str") (by rfl) T.m_str (by decide +kernel) rfl) pa_nil))) (nomark _)) (pe_one (pe_cmpR op_eq (L2.pv 0) (L2.pv 1) (nomark _))))))))), ?_⟩
  cases v with
  | byt _ => cases hv
  | flt _ => cases hv
  | ref _ => cases hv
  | ty _ => cases hv
  | non =>
    refine ⟨.non, rfl, (by show 2 ≤ sizeLine; decide), fun p np => ?_⟩
    refine ⟨.non, p, _, _, _, false, rfl, upd_same, .cons (.ty "list") (.cons (.ty "tuple") .nil), .base .non, kit_seq (by decide +kernel) (by decide +kernel), false, rfl, iteF ?_⟩
    refine ⟨.non, rfl, rfl, _, rfl, iteT (iteT ?_)⟩
    refine ⟨.non, rfl, rfl, _, rfl, iteT ?_⟩
    exact ⟨.non, rfl, rfl, q _ (same_new np)⟩
  | bl y =>
    refine ⟨.bl y, rfl, (by show 2 ≤ sizeLine; decide), fun p np => ?_⟩
    refine ⟨.bl y, p, _, _, _, false, rfl, upd_same, .cons (.ty "list") (.cons (.ty "tuple") .nil), .base (.bl y), kit_seq (by decide +kernel) (by decide +kernel), false, rfl, iteF ?_⟩
    refine ⟨.bl y, rfl, rfl, _, rfl, iteF ⟨.bl y, rfl, rfl, _, rfl, iteF ?_⟩⟩
    refine ⟨.bl y, rfl, .bl y, .ty "bool", _, _, true, rfl, .ty _, .base (.bl y), kit_ty (by decide +kernel), .bl y, rfl, .bl y, .ty "bool", _, _, true, rfl, .ty _, .base (.bl y), kit_ty (by decide +kernel), rfl, _, rfl, iteF ⟨.bl y, rfl, .bl y, .ty "int", _, _, true, rfl, .ty _, .base (.bl y), kit_ty (by decide +kernel), .bl y, rfl, .bl y, .ty "int", _, _, true, rfl, .ty _, .base (.bl y), kit_ty (by decide +kernel), rfl, _, rfl, iteF ?_⟩⟩
    refine ⟨.bl y, rfl, .bl y, .ty "str", _, _, false, rfl, .ty _, .base (.bl y), kit_ty (by decide +kernel), .bl y, rfl, .bl y, .ty "str", _, _, false, rfl, .ty _, .base (.bl y), kit_ty (by decide +kernel), rfl, _, rfl, iteT ⟨.bl y, rfl, .bl y, rfl, rfl, ?_⟩⟩
    rw [decide_eq_true rfl]
    exact q _ (same_new np)
  | int y =>
    refine ⟨.int y, rfl, (by show 2 ≤ sizeLine; decide), fun p np => ?_⟩
    refine ⟨.int y, p, _, _, _, false, rfl, upd_same, .cons (.ty "list") (.cons (.ty "tuple") .nil), .base (.int y), kit_seq (by decide +kernel) (by decide +kernel), false, rfl, iteF ?_⟩
    refine ⟨.int y, rfl, rfl, _, rfl, iteF ⟨.int y, rfl, rfl, _, rfl, iteF ?_⟩⟩
    refine ⟨.int y, rfl, .int y, .ty "bool", _, _, false, rfl, .ty _, .base (.int y), kit_ty (by decide +kernel), .int y, rfl, .int y, .ty "bool", _, _, false, rfl, .ty _, .base (.int y), kit_ty (by decide +kernel), rfl, _, rfl, iteF ⟨.int y, rfl, .int y, .ty "int", _, _, true, rfl, .ty _, .base (.int y), kit_ty (by decide +kernel), .int y, rfl, .int y, .ty "int", _, _, true, rfl, .ty _, .base (.int y), kit_ty (by decide +kernel), rfl, _, rfl, iteF ?_⟩⟩
    refine ⟨.int y, rfl, .int y, .ty "str", _, _, false, rfl, .ty _, .base (.int y), kit_ty (by decide +kernel), .int y, rfl, .int y, .ty "str", _, _, false, rfl, .ty _, .base (.int y), kit_ty (by decide +kernel), rfl, _, rfl, iteT ⟨.int y, rfl, .int y, rfl, rfl, ?_⟩⟩
    rw [decide_eq_true rfl]
    exact q _ (same_new np)
  | str y =>
    refine ⟨.str y, rfl, (by show 2 ≤ sizeLine; decide), fun p np => ?_⟩
    refine ⟨.str y, p, _, _, _, false, rfl, upd_same, .cons (.ty "list") (.cons (.ty "tuple") .nil), .base (.str y), kit_seq (by decide +kernel) (by decide +kernel), false, rfl, iteF ?_⟩
    refine ⟨.str y, rfl, rfl, _, rfl, iteF ⟨.str y, rfl, rfl, _, rfl, iteF ?_⟩⟩
    refine ⟨.str y, rfl, .str y, .ty "bool", _, _, false, rfl, .ty _, .base (.str y), kit_ty (by decide +kernel), .str y, rfl, .str y, .ty "bool", _, _, false, rfl, .ty _, .base (.str y), kit_ty (by decide +kernel), rfl, _, rfl, iteF ⟨.str y, rfl, .str y, .ty "int", _, _, false, rfl, .ty _, .base (.str y), kit_ty (by decide +kernel), .str y, rfl, .str y, .ty "int", _, _, false, rfl, .ty _, .base (.str y), kit_ty (by decide +kernel), rfl, _, rfl, iteF ?_⟩⟩
    refine ⟨.str y, rfl, .str y, .ty "str", _, _, true, rfl, .ty _, .base (.str y), kit_ty (by decide +kernel), .str y, rfl, .str y, .ty "str", _, _, true, rfl, .ty _, .base (.str y), kit_ty (by decide +kernel), rfl, _, rfl, iteT ⟨.str y, rfl, .str y, rfl, rfl, ?_⟩⟩
    rw [decide_eq_true rfl]
    exact q _ (same_new np)
theorem ok_same (T : Tx K mg) : ∀ n : Nat, FnOk P w K mg base CX0 (n + 1) T.f_same T.fd_same P_same (sp_same K n)
  | 0 => by
    refine T.F_same.ok sc_same (fun vs H Q E h => ?_) (fun cdv A outer s H vs Q E hr h => ?_)
    · obtain ⟨v, w, rfl, _⟩ := h
      rfl
    · obtain ⟨v, w, rfl, ⟨hf, rfl⟩, q⟩ := h
      exact same_flat T (k := 0) (n := 0) hf q
  | n + 1 => by
    have G_same : FnOk P w K mg base CX0 (n + 1) T.f_same T.fd_same P_same (sp_same K n) := ok_same T n
    refine T.F_same.ok sc_same (fun vs H Q E h => ?_) (fun cdv A outer s H vs Q E hr h => ?_)
    · obtain ⟨v, w, rfl, _⟩ := h
      rfl
    · obtain ⟨v, w, rfl, ⟨hf, rfl⟩ | ⟨a, c, xs, ys, rfl, rfl, h, hz, p'⟩, q⟩ := h
      · exact same_flat T (k := 0) (n := 0) hf q
      have pl : xs.length = ys.length := Paired.length p'
      rcases h with ⟨h1, h2⟩ | ⟨h1, h2⟩
      · -- two lists
        refine ⟨_, 
      (pss_cons (ps_if (pt_val (pe_callB call_isiT (by rfl) T.m_isinstance (by decide +kernel) (pa_cons (L2.pv 1) (pa_cons (pe_tup (pa_cons (pe_bltn (v := .ty "list") (by rfl) T.m_list (by decide +kernel) rfl) (pa_cons (pe_bltn (v := .ty "tuple") (by rfl) T.m_tuple (by decide +kernel) rfl) pa_nil))) pa_nil))))
        (pss_cons (ps_if (PW.pt (pw_or (pt_cmpR op_ne (pe_callB call_isi (by rfl) T.m_isinstance (by decide +kernel) (pa_cons (L2.pv 0) (pa_cons (pe_bltn (v := .ty "list") (by rfl) T.m_list (by decide +kernel) rfl) pa_nil))) (pe_callB call_isi (by rfl) T.m_isinstance (by decide +kernel) (pa_cons (L2.pv 1) (pa_cons (pe_bltn (v := .ty "list") (by rfl) T.m_list (by decide +kernel) rfl) pa_nil))) (nomark _)) (pw_or1 (pt_cmpR op_ne (pe_callB call_isi (by rfl) T.m_isinstance (by decide +kernel) (pa_cons (L2.pv 0) (pa_cons (pe_bltn (v := .ty "tuple") (by rfl) T.m_tuple (by decide +kernel) rfl) pa_nil))) (pe_callB call_isi (by rfl) T.m_isinstance (by decide +kernel) (pa_cons (L2.pv 1) (pa_cons (pe_bltn (v := .ty "tuple") (by rfl) T.m_tuple (by decide +kernel) rfl) pa_nil))) (nomark _)))))
          (pss_one (ps_ret pe_bl))
          pss_nil)
        (pss_one (ps_ret (pe_and (pe_cmpR op_eq (pe_callB call_len_seq (by rfl) T.m_len PySem.boot_len (pa_cons (L2.pv 0) pa_nil)) (pe_callB call_len_seq (by rfl) T.m_len PySem.boot_len (pa_cons (L2.pv 1) pa_nil)) (nomark _)) (pe_one (pe_callB (cr_all rfl) (by rfl) T.m_all (by decide +kernel) (pa_cons (pe_lc (own := [("_law_a", 2), ("_law_b", 3)]) (g := (gTup K 2 (gCons (gName 2) (gCons (gName 3) gNil)))) (tt := tYes) (by rfl) sc_same.nd (RZ.pi_zipA (by rfl) T.m_zip (pa_cons (L2.pv 0) (pa_cons (L2.pv 1) pa_nil))) (blkOk_by (own := [("_law_a", 2), ("_law_b", 3)]) (N := N_same) (sc := defScope s_same) (by decide +kernel)) (fun _ _ _ _ _ => (pg_tup (by rfl) (pgs_cons (pg_name (i := 2) sc_same.nd rfl (.inl rfl)) (pgs_cons (pg_name (i := 3) sc_same.nd rfl (.inl rfl)) pgs_nil)))) (fun _ _ _ _ _ => pts_nil) (fun _ _ _ _ _ => (pe_call G_same hr (by rfl) T.g_same T.F_same.kp T.b_same .nil pass0 (pa_cons (L2.pv 2) (pa_cons (L2.pv 3) pa_nil))))) pa_nil)))))))
        pss_nil)
      pss_never), ?_⟩
        refine ⟨.ref c, rfl, (by show 2 ≤ sizeLine; decide), fun p np => ?_⟩
        have s1 : Same H (upd H p (.tup [.ty "list", .ty "tuple"])) := same_new np
        have k1 := s1 _ _ h1
        have k2 := s1 _ _ h2
        refine ⟨.ref c, p, _, _, _, true, rfl, upd_same, .cons (.ty "list") (.cons (.ty "tuple") .nil), .base (.lst k2), kit_lst, true, rfl, iteT ?_⟩
        refine ⟨.ref a, rfl, .ref a, .ty "list", _, _, true, rfl, .ty _, .base (.lst k1), kit_ty (by decide +kernel), .ref c, rfl, .ref c, .ty "list", _, _, true, rfl, .ty _, .base (.lst k2), kit_ty (by decide +kernel), rfl, _, rfl, iteF ?_⟩
        refine ⟨.ref a, rfl, .ref a, .ty "tuple", _, _, false, rfl, .ty _, .base (.lst k1), kit_ty (by decide +kernel), .ref c, rfl, .ref c, .ty "tuple", _, _, false, rfl, .ty _, .base (.lst k2), kit_ty (by decide +kernel), rfl, _, rfl, iteF ?_⟩
        refine ⟨.ref a, rfl, a, xs, rfl, .inl (.of k1), .ref c, rfl, c, ys, rfl, .inl (.of k2), rfl, _, rfl, ?_⟩
        rw [← pl, decide_eq_true rfl]
        refine iteT ?_
        refine ⟨.ref a, rfl, .ref c, rfl, a, c, xs, ys, rfl, .inl ⟨.of k1, .of k2, fun D nD => ?_⟩⟩
        have nD0 : H D = none := s1.free nD
        refine lc_it (walk_zip (n := xs.length) (by rw [← pl, Nat.min_self])) (fun i H' => Same H H' ∧ H' D = some (.lst ((List.replicate i true).map V.bl)))
          ⟨same_mut s1 nD0, upd_same⟩ (fun i H' _ h => ⟨.of (h.1 _ _ h1), .of (h.1 _ _ h2)⟩) (fun i x H1 H' hi h y => ?_) (fun H' h => ?_)
        · obtain ⟨sm, eD⟩ := h
          obtain ⟨U, u, v, rfl, nU, rfl, gu, gv⟩ := y
          have sU : Same H (upd H1 U (.tup [u, v])) := sm.trans (same_new nU)
          refine ⟨U, [u, v], rfl, .of upd_same, rfl, u, [v], rfl, v, [], rfl, rfl, ?_⟩
          refine ⟨rfl, u, rfl, v, rfl, u, v, rfl, (paired_get p' gu gv).mono sU, fun H3 s3 => ?_⟩
          have eD3 : H3 D = some (.lst ((List.replicate i true).map V.bl)) := s3 _ _ (by rw [upd_ne (ne_of_none eD nU)]; exact eD)
          refine ⟨_, eD3, ?_, same_mut (sU.trans s3) nD0, ?_⟩
          · rw [List.length_map, List.length_replicate]
            exact Nat.lt_trans hi (Nat.lt_of_lt_of_le hz (by decide))
          · rw [upd_same, List.replicate_succ', List.map_append]
            rfl
        · obtain ⟨sm, eD⟩ := h
          refine ⟨D, _, rfl, .of eD, ?_⟩
          rw [show (List.replicate xs.length true).all id = true from by rw [List.all_replicate]; simp]
          exact q _ sm
      · -- two tuples
        refine ⟨_, 
      (pss_cons (ps_if (pt_val (pe_callB call_isiT (by rfl) T.m_isinstance (by decide +kernel) (pa_cons (L2.pv 1) (pa_cons (pe_tup (pa_cons (pe_bltn (v := .ty "list") (by rfl) T.m_list (by decide +kernel) rfl) (pa_cons (pe_bltn (v := .ty "tuple") (by rfl) T.m_tuple (by decide +kernel) rfl) pa_nil))) pa_nil))))
        (pss_cons (ps_if (PW.pt (pw_or (pt_cmpR op_ne (pe_callB call_isi (by rfl) T.m_isinstance (by decide +kernel) (pa_cons (L2.pv 0) (pa_cons (pe_bltn (v := .ty "list") (by rfl) T.m_list (by decide +kernel) rfl) pa_nil))) (pe_callB call_isi (by rfl) T.m_isinstance (by decide +kernel) (pa_cons (L2.pv 1) (pa_cons (pe_bltn (v := .ty "list") (by rfl) T.m_list (by decide +kernel) rfl) pa_nil))) (nomark _)) (pw_or1 (pt_cmpR op_ne (pe_callB call_isi (by rfl) T.m_isinstance (by decide +kernel) (pa_cons (L2.pv 0) (pa_cons (pe_bltn (v := .ty "tuple") (by rfl) T.m_tuple (by decide +kernel) rfl) pa_nil))) (pe_callB call_isi (by rfl) T.m_isinstance (by decide +kernel) (pa_cons (L2.pv 1) (pa_cons (pe_bltn (v := .ty "tuple") (by rfl) T.m_tuple (by decide +kernel) rfl) pa_nil))) (nomark _)))))
          (pss_one (ps_ret pe_bl))
          pss_nil)
        (pss_one (ps_ret (pe_and (pe_cmpR op_eq (pe_callB call_len_seq (by rfl) T.m_len PySem.boot_len (pa_cons (L2.pv 0) pa_nil)) (pe_callB call_len_seq (by rfl) T.m_len PySem.boot_len (pa_cons (L2.pv 1) pa_nil)) (nomark _)) (pe_one (pe_callB (cr_all rfl) (by rfl) T.m_all (by decide +kernel) (pa_cons (pe_lc (own := [("_law_a", 2), ("_law_b", 3)]) (g := (gTup K 2 (gCons (gName 2) (gCons (gName 3) gNil)))) (tt := tYes) (by rfl) sc_same.nd (RZ.pi_zipA (by rfl) T.m_zip (pa_cons (L2.pv 0) (pa_cons (L2.pv 1) pa_nil))) (blkOk_by (own := [("_law_a", 2), ("_law_b", 3)]) (N := N_same) (sc := defScope s_same) (by decide +kernel)) (fun _ _ _ _ _ => (pg_tup (by rfl) (pgs_cons (pg_name (i := 2) sc_same.nd rfl (.inl rfl)) (pgs_cons (pg_name (i := 3) sc_same.nd rfl (.inl rfl)) pgs_nil)))) (fun _ _ _ _ _ => pts_nil) (fun _ _ _ _ _ => (pe_call G_same hr (by rfl) T.g_same T.F_same.kp T.b_same .nil pass0 (pa_cons (L2.pv 2) (pa_cons (L2.pv 3) pa_nil))))) pa_nil)))))))
        pss_nil)
      pss_never), ?_⟩
        refine ⟨.ref c, rfl, (by show 2 ≤ sizeLine; decide), fun p np => ?_⟩
        have s1 : Same H (upd H p (.tup [.ty "list", .ty "tuple"])) := same_new np
        have k1 := s1 _ _ h1
        have k2 := s1 _ _ h2
        refine ⟨.ref c, p, _, _, _, true, rfl, upd_same, .cons (.ty "list") (.cons (.ty "tuple") .nil), .base (.tup k2), kit_tup, true, rfl, iteT ?_⟩
        refine ⟨.ref a, rfl, .ref a, .ty "list", _, _, false, rfl, .ty _, .base (.tup k1), kit_ty (by decide +kernel), .ref c, rfl, .ref c, .ty "list", _, _, false, rfl, .ty _, .base (.tup k2), kit_ty (by decide +kernel), rfl, _, rfl, iteF ?_⟩
        refine ⟨.ref a, rfl, .ref a, .ty "tuple", _, _, true, rfl, .ty _, .base (.tup k1), kit_ty (by decide +kernel), .ref c, rfl, .ref c, .ty "tuple", _, _, true, rfl, .ty _, .base (.tup k2), kit_ty (by decide +kernel), rfl, _, rfl, iteF ?_⟩
        refine ⟨.ref a, rfl, a, xs, rfl, .inr (.of k1), .ref c, rfl, c, ys, rfl, .inr (.of k2), rfl, _, rfl, ?_⟩
        rw [← pl, decide_eq_true rfl]
        refine iteT ?_
        refine ⟨.ref a, rfl, .ref c, rfl, a, c, xs, ys, rfl, .inr ⟨.of k1, .of k2, fun D nD => ?_⟩⟩
        have nD0 : H D = none := s1.free nD
        refine lc_it (walk_zipT (n := xs.length) (by rw [← pl, Nat.min_self])) (fun i H' => Same H H' ∧ H' D = some (.lst ((List.replicate i true).map V.bl)))
          ⟨same_mut s1 nD0, upd_same⟩ (fun i H' _ h => ⟨.of (h.1 _ _ h1), .of (h.1 _ _ h2)⟩) (fun i x H1 H' hi h y => ?_) (fun H' h => ?_)
        · obtain ⟨sm, eD⟩ := h
          obtain ⟨U, u, v, rfl, nU, rfl, gu, gv⟩ := y
          have sU : Same H (upd H1 U (.tup [u, v])) := sm.trans (same_new nU)
          refine ⟨U, [u, v], rfl, .of upd_same, rfl, u, [v], rfl, v, [], rfl, rfl, ?_⟩
          refine ⟨rfl, u, rfl, v, rfl, u, v, rfl, (paired_get p' gu gv).mono sU, fun H3 s3 => ?_⟩
          have eD3 : H3 D = some (.lst ((List.replicate i true).map V.bl)) := s3 _ _ (by rw [upd_ne (ne_of_none eD nU)]; exact eD)
          refine ⟨_, eD3, ?_, same_mut (sU.trans s3) nD0, ?_⟩
          · rw [List.length_map, List.length_replicate]
            exact Nat.lt_trans hi (Nat.lt_of_lt_of_le hz (by decide))
          · rw [upd_same, List.replicate_succ', List.map_append]
            rfl
        · obtain ⟨sm, eD⟩ := h
          refine ⟨D, _, rfl, .of eD, ?_⟩
          rw [show (List.replicate xs.length true).all id = true from by rw [List.all_replicate]; simp]
          exact q _ sm

/-! ### names, letters, words -/
def low (zs : List Nat) : Bool := zs.all fun c => decide (c ∈ alphabet.cps.toList)
theorem low_none (zs : List Nat) : decide (V.int (((zs.filter fun c => !decide (c ∈ alphabet.cps.toList)).map fun c => V.str (sg c)).length : Int) = V.int 0) = low zs := by
  rw [List.length_map]
  have h : (zs.filter fun c => !decide (c ∈ alphabet.cps.toList)).length = 0 ↔ low zs = true := by
    rw [List.length_eq_zero_iff, List.filter_eq_nil_iff]
    unfold low
    rw [List.all_eq_true]
    refine forall_congr' fun c => forall_congr' fun _ => ?_
    cases decide (c ∈ alphabet.cps.toList) <;> simp
  by_cases hl : low zs = true
  · rw [hl]
    exact decide_eq_true (by rw [h.mpr hl]; rfl)
  · rw [Bool.not_eq_true] at hl
    rw [hl]
    refine decide_eq_false fun z => ?_
    injection z with z
    have := h.mp (by omega)
    rw [hl] at this
    cases this
def sp_p_is_word : Sp := fun vs H Q _ => ∃ zs : List Nat, vs = [.str (tx zs)] ∧ zs.length < 1000 ∧ ∀ H', Same H H' → Q (.bl (low zs)) H'
theorem ok_p_is_word (T : Tx K mg) : FnOk P w K mg base CX0 1 T.f_p_is_word T.fd_p_is_word P_p_is_word sp_p_is_word := by
  refine T.F_p_is_word.ok sc_p_is_word (fun vs H Q E h => ?_) (fun cdv A outer s H vs Q E hr h => ?_)
  · obtain ⟨zs, rfl, _⟩ := h
    rfl
  · obtain ⟨zs, rfl, lz, q⟩ := h
    refine ⟨_, 
      (pss_one (ps_ret (pe_callB (cr_all rfl) (by rfl) T.m_all (by decide +kernel) (pa_cons (pe_lc (own := [("sign", 1)]) (g := (gName 1)) (tt := tYes) (by rfl) sc_p_is_word.nd (pi_str (L2.pv 0)) (blkOk_by (own := [("sign", 1)]) (N := N_p_is_word) (sc := defScope s_p_is_word) (by decide +kernel)) (fun _ _ _ _ _ => (pg_name (i := 1) sc_p_is_word.nd rfl (.inl rfl))) (fun _ _ _ _ _ => pts_nil) (fun _ _ _ _ _ => (pe_cmpR op_in_sign (L2.pv 1) (pe_glob (by rfl) T.c_LETTERS T.r_LETTERS) rfl))) pa_nil)))), ?_⟩
    refine ⟨.str (tx zs), rfl, tx zs, rfl, fun D nD => ?_⟩
    refine lc_it walk_str (fun i H' => Same H H' ∧ H' D = some (.lst ((zs.take i).map fun c => V.bl (decide (c ∈ alphabet.cps.toList))))) ⟨same_new nD, upd_same⟩ (fun _ _ _ _ => trivial) (fun i x H1 H' hi h y => ?_) (fun H1 h => ?_)
    · obtain ⟨sm, eD⟩ := h
      obtain ⟨rfl, c, hc, rfl⟩ := y
      have hi' : i < zs.length := by simpa using hi
      have hc' : zs[i]? = some c := by
        rw [← Array.getElem?_toList] at hc
        exact hc
      refine ⟨rfl, .str (sg c), rfl, c, alphabet, rfl, rfl, _, eD, ?_, same_mut sm nD, ?_⟩
      · rw [List.length_map, List.length_take]
        exact small1000 (by omega)
      · rw [upd_same, List.take_add_one, hc', List.map_append]
        rfl
    · obtain ⟨sm, eD⟩ := h
      have ez : zs.take (tx zs).cps.size = zs := List.take_of_length_le (by simp)
      rw [ez] at eD
      refine ⟨D, zs.map fun c => decide (c ∈ alphabet.cps.toList), rfl, .of ?_, ?_⟩
      · rw [eD, List.map_map]
        rfl
      · rw [List.all_map]
        exact q _ sm
def sp_p_is_name : Sp := fun vs H Q _ => ∃ zs : List Nat, vs = [.str (tx zs)] ∧ zs.length < 1000 ∧ ∀ H', Same H H' → Q (.bl ((decide (1 ≤ zs.length) && decide (zs.length ≤ 8)) && low zs)) H'
theorem ok_p_is_name (T : Tx K mg) : FnOk P w K mg base CX0 2 T.f_p_is_name T.fd_p_is_name P_p_is_name sp_p_is_name := by
  have G_p_is_word : FnOk P w K mg base CX0 1 T.f_p_is_word T.fd_p_is_word P_p_is_word sp_p_is_word := ok_p_is_word T
  refine T.F_p_is_name.ok sc_p_is_name (fun vs H Q E h => ?_) (fun cdv A outer s H vs Q E hr h => ?_)
  · obtain ⟨zs, rfl, _⟩ := h
    rfl
  · obtain ⟨zs, rfl, lz, q⟩ := h
    have zl : (tx zs).length ≤ sizeLine := by rw [tx_len]; exact Nat.le_of_lt (small1000 (by omega))
    refine ⟨_, 
      (pss_one (ps_ret (pe_and (pe_chain op_le op_le pe_int (pe_callB call_len_str (by rfl) T.m_len PySem.boot_len (pa_cons (L2.pv 0) pa_nil)) (pe_glob (by rfl) T.c_MOST_NAME T.r_MOST_NAME)) (pe_one (pe_call G_p_is_word (hr.mono (by decide)) (by rfl) T.g_p_is_word T.F_p_is_word.kp T.b_p_is_word .nil pass0 (pa_cons (L2.pv 0) pa_nil)))))), ?_⟩
    refine ⟨.str (tx zs), rfl, tx zs, rfl, zl, 1, _, rfl, rfl, _, rfl, ?_⟩
    rw [tx_len]
    by_cases h1 : 1 ≤ zs.length
    · rw [show decide ((1 : Int) ≤ (zs.length : Int)) = true from decide_eq_true (by omega)]
      refine iteT ⟨_, 8, rfl, rfl, _, rfl, ?_⟩
      by_cases h2 : zs.length ≤ 8
      · rw [show decide ((zs.length : Int) ≤ 8) = true from decide_eq_true (by omega)]
        refine iteT ⟨.str (tx zs), rfl, zs, rfl, lz, fun H' sm => ?_⟩
        have := q H' sm
        rw [decide_eq_true h1, decide_eq_true h2] at this
        exact this
      · rw [show decide ((zs.length : Int) ≤ 8) = false from decide_eq_false (by omega)]
        refine iteF ?_
        have := q H (.refl H)
        rw [decide_eq_false h2, Bool.and_false] at this
        exact this
    · rw [show decide ((1 : Int) ≤ (zs.length : Int)) = false from decide_eq_false (by omega)]
      refine iteF ⟨_, rfl, iteF ?_⟩
      have := q H (.refl H)
      rw [decide_eq_false h1] at this
      exact this
def sp_p_is_letter : Sp := fun vs H Q _ => ∃ zs : List Nat, vs = [.str (tx zs)] ∧ zs.length < 1000 ∧ ∀ H', Same H H' → Q (.bl (decide (zs.length = 1) && low zs)) H'
theorem ok_p_is_letter (T : Tx K mg) : FnOk P w K mg base CX0 2 T.f_p_is_letter T.fd_p_is_letter P_p_is_letter sp_p_is_letter := by
  have G_p_is_word : FnOk P w K mg base CX0 1 T.f_p_is_word T.fd_p_is_word P_p_is_word sp_p_is_word := ok_p_is_word T
  refine T.F_p_is_letter.ok sc_p_is_letter (fun vs H Q E h => ?_) (fun cdv A outer s H vs Q E hr h => ?_)
  · obtain ⟨zs, rfl, _⟩ := h
    rfl
  · obtain ⟨zs, rfl, lz, q⟩ := h
    have zl : (tx zs).length ≤ sizeLine := by rw [tx_len]; exact Nat.le_of_lt (small1000 (by omega))
    refine ⟨_, 
      (pss_one (ps_ret (pe_and (pe_cmpR op_eq (pe_callB call_len_str (by rfl) T.m_len PySem.boot_len (pa_cons (L2.pv 0) pa_nil)) pe_int (nomark _)) (pe_one (pe_call G_p_is_word (hr.mono (by decide)) (by rfl) T.g_p_is_word T.F_p_is_word.kp T.b_p_is_word .nil pass0 (pa_cons (L2.pv 0) pa_nil)))))), ?_⟩
    refine ⟨.str (tx zs), rfl, tx zs, rfl, zl, rfl, _, rfl, ?_⟩
    rw [tx_len]
    by_cases h1 : zs.length = 1
    · rw [show decide (V.int (zs.length : Int) = V.int 1) = true from decide_eq_true (by rw [h1]; rfl)]
      refine iteT ⟨.str (tx zs), rfl, zs, rfl, lz, fun H' sm => ?_⟩
      have := q H' sm
      rw [decide_eq_true h1] at this
      exact this
    · rw [show decide (V.int (zs.length : Int) = V.int 1) = false from decide_eq_false (fun z => h1 (by injection z with z; omega))]
      refine iteF ?_
      have := q H (.refl H)
      rw [decide_eq_false h1] at this
      exact this
/-! ### a drawn text -/
def sp_text : Sp := fun vs H Q _ => ∃ b s, vs = [.ref b] ∧ Bag b s H ∧ ∀ H' zs, BX b s H H' → zs.length ≤ 11 → Q (.str (tx zs)) H'
theorem ok_text (T : Tx K mg) : FnOk P w K mg base CX0 3 T.f_text T.fd_text P_text sp_text := by
  have G_pull : FnOk P w K mg base CX0 1 T.f_pull T.fd_pull P_pull sp_pull := ok_pull T
  have G_of : FnOk P w K mg base CX0 2 T.f_of T.fd_of P_of sp_of := ok_of T
  refine T.F_text.ok sc_text (fun vs H Q E h => ?_) (fun cdv A outer s H vs Q E hr h => ?_)
  · obtain ⟨b, s, rfl, _⟩ := h
    rfl
  · obtain ⟨b, cl, rfl, hB, q⟩ := h
    refine ⟨_, 
      (pss_cons (ps_set (i := 1) sc_text.nd rfl (.inr rfl) pe_str)
      (pss_cons (ps_setLc (i := 2) (own := [("_law_k", 3)]) (g := (gName 3)) (tt := tYes) (by rfl) sc_text.nd rfl rfl (sw_true rfl rfl rfl (by decide +kernel)) (pi_range1 (by rfl) T.m_range (pa_cons (pe_call G_of (hr.mono (by decide)) (by rfl) T.g_of T.F_of.kp T.b_of .nil pass0 (pa_cons (L2.pv 0) (pa_cons (pe_lst (pa_cons pe_int (pa_cons pe_int (pa_cons pe_int (pa_cons pe_int (pa_cons pe_int (pa_cons pe_int (pa_cons pe_int (pa_cons (pe_call G_pull (hr.mono (by decide)) (by rfl) T.g_pull T.F_pull.kp T.b_pull .nil pass0 (pa_cons (L2.pv 0) (pa_cons pe_int pa_nil))) pa_nil))))))))) pa_nil))) pa_nil)) (blkOk_by (own := [("_law_k", 3)]) (N := N_text) (sc := defScope s_text) (by decide +kernel)) (fun _ _ _ _ _ => (pg_name (i := 3) sc_text.nd rfl (.inl rfl))) (fun _ _ _ _ _ => pts_nil) (fun _ _ _ _ _ => (pe_call G_of (hr.mono (by decide)) (by rfl) T.g_of T.F_of.kp T.b_of .nil pass0 (pa_cons (L2.pv 0) (pa_cons (L2.pv 1) pa_nil)))))
      (Evl.pss_cut (ps_if (PW.pt (pw_and (pt_cmpR (op_neD hr.units) (L2.pv 2) (pe_lst pa_nil) (nomark _)) (pw_and1 (pt_cmpR op_eq (pe_call G_pull (hr.mono (by decide)) (by rfl) T.g_pull T.F_pull.kp T.b_pull .nil pass0 (pa_cons (L2.pv 0) (pa_cons pe_int pa_nil))) pe_int (nomark _)))))
        (pss_one (ps_asg (pe_call G_of (hr.mono (by decide)) (by rfl) T.g_of T.F_of.kp T.b_of .nil pass0 (pa_cons (L2.pv 0) (pa_cons pe_str pa_nil))) (pg_sub (L2.pv 2) (pe_call G_pull (hr.mono (by decide)) (by rfl) T.g_pull T.F_pull.kp T.b_pull .nil pass0 (pa_cons (L2.pv 0) (pa_cons (pe_callB call_len_seq (by rfl) T.m_len PySem.boot_len (pa_cons (L2.pv 2) pa_nil)) pa_nil))) set_list)))
        pss_nil)
      (pss_one (ps_ret (pe_join pe_str (L2.pv 2))))))), ?_⟩
    refine ⟨.ref b, rfl, .ref b, rfl, b, cl, 11, rfl, hB, by decide, by decide, fun H1 v1 x1 v10 v11 => ?_⟩
    refine ⟨(by show 8 ≤ sizeLine; decide), fun l nl => ?_⟩
    refine ⟨b, cl, (x1.trans (.new x1.bag nl)).bag,   .inl ⟨l, _, rfl, .new x1.bag nl, (by show 0 < 8; decide), (by show 8 < 1000000; decide), fun H2 v x2 hv => ?_⟩⟩
    obtain ⟨n, rfl, n0, n1⟩ : ∃ n : Int, v = .int n ∧ 0 ≤ n ∧ n < 12 := by
      simp only [List.mem_cons, List.not_mem_nil, or_false] at hv
      rcases hv with rfl | rfl | rfl | rfl | rfl | rfl | rfl | rfl
      · exact ⟨_, rfl, by decide, by decide⟩
      · exact ⟨_, rfl, by decide, by decide⟩
      · exact ⟨_, rfl, by decide, by decide⟩
      · exact ⟨_, rfl, by decide, by decide⟩
      · exact ⟨_, rfl, by decide, by decide⟩
      · exact ⟨_, rfl, by decide, by decide⟩
      · exact ⟨_, rfl, by decide, by decide⟩
      · exact ⟨_, rfl, v10, by omega⟩
    have x12 : BX b cl H H2 := x1.trans (.trans (.new x1.bag nl) x2)
    refine ⟨n, rfl, by omega, by omega, fun D nD => ?_⟩
    have nD0 : H D = none := x12.back nD
    refine lc_range (lo := 0) (n := n.toNat) (fun i H' => BX b cl H H' ∧ ∃ zs : List Nat, zs.length = i ∧ (∀ c ∈ zs, c < 128) ∧ H' D = some (.lst (zs.map fun c => V.str (sg c)))) ⟨x12.mut hB nD0, [], rfl, (fun _ h => nomatch h), upd_same⟩ (fun i H' hi h => ?_) (fun H' h => ?_)
    · obtain ⟨x, zs, hz, hc, eD⟩ := h
      refine ⟨rfl, .ref b, rfl, .str alphabet, rfl, b, cl, x.bag, .inr ⟨_, rfl, by decide +kernel, by decide +kernel, fun H3 c x3 hcc => ?_⟩⟩
      refine ⟨_, x3.keep D _ (hB.nb nD0) eD, ?_, (x.trans x3).mut hB nD0, zs ++ [c], by simp [hz], ?_, ?_⟩
      · simp only [List.length_map]
        exact small1000 (by omega)
      · intro d hd
        rcases List.mem_append.mp hd with h | h
        · exact hc d h
        · rw [List.mem_singleton.mp h]
          have hall : ∀ e ∈ alphabet.cps.toList, e < 128 := by decide +kernel
          exact hall c hcc
      · rw [upd_same]
        simp
    · obtain ⟨x, zs, hz, hc, eD⟩ := h
      have nDb := hB.nb nD0
      refine ⟨fun σ H' => ∃ y, σ = [some (.ref b), some (.str alphabet), some (.ref D), y] ∧ BX b cl H H' ∧ ∃ zs : List Nat, zs.length ≤ 11 ∧ H' D = some (.lst (zs.map fun c => V.str (sg c))), ?_, fun σ H' h => ?_⟩
      · refine ⟨.ref D, rfl, Nat.zero_le _, fun d nd => ?_⟩
        have x3 : BX b cl H (upd H' d (.lst [])) := x.trans (.new x.bag nd)
        have eD3 : (upd H' d (.lst [])) D = some (.lst (zs.map fun c => V.str (sg c))) := by
          rw [upd_ne (ne_of_none eD nd)]
          exact eD
        refine ⟨.list (txsD (zs.map fun c => [c])), .list [], .lst (.of ?_) (txs_dp _), .lst (.of upd_same) .nil, txs_shaped ?_, rfl, _, rfl, ?_⟩
        · rw [eD3, List.map_map]
          rfl
        · intro l hl c hcl
          obtain ⟨e, he, rfl⟩ := List.mem_map.mp hl
          rw [List.mem_singleton.mp hcl]
          exact hc e he
        · rw [txs_nil]
          cases zs with
          | nil => exact iteF (iteF ⟨none, rfl, x3, [], by decide, eD3⟩)
          | cons z zr =>
            refine iteT ⟨.ref b, rfl, b, cl, 3, rfl, x3.bag, by decide, by decide, fun H4 u x4 u0 u1 => ?_⟩
            have eD4 := x4.keep D _ nDb eD3
            have hz11 : (z :: zr).length ≤ 11 := by omega
            refine ⟨rfl, _, rfl, ite2 (fun _ => ?_) (fun _ => ⟨none, rfl, x3.trans x4, z :: zr, hz11, eD4⟩)⟩
            refine ⟨.ref b, rfl, b, cl, x4.bag, .inr ⟨_, rfl, by decide +kernel, by decide +kernel, fun H5 c x5 hcc => ?_⟩⟩
            have eD5 := x5.keep D _ nDb eD4
            refine ⟨.ref D, rfl, .ref b, rfl, .ref D, rfl, D, _, rfl, .inl (.of eD5), b, cl, _, rfl, x5.bag, ?_, ?_, fun H6 k x6 k0 k1 => ?_⟩
            · rw [List.length_map, List.length_cons]
              omega
            · rw [List.length_map]
              omega
            · have eD6 := x6.keep D _ nDb eD5
              rw [List.length_map] at k1
              refine ⟨D, _, k, k.toNat, rfl, rfl, eD6, ?_, none, rfl, (x3.trans (x4.trans (x5.trans x6))).mut hB nD0, (z :: zr).set k.toNat c, by rw [List.length_set]; exact hz11, ?_⟩
              · unfold ixN
                rw [if_pos k0, if_pos (by rw [List.length_map]; exact k1)]
              · rw [upd_same, List.map_set]
      · obtain ⟨y, rfl, x7, zs, hz, eD⟩ := h
        refine ⟨⟨_, rfl⟩, .ref D, rfl, _, D, zs.map sg, rfl, rfl, .inl (.of ?_), ?_, ?_⟩
        · rw [eD, List.map_map]
          rfl
        · rw [ones_sum, List.length_map]
          show zs.length + zs.length * 0 ≤ _
          omega
        · rw [join_sg]
          exact q _ _ x7 hz
/-! ### the law -/
def sp_law (K : PySem.W.Frag) : Sp := fun vs H Q _ => ∃ (a : Addr) (ns : List Int), vs = [.ref a] ∧ SqL K H a (ns.map V.int) ∧ ns.length ≤ 63 ∧ ∀ H', Q (.bl true) H'
theorem ok_law_at (T : Tx K mg) : FnOk P w K mg base CX0 4 T.f_law T.fd_law P_law (sp_law K) := by
  have G_bag : FnOk P w K mg base CX0 1 T.f_bag T.fd_bag P_bag (sp_bag K) := ok_bag T
  have G_text : FnOk P w K mg base CX0 3 T.f_text T.fd_text P_text sp_text := ok_text T
  have G_same : FnOk P w K mg base CX0 2 T.f_same T.fd_same P_same (sp_same K 1) := ok_same T 1
  have G_p_is_word : FnOk P w K mg base CX0 1 T.f_p_is_word T.fd_p_is_word P_p_is_word sp_p_is_word := ok_p_is_word T
  have G_p_is_name : FnOk P w K mg base CX0 2 T.f_p_is_name T.fd_p_is_name P_p_is_name sp_p_is_name := ok_p_is_name T
  have G_p_is_letter : FnOk P w K mg base CX0 2 T.f_p_is_letter T.fd_p_is_letter P_p_is_letter sp_p_is_letter := ok_p_is_letter T
  refine T.F_law.ok sc_law (fun vs H Q E h => ?_) (fun cdv A outer s H vs Q E hr h => ?_)
  · obtain ⟨a, ns, rfl, _⟩ := h
    rfl
  · obtain ⟨a, ns, rfl, hS, hlen, q⟩ := h
    refine ⟨_, 
      (pss_cons (ps_set (i := 1) sc_law.nd rfl (.inl rfl) (pe_call G_bag (hr.mono (by decide)) (by rfl) T.g_bag T.F_bag.kp T.b_bag .nil pass0 (pa_cons (L2.pv 0) pa_nil)))
      (pss_cons (ps_set (i := 2) sc_law.nd rfl (.inr rfl) pe_str)
      (pss_cons (ps_for PassesOwn.never rfl (pi_range1 (by rfl) T.m_range (pa_cons pe_int pa_nil)) (pg_name (i := 3) sc_law.nd rfl (.inl rfl))
        (pss_cons (ps_set (i := 4) sc_law.nd rfl (.inl rfl) (pe_call G_text (hr.mono (by decide)) (by rfl) T.g_text T.F_text.kp T.b_text .nil pass0 (pa_cons (L2.pv 1) pa_nil)))
        (pss_cons (ps_set (i := 5) sc_law.nd rfl (.inl rfl) (pe_cmpR op_eq (pe_callB call_len_seq (by rfl) T.m_len PySem.boot_len (pa_cons (pe_lc (own := [("_law_sign", 7)]) (g := (gName 7)) (by rfl) sc_law.nd (pi_str (L2.pv 4)) (blkOk_by (own := [("_law_sign", 7)]) (N := N_law) (sc := defScope s_law) (by decide +kernel)) (fun _ _ _ _ _ => (pg_name (i := 7) sc_law.nd rfl (.inl rfl))) (fun _ _ _ _ _ => (pts_one (pt_cmpR op_notIn_sign (L2.pv 7) (L2.pv 2) rfl))) (fun _ _ _ _ _ => (L2.pv 7))) pa_nil)) pe_int (nomark _)))
        (pss_cons (ps_set (i := 6) sc_law.nd rfl (.inl rfl) (pe_lst (pa_cons (pe_and (L2.pv 5) (pe_one (pe_chain op_le op_le pe_int (pe_callB call_len_str (by rfl) T.m_len PySem.boot_len (pa_cons (L2.pv 4) pa_nil)) pe_int))) (pa_cons (pe_and (L2.pv 5) (pe_one (pe_cmpR op_eq (pe_callB call_len_str (by rfl) T.m_len PySem.boot_len (pa_cons (L2.pv 4) pa_nil)) pe_int (nomark _)))) (pa_cons (L2.pv 5) pa_nil)))))
        (pss_cons (ps_if (pt_not (pt_val (pe_call G_same (hr.mono (by decide)) (by rfl) T.g_same T.F_same.kp T.b_same .nil pass0 (pa_cons (pe_lst (pa_cons (pe_call G_p_is_name (hr.mono (by decide)) (by rfl) T.g_p_is_name T.F_p_is_name.kp T.b_p_is_name .nil pass0 (pa_cons (L2.pv 4) pa_nil)) (pa_cons (pe_call G_p_is_letter (hr.mono (by decide)) (by rfl) T.g_p_is_letter T.F_p_is_letter.kp T.b_p_is_letter .nil pass0 (pa_cons (L2.pv 4) pa_nil)) (pa_cons (pe_call G_p_is_word (hr.mono (by decide)) (by rfl) T.g_p_is_word T.F_p_is_word.kp T.b_p_is_word .nil pass0 (pa_cons (L2.pv 4) pa_nil)) pa_nil)))) (pa_cons (L2.pv 6) pa_nil)))))
          (pss_one (ps_ret pe_bl))
          pss_nil)
        (pss_one (ps_if (pt_not (pt_val (pe_call G_same (hr.mono (by decide)) (by rfl) T.g_same T.F_same.kp T.b_same .nil pass0 (pa_cons (pe_lst (pa_cons (LB.pe_callK0 G_p_is_name (hr.mono (by decide)) (by rfl) T.g_p_is_name T.F_p_is_name.kp T.kb_p_is_name_0_text pass0 (pk_cons (L2.pv 4) pk_nil)) (pa_cons (LB.pe_callK0 G_p_is_letter (hr.mono (by decide)) (by rfl) T.g_p_is_letter T.F_p_is_letter.kp T.kb_p_is_letter_0_text pass0 (pk_cons (L2.pv 4) pk_nil)) (pa_cons (LB.pe_callK0 G_p_is_word (hr.mono (by decide)) (by rfl) T.g_p_is_word T.F_p_is_word.kp T.kb_p_is_word_0_text pass0 (pk_cons (L2.pv 4) pk_nil)) pa_nil)))) (pa_cons (L2.pv 6) pa_nil)))))
          (pss_one (ps_ret pe_bl))
          pss_nil)))))))
      (pss_one (ps_ret (pe_call G_same (hr.mono (by decide)) (by rfl) T.g_same T.F_same.kp T.b_same .nil pass0 (pa_cons (pe_lst (pa_cons (pe_call G_p_is_name (hr.mono (by decide)) (by rfl) T.g_p_is_name T.F_p_is_name.kp T.b_p_is_name .nil pass0 (pa_cons pe_str pa_nil)) (pa_cons (pe_call G_p_is_letter (hr.mono (by decide)) (by rfl) T.g_p_is_letter T.F_p_is_letter.kp T.b_p_is_letter .nil pass0 (pa_cons pe_str pa_nil)) (pa_cons (pe_call G_p_is_word (hr.mono (by decide)) (by rfl) T.g_p_is_word T.F_p_is_word.kp T.b_p_is_word .nil pass0 (pa_cons pe_str pa_nil)) pa_nil)))) (pa_cons (pe_lst (pa_cons pe_bl (pa_cons pe_bl (pa_cons pe_bl pa_nil)))) pa_nil)))))))), ?_⟩
    refine ⟨.ref a, rfl, a, ns, rfl, hS, hlen, fun H1 b cl s1 hB nb => ?_⟩
    refine ⟨9, rfl, by decide, by decide, for_range (lo := 0) (n := 9) (fun _ σ H' => ∃ y3 y4 y5 y6, σ = [some (.ref a), some (.ref b), some (.str alphabet), y3, y4, y5, y6, none] ∧ BX b cl H1 H') ⟨none, none, none, none, rfl, .refl hB⟩ (fun i σ H3 hi h => ?_) (fun σ H' h => ?_)⟩
    · obtain ⟨y3, y4, y5, y6, rfl, x3⟩ := h
      refine ⟨.ref b, rfl, b, cl, rfl, x3.bag, fun H4 zs x4 hz => ?_⟩
      have lz : zs.length < 1000 := by omega
      have zl : (tx zs).length ≤ sizeLine := by rw [tx_len]; exact Nat.le_of_lt (small1000 (by omega))
      -- small
      refine ⟨.str (tx zs), rfl, tx zs, rfl, fun D nD => ?_⟩
      refine lc_it walk_str (fun i H' => Same H4 H' ∧ H' D = some (.lst (((zs.take i).filter fun c => !decide (c ∈ alphabet.cps.toList)).map fun c => V.str (sg c)))) ⟨same_new nD, upd_same⟩ (fun _ _ _ _ => trivial) (fun i x H1 H' hi h y => ?_) (fun H5 h => ?_)
      · obtain ⟨sm, eD⟩ := h
        obtain ⟨rfl, c, hc, rfl⟩ := y
        have hi' : i < zs.length := by simpa using hi
        have hc' : zs[i]? = some c := by
          rw [← Array.getElem?_toList] at hc
          exact hc
        refine ⟨rfl, .str (sg c), rfl, .str alphabet, rfl, c, alphabet, rfl, rfl, _, rfl, ite2 (fun e => ?_) (fun e => ?_)⟩
        · refine ⟨.str (sg c), rfl, _, eD, ?_, same_mut sm nD, ?_⟩
          · rw [List.length_map]
            refine small1000 (Nat.le_trans (List.length_filter_le _ _) ?_)
            rw [List.length_take]
            omega
          · rw [upd_same, List.take_add_one, hc', List.filter_append, List.map_append]
            rw [show (some c).toList.filter (fun c => !decide (c ∈ alphabet.cps.toList)) = [c] from by
              show List.filter _ [c] = [c]
              rw [List.filter_cons, if_pos e]
              rfl]
            rfl
        · refine ⟨sm, ?_⟩
          rw [eD, List.take_add_one, hc', List.filter_append]
          rw [show (some c).toList.filter (fun c => !decide (c ∈ alphabet.cps.toList)) = [] from by
            show List.filter _ [c] = []
            rw [List.filter_cons, if_neg e]
            rfl, List.append_nil]
      · obtain ⟨s5, eD⟩ := h
        have ez : zs.take (tx zs).cps.size = zs := List.take_of_length_le (by simp)
        rw [ez] at eD
        refine ⟨D, _, rfl, .inl (.of eD), rfl, ?_⟩
        rw [low_none]
        have x5 : BX b cl H1 H5 := (x3.trans x4).andSame s5
        -- due
        dsimp only [gName, tSeq, tAsg, tLst, tCons]
        refine pu_use (te := tAndV _ _) (.bl (low zs && (decide (1 ≤ zs.length) && decide (zs.length ≤ 8)))) (fun Q' q' => ?_) ?_
        · refine ⟨_, rfl, _, rfl, ?_⟩
          revert q'
          cases low zs with
          | false => exact fun q' => iteF q'
          | true =>
            intro q'
            refine iteT ⟨.str (tx zs), rfl, tx zs, rfl, zl, 1, _, rfl, rfl, _, rfl, ?_⟩
            rw [tx_len]
            by_cases h1 : 1 ≤ zs.length
            · rw [show decide ((1 : Int) ≤ (zs.length : Int)) = true from decide_eq_true (by omega)]
              refine iteT ⟨_, 8, rfl, rfl, ?_⟩
              rw [decide_eq_true h1] at q'
              show Q' (.bl (decide ((zs.length : Int) ≤ 8))) H5
              rw [show decide ((zs.length : Int) ≤ 8) = decide (zs.length ≤ 8) from decide_eq_decide.mpr (by omega)]
              exact q'
            · rw [show decide ((1 : Int) ≤ (zs.length : Int)) = false from decide_eq_false (by omega)]
              rw [decide_eq_false h1] at q'
              exact iteF q'
        refine pu_use (te := tAndV _ _) (.bl (low zs && decide (zs.length = 1))) (fun Q' q' => ?_) ?_
        · refine ⟨_, rfl, _, rfl, ?_⟩
          revert q'
          cases low zs with
          | false => exact fun q' => iteF q'
          | true =>
            intro q'
            refine iteT ⟨.str (tx zs), rfl, tx zs, rfl, zl, rfl, ?_⟩
            rw [tx_len]
            rw [show decide (V.int (zs.length : Int) = V.int 1) = decide (zs.length = 1) from decide_eq_decide.mpr ⟨fun z => by injection z with z; omega, fun z => by rw [z]; rfl⟩]
            exact q'
        refine ⟨_, rfl, (by show 3 ≤ sizeLine; decide), fun d nd => ?_⟩
        have sd := same_new (o := .lst [.bl (low zs && (decide (1 ≤ zs.length) && decide (zs.length ≤ 8))), .bl (low zs && decide (zs.length = 1)), .bl (low zs)]) nd
        -- by place
        refine ⟨.str (tx zs), rfl, zs, rfl, lz, fun H6 s6 => ⟨.str (tx zs), rfl, zs, rfl, lz, fun H7 s7 => ⟨.str (tx zs), rfl, zs, rfl, lz, fun H8 s8 => ⟨(by show 3 ≤ sizeLine; decide), fun e ne => ?_⟩⟩⟩⟩
        have s68 := s6.trans (s7.trans s8)
        have ed : H8 d = some (.lst [.bl (low zs && (decide (1 ≤ zs.length) && decide (zs.length ≤ 8))), .bl (low zs && decide (zs.length = 1)), .bl (low zs)]) := s68 _ _ upd_same
        have pr : ∀ {H' : Hp}, Paired (Sam K H' 0) [V.bl ((decide (1 ≤ zs.length) && decide (zs.length ≤ 8)) && low zs), .bl (decide (zs.length = 1) && low zs), .bl (low zs)]
            [.bl (low zs && (decide (1 ≤ zs.length) && decide (zs.length ≤ 8))), .bl (low zs && decide (zs.length = 1)), .bl (low zs)] := fun {H'} => by
          rw [Bool.and_comm (low zs), Bool.and_comm (low zs)]
          exact .cons (.flat 0 rfl) (.cons (.flat 0 rfl) (.cons (.flat 0 rfl) .nil))
        refine ⟨.ref d, rfl, .ref e, .ref d, rfl, sam_lst upd_same (by rw [upd_ne (ne_of_none ed ne)]; exact ed) (by show 3 < 100000; decide) pr, fun H9 s9 => ⟨_, rfl, iteF ?_⟩⟩
        have ed9 := s9 _ _ ((same_new (o := .lst [V.bl ((decide (1 ≤ zs.length) && decide (zs.length ≤ 8)) && low zs), .bl (decide (zs.length = 1) && low zs), .bl (low zs)]) ne) _ _ ed)
        have x9 : BX b cl H1 H9 := x5.andSame (sd.trans (s68.trans ((same_new ne).trans s9)))
        -- by name
        refine ⟨.str (tx zs), rfl, zs, rfl, lz, fun H10 s10 => ⟨.str (tx zs), rfl, zs, rfl, lz, fun H11 s11 => ⟨.str (tx zs), rfl, zs, rfl, lz, fun H12 s12 => ⟨(by show 3 ≤ sizeLine; decide), fun e2 ne2 => ?_⟩⟩⟩⟩
        have s1012 := s10.trans (s11.trans s12)
        have ed12 := s1012 _ _ ed9
        refine ⟨.ref d, rfl, .ref e2, .ref d, rfl, sam_lst upd_same (by rw [upd_ne (ne_of_none ed12 ne2)]; exact ed12) (by show 3 < 100000; decide) pr, fun H13 s13 => ⟨_, rfl, iteF ?_⟩⟩
        exact ⟨_, _, _, _, rfl, x9.andSame (s1012.trans ((same_new ne2).trans s13))⟩
    · obtain ⟨y3, y4, y5, y6, rfl, x3⟩ := h
      refine ⟨[], rfl, by decide, fun H6 s6 => ⟨[], rfl, by decide, fun H7 s7 => ⟨[], rfl, by decide, fun H8 s8 => ⟨(by show 3 ≤ sizeLine; decide), fun e ne => ?_⟩⟩⟩⟩
      refine ⟨(by show 3 ≤ sizeLine; decide), fun d nd => ?_⟩
      refine ⟨.ref e, .ref d, rfl, sam_lst (by rw [upd_ne (ne_of_none upd_same nd)]; exact upd_same) upd_same (by show 3 < 100000; decide) (.cons (.flat 0 rfl) (.cons (.flat 0 rfl) (.cons (.flat 0 rfl) .nil))), fun H9 s9 => q _⟩

end
set_option maxHeartbeats 0 in
theorem all_mk {l : PySem.W.OpenLaw} {w : World} {K : PySem.W.Frag} {h : Heap} {mg : Str → Option Value} {fa : Addr} (X : K.In h) (G : h.Ns mainGlobals mg) (hfa : mg "law" = some (.ref fa))
    {f0 : Addr} {od0 an0 : Option Addr} {sl0 : Array (Option Value)} {oc0 kV0 dc0 pm0 cd0 ct0 : Value}
    {f1 : Addr} {od1 an1 : Option Addr} {sl1 : Array (Option Value)} {oc1 kV1 dc1 pm1 cd1 ct1 : Value}
    {f2 : Addr} {od2 an2 : Option Addr} {sl2 : Array (Option Value)} {oc2 kV2 dc2 pm2 cd2 ct2 : Value}
    {f3 : Addr} {od3 an3 : Option Addr} {sl3 : Array (Option Value)} {oc3 kV3 dc3 pm3 cd3 ct3 : Value}
    {f4 : Addr} {od4 an4 : Option Addr} {sl4 : Array (Option Value)} {oc4 kV4 dc4 pm4 cd4 ct4 : Value}
    {f5 : Addr} {od5 an5 : Option Addr} {sl5 : Array (Option Value)} {oc5 kV5 dc5 pm5 cd5 ct5 : Value}
    {f6 : Addr} {od6 an6 : Option Addr} {sl6 : Array (Option Value)} {oc6 kV6 dc6 pm6 cd6 ct6 : Value}
    {f7 : Addr} {od7 an7 : Option Addr} {sl7 : Array (Option Value)} {oc7 kV7 dc7 pm7 cd7 ct7 : Value}
    {f8 : Addr} {od8 an8 : Option Addr} {sl8 : Array (Option Value)} {oc8 kV8 dc8 pm8 cd8 ct8 : Value}
    (a0 : PySem.W.nsIn K mainGlobals "is_word" = some (some (.ref f0)))
    (l0 : K.lookup f0 = some ⟨oc0, od0, .func (PySem.W.fnOf "is_word" "is_word" (defArgs s_p_is_word) (defBody s_p_is_word) (defScope s_p_is_word) .none kV0 dc0 pm0 an0 cd0 ct0), sl0⟩)
    (c0 : PySem.W.codeIn K cd0 "is_word" = true)
    (k0 : PySem.W.keepIn K (.ref f0) = true)
    (a1 : PySem.W.nsIn K mainGlobals "is_name" = some (some (.ref f1)))
    (l1 : K.lookup f1 = some ⟨oc1, od1, .func (PySem.W.fnOf "is_name" "is_name" (defArgs s_p_is_name) (defBody s_p_is_name) (defScope s_p_is_name) .none kV1 dc1 pm1 an1 cd1 ct1), sl1⟩)
    (c1 : PySem.W.codeIn K cd1 "is_name" = true)
    (k1 : PySem.W.keepIn K (.ref f1) = true)
    (a2 : PySem.W.nsIn K mainGlobals "is_letter" = some (some (.ref f2)))
    (l2 : K.lookup f2 = some ⟨oc2, od2, .func (PySem.W.fnOf "is_letter" "is_letter" (defArgs s_p_is_letter) (defBody s_p_is_letter) (defScope s_p_is_letter) .none kV2 dc2 pm2 an2 cd2 ct2), sl2⟩)
    (c2 : PySem.W.codeIn K cd2 "is_letter" = true)
    (k2 : PySem.W.keepIn K (.ref f2) = true)
    (a3 : PySem.W.nsIn K mainGlobals "_law_bag" = some (some (.ref f3)))
    (l3 : K.lookup f3 = some ⟨oc3, od3, .func (PySem.W.fnOf "_law_bag" "_law_bag" (defArgs s_bag) (defBody s_bag) (defScope s_bag) .none kV3 dc3 pm3 an3 cd3 ct3), sl3⟩)
    (c3 : PySem.W.codeIn K cd3 "_law_bag" = true)
    (k3 : PySem.W.keepIn K (.ref f3) = true)
    (a4 : PySem.W.nsIn K mainGlobals "_law_pull" = some (some (.ref f4)))
    (l4 : K.lookup f4 = some ⟨oc4, od4, .func (PySem.W.fnOf "_law_pull" "_law_pull" (defArgs s_pull) (defBody s_pull) (defScope s_pull) .none kV4 dc4 pm4 an4 cd4 ct4), sl4⟩)
    (c4 : PySem.W.codeIn K cd4 "_law_pull" = true)
    (k4 : PySem.W.keepIn K (.ref f4) = true)
    (a5 : PySem.W.nsIn K mainGlobals "_law_of" = some (some (.ref f5)))
    (l5 : K.lookup f5 = some ⟨oc5, od5, .func (PySem.W.fnOf "_law_of" "_law_of" (defArgs s_of) (defBody s_of) (defScope s_of) .none kV5 dc5 pm5 an5 cd5 ct5), sl5⟩)
    (c5 : PySem.W.codeIn K cd5 "_law_of" = true)
    (k5 : PySem.W.keepIn K (.ref f5) = true)
    (a6 : PySem.W.nsIn K mainGlobals "_law_same" = some (some (.ref f6)))
    (l6 : K.lookup f6 = some ⟨oc6, od6, .func (PySem.W.fnOf "_law_same" "_law_same" (defArgs s_same) (defBody s_same) (defScope s_same) .none kV6 dc6 pm6 an6 cd6 ct6), sl6⟩)
    (c6 : PySem.W.codeIn K cd6 "_law_same" = true)
    (k6 : PySem.W.keepIn K (.ref f6) = true)
    (a7 : PySem.W.nsIn K mainGlobals "_law_text" = some (some (.ref f7)))
    (l7 : K.lookup f7 = some ⟨oc7, od7, .func (PySem.W.fnOf "_law_text" "_law_text" (defArgs s_text) (defBody s_text) (defScope s_text) .none kV7 dc7 pm7 an7 cd7 ct7), sl7⟩)
    (c7 : PySem.W.codeIn K cd7 "_law_text" = true)
    (k7 : PySem.W.keepIn K (.ref f7) = true)
    (a8 : PySem.W.nsIn K mainGlobals "law" = some (some (.ref f8)))
    (l8 : K.lookup f8 = some ⟨oc8, od8, .func (PySem.W.fnOf "law" "law" (defArgs s_law) (defBody s_law) (defScope s_law) .none kV8 dc8 pm8 an8 cd8 ct8), sl8⟩)
    (c8 : PySem.W.codeIn K cd8 "law" = true)
    (k8 : PySem.W.keepIn K (.ref f8) = true)
    (z0 : PySem.W.nsIn K mainGlobals "all" = some none)
    (z1 : PySem.W.nsIn K mainGlobals "bool" = some none)
    (z2 : PySem.W.nsIn K mainGlobals "int" = some none)
    (z3 : PySem.W.nsIn K mainGlobals "isinstance" = some none)
    (z4 : PySem.W.nsIn K mainGlobals "len" = some none)
    (z5 : PySem.W.nsIn K mainGlobals "list" = some none)
    (z6 : PySem.W.nsIn K mainGlobals "range" = some none)
    (z7 : PySem.W.nsIn K mainGlobals "str" = some none)
    (z8 : PySem.W.nsIn K mainGlobals "tuple" = some none)
    (z9 : PySem.W.nsIn K mainGlobals "zip" = some none)
    {u0 : Value}
    (d0 : PySem.W.nsIn K mainGlobals "LETTERS" = some (some u0))
    (e0 : RelV (V.str (PySem.Str.ofString "abcdefghijklmnopqrstuvwxyz")) u0)
    {u1 : Value}
    (d1 : PySem.W.nsIn K mainGlobals "MOST_NAME" = some (some u1))
    (e1 : RelV (V.int 8) u1)
    : ∃ fd : FuncData, (∀ (s : Shared) (v : Value), BindsTo s fd ⟨[v], []⟩ [("_law_script", v)]) ∧ ∀ base : Heap, K.In base → base.Ns mainGlobals mg → FnOk l.prog w K mg base CX0 4 fa fd ["_law_script"] (sp_law K) := by
  have e := hfa.symm.trans (PySem.W.mg_of X G a8)
  cases e
  have F0 := fun_mk (st := s_p_is_word) l0 c0 k0
  have b0 := F0.binds (ps := P_p_is_word) fun _ _ _ _ _ _ us hl => match us, hl with | [_], _ => rfl
  have F1 := fun_mk (st := s_p_is_name) l1 c1 k1
  have b1 := F1.binds (ps := P_p_is_name) fun _ _ _ _ _ _ us hl => match us, hl with | [_], _ => rfl
  have F2 := fun_mk (st := s_p_is_letter) l2 c2 k2
  have b2 := F2.binds (ps := P_p_is_letter) fun _ _ _ _ _ _ us hl => match us, hl with | [_], _ => rfl
  have F3 := fun_mk (st := s_bag) l3 c3 k3
  have b3 := F3.binds (ps := P_bag) fun _ _ _ _ _ _ us hl => match us, hl with | [_], _ => rfl
  have F4 := fun_mk (st := s_pull) l4 c4 k4
  have b4 := F4.binds (ps := P_pull) fun _ _ _ _ _ _ us hl => match us, hl with | [_, _], _ => rfl
  have F5 := fun_mk (st := s_of) l5 c5 k5
  have b5 := F5.binds (ps := P_of) fun _ _ _ _ _ _ us hl => match us, hl with | [_, _], _ => rfl
  have F6 := fun_mk (st := s_same) l6 c6 k6
  have b6 := F6.binds (ps := P_same) fun _ _ _ _ _ _ us hl => match us, hl with | [_, _], _ => rfl
  have F7 := fun_mk (st := s_text) l7 c7 k7
  have b7 := F7.binds (ps := P_text) fun _ _ _ _ _ _ us hl => match us, hl with | [_], _ => rfl
  have F8 := fun_mk (st := s_law) l8 c8 k8
  have b8 := F8.binds (ps := P_law) fun _ _ _ _ _ _ us hl => match us, hl with | [_], _ => rfl
  have kb_p_is_letter_0_text := kbp_p_is_letter_0_text F2
  have kb_p_is_name_0_text := kbp_p_is_name_0_text F1
  have kb_p_is_word_0_text := kbp_p_is_word_0_text F0
  exact ⟨PySem.W.fnOf "law" "law" (defArgs s_law) (defBody s_law) (defScope s_law) .none kV8 dc8 pm8 an8 cd8 ct8, fun s v => .of_eq rfl, fun base _ _ => ok_law_at ⟨_, _, F0, b0, PySem.W.mg_of X G a0, _, _, F1, b1, PySem.W.mg_of X G a1, _, _, F2, b2, PySem.W.mg_of X G a2, _, _, F3, b3, PySem.W.mg_of X G a3, _, _, F4, b4, PySem.W.mg_of X G a4, _, _, F5, b5, PySem.W.mg_of X G a5, _, _, F6, b6, PySem.W.mg_of X G a6, _, _, F7, b7, PySem.W.mg_of X G a7, _, _, F8, b8, PySem.W.mg_of X G a8, kb_p_is_letter_0_text, kb_p_is_name_0_text, kb_p_is_word_0_text, PySem.W.mg_none_of X G z0, PySem.W.mg_none_of X G z1, PySem.W.mg_none_of X G z2, PySem.W.mg_none_of X G z3, PySem.W.mg_none_of X G z4, PySem.W.mg_none_of X G z5, PySem.W.mg_none_of X G z6, PySem.W.mg_none_of X G z7, PySem.W.mg_none_of X G z8, PySem.W.mg_none_of X G z9, _, PySem.W.mg_of X G d0, e0, _, PySem.W.mg_of X G d1, e1⟩⟩
end K01
open PySem PySem.W PyProof.Rows
set_option maxHeartbeats 0 in
theorem PySem.Challenge.cw_leakpost_k01_names_letters_words_holds : PySem.Challenge.rw_leakpost_k01_names_letters_words.Holds := by
  w_on; o_law; k_head; (case hw => w_witness2)
  k_fill
  refine L2.walk_of (l := PySem.Challenge.rw_leakpost_k01_names_letters_words) (n := 63) (k := 4) (x := "_law_script") (CX := fun _ => L2.CX0) (sp := fun w => K01.sp_law _) rfl (by decide) rfl ⟨rfl, by decide, by decide⟩ (fun w h Y => PySem.W.kIn_of Y) ?F (fun _ _ a ns hl _ hS => ⟨a, ns, rfl, hS, hl, fun _ => rfl⟩) (fun _ _ _ _ _ h => h)
  case F =>
    intro w mg fa h KX G hmg
    refine' K01.all_mk KX G hmg ?a0 ?l0 ?c0 ?k0 ?a1 ?l1 ?c1 ?k1 ?a2 ?l2 ?c2 ?k2 ?a3 ?l3 ?c3 ?k3 ?a4 ?l4 ?c4 ?k4 ?a5 ?l5 ?c5 ?k5 ?a6 ?l6 ?c6 ?k6 ?a7 ?l7 ?c7 ?k7 ?a8 ?l8 ?c8 ?k8 ?z0 ?z1 ?z2 ?z3 ?z4 ?z5 ?z6 ?z7 ?z8 ?z9 ?d0 ?e0 ?d1 ?e1
    (case a0 => k_is)
    (case l0 => k_is)
    (case c0 => k_is)
    (case k0 => k_is)
    (case a1 => k_is)
    (case l1 => k_is)
    (case c1 => k_is)
    (case k1 => k_is)
    (case a2 => k_is)
    (case l2 => k_is)
    (case c2 => k_is)
    (case k2 => k_is)
    (case a3 => k_is)
    (case l3 => k_is)
    (case c3 => k_is)
    (case k3 => k_is)
    (case a4 => k_is)
    (case l4 => k_is)
    (case c4 => k_is)
    (case k4 => k_is)
    (case a5 => k_is)
    (case l5 => k_is)
    (case c5 => k_is)
    (case k5 => k_is)
    (case a6 => k_is)
    (case l6 => k_is)
    (case c6 => k_is)
    (case k6 => k_is)
    (case a7 => k_is)
    (case l7 => k_is)
    (case c7 => k_is)
    (case k7 => k_is)
    (case a8 => k_is)
    (case l8 => k_is)
    (case c8 => k_is)
    (case k8 => k_is)
    (case z0 => k_is)
    (case z1 => k_is)
    (case z2 => k_is)
    (case z3 => k_is)
    (case z4 => k_is)
    (case z5 => k_is)
    (case z6 => k_is)
    (case z7 => k_is)
    (case z8 => k_is)
    (case z9 => k_is)
    (case d0 => k_is)
    (case e0 => exact ⟨_, rfl⟩)
    (case d1 => k_is)
    (case e1 => exact ⟨_, rfl⟩)
