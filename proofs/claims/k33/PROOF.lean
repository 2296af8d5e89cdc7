import PyProof.Rows.All
import Wide.All
import OpenK.AllK
import Wide.FinOn
import HandS.ForMost
import HandS.Walk
import HandS.Zip
import HandS.IsInst
import HandS.StrMore
import HandS.Evl
import HandS.Style
import HandS.More
import HandS.TupMul
import HandS.TupAny
import PyProof.ListStr
import KE.KRevSl
import PySem.Challenge.RW_leakpost_k33_products_sent_taken_swollen
set_option Elab.async false
set_option linter.all false
set_option maxRecDepth 100000

namespace LB
open PySem PySem.Spec PyProof.Rows L2
/-! ### the bag of draws: a list of five at b, its cells at s -/
def bagL (s : Addr) (i r sd c : Int) : HO := .lst [.ref s, .int i, .int r, .int sd, .int c]
def Bag (b s : Addr) (H : Hp) : Prop := s ≠ b ∧ ∃ (ns : List Int) (i r sd c : Int), H b = some (bagL s i r sd c) ∧ H s = some (.lst (ns.map V.int)) ∧ ns.length ≤ 63 ∧ 0 ≤ i
/-- all but the bag is as it was -/
structure BX (b s : Addr) (H H' : Hp) : Prop where
  bag : Bag b s H'
  keep : ∀ a o, a ≠ b → H a = some o → H' a = some o
section
variable {b s p a : Addr} {H H' H'' : Hp} {o : HO} {K : PySem.W.Frag}
theorem Bag.nb (h : Bag b s H) (n : H p = none) : p ≠ b := by
  obtain ⟨_, ns, i, r, sd, c, e, _⟩ := h
  exact (ne_of_none e n).symm
theorem Bag.ns (h : Bag b s H) (n : H p = none) : p ≠ s := by
  obtain ⟨_, ns, i, r, sd, c, _, e, _⟩ := h
  exact (ne_of_none e n).symm
theorem BX.refl (h : Bag b s H) : BX b s H H := ⟨h, fun _ _ _ e => e⟩
theorem BX.trans (x : BX b s H H') (y : BX b s H' H'') : BX b s H H'' := ⟨y.bag, fun a o n e => y.keep a o n (x.keep a o n e)⟩
theorem Bag.same (h : Bag b s H) (x : Same H H') : Bag b s H' := by
  obtain ⟨n, ns, i, r, sd, c, e1, e2, l⟩ := h
  exact ⟨n, ns, i, r, sd, c, x _ _ e1, x _ _ e2, l⟩
theorem BX.same (h : Bag b s H) (x : Same H H') : BX b s H H' := ⟨h.same x, fun a o _ e => x a o e⟩
theorem BX.andSame (h : BX b s H H') (x : Same H' H'') : BX b s H H'' := h.trans (.same h.bag x)
theorem same_new (h : H p = none) : Same H (upd H p o) := fun c x e => by
  rw [upd_ne (ne_of_none e h)]
  exact e
theorem BX.new (h : Bag b s H) (n : H p = none) : BX b s H (upd H p o) := .same h (same_new n)
theorem BX.mut (x : BX b s H H') (h : Bag b s H) (n : H p = none) : BX b s H (upd H' p o) := by
  have n1 := h.nb n
  have n2 := h.ns n
  obtain ⟨ne, ns, i, r, sd, c, e1, e2, l⟩ := x.bag
  refine ⟨⟨ne, ns, i, r, sd, c, ?_, ?_, l⟩, fun a o na e => ?_⟩
  · rw [upd_ne n1.symm]; exact e1
  · rw [upd_ne n2.symm]; exact e2
  · rw [upd_ne (ne_of_none e n)]; exact x.keep a o na e
theorem BX.back (x : BX b s H H') (n : H' p = none) : H p = none := by
  cases e : H p with
  | none => rfl
  | some o =>
    by_cases hb : p = b
    · exact absurd hb (x.bag.nb n)
    · rw [x.keep p o hb e] at n
      cases n
theorem same_mut (x : Same H H') (n : H p = none) : Same H (upd H' p o) := fun a u e => by
  rw [upd_ne (ne_of_none e n)]
  exact x a u e
/-- an object that is not the bag -/
def At (b : Addr) (H : Hp) (a : Addr) (o : HO) : Prop := a ≠ b ∧ H a = some o
theorem At.mv (h : At b H a o) (x : BX b s H H') : At b H' a o := ⟨h.1, x.keep a o h.1 h.2⟩
theorem At.new (h : Bag b s H) (n : H p = none) : At b (upd H p o) p o := ⟨h.nb n, upd_same⟩
theorem At.l {xs : List V} (h : At b H a (.lst xs)) : SqL K H a xs := .of h.2
theorem At.t {xs : List V} (h : At b H a (.tup xs)) : SqT K H a xs := .of h.2
/-- xs[i] of a list, by values: for xs[i] op= e -/
theorem get_list {X : Cx} : PGet X (rIxL X.K) := by
  intro pins s σ H o i ov iv Q I ro ri h
  obtain ⟨p, xs, k, z, rfl, rfl, hq, he, q⟩ := h
  cases ro
  obtain ⟨t, rfl⟩ := ri
  obtain ⟨its, r, pl, hz⟩ := I.list hq
  obtain ⟨j, h1, h2, h3, h4, h5⟩ := atI_get he
  obtain ⟨w, ew, rw'⟩ := r.get h2
  have hl := r.length
  have hn := line63
  have fin : EP X pins σ Q w s := ⟨z, H, I, rw', q⟩
  by_cases h0 : 0 ≤ k
  · have hj : k.toNat = j := by
      rw [seqIndex_of h0 h5] at h1
      exact Option.some.inj h1
    exact wpAny_getItem_list pl.isList h0 (by omega) (by rw [hj]; simpa using ew) fin
  · have hj : (k + (its.toArray.size : Int)).toNat = j := by
      rw [seqIndex_neg (by omega) h4] at h1
      rw [List.size_toArray, ← hl]
      exact Option.some.inj h1
    exact wpAny_getItem_list_neg pl.isList (by omega) (by rw [List.size_toArray] <;> omega) (by omega) (by rw [hj]; simpa using ew) fin
end
theorem fmul (c : Int) (h : -(2 ^ 64) < c ∧ c < 2 ^ 64) (i : Int) : CMul i c := .inr h
theorem cut_take (xs : List V) (k : Nat) : cutV xs none (some (k : Int)) = xs.take k := by
  unfold cutV
  rw [HT.sIx_none, HT.sIx_nat]
  show (xs.drop 0).take (min k xs.length - 0) = xs.take k
  rw [List.drop_zero, Nat.sub_zero]
  by_cases h : k ≤ xs.length
  · rw [Nat.min_eq_left h]
  · rw [Nat.min_eq_right (by omega), List.take_length, List.take_of_length_le (by omega)]

theorem cut_takeI (xs : List V) {k : Int} (h : 0 ≤ k) : cutV xs none (some k) = xs.take k.toNat := by
  obtain ⟨n, rfl⟩ := Int.eq_ofNat_of_zero_le h
  exact cut_take xs n
/-! ### texts by their signs -/
abbrev sg (c : Nat) : Str := ⟨#[c]⟩
abbrev tx (l : List Nat) : Str := ⟨l.toArray⟩
theorem tx_app (a b : List Nat) : tx a ++ tx b = tx (a ++ b) := by
  show (⟨a.toArray ++ b.toArray⟩ : Str) = _
  rw [List.append_toArray]
theorem tx_len (a : List Nat) : (tx a).length = a.length := by
  show a.toArray.size = _
  rw [List.size_toArray]
theorem tx_cps (a : List Nat) : (tx a).cps.toList = a := rfl
theorem tx_of (z : Str) : z = tx z.cps.toList := by
  cases z
  rfl
theorem join_sg (cs : List Nat) : Txt.join (Str.ofString "") (cs.map sg) = tx cs := by
  show Builtin.Str.glued _ _ = _
  rw [StrLaws.glued_eq_join, show Str.ofString "" = (tx [] : Str) from by decide +kernel]
  induction cs with
  | nil => rfl
  | cons c r ih =>
    cases r with
    | nil => rfl
    | cons d t =>
      show sg c ++ tx [] ++ Str.join (tx []) ((d :: t).map sg) = _
      rw [ih, show sg c = tx [c] from rfl, tx_app, tx_app]
      rfl
theorem join_tx (ls : List (List Nat)) : Txt.join (Str.ofString "") (ls.map tx) = tx ls.flatten := by
  show Builtin.Str.glued _ _ = _
  rw [StrLaws.glued_eq_join, show Str.ofString "" = (tx [] : Str) from by decide +kernel]
  induction ls with
  | nil => rfl
  | cons c r ih =>
    cases r with
    | nil => simp [Str.join]
    | cons d t =>
      show tx c ++ tx [] ++ Str.join (tx []) ((d :: t).map tx) = _
      rw [ih, tx_app, tx_app]
      simp
theorem ones_sum (cs : List Nat) : ((cs.map sg).map (·.length)).sum = cs.length := by
  induction cs with
  | nil => rfl
  | cons c r ih =>
    rw [List.map_cons, List.map_cons, List.sum_cons, ih, List.length_cons]
    show 1 + r.length = _
    omega
abbrev alphabet : Str := Str.ofString "abcdefghijklmnopqrstuvwxyz"
theorem alpha_at {i : Int} (h0 : 0 ≤ i) (h1 : i < 26) : atI alphabet.cps.toList i = some (i.toNat + 97) := by
  obtain ⟨k, rfl⟩ := Int.eq_ofNat_of_zero_le h0
  have hk : k < 26 := by omega
  have all : ∀ j : Fin 26, atI alphabet.cps.toList ((j.val : Nat) : Int) = some (j.val + 97) := by decide +kernel
  exact all ⟨k, hk⟩
theorem alpha_codes : alphabet.cps.toList = (List.range 26).map (· + 97) := by decide +kernel
/-- the k-th of the letters drawn by (first, step) -/
def lett (f b : Int) (k : Nat) : Nat := ((f + b * (k : Int)) % 26).toNat + 97
theorem mem_get {α : Type} {xs : List α} {i : Int} {n : Nat} (hn : n = xs.length) (h0 : 0 ≤ i) (h1 : i < (n : Int)) : ∃ x, x ∈ xs ∧ atI xs i = some x := by
  obtain ⟨k, rfl⟩ := Int.eq_ofNat_of_zero_le h0
  have hk : k < xs.length := by omega
  exact ⟨xs[k], List.getElem_mem hk, atI_nat (List.getElem?_eq_getElem hk)⟩
/-! ### the same data, up to a depth -/
def flat1 : V → Bool
  | .non => true
  | .bl _ => true
  | .int _ => true
  | .str _ => true
  | _ => false
def Sam (K : PySem.W.Frag) (H : Hp) : Nat → V → V → Prop
  | 0, v, w => flat1 v = true ∧ v = w
  | n + 1, v, w => (flat1 v = true ∧ v = w) ∨ ∃ a c xs ys, v = .ref a ∧ w = .ref c ∧ ((H a = some (.lst xs) ∧ H c = some (.lst ys)) ∨ (H a = some (.tup xs) ∧ H c = some (.tup ys))) ∧ xs.length < 100000 ∧ Paired (Sam K H n) xs ys
theorem Sam.flat {K : PySem.W.Frag} {H : Hp} {v : V} (n : Nat) (h : flat1 v = true) : Sam K H n v v := by
  cases n with
  | zero => exact ⟨h, rfl⟩
  | succ n => exact .inl ⟨h, rfl⟩
theorem Sam.mono {K : PySem.W.Frag} {H H' : Hp} (x : Same H H') : ∀ {n : Nat} {v w : V}, Sam K H n v w → Sam K H' n v w
  | 0, _, _, h => h
  | n + 1, _, _, h => by
    rcases h with h | ⟨a, c, xs, ys, e1, e2, h, hz, p⟩
    · exact .inl h
    · refine .inr ⟨a, c, xs, ys, e1, e2, ?_, hz, Paired.mapP p fun _ _ q => Sam.mono x q⟩
      rcases h with ⟨h1, h2⟩ | ⟨h1, h2⟩
      · exact .inl ⟨x _ _ h1, x _ _ h2⟩
      · exact .inr ⟨x _ _ h1, x _ _ h2⟩
theorem paired_get {α β : Type} {F : α → β → Prop} : ∀ {xs : List α} {ys : List β} {i : Nat} {x : α} {y : β}, Paired F xs ys → xs[i]? = some x → ys[i]? = some y → F x y
  | _, _, _, _, _, .nil, h, _ => by simp at h
  | _, _, 0, _, _, .cons r _, h, h' => by
    simp at h h'
    subst h h'
    exact r
  | _, _, i + 1, _, _, .cons _ t, h, h' => paired_get (i := i) t (by simpa using h) (by simpa using h')
theorem sam_lst {K : PySem.W.Frag} {H : Hp} {n : Nat} {a c : Addr} {xs ys : List V} (h1 : H a = some (.lst xs)) (h2 : H c = some (.lst ys)) (hz : xs.length < 100000) (p : Paired (Sam K H n) xs ys) : Sam K H (n + 1) (.ref a) (.ref c) :=
  .inr ⟨a, c, xs, ys, rfl, rfl, .inl ⟨h1, h2⟩, hz, p⟩
theorem sam_tup {K : PySem.W.Frag} {H : Hp} {n : Nat} {a c : Addr} {xs ys : List V} (h1 : H a = some (.tup xs)) (h2 : H c = some (.tup ys)) (hz : xs.length < 100000) (p : Paired (Sam K H n) xs ys) : Sam K H (n + 1) (.ref a) (.ref c) :=
  .inr ⟨a, c, xs, ys, rfl, rfl, .inr ⟨h1, h2⟩, hz, p⟩
theorem paired_flat {K : PySem.W.Frag} {H : Hp} {n : Nat} : ∀ {xs : List V}, (∀ x ∈ xs, flat1 x = true) → Paired (Sam K H n) xs xs
  | [], _ => .nil
  | x :: r, h => .cons (.flat n (h x (by simp))) (paired_flat fun y hy => h y (by simp [hy]))
theorem kit_seq {K : PySem.W.Frag} {t : String} (h1 : kitB t "list" = some false) (h2 : kitB t "tuple" = some false) : PySem.W.kitAny K (.type t) [.type "list", .type "tuple"] = some false :=
  kitAny_cons (b := false) (kit_ty h1) (fun _ => kitAny_cons (b := false) (kit_ty h2) (fun _ => kitAny_nil) (fun z => nomatch z)) (fun z => nomatch z)
theorem kit_lst {K : PySem.W.Frag} : PySem.W.kitAny K (.type "list") [.type "list", .type "tuple"] = some true :=
  kitAny_cons (b := true) (kit_ty (by decide +kernel)) (fun z => nomatch z) (fun _ => rfl)
theorem kit_tup {K : PySem.W.Frag} : PySem.W.kitAny K (.type "tuple") [.type "list", .type "tuple"] = some true :=
  kitAny_cons (b := false) (kit_ty (by decide +kernel)) (fun _ => kitAny_cons (b := true) (kit_ty (by decide +kernel)) (fun z => nomatch z) (fun _ => rfl)) (fun z => nomatch z)
theorem kit_cls : Paired ClsV [V.ty "list", V.ty "tuple"] [.type "list", .type "tuple"] := .cons (.ty "list") (.cons (.ty "tuple") .nil)
theorem walk_zipT {K : PySem.W.Frag} {a b : Addr} {xs ys : List V} {n : Nat} (hn : n = min xs.length ys.length) : Walk (RZ.ItzT K a b) n (fun H => SqT K H a xs ∧ SqT K H b ys) (YPair (fun i => xs[i]?) (fun i => ys[i]?)) := by
  subst hn
  refine ⟨fun i _ hi q => ?_, fun _ q => ⟨xs, ys, q.1, q.2, by omega⟩, fun i H v H' _ q y => ?_⟩
  · have u1 : i < xs.length := Nat.lt_of_lt_of_le hi (Nat.min_le_left _ _)
    have u2 : i < ys.length := Nat.lt_of_lt_of_le hi (Nat.min_le_right _ _)
    exact ⟨xs, ys, xs[i], ys[i], q.1, q.2, List.getElem?_eq_getElem u1, List.getElem?_eq_getElem u2⟩
  · obtain ⟨T, x, z, g1, g2, g3, g4, g5⟩ := y
    exact ⟨T, x, z, g1, g2, g3, g4 xs q.1, g5 ys q.2⟩
/-- a comprehension whose element gives True at each turn, made beside objects that stay -/
theorem paired_len {α β : Type} {F : α → β → Prop} {xs : List α} {ys : List β} (p : Paired F xs ys) : xs.length = ys.length := Paired.length p
/-! ### f(k = v, ..): keywords alone -/
def tCallK0 (sp : Sp) (gV : List V → List V → List V) (E : XK) (tk : TA) : TE := fun σ H Q => tk σ H fun zs H2 => sp (gV [] zs) H2 Q E
theorem pe_callK0 {X : Cx} {CX : CXT} {k : Nat} {f : Addr} {fd : FuncData} {ps ks : List Str} {sp : Sp} {E : XK} {x : Str} {p pos : Pos} {kws : List Keyword} {tk : TA} {g : List Value → List Value → List Value} {gV : List V → List V → List V}
    (F : FnOk X.prog X.w X.K X.mg X.base CX k f fd ps sp) (hr : Room k X.A) (hg : Gl X x) (hm : X.mg x = some (.ref f)) (kp : PySem.W.keepIn X.K (.ref f) = true) (hb : KBinds X.K fd ps ks g gV) (hx : Passes CX X E)
    (hkw : PK X kws tk) (hall : (backToKw pos (keywordEach kws X.env)).all (·.1.isSome) = true := by rfl) (hks : (backToKw pos (keywordEach kws X.env)).filterMap (·.1) = ks := by rfl)
    (hdb : (x == ("__debug__" : Str)) = false := by decide) (hpl : ((backTo pos (starEach [] X.env)).any (·.1) || (backToKw pos (keywordEach kws X.env)).any (·.1.isNone)) = false := by rfl) :
    PE X (.Call (.Name x p) [] kws pos) (tCallK0 sp gV E tk) := by
  refine ⟨fun pins s σ H Q I h => ?_⟩
  refine wpAny_Call_Name_kw (ld_glob I hg hm ?_ hdb)
  refine PySem.W.callWith_KW0 (h₀ := X.base) I.ok.mod.kin kp hall ?_ hpl
  refine thn (hkw.run pos pins s σ H _ I h) fun ws s2 ⟨zs, H2, I2, rz, q2⟩ => ⟨I2.kIn, ?_⟩
  rw [hks]
  exact run_fnk F hr hb hx I2 .nil rz q2
/-! ### lists of texts as data: for == and != -/
def txsD (ls : List (List Nat)) : List PyData := ls.map fun l => PyData.str (tx l)
theorem strOk_tx {l : List Nat} (h : ∀ c ∈ l, c < 128) : PyData.strOk (tx l) = true := by
  unfold PyData.strOk
  rw [Array.all_eq_true_iff_forall_mem]
  intro c hc
  have := h c (by simpa using hc)
  exact decide_eq_true (by omega)
theorem txs_lay : ∀ {ls : List (List Nat)}, (∀ l ∈ ls, ∀ c ∈ l, c < 128) → PyData.canLayAll0 (txsD ls) = true
  | [], _ => rfl
  | l :: r, h => by
    show (PyData.canLay0 (.str (tx l)) && PyData.canLayAll0 (txsD r)) = true
    rw [txs_lay fun x hx => h x (by simp [hx]), Bool.and_true]
    exact strOk_tx (h l (by simp))
theorem txs_depth : ∀ ls : List (List Nat), PyData.depthAll (txsD ls) = 0
  | [] => rfl
  | l :: r => by
    show max (PyData.depth (.str (tx l))) (PyData.depthAll (txsD r)) = 0
    rw [txs_depth r]
    rfl
theorem txs_shaped {ls : List (List Nat)} (h : ∀ l ∈ ls, ∀ c ∈ l, c < 128) : SeqAt.shaped (.list (txsD ls)) = true := by
  unfold SeqAt.shaped
  rw [show PyData.canLay0 (.list (txsD ls)) = PyData.canLayAll0 (txsD ls) from rfl, txs_lay h, show PyData.depth (.list (txsD ls)) = PyData.depthAll (txsD ls) + 1 from rfl, txs_depth]
  rfl
theorem txs_dp {K : PySem.W.Frag} {H : Hp} : ∀ ls : List (List Nat), DpAll K H (ls.map fun l => V.str (tx l)) (txsD ls)
  | [] => .nil
  | l :: r => .cons (.str _) (txs_dp r)
theorem txs_nil (ls : List (List Nat)) : PyData.eqv (.list (txsD ls)) (.list []) = ls.isEmpty := by
  cases ls with
  | nil => rfl
  | cons l r => rfl
/-- an expression that gives v and leaves the heap -/
theorem pu_use {te : TE} {σ : L2.St} {H : Hp} {Q : VK} (v : V) (h : ∀ Q' : VK, Q' v H → te σ H Q') (q : Q v H) : te σ H Q := h Q q
theorem cutS_drop (zs : List Nat) (k : Nat) : cutS (tx zs) (some (k : Int)) none = tx (zs.drop k) := by
  unfold cutS
  rw [tx_len, HT.sIx_nat, HT.sIx_none, tx_cps]
  show tx _ = tx _
  congr 1
  by_cases h : k ≤ zs.length
  · rw [Nat.min_eq_left h]
    exact List.take_of_length_le (by rw [List.length_drop]; omega)
  · rw [Nat.min_eq_right (by omega), List.drop_of_length_le (Nat.le_refl _), List.drop_of_length_le (by omega), List.take_nil]
theorem cutS_take (zs : List Nat) (k : Nat) : cutS (tx zs) none (some (k : Int)) = tx (zs.take k) := by
  unfold cutS
  rw [tx_len, HT.sIx_nat, HT.sIx_none, tx_cps]
  show tx _ = tx _
  congr 1
  rw [List.drop_zero, Nat.sub_zero]
  by_cases h : k ≤ zs.length
  · rw [Nat.min_eq_left h]
  · rw [Nat.min_eq_right (by omega), List.take_length, List.take_of_length_le (by omega)]
/-! ### sep.join(xs) within a comprehension -/
def rJoin (K : PySem.W.Frag) : V → List V → Hp → VK → Prop := fun x vs H Q => ∃ sep lst, ∃ ts : List Str, x = .str sep ∧ vs = [.ref lst] ∧ (SqL K H lst (ts.map V.str) ∨ SqT K H lst (ts.map V.str)) ∧
  (ts.map (·.length)).sum + ts.length * sep.length ≤ 16777216 ∧ Q (.str (Txt.join sep ts)) H
theorem pe_joinK {X : Cx} {K : PySem.W.Frag} {o e : Expr} {to te : TE} {apos pos : Pos} (ho : PE X o to) (he : PE X e te) (hK : X.K = K := by rfl) (h1 : starEach [e] X.env = [(false, eval e X.env)] := by rfl)
    (h2 : attributeBase o "join" X.env (eval o X.env) = eval o X.env := by rfl) (h3 : (apos.endLine == pos.line) = true := by rfl) : PE X (.Call (.Attribute o "join" apos) [e] [] pos) (tM1 (rJoin K) to te) := by
  subst hK
  exact pe_join ho he h1 h2 h3
end LB

namespace LB
open PySem PySem.Spec PyProof.Rows L2
/-! ### the first place of a sign from a place on -/
def fnd (c : Nat) : List Nat → Nat → Option Nat
  | [], _ => none
  | x :: r, k => if x = c then some k else fnd c r (k + 1)
theorem occ_stay (s sub : Str) (hi : Nat) : ∀ (l : List Nat) (st : Array Nat × Nat), 1 ≤ st.fst.size → (forIn l st (StrLaws.occBody s sub hi 1)).run = st
  | [], st, h => rfl
  | a :: l, st, h => by
    rw [List.forIn_cons]
    have c : ¬ (((st.fst.size < 1 ∧ st.snd ≤ a) ∧ a + sub.length ≤ hi) ∧ Builtin.Str.subAt s sub a = true) := fun z => by
      have := z.1.1.1
      omega
    unfold StrLaws.occBody
    rw [if_neg c]
    exact occ_stay s sub hi l st h
theorem occ_fnd (g : List Nat) (c : Nat) : ∀ (n k free : Nat), free ≤ k → k + n = g.length + 1 →
    (forIn (List.range' k n) ((#[] : Array Nat), free) (StrLaws.occBody (tx g) (sg c) (tx g).length 1)).run.fst.toList = (fnd c (g.drop k) k).toList
  | 0, k, free, hf, hn => by
    rw [List.drop_of_length_le (by omega)]
    rfl
  | n + 1, k, free, hf, hn => by
    rw [List.range'_succ, List.forIn_cons]
    have one := StrLaws.subAt_one (tx g) c k
    rw [tx_cps] at one
    by_cases hc : g[k]? = some c
    · have c1 : (((((#[] : Array Nat), free).fst.size < 1 ∧ ((#[] : Array Nat), free).snd ≤ k) ∧ k + (sg c).length ≤ (tx g).length) ∧ Builtin.Str.subAt (tx g) (sg c) k = true) :=
        ⟨⟨⟨by simp, hf⟩, (one.mpr hc).1⟩, (one.mpr hc).2⟩
      obtain ⟨hlt, e⟩ := List.getElem?_eq_some_iff.mp hc
      rw [List.drop_eq_getElem_cons hlt, e]
      have e1 : StrLaws.occBody (tx g) (sg c) (tx g).length 1 k ((#[] : Array Nat), free) = pure (ForInStep.yield (#[k], k + (sg c).length)) := by
        unfold StrLaws.occBody
        rw [if_pos c1]
        rfl
      rw [e1]
      show (forIn (List.range' (k + 1) n) ((#[k] : Array Nat), k + (sg c).length) (StrLaws.occBody (tx g) (sg c) (tx g).length 1)).run.fst.toList = _
      rw [occ_stay _ _ _ _ _ (by simp)]
      simp [fnd]
    · have c2 : ¬ (((((#[] : Array Nat), free).fst.size < 1 ∧ ((#[] : Array Nat), free).snd ≤ k) ∧ k + (sg c).length ≤ (tx g).length) ∧ Builtin.Str.subAt (tx g) (sg c) k = true) := fun z => hc (one.mp ⟨z.1.2, z.2⟩)
      have e1 : StrLaws.occBody (tx g) (sg c) (tx g).length 1 k ((#[] : Array Nat), free) = pure (ForInStep.yield (#[], free)) := by
        unfold StrLaws.occBody
        rw [if_neg c2]
      rw [e1]
      show (forIn (List.range' (k + 1) n) ((#[] : Array Nat), free) (StrLaws.occBody (tx g) (sg c) (tx g).length 1)).run.fst.toList = _
      rw [occ_fnd g c n (k + 1) free (by omega) (by omega)]
      by_cases hlt : k < g.length
      · rw [List.drop_eq_getElem_cons hlt]
        have ne : g[k] ≠ c := fun z => hc (by rw [List.getElem?_eq_getElem hlt, z])
        simp [fnd, ne]
      · rw [List.drop_of_length_le (by omega), List.drop_of_length_le (by omega)]
        rfl
theorem find3_one (g : List Nat) (c k : Nat) (hk : k ≤ g.length) : Txt.find3 (tx g) (sg c) (k : Int) = match fnd c (g.drop k) k with | some j => (j : Int) | none => -1 := by
  unfold Txt.find3
  have ek : fromIndex (tx g).length (k : Int) = k := by
    unfold fromIndex
    rw [if_neg (by omega)]
    omega
  rw [ek, StrLaws.occ_eq, tx_len, ← tx_len g, occ_fnd g c _ k k (Nat.le_refl _) (by rw [tx_len]; omega)]
  cases fnd c (g.drop k) k <;> rfl
theorem fnd_spec {c : Nat} : ∀ {l : List Nat} {k j : Nat}, fnd c l k = some j → k ≤ j ∧ j < k + l.length ∧ l[j - k]? = some c
  | [], _, _, h => by cases h
  | x :: r, k, j, h => by
    unfold fnd at h
    by_cases e : x = c
    · rw [if_pos e] at h
      cases h
      exact ⟨Nat.le_refl _, by simp, by simp [e]⟩
    · rw [if_neg e] at h
      obtain ⟨h1, h2, h3⟩ := fnd_spec h
      refine ⟨by omega, by simp; omega, ?_⟩
      rw [show j - k = (j - (k + 1)) + 1 by omega]
      simpa using h3
/-! ### where the letters of the small word stand in the great one, each as early as can be -/
def gs : List Nat → List Nat → Nat → Option (List Nat)
  | [], _, _ => some []
  | _ :: _, [], _ => none
  | s :: ss, g :: gg, k => if g = s then (gs ss gg (k + 1)).map (k :: ·) else gs (s :: ss) gg (k + 1)
theorem gs_nil (g : List Nat) (k : Nat) : gs [] g k = some [] := by cases g <;> rfl
theorem gs_fnd (s : Nat) (ss : List Nat) : ∀ (l : List Nat) (k : Nat), gs (s :: ss) l k = match fnd s l k with | none => none | some j => (gs ss (l.drop (j + 1 - k)) (j + 1)).map (j :: ·)
  | [], k => rfl
  | x :: r, k => by
    show (if x = s then (gs ss r (k + 1)).map (k :: ·) else gs (s :: ss) r (k + 1)) = _
    unfold fnd
    by_cases e : x = s
    · rw [if_pos e, if_pos e]
      show _ = (gs ss ((x :: r).drop (k + 1 - k)) (k + 1)).map (k :: ·)
      rw [show k + 1 - k = 1 by omega]
      rfl
    · rw [if_neg e, if_neg e, gs_fnd s ss r (k + 1)]
      cases h : fnd s r (k + 1) with
      | none => rfl
      | some j =>
        have h1 := (fnd_spec h).1
        show (gs ss (r.drop (j + 1 - (k + 1))) (j + 1)).map (j :: ·) = (gs ss ((x :: r).drop (j + 1 - k)) (j + 1)).map (j :: ·)
        rw [show j + 1 - k = (j + 1 - (k + 1)) + 1 by omega]
        rfl
theorem gs_len : ∀ {a g : List Nat} {k : Nat} {ps : List Nat}, gs a g k = some ps → ps.length = a.length ∧ a.length ≤ g.length
  | [], g, k, ps, h => by
    rw [gs_nil] at h
    cases h
    exact ⟨rfl, Nat.zero_le _⟩
  | _ :: _, [], _, _, h => by cases h
  | s :: ss, x :: r, k, ps, h => by
    unfold gs at h
    by_cases e : x = s
    · rw [if_pos e] at h
      cases h2 : gs ss r (k + 1) with
      | none => rw [h2] at h; cases h
      | some qs =>
        rw [h2] at h
        cases h
        have := gs_len h2
        simp
        omega
    · rw [if_neg e] at h
      have := gs_len h
      simp at this ⊢
      omega
theorem gs_self : ∀ (a : List Nat) (k : Nat), (gs a a k).isSome = true
  | [], _ => rfl
  | x :: r, k => by
    unfold gs
    rw [if_pos rfl]
    have := gs_self r (k + 1)
    cases h : gs r r (k + 1) with
    | none => rw [h] at this; cases this
    | some _ => rfl
theorem gs_longer (a b : List Nat) (k : Nat) (h : b.length < a.length) : gs a b k = none := by
  cases e : gs a b k with
  | none => rfl
  | some ps => have := gs_len e; omega
end LB

namespace LB
open PySem PySem.Spec PyProof.Rows L2
/-! ### data in the heap, up to a depth, apart from some addresses -/
inductive D where
  | non | bl (b : Bool) | int (i : Int) | str (l : List Nat) | lst (ds : List D) | tup (ds : List D)
abbrev ascii (l : List Nat) : Prop := ∀ c ∈ l, c < 128
def flatR : V → D → Prop
  | .non, .non => True
  | .bl a, .bl b => a = b
  | .int i, .int j => i = j
  | .str x, .str l => x = tx l ∧ ascii l
  | _, _ => False
def Rp (av : Addr → Prop) (H : Hp) : Nat → V → D → Prop
  | 0, v, d => flatR v d
  | n + 1, v, d => flatR v d ∨ (∃ a xs ds, v = .ref a ∧ d = .lst ds ∧ ¬ av a ∧ H a = some (.lst xs) ∧ xs.length < 100000 ∧ Paired (Rp av H n) xs ds) ∨
      (∃ a xs ds, v = .ref a ∧ d = .tup ds ∧ ¬ av a ∧ H a = some (.tup xs) ∧ xs.length < 100000 ∧ Paired (Rp av H n) xs ds)
def Kp (av : Addr → Prop) (H H' : Hp) : Prop := ∀ a o, ¬ av a → H a = some o → H' a = some o
section
variable {av av' : Addr → Prop} {H H' H'' : Hp} {b s a p : Addr} {o : HO} {n : Nat} {v w : V} {d : D} {ds : List D} {K : PySem.W.Frag}
theorem Kp.refl : Kp av H H := fun _ _ _ e => e
theorem Kp.trans (x : Kp av H H') (y : Kp av H' H'') : Kp av H H'' := fun a o n e => y a o n (x a o n e)
theorem Kp.weak (x : Kp av' H H') (h : ∀ a, av' a → av a) : Kp av H H' := fun a o n e => x a o (fun z => n (h a z)) e
theorem Same.kp (x : Same H H') : Kp av H H' := fun a o _ e => x a o e
theorem BX.kp (x : BX b s H H') (h : av b) : Kp av H H' := fun a o n e => x.keep a o (fun z => n (z ▸ h)) e
theorem Kp.mut (h : av a) : Kp av H (upd H a o) := fun c u n e => by
  have na : c ≠ a := fun z => n (by rw [z]; exact h)
  rw [upd_ne na]
  exact e
theorem Kp.new (h : H p = none) : Kp av H (upd H p o) := Same.kp (same_new h)
theorem Kp.mutN {av : Addr → Prop} {H H' : Hp} {p : Addr} {o : HO} (x : Kp av H H') (n : H p = none) : Kp av H (upd H' p o) := fun a u na e => by
  rw [upd_ne (ne_of_none e n)]
  exact x a u na e
theorem flatR_rp (n : Nat) (h : flatR v d) : Rp av H n v d := by
  cases n with
  | zero => exact h
  | succ n => exact .inl h
theorem Rp.mv : ∀ {n : Nat} {v : V} {d : D}, Kp av H H' → Rp av H n v d → Rp av H' n v d
  | 0, _, _, _, h => h
  | n + 1, _, _, k, h => by
    rcases h with h | ⟨a, xs, ds, e1, e2, na, ha, hl, p⟩ | ⟨a, xs, ds, e1, e2, na, ha, hl, p⟩
    · exact .inl h
    · exact .inr (.inl ⟨a, xs, ds, e1, e2, na, k _ _ na ha, hl, Paired.mapP p fun _ _ q => Rp.mv k q⟩)
    · exact .inr (.inr ⟨a, xs, ds, e1, e2, na, k _ _ na ha, hl, Paired.mapP p fun _ _ q => Rp.mv k q⟩)
theorem Rp.weak : ∀ {n : Nat} {v : V} {d : D}, (∀ a, av' a → av a) → Rp av H n v d → Rp av' H n v d
  | 0, _, _, _, h => h
  | n + 1, _, _, k, h => by
    rcases h with h | ⟨a, xs, ds, e1, e2, na, ha, hl, p⟩ | ⟨a, xs, ds, e1, e2, na, ha, hl, p⟩
    · exact .inl h
    · exact .inr (.inl ⟨a, xs, ds, e1, e2, fun z => na (k a z), ha, hl, Paired.mapP p fun _ _ q => Rp.weak k q⟩)
    · exact .inr (.inr ⟨a, xs, ds, e1, e2, fun z => na (k a z), ha, hl, Paired.mapP p fun _ _ q => Rp.weak k q⟩)
theorem Rp.up : ∀ {n : Nat} {v : V} {d : D}, Rp av H n v d → Rp av H (n + 1) v d
  | 0, _, _, h => .inl h
  | n + 1, _, _, h => by
    rcases h with h | ⟨a, xs, ds, e1, e2, na, ha, hl, p⟩ | ⟨a, xs, ds, e1, e2, na, ha, hl, p⟩
    · exact .inl h
    · exact .inr (.inl ⟨a, xs, ds, e1, e2, na, ha, hl, Paired.mapP p fun _ _ q => Rp.up q⟩)
    · exact .inr (.inr ⟨a, xs, ds, e1, e2, na, ha, hl, Paired.mapP p fun _ _ q => Rp.up q⟩)
theorem rp_lst (na : ¬ av a) {xs : List V} (ha : H a = some (.lst xs)) (hl : xs.length < 100000) (p : Paired (Rp av H n) xs ds) : Rp av H (n + 1) (.ref a) (.lst ds) := .inr (.inl ⟨a, xs, ds, rfl, rfl, na, ha, hl, p⟩)
theorem rp_tup (na : ¬ av a) {xs : List V} (ha : H a = some (.tup xs)) (hl : xs.length < 100000) (p : Paired (Rp av H n) xs ds) : Rp av H (n + 1) (.ref a) (.tup ds) := .inr (.inr ⟨a, xs, ds, rfl, rfl, na, ha, hl, p⟩)
theorem rp_str {l : List Nat} (h : ascii l) : Rp av H n (.str (tx l)) (.str l) := flatR_rp n ⟨rfl, h⟩
theorem Rp.tup (h : Rp av H (n + 1) v (.tup ds)) : ∃ a xs, v = .ref a ∧ ¬ av a ∧ H a = some (.tup xs) ∧ xs.length < 100000 ∧ Paired (Rp av H n) xs ds := by
  rcases h with h | ⟨a, xs, es, e1, e2, na, ha, hl, p⟩ | ⟨a, xs, es, e1, e2, na, ha, hl, p⟩
  · cases v <;> cases h
  · cases e2
  · cases e2
    exact ⟨a, xs, e1, na, ha, hl, p⟩
theorem Rp.lst (h : Rp av H (n + 1) v (.lst ds)) : ∃ a xs, v = .ref a ∧ ¬ av a ∧ H a = some (.lst xs) ∧ xs.length < 100000 ∧ Paired (Rp av H n) xs ds := by
  rcases h with h | ⟨a, xs, es, e1, e2, na, ha, hl, p⟩ | ⟨a, xs, es, e1, e2, na, ha, hl, p⟩
  · cases v <;> cases h
  · cases e2
    exact ⟨a, xs, e1, na, ha, hl, p⟩
  · cases e2
theorem Rp.str {l : List Nat} (h : Rp av H n v (.str l)) : v = .str (tx l) ∧ ascii l := by
  have go : flatR v (.str l) → v = .str (tx l) ∧ ascii l := fun h => by
    cases v with
    | str x => exact ⟨by rw [h.1], h.2⟩
    | non => cases h
    | bl _ => cases h
    | int _ => cases h
    | byt _ => cases h
    | flt _ => cases h
    | ref _ => cases h
    | ty _ => cases h
  cases n with
  | zero => exact go h
  | succ n =>
    rcases h with h | ⟨_, _, _, _, e, _⟩ | ⟨_, _, _, _, e, _⟩
    · exact go h
    · cases e
    · cases e
theorem flat_val (h : flatR v d) : flat1 v = true ∧ ∀ w, flatR w d → v = w := by
  cases v with
  | non =>
    cases d <;> first | exact h.elim | skip
    refine ⟨rfl, fun w h' => ?_⟩
    cases w <;> first | exact h'.elim | rfl
  | bl x =>
    cases d <;> first | exact h.elim | skip
    refine ⟨rfl, fun w h' => ?_⟩
    cases w <;> first | exact h'.elim | exact congrArg V.bl ((show _ = _ from h).trans (show _ = _ from h').symm)
  | int x =>
    cases d <;> first | exact h.elim | skip
    refine ⟨rfl, fun w h' => ?_⟩
    cases w <;> first | exact h'.elim | exact congrArg V.int ((show _ = _ from h).trans (show _ = _ from h').symm)
  | str x =>
    cases d <;> first | exact h.elim | skip
    refine ⟨rfl, fun w h' => ?_⟩
    cases w <;> first | exact h'.elim | exact congrArg V.str (h.1.trans h'.1.symm)
  | byt _ => cases d <;> exact h.elim
  | flt _ => cases d <;> exact h.elim
  | ref _ => cases d <;> exact h.elim
  | ty _ => cases d <;> exact h.elim
theorem flat_sam (h : flatR v d) (h' : flatR w d) : flat1 v = true ∧ v = w := ⟨(flat_val h).1, (flat_val h).2 w h'⟩
theorem paired_join {α β γ : Type} {F : α → γ → Prop} {G : β → γ → Prop} {R : α → β → Prop} (f : ∀ a b c, F a c → G b c → R a b) : ∀ {xs : List α} {ys : List β} {zs : List γ}, Paired F xs zs → Paired G ys zs → Paired R xs ys
  | _, _, _, .nil, .nil => .nil
  | _, _, _, .cons r t, .cons r' t' => .cons (f _ _ _ r r') (paired_join f t t')
theorem rp_sam : ∀ {n : Nat} {v w : V} {d : D}, Rp av H n v d → Rp av' H n w d → Sam K H n v w
  | 0, _, _, _, h, h' => flat_sam h h'
  | n + 1, _, _, _, h, h' => by
    rcases h with h | ⟨a, xs, ds, rfl, rfl, na, ha, hl, p⟩ | ⟨a, xs, ds, rfl, rfl, na, ha, hl, p⟩
    · rcases h' with h' | ⟨c, ys, es, rfl, rfl, nc, hc, hm, q⟩ | ⟨c, ys, es, rfl, rfl, nc, hc, hm, q⟩
      · exact .inl (flat_sam h h')
      · rename_i v; cases v <;> cases h
      · rename_i v; cases v <;> cases h
    · obtain ⟨c, ys, rfl, nc, hc, hm, q⟩ := h'.lst
      exact sam_lst ha hc hl (paired_join (F := Rp av H n) (G := Rp av' H n) (R := Sam K H n) (fun _ _ _ r r' => rp_sam r r') p q)
    · obtain ⟨c, ys, rfl, nc, hc, hm, q⟩ := h'.tup
      exact sam_tup ha hc hl (paired_join (F := Rp av H n) (G := Rp av' H n) (R := Sam K H n) (fun _ _ _ r r' => rp_sam r r') p q)
theorem paired_rget {α β : Type} {F : α → β → Prop} : ∀ {xs : List α} {ys : List β} {i : Nat} {y : β}, Paired F xs ys → ys[i]? = some y → ∃ x, xs[i]? = some x ∧ F x y
  | _, _, _, _, .nil, h => by simp at h
  | _, _, 0, _, .cons r _, h => by
    simp at h
    subst h
    exact ⟨_, rfl, r⟩
  | _, _, i + 1, _, .cons _ t, h => by
    obtain ⟨x, e, r⟩ := paired_rget (i := i) t (by simpa using h)
    exact ⟨x, by simpa using e, r⟩
theorem paired_app {α β : Type} {F : α → β → Prop} {xs : List α} {ys : List β} {x : α} {y : β} (p : Paired F xs ys) (r : F x y) : Paired F (xs ++ [x]) (ys ++ [y]) := by
  induction p with
  | nil => exact .cons r .nil
  | cons q _ ih => exact .cons q ih
theorem paired_map {α β γ : Type} {F : α → β → Prop} {f : γ → α} {g : γ → β} (h : ∀ x, F (f x) (g x)) : ∀ zs : List γ, Paired F (zs.map f) (zs.map g)
  | [] => .nil
  | z :: r => .cons (h z) (paired_map h r)
theorem paired_mem {α β : Type} {F : α → β → Prop} : ∀ {xs : List α} {ys : List β} {x : α}, Paired F xs ys → x ∈ xs → ∃ y, y ∈ ys ∧ F x y
  | _, _, _, .nil, h => by cases h
  | _, _, _, .cons r t, h => by
    rcases List.mem_cons.mp h with rfl | h
    · exact ⟨_, List.mem_cons_self, r⟩
    · obtain ⟨y, hy, f⟩ := paired_mem t h
      exact ⟨y, List.mem_cons_of_mem _ hy, f⟩
/-- a tuple of texts -/
def tupS (ls : List (List Nat)) : D := .tup (ls.map D.str)
theorem rp_strs : ∀ {ls : List (List Nat)}, (∀ l ∈ ls, ascii l) → Paired (Rp av H n) (ls.map fun l => V.str (tx l)) (ls.map D.str)
  | [], _ => .nil
  | l :: r, h => .cons (rp_str (h l (by simp))) (rp_strs fun x hx => h x (by simp [hx]))
theorem strs_rp : ∀ {xs : List V} {ls : List (List Nat)}, Paired (Rp av H n) xs (ls.map D.str) → xs = (ls.map fun l => V.str (tx l)) ∧ ∀ l ∈ ls, ascii l
  | [], [], _ => ⟨rfl, fun _ h => nomatch h⟩
  | x :: xs, l :: ls, .cons r t => by
    obtain ⟨e, a⟩ := r.str
    obtain ⟨e2, a2⟩ := strs_rp t
    refine ⟨by rw [e, e2]; rfl, fun k hk => ?_⟩
    rcases List.mem_cons.mp hk with rfl | hk
    · exact a
    · exact a2 k hk
theorem Rp.tupS {ls : List (List Nat)} (h : Rp av H (n + 1) v (LB.tupS ls)) : ∃ a, v = .ref a ∧ ¬ av a ∧ H a = some (.tup (ls.map fun l => V.str (tx l))) ∧ ls.length < 100000 ∧ ∀ l ∈ ls, ascii l := by
  obtain ⟨a, xs, e, na, ha, hl, p⟩ := h.tup
  obtain ⟨rfl, as⟩ := strs_rp p
  exact ⟨a, e, na, ha, by simpa using hl, as⟩
theorem tup_eqv : ∀ ls ms : List (List Nat), PyData.eqvAll (txsD ls) (txsD ms) = decide (ls = ms)
  | [], [] => rfl
  | [], _ :: _ => rfl
  | _ :: _, [] => rfl
  | l :: r, m :: q => by
    show (PyData.eqv (.str (tx l)) (.str (tx m)) && PyData.eqvAll (txsD r) (txsD q)) = _
    rw [tup_eqv r q]
    show ((tx l == tx m) && decide (r = q)) = _
    by_cases h1 : l = m
    · subst h1
      by_cases h2 : r = q
      · subst h2
        simp
      · simp [h2]
    · have : (tx l == tx m) = false := by
        rw [beq_eq_false_iff_ne]
        intro z
        exact h1 (by simpa using congrArg (fun z => z.cps.toList) z)
      rw [this]
      simp [h1]
theorem tup_shaped {ls : List (List Nat)} (h : ∀ l ∈ ls, ascii l) : SeqAt.shaped (.tuple (txsD ls)) = true := by
  unfold SeqAt.shaped
  rw [show PyData.canLay0 (.tuple (txsD ls)) = PyData.canLayAll0 (txsD ls) from rfl, txs_lay h, show PyData.depth (.tuple (txsD ls)) = PyData.depthAll (txsD ls) + 1 from rfl, txs_depth]
  rfl
end
/-! ### names -/
def isNm (x : List Nat) : Prop := 0 < x.length ∧ x.length ≤ 8 ∧ ∀ c ∈ x, 97 ≤ c ∧ c < 123
structure NameL (ns : List (List Nat)) : Prop where
  nd : ns.Nodup
  ok : ∀ x ∈ ns, isNm x
theorem isNm.ascii {x : List Nat} (h : isNm x) : ascii x := fun c hc => by
  have := h.2.2 c hc
  omega
theorem NameL.take {ns : List (List Nat)} (h : NameL ns) (k : Nat) : NameL (ns.take k) := ⟨h.nd.sublist (List.take_sublist k ns), fun x hx => h.ok x (List.mem_of_mem_take hx)⟩
theorem alpha_mem {c : Nat} (h : c ∈ alphabet.cps.toList) : 97 ≤ c ∧ c < 123 := by
  rw [alpha_codes] at h
  obtain ⟨i, hi, rfl⟩ := List.mem_map.mp h
  have := List.mem_range.mp hi
  omega
theorem lett_bd (f b : Int) (k : Nat) : 97 ≤ lett f b k ∧ lett f b k < 123 := by
  unfold lett
  omega
theorem lett_inj {f b : Int} (hb : b ∈ [(1 : Int), 3, 5, 7, 9, 11]) {j k : Nat} (hj : j < 26) (hk : k < 26) (h : lett f b j = lett f b k) : j = k := by
  unfold lett at h
  simp only [List.mem_cons, List.not_mem_nil, or_false] at hb
  rcases hb with rfl | rfl | rfl | rfl | rfl | rfl <;> omega
/-- a letter put into the tail -/
def nmAt (tail : List Nat) (i : Nat) (c : Nat) : List Nat := tail.take i ++ [c] ++ tail.drop i
theorem nmAt_inj {tail : List Nat} {i c d : Nat} (h : nmAt tail i c = nmAt tail i d) : c = d := by
  unfold nmAt at h
  rw [List.append_assoc, List.append_assoc] at h
  have := List.append_cancel_left h
  simpa using this
theorem nmAt_ok {tail : List Nat} {i c : Nat} (ht : tail.length ≤ 7) (ha : ∀ x ∈ tail, 97 ≤ x ∧ x < 123) (hc : 97 ≤ c ∧ c < 123) : isNm (nmAt tail i c) := by
  unfold nmAt isNm
  refine ⟨by simp; omega, by simp; omega, fun x hx => ?_⟩
  simp only [List.append_assoc, List.mem_append, List.mem_singleton] at hx
  rcases hx with hx | rfl | hx
  · exact ha x (List.mem_of_mem_take hx)
  · exact hc
  · exact ha x (List.mem_of_mem_drop hx)
theorem names_ok {tail : List Nat} {i : Nat} {f b : Int} (hb : b ∈ [(1 : Int), 3, 5, 7, 9, 11]) (ht : tail.length ≤ 7) (ha : ∀ x ∈ tail, 97 ≤ x ∧ x < 123) {m : Nat} (hm : m ≤ 26) :
    NameL ((List.range m).map fun k => nmAt tail i (lett f b k)) := by
  refine ⟨?_, fun x hx => ?_⟩
  · refine List.pairwise_map.mpr (List.Pairwise.imp_of_mem ?_ (List.nodup_range (n := m)))
    intro j k hj hk ne e
    have h1 := List.mem_range.mp hj
    have h2 := List.mem_range.mp hk
    exact ne (lett_inj hb (by omega) (by omega) (nmAt_inj e))
  · obtain ⟨k, _, rfl⟩ := List.mem_map.mp hx
    exact nmAt_ok ht ha (lett_bd f b k)
/-! ### data as the library's own, for == and != -/
theorem rp_dp {av : Addr → Prop} {H : Hp} {K : PySem.W.Frag} : ∀ {n : Nat} {v : V} {d : D}, Rp av H n v d → ∃ q, Dp K H v q ∧ PyData.canLay0 q = true ∧ PyData.depth q ≤ n := by
  have flat : ∀ {v : V} {d : D}, flatR v d → ∃ q, Dp K H v q ∧ PyData.canLay0 q = true ∧ PyData.depth q = 0 := by
    intro v d h
    cases v with
    | non => exact ⟨_, .non, rfl, rfl⟩
    | bl x => exact ⟨_, .bl x, rfl, rfl⟩
    | int x => exact ⟨_, .int x, rfl, rfl⟩
    | str x =>
      cases d <;> first | exact h.elim | skip
      refine ⟨_, .str x, ?_, rfl⟩
      rw [h.1]
      exact strOk_tx h.2
    | byt _ => cases d <;> exact h.elim
    | flt _ => cases d <;> exact h.elim
    | ref _ => cases d <;> exact h.elim
    | ty _ => cases d <;> exact h.elim
  intro n
  induction n with
  | zero =>
    intro v d h
    obtain ⟨q, h1, h2, h3⟩ := flat h
    exact ⟨q, h1, h2, by omega⟩
  | succ n ih =>
    intro v d h
    have all : ∀ {xs : List V} {ds : List D}, Paired (Rp av H n) xs ds → ∃ qs, DpAll K H xs qs ∧ PyData.canLayAll0 qs = true ∧ PyData.depthAll qs ≤ n := by
      intro xs ds p
      induction p with
      | nil => exact ⟨[], .nil, rfl, Nat.zero_le _⟩
      | cons r _ ih2 =>
        obtain ⟨q, a1, a2, a3⟩ := ih r
        obtain ⟨qs, b1, b2, b3⟩ := ih2
        refine ⟨q :: qs, .cons a1 b1, ?_, ?_⟩
        · show (PyData.canLay0 q && PyData.canLayAll0 qs) = true
          rw [a2, b2]
          rfl
        · show max (PyData.depth q) (PyData.depthAll qs) ≤ n
          omega
    rcases h with h | ⟨a, xs, ds, rfl, rfl, na, ha, hl, p⟩ | ⟨a, xs, ds, rfl, rfl, na, ha, hl, p⟩
    · obtain ⟨q, h1, h2, h3⟩ := flat h
      exact ⟨q, h1, h2, by omega⟩
    · obtain ⟨qs, b1, b2, b3⟩ := all p
      exact ⟨.list qs, .lst (.of ha) b1, b2, by show PyData.depthAll qs + 1 ≤ n + 1; omega⟩
    · obtain ⟨qs, b1, b2, b3⟩ := all p
      exact ⟨.tuple qs, .tup (.of ha) b1, b2, by show PyData.depthAll qs + 1 ≤ n + 1; omega⟩
theorem rp_dpL {av : Addr → Prop} {H : Hp} {K : PySem.W.Frag} {n : Nat} {xs : List V} {ds : List D} (p : Paired (Rp av H n) xs ds) (hn : n ≤ 60) :
    ∃ qs, DpAll K H xs qs ∧ SeqAt.shaped (.list qs) = true ∧ qs.length = ds.length := by
  have all : ∃ qs, DpAll K H xs qs ∧ PyData.canLayAll0 qs = true ∧ PyData.depthAll qs ≤ n ∧ qs.length = ds.length := by
    induction p with
    | nil => exact ⟨[], .nil, rfl, Nat.zero_le _, rfl⟩
    | cons r _ ih2 =>
      obtain ⟨q, a1, a2, a3⟩ := rp_dp (K := K) r
      obtain ⟨qs, b1, b2, b3, b4⟩ := ih2
      refine ⟨q :: qs, .cons a1 b1, ?_, ?_, by simp [b4]⟩
      · show (PyData.canLay0 q && PyData.canLayAll0 qs) = true
        rw [a2, b2]
        rfl
      · show max (PyData.depth q) (PyData.depthAll qs) ≤ n
        omega
  obtain ⟨qs, b1, b2, b3, b4⟩ := all
  refine ⟨qs, b1, ?_, b4⟩
  unfold SeqAt.shaped
  rw [show PyData.canLay0 (.list qs) = PyData.canLayAll0 qs from rfl, b2, show PyData.depth (.list qs) = PyData.depthAll qs + 1 from rfl]
  exact decide_eq_true (by omega)
theorem eqv_nil (qs : List PyData) : PyData.eqv (.list qs) (.list []) = decide (qs.length = 0) := by
  cases qs with
  | nil => rfl
  | cons q r => rfl
/-! ### a drawn plan -/
structure PD where
  letters : List Nat
  machines : List (List Nat × List Nat)
  rows : List (List Nat × List Nat)
  moves : List (List Nat × List Nat × List (List Nat) × List Nat)
  stands : List (List (List Nat))
def pairD (x : List Nat × List Nat) : D := .tup [.str x.1, .str x.2]
def mvD (x : List Nat × List Nat × List (List Nat) × List Nat) : D := .tup [.str x.1, .str x.2.1, tupS x.2.2.1, .str x.2.2.2]
def standD (ss : List (List Nat)) : D := .lst (ss.map D.str)
def letD (c : Nat) : D := .str [c]
def kLetters : Str := Str.ofString "letters"
def kMachines : Str := Str.ofString "machines"
def kRows : Str := Str.ofString "rows"
def kMoves : Str := Str.ofString "moves"
def kStands : Str := Str.ofString "stands"
def planK (l m r v t : Addr) : List (Key × V) := [(.inr kLetters, .ref l), (.inr kMachines, .ref m), (.inr kRows, .ref r), (.inr kMoves, .ref v), (.inr kStands, .ref t)]
theorem planK_merge {l m r v t : Addr} : mergeK [] (planK l m r v t) = planK l m r v t := by
  rfl
theorem kne {x y : Str} (h : x ≠ y) : ¬ (Sum.inr x : Key) = Sum.inr y := fun z => h (Sum.inr.inj z)
theorem planK_letters {l m r v t : Addr} : valV (planK l m r v t) (.inr kLetters) = some (.ref l) := by rfl
theorem planK_machines {l m r v t : Addr} : valV (planK l m r v t) (.inr kMachines) = some (.ref m) := by
  unfold planK; rw [valV_neg (kne (by decide +kernel)), valV_pos rfl]
theorem planK_rows {l m r v t : Addr} : valV (planK l m r v t) (.inr kRows) = some (.ref r) := by
  unfold planK; rw [valV_neg (kne (by decide +kernel)), valV_neg (kne (by decide +kernel)), valV_pos rfl]
theorem planK_moves {l m r v t : Addr} : valV (planK l m r v t) (.inr kMoves) = some (.ref v) := by
  unfold planK; rw [valV_neg (kne (by decide +kernel)), valV_neg (kne (by decide +kernel)), valV_neg (kne (by decide +kernel)), valV_pos rfl]
theorem planK_stands {l m r v t : Addr} : valV (planK l m r v t) (.inr kStands) = some (.ref t) := by
  unfold planK; rw [valV_neg (kne (by decide +kernel)), valV_neg (kne (by decide +kernel)), valV_neg (kne (by decide +kernel)), valV_neg (kne (by decide +kernel)), valV_pos rfl]
structure PlanAt (av : Addr → Prop) (H : Hp) (d l m r v t : Addr) (p : PD) : Prop where
  nd : ¬ av d
  d : H d = some (.dK (planK l m r v t))
  l : Rp av H 1 (.ref l) (.lst (p.letters.map letD))
  m : Rp av H 2 (.ref m) (.lst (p.machines.map pairD))
  r : Rp av H 2 (.ref r) (.lst (p.rows.map pairD))
  v : Rp av H 3 (.ref v) (.lst (p.moves.map mvD))
  t : Rp av H 2 (.ref t) (.lst (p.stands.map standD))
section
variable {av av' : Addr → Prop} {H H' : Hp} {d l m r v t : Addr} {p : PD}
theorem PlanAt.mv (h : PlanAt av H d l m r v t p) (k : Kp av H H') : PlanAt av H' d l m r v t p := ⟨h.nd, k _ _ h.nd h.d, h.l.mv k, h.m.mv k, h.r.mv k, h.v.mv k, h.t.mv k⟩
theorem PlanAt.weak (h : PlanAt av H d l m r v t p) (k : ∀ a, av' a → av a) : PlanAt av' H d l m r v t p := ⟨fun z => h.nd (k d z), h.d, h.l.weak k, h.m.weak k, h.r.weak k, h.v.weak k, h.t.weak k⟩
theorem PlanAt.gl (h : PlanAt av H d l m r v t p) : DGet H d (.str kLetters) (some (.ref l)) := by have := DGet.k (k := .inr kLetters) h.d; rw [planK_letters] at this; exact this
theorem PlanAt.gm (h : PlanAt av H d l m r v t p) : DGet H d (.str kMachines) (some (.ref m)) := by have := DGet.k (k := .inr kMachines) h.d; rw [planK_machines] at this; exact this
theorem PlanAt.gr (h : PlanAt av H d l m r v t p) : DGet H d (.str kRows) (some (.ref r)) := by have := DGet.k (k := .inr kRows) h.d; rw [planK_rows] at this; exact this
theorem PlanAt.gv (h : PlanAt av H d l m r v t p) : DGet H d (.str kMoves) (some (.ref v)) := by have := DGet.k (k := .inr kMoves) h.d; rw [planK_moves] at this; exact this
theorem PlanAt.gt (h : PlanAt av H d l m r v t p) : DGet H d (.str kStands) (some (.ref t)) := by have := DGet.k (k := .inr kStands) h.d; rw [planK_stands] at this; exact this
end
def Plan (av : Addr → Prop) (H : Hp) (d : Addr) (p : PD) : Prop := ∃ l m r v t, PlanAt av H d l m r v t p
theorem Plan.mv {av : Addr → Prop} {H H' : Hp} {d : Addr} {p : PD} (h : Plan av H d p) (k : Kp av H H') : Plan av H' d p := by
  obtain ⟨l, m, r, v, t, h⟩ := h
  exact ⟨l, m, r, v, t, h.mv k⟩
theorem Plan.weak {av av' : Addr → Prop} {H : Hp} {d : Addr} {p : PD} (h : Plan av H d p) (k : ∀ a, av' a → av a) : Plan av' H d p := by
  obtain ⟨l, m, r, v, t, h⟩ := h
  exact ⟨l, m, r, v, t, h.weak k⟩
/-- all that is told in H -/
def Old (H : Hp) : Addr → Prop := fun a => H a ≠ none
theorem Old.new {H : Hp} {a : Addr} (h : H a = none) : ¬ Old H a := fun z => z h
theorem Old.of {H : Hp} {a : Addr} {o : HO} (h : H a = some o) : Old H a := fun z => by rw [h] at z; cases z
theorem BX.old {b s : Addr} {H H' : Hp} (x : BX b s H H') {a : Addr} (h : Old H a) : Old H' a := by
  by_cases e : a = b
  · subst e
    obtain ⟨_, _, _, _, _, _, e, _⟩ := x.bag
    exact .of e
  · cases q : H a with
    | none => exact absurd q h
    | some o => exact .of (x.keep a o e q)
theorem Bag.old {b s : Addr} {H : Hp} (x : Bag b s H) : Old H b := by
  obtain ⟨_, _, _, _, _, _, e, _⟩ := x
  exact .of e
def wIdle : List Nat := [105, 100, 108, 101]
def wBare : List Nat := [98, 97, 114, 101]
def wSend : List Nat := [115, 101, 110, 100]
def wTake : List Nat := [116, 97, 107, 101]
inductive ActOk (p : PD) : List (List Nat) → Prop
  | idle : ActOk p [wIdle]
  | bare {x : List Nat × List Nat} (h : x ∈ p.rows) : ActOk p [wBare, x.1]
  | send {x : List Nat × List Nat} {c : Nat} (h : x ∈ p.rows) (hc : c ∈ p.letters) : ActOk p [wSend, x.1, [c]]
  | take {x : List Nat × List Nat} {c : Nat} (h : x ∈ p.rows) (hc : c ∈ p.letters) : ActOk p [wTake, x.1, [c]]
theorem ActOk.of {p q : PD} (hr : p.rows = q.rows) (hl : p.letters = q.letters) {a : List (List Nat)} (h : ActOk p a) : ActOk q a := by
  cases h with
  | idle => exact .idle
  | bare h => exact .bare (hr ▸ h)
  | send h hc => exact .send (hr ▸ h) (hl ▸ hc)
  | take h hc => exact .take (hr ▸ h) (hl ▸ hc)
def MvOk (p : PD) (x : List Nat × List Nat × List (List Nat) × List Nat) : Prop :=
  ∃ (i : Nat) (m : List Nat × List Nat) (ss : List (List Nat)), p.machines[i]? = some m ∧ p.stands[i]? = some ss ∧ x.1 = m.1 ∧ x.2.1 ∈ ss ∧ ActOk p x.2.2.1 ∧ x.2.2.2 ∈ ss
/-! ### a plan while it is made -/
structure PB (b cl : Addr) (H0 H : Hp) (d l nm m r v t : Addr) (cs : List Nat) (ns : List (List Nat)) (xm xr xv xt : List V) : Prop where
  bx : BX b cl H0 H
  d : H d = some (.dK (planK l m r v t))
  l : H l = some (.lst (cs.map fun c => V.str (sg c)))
  nm : H nm = some (.lst (ns.map fun l => V.str (tx l)))
  m : H m = some (.lst xm)
  r : H r = some (.lst xr)
  v : H v = some (.lst xv)
  t : H t = some (.lst xt)
structure PAd (H0 : Hp) (d l nm m r v t : Addr) : Prop where
  fd : H0 d = none
  fl : H0 l = none
  fn : H0 nm = none
  fm : H0 m = none
  fr : H0 r = none
  fv : H0 v = none
  ft : H0 t = none
  qdm : d ≠ m
  qdr : d ≠ r
  qdv : d ≠ v
  qdt : d ≠ t
  qlm : l ≠ m
  qlr : l ≠ r
  qlv : l ≠ v
  qlt : l ≠ t
  qnm : nm ≠ m
  qnr : nm ≠ r
  qnv : nm ≠ v
  qnt : nm ≠ t
  qmr : m ≠ r
  qmv : m ≠ v
  qmt : m ≠ t
  qrv : r ≠ v
  qrt : r ≠ t
  qvt : v ≠ t
def avP (H0 : Hp) (m r v t : Addr) : Addr → Prop := fun a => Old H0 a ∨ a = m ∨ a = r ∨ a = v ∨ a = t
section
variable {b cl : Addr} {H0 H H' : Hp} {d l nm m r v t : Addr} {cs : List Nat} {ns : List (List Nat)} {xm xr xv xt : List V}
theorem PB.mv (A : PAd H0 d l nm m r v t) (hB : Bag b cl H0) (h : PB b cl H0 H d l nm m r v t cs ns xm xr xv xt) (x : BX b cl H H') : PB b cl H0 H' d l nm m r v t cs ns xm xr xv xt :=
  ⟨h.bx.trans x, x.keep _ _ (hB.nb A.fd) h.d, x.keep _ _ (hB.nb A.fl) h.l, x.keep _ _ (hB.nb A.fn) h.nm, x.keep _ _ (hB.nb A.fm) h.m, x.keep _ _ (hB.nb A.fr) h.r, x.keep _ _ (hB.nb A.fv) h.v, x.keep _ _ (hB.nb A.ft) h.t⟩
theorem PB.appM (A : PAd H0 d l nm m r v t) (hB : Bag b cl H0) (h : PB b cl H0 H d l nm m r v t cs ns xm xr xv xt) (y : V) : PB b cl H0 (upd H m (.lst (xm ++ [y]))) d l nm m r v t cs ns (xm ++ [y]) xr xv xt :=
  ⟨h.bx.mut hB A.fm, (upd_ne A.qdm).trans h.d, (upd_ne A.qlm).trans h.l, (upd_ne A.qnm).trans h.nm, upd_same, (upd_ne A.qmr.symm).trans h.r, (upd_ne A.qmv.symm).trans h.v, (upd_ne A.qmt.symm).trans h.t⟩
theorem PB.appR (A : PAd H0 d l nm m r v t) (hB : Bag b cl H0) (h : PB b cl H0 H d l nm m r v t cs ns xm xr xv xt) (y : V) : PB b cl H0 (upd H r (.lst (xr ++ [y]))) d l nm m r v t cs ns xm (xr ++ [y]) xv xt :=
  ⟨h.bx.mut hB A.fr, (upd_ne A.qdr).trans h.d, (upd_ne A.qlr).trans h.l, (upd_ne A.qnr).trans h.nm, (upd_ne A.qmr).trans h.m, upd_same, (upd_ne A.qrv.symm).trans h.v, (upd_ne A.qrt.symm).trans h.t⟩
theorem PB.appV (A : PAd H0 d l nm m r v t) (hB : Bag b cl H0) (h : PB b cl H0 H d l nm m r v t cs ns xm xr xv xt) (y : V) : PB b cl H0 (upd H v (.lst (xv ++ [y]))) d l nm m r v t cs ns xm xr (xv ++ [y]) xt :=
  ⟨h.bx.mut hB A.fv, (upd_ne A.qdv).trans h.d, (upd_ne A.qlv).trans h.l, (upd_ne A.qnv).trans h.nm, (upd_ne A.qmv).trans h.m, (upd_ne A.qrv).trans h.r, upd_same, (upd_ne A.qvt.symm).trans h.t⟩
theorem PB.appT (A : PAd H0 d l nm m r v t) (hB : Bag b cl H0) (h : PB b cl H0 H d l nm m r v t cs ns xm xr xv xt) (y : V) : PB b cl H0 (upd H t (.lst (xt ++ [y]))) d l nm m r v t cs ns xm xr xv (xt ++ [y]) :=
  ⟨h.bx.mut hB A.ft, (upd_ne A.qdt).trans h.d, (upd_ne A.qlt).trans h.l, (upd_ne A.qnt).trans h.nm, (upd_ne A.qmt).trans h.m, (upd_ne A.qrt).trans h.r, (upd_ne A.qvt).trans h.v, upd_same⟩
theorem PB.old (h : PB b cl H0 H d l nm m r v t cs ns xm xr xv xt) {a : Addr} (z : avP H0 m r v t a) : Old H a := by
  rcases z with z | rfl | rfl | rfl | rfl
  · exact h.bx.old z
  · exact .of h.m
  · exact .of h.r
  · exact .of h.v
  · exact .of h.t
theorem PB.gl (h : PB b cl H0 H d l nm m r v t cs ns xm xr xv xt) : DGet H d (.str kLetters) (some (.ref l)) := by have := DGet.k (k := .inr kLetters) h.d; rw [planK_letters] at this; exact this
theorem PB.gm (h : PB b cl H0 H d l nm m r v t cs ns xm xr xv xt) : DGet H d (.str kMachines) (some (.ref m)) := by have := DGet.k (k := .inr kMachines) h.d; rw [planK_machines] at this; exact this
theorem PB.gr (h : PB b cl H0 H d l nm m r v t cs ns xm xr xv xt) : DGet H d (.str kRows) (some (.ref r)) := by have := DGet.k (k := .inr kRows) h.d; rw [planK_rows] at this; exact this
theorem PB.gv (h : PB b cl H0 H d l nm m r v t cs ns xm xr xv xt) : DGet H d (.str kMoves) (some (.ref v)) := by have := DGet.k (k := .inr kMoves) h.d; rw [planK_moves] at this; exact this
theorem PB.gt (h : PB b cl H0 H d l nm m r v t cs ns xm xr xv xt) : DGet H d (.str kStands) (some (.ref t)) := by have := DGet.k (k := .inr kStands) h.d; rw [planK_stands] at this; exact this
theorem PB.plan (A : PAd H0 d l nm m r v t) (h : PB b cl H0 H d l nm m r v t cs ns xm xr xv xt) {p : PD} (hl : p.letters = cs) (hc : ∀ c ∈ cs, c < 128) (l1 : cs.length < 1000)
    (pm : Paired (Rp (avP H0 m r v t) H 1) xm (p.machines.map pairD)) (pr : Paired (Rp (avP H0 m r v t) H 1) xr (p.rows.map pairD)) (pv : Paired (Rp (avP H0 m r v t) H 2) xv (p.moves.map mvD)) (pt : Paired (Rp (avP H0 m r v t) H 1) xt (p.stands.map standD))
    (lm : xm.length < 1000) (lr : xr.length < 1000) (lv : xv.length < 1000) (lt : xt.length < 1000) {av : Addr → Prop} (ha : ∀ a, av a → Old H0 a) : PlanAt av H d l m r v t p := by
  have hw : ∀ a, av a → avP H0 m r v t a := fun a z => .inl (ha a z)
  have nn : ∀ a, H0 a = none → ¬ av a := fun a e z => ha a z e
  refine ⟨nn _ A.fd, h.d, rp_lst (nn _ A.fl) h.l (by rw [List.length_map]; omega) ?_, rp_lst (nn _ A.fm) h.m (by omega) (Paired.mapP pm fun _ _ q => q.weak hw), rp_lst (nn _ A.fr) h.r (by omega) (Paired.mapP pr fun _ _ q => q.weak hw), rp_lst (nn _ A.fv) h.v (by omega) (Paired.mapP pv fun _ _ q => q.weak hw), rp_lst (nn _ A.ft) h.t (by omega) (Paired.mapP pt fun _ _ q => q.weak hw)⟩
  subst hl
  have : ∀ l : List Nat, (∀ c ∈ l, c < 128) → Paired (Rp av H 0) (l.map fun c => V.str (sg c)) (l.map letD) := by
    intro l
    induction l with
    | nil => exact fun _ => .nil
    | cons c q ih => exact fun hh => .cons (rp_str (l := [c]) fun x hx => by rw [List.mem_singleton.mp hx]; exact hh c (by simp)) (ih fun x hx => hh x (by simp [hx]))
  exact this _ hc
end
/-- what is drawn as a plan -/
structure PlanOk (p : PD) (ma st ro mo : Nat) : Prop where
  lm : p.machines.length = ma
  ls : p.stands.length = ma
  lr : p.rows.length = ro
  lv : p.moves.length = if 0 < ma then mo else 0
  ll : 0 < p.letters.length ∧ p.letters.length ≤ 3
  lc : ∀ c ∈ p.letters, 97 ≤ c ∧ c < 123
  nl : p.letters.Nodup
  nms : ∃ ns, NameL ns ∧ ns.length = 12 ∧ p.machines.map (·.1) = ns.take ma ∧ p.rows.map (·.1) = (ns.drop 5).take ro
  ms : ∀ (i : Nat) (x : List Nat × List Nat) (ss : List (List Nat)), p.machines[i]? = some x → p.stands[i]? = some ss → x.2 ∈ ss
  ss : ∀ s ∈ p.stands, NameL s ∧ 0 < s.length ∧ s.length ≤ st
  rw : ∀ x ∈ p.rows, x.2.length ≤ 2 ∧ ∀ c ∈ x.2, c ∈ p.letters
  mv : ∀ x ∈ p.moves, MvOk p x
/-! ### the stands of a machine; scenes -/
def foundIn (name : List Nat) (ms : List (List Nat × List Nat × List (List Nat) × List Nat)) : List (List Nat) := ms.flatMap fun x => if x.1 = name then [x.2.1, x.2.2.2] else []
def foundOf (p : PD) (x : List Nat × List Nat) : List (List Nat) := x.2 :: foundIn x.1 p.moves
theorem foundIn_len (name : List Nat) : ∀ ms : List (List Nat × List Nat × List (List Nat) × List Nat), (foundIn name ms).length ≤ 2 * ms.length
  | [] => Nat.le_refl _
  | x :: r => by
    have := foundIn_len name r
    unfold foundIn at this ⊢
    rw [List.flatMap_cons, List.length_append, List.length_cons]
    split
    · show 2 + _ ≤ _
      omega
    · show 0 + _ ≤ _
      omega
structure HeldOk (p : PD) (x : List Nat × List Nat) (ys : List (List Nat)) : Prop where
  mem : ∀ y, y ∈ ys ↔ y ∈ foundOf p x
  nd : ys.Nodup
  srt : sortedS (ys.map tx) = true
  asc : ∀ y ∈ ys, ascii y
  len : ys.length ≤ 900
structure SceneOk (p : PD) (top : Int) (ss ws : List (List Nat)) : Prop where
  ls : ss.length = p.machines.length
  st : ∀ (i : Nat) (s : List Nat) (x : List Nat × List Nat), ss[i]? = some s → p.machines[i]? = some x → s ∈ foundOf p x
  lw : ws.length = p.rows.length
  wd : ∀ w ∈ ws, (w.length : Int) ≤ top ∧ ∀ c ∈ w, c ∈ p.letters
def sceneD (ss ws : List (List Nat)) : D := .tup [tupS ss, tupS ws]
end LB

namespace LB
open PySem PySem.Spec PyProof.Rows L2
/-! ### enumerate(text): a new pair of place and sign at each turn -/
def Ites (x : Str) : It :=
  ⟨fun i _ => i < x.cps.size, fun i H v H' => ∃ U c, v = .ref U ∧ H U = none ∧ x.cps[i]? = some c ∧ H' = upd H U (.tup [.int (i : Nat), .str (sg c)]), fun i _ => i = x.cps.size⟩
theorem drawsS {prog : Program} {w : World} {A : Around} (hh : A.handled = none) (it : Addr) (x : Str) (t : Tok) :
    Draws prog w A it [it] x.cps.size (fun i v => ∃ c u, x.cps[i]? = some c ∧ v = .str ⟨#[c]⟩ u) (fun i h => h.IsStrIter it (strIterType x) x t i) := by
  unfold strIterType
  cases ha : x.cps.all (· < 128)
  · simpa using Draws.strWide hh it x t
  · simpa using Draws.strAscii hh it x t
theorem turn_enumS {P : Program} {w : World} {K : PySem.W.Frag} {elts : List Expr} {kk : Nat} {tpos : Pos} (x : Str) (t : Tok) (en it : Addr) :
    Turn P w K (.Tuple elts kk tpos) (Ites x) [en, it] en (fun i h => (∃ old, IsEnum h en it ((i : Nat) : Int) old) ∧ h.IsStrIter it (strIterType x) x t i ∧ en ≠ it) where
  mem := by simp
  obj := fun i h st b hb => by
    obtain ⟨⟨old, hE⟩, ⟨ob, hob, hcl, hdt⟩, _⟩ := st
    have hbb : b = en ∨ b = it := by simpa using hb
    rcases hbb with rfl | rfl
    · exact ⟨_, hE, fun v z => nomatch z⟩
    · exact ⟨ob, hob, fun v z => by rw [hdt] at z; cases z⟩
  keep := fun i h h' st k => by
    obtain ⟨⟨old, hE⟩, ⟨ob, hob, r⟩, ne⟩ := st
    exact ⟨⟨old, k en (by simp) _ hE⟩, ⟨ob, k it (by simp) _ hob, r⟩, ne⟩
  item := by
    intro X eP eW eK hc i pins s σ H E I hf st hg
    subst eP eW eK
    obtain ⟨⟨old, hE⟩, hit, ne⟩ := st
    have len : en < s.heap.objs.size := Heap.lt_size hE
    have lit : it < s.heap.objs.size := by
      obtain ⟨ob, hob, _⟩ := hit
      exact Heap.lt_size hob
    refine wpAny_pyNext_enum_itemD (drawsS (A := X.A.in1) (I.ok.hd hc) it x t) hE hit hg ne (by simpa using ne) fun y h' tk hy hout hit' hT hsz hk => ?_
    obtain ⟨c, u, hcx, rfl⟩ := hy
    refine ⟨_, rfl, wpAny_letOwnedTupleGo_enum (s := { s with heap := h', toks := tk + 1 }) hout fun h2 hE2 sb => ?_⟩
    have hT2 : h2.get? s.heap.objs.size = some { cls := .type "tuple", data := .seq #[.int i tk, .str ⟨#[c]⟩ u] } := (sb.2 _ (Nat.ne_of_gt len)).trans hT
    have okT : ObjOk X.prog X.w (upd H s.heap.objs.size (.tup [.int (i : Nat), .str (sg c)])) h2 s.heap.objs.size (.tup [.int (i : Nat), .str (sg c)]) :=
      ⟨(by show 2 ≤ sizeLine; decide), [.int i tk, .str ⟨#[c]⟩ u], .cons ⟨_, rfl⟩ (.cons ⟨_, rfl⟩ .nil), ⟨_, hT2, rfl, _, rfl⟩⟩
    have I1 : Inv X pins σ (upd H s.heap.objs.size (.tup [.int (i : Nat), .str (sg c)])) { s with heap := h2, toks := tk + 1 } :=
      I.turnedNew (ch := [en, it]) (fun b ob hb q => (sb.2 b (fun z => hb (by rw [z]; simp))).trans (hk b ob (fun z => hb (by rw [z]; simp)) (fun z => hb (by rw [z]; simp)) q)) hf (Nat.le_refl _) okT
    refine ⟨.ref s.heap.objs.size, _, I1, rfl, ⟨_, c, rfl, I.hok.fresh (Nat.le_refl _), hcx, rfl⟩, ⟨⟨.str ⟨#[c]⟩ u, ?_⟩, ?_, ne⟩, fun b hb => ?_⟩
    · rw [show ((i + 1 : Nat) : Int) = (i : Int) + 1 by omega]
      exact hE2
    · obtain ⟨ob, hob, r⟩ := hit'
      exact ⟨ob, (sb.2 it ne.symm).trans hob, r⟩
    · have hbb : b = en ∨ b = it := by simpa using hb
      have hlt : b < s.heap.objs.size := by
        rcases hbb with rfl | rfl
        · exact len
        · exact lit
      rw [upd_ne (Nat.ne_of_lt hlt)]
      exact (hf b hb).1
  done := by
    intro X eP eW eK hc i pins s σ H E I hf st hg
    subst eP eW eK
    obtain ⟨⟨old, hE⟩, hit, ne⟩ := st
    have hg' : i = x.cps.size := hg
    subst hg'
    obtain ⟨g0, g1, g2, g3, g4, g5⟩ := hf it (by simp)
    exact wpAny_pyNext_enum_endD (drawsS (A := X.A.in1) (I.ok.hd hc) it x t) hE hit fun h' eb => ⟨rfl, I.turned (t' := s.toks) (fun b ob hb q => eb b ob hb q) g0 g1 g3 g4 g5⟩
  self := fun A i s Q E st h => by
    obtain ⟨⟨old, hE⟩, _⟩ := st
    exact wpAny_pyIter_enum hE h
def iEnumS (ta : TA) : TI := fun σ H R => ta σ H fun vs H1 => ∃ x, vs = [.str x] ∧ R (Ites x) H1
theorem pi_enumS {X : Cx} {e : Expr} {ta : TA} {p pos tpos : Pos} {elts : List Expr} {kk : Nat} (hg : Gl X "enumerate") (hm : X.mg "enumerate" = none) (ha : PA X [e] ta) (one : starEach [e] X.env = [(false, eval e X.env)] := by rfl) :
    PI X (.Tuple elts kk tpos) (.Call (.Name "enumerate" p) [e] [] pos) (iEnumS ta) := by
  refine ⟨fun pins s σ H R I h => ?_⟩
  refine Call_ (ld_blt I hg hm boot_enumerate (PyProof.Rows.callWith_type1 (thn (ha.run pos pins s σ H _ I h) fun us s1 ⟨vs, H1, I1, rr, qq⟩ => ?_) one rfl))
  obtain ⟨x, rfl, q⟩ := qq
  rcases rr with _ | ⟨r, rr⟩
  cases rr
  obtain ⟨t, rfl⟩ := r
  refine call_enumerate_str fun h' hE hit hsz hk => wpAny_pyIter_enum hE ?_
  have I2 : Inv X pins σ H1 { s1 with heap := h' } := I1.kept (t' := s1.toks) hk
  refine ⟨s1.heap.objs.size + 1, [s1.heap.objs.size + 1, s1.heap.objs.size], _, _, H1, rfl, I2, turn_enumS x t (s1.heap.objs.size + 1) s1.heap.objs.size, ⟨⟨.none, hE⟩, hit, Nat.succ_ne_self _⟩, fun b hb => ?_, q⟩
  have hbb : b = s1.heap.objs.size + 1 ∨ b = s1.heap.objs.size := by simpa using hb
  have hle : s1.heap.objs.size ≤ b := by
    rcases hbb with rfl | rfl
    · exact Nat.le_succ _
    · exact Nat.le_refl _
  exact I1.fpOk hle (I1.hok.fresh hle)
theorem walk_enumS {x : Str} : Walk (Ites x) x.cps.size (fun _ => True) (fun i H v H' => ∃ U c, v = .ref U ∧ H U = none ∧ x.cps[i]? = some c ∧ H' = upd H U (.tup [.int (i : Nat), .str (sg c)])) :=
  ⟨fun _ _ hi _ => hi, fun _ _ => rfl, fun _ _ _ _ _ _ y => y⟩
end LB

namespace LB
open PySem PySem.Spec PyProof.Rows L2
/-! ### enumerate(tuple): a new pair of place and item at each turn -/
def Itet (K : PySem.W.Frag) (a : Addr) : It :=
  ⟨fun i H => ∃ (xs : List V) (x : V), SqT K H a xs ∧ xs[i]? = some x, fun i H v H' => ∃ U x, v = .ref U ∧ H U = none ∧ H' = upd H U (.tup [.int (i : Nat), x]) ∧ ∀ xs, SqT K H a xs → xs[i]? = some x, fun i H => ∃ xs : List V, SqT K H a xs ∧ xs.length = i⟩
theorem drawsT {prog : Program} {w : World} {A : Around} (hh : A.handled = none) (it l : Addr) (hne : l ≠ it) (items : Array Value) :
    Draws prog w A it [it, l] items.size (fun i v => items[i]? = some v) (fun i h => h.IsTupleIter it l i ∧ h.IsTuple l items) where
  live := fun i h st => by
    obtain ⟨⟨ob, hob, _⟩, _⟩ := st
    exact ⟨ob, hob⟩
  frame := fun i h h' st hk => ⟨st.1.at fun o z => hk it (by simp) o z, by
    obtain ⟨ob, hob, r⟩ := st.2
    exact ⟨ob, hk l (by simp) ob hob, r⟩⟩
  item := fun i s Q E hi st hQ => by
    refine RZ.nextOf_tuple_item st.1 st.2 (x := items[i]) (by simp [hi]) fun g hit sb => hQ _ g s.toks (by simp [hi]) ⟨hit, st.2.extBut sb.extBut hne⟩ sb
  done := fun s Q E st hE => RZ.nextOf_tuple_end hh st.1 st.2 (by simp) hE
theorem apartT {h : Heap} {a it i l : Addr} {items : Array Value} (h1 : h.IsTupleIter it l i) (h2 : h.IsTuple a items) : a ≠ it := fun z => by
  subst z
  obtain ⟨o1, e1, c1, _⟩ := h1
  obtain ⟨o2, e2, c2, _⟩ := h2
  rw [e1] at e2
  cases e2
  rw [c1] at c2
  simp at c2
theorem apartE {h : Heap} {a en it : Addr} {k : Int} {old : Value} {items : Array Value} (h1 : IsEnum h en it k old) (h2 : h.IsTuple a items) : en ≠ a := fun z => by
  subst z
  obtain ⟨o2, e2, c2, _⟩ := h2
  rw [show h.get? en = some _ from h1] at e2
  cases e2
  simp at c2
theorem turn_enumT {P : Program} {w : World} {K : PySem.W.Frag} {elts : List Expr} {kk : Nat} {tpos : Pos} (a en it : Addr) :
    Turn P w K (.Tuple elts kk tpos) (Itet K a) [en, it] en (fun i h => (∃ old, IsEnum h en it ((i : Nat) : Int) old) ∧ h.IsTupleIter it a i ∧ en ≠ it) where
  mem := by simp
  obj := fun i h st b hb => by
    obtain ⟨⟨old, hE⟩, ⟨ob, hob, hcl, hdt⟩, _⟩ := st
    have hbb : b = en ∨ b = it := by simpa using hb
    rcases hbb with rfl | rfl
    · exact ⟨_, hE, fun v z => nomatch z⟩
    · exact ⟨ob, hob, fun v z => by rw [hdt] at z; cases z⟩
  keep := fun i h h' st k => by
    obtain ⟨⟨old, hE⟩, hit, ne⟩ := st
    exact ⟨⟨old, k en (by simp) _ hE⟩, hit.at fun o z => k it (by simp) o z, ne⟩
  item := by
    intro X eP eW eK hc i pins s σ H E I hf st hg
    subst eP eW eK
    obtain ⟨⟨old, hE⟩, hit, ne⟩ := st
    obtain ⟨xs, x, hq, hx⟩ := hg
    obtain ⟨ws, rv, ht, _⟩ := I.tuple hq
    obtain ⟨u, hu, ru⟩ := rv.get hx
    have len : en < s.heap.objs.size := Heap.lt_size hE
    have lit : it < s.heap.objs.size := by
      obtain ⟨ob, hob, _⟩ := hit
      exact Heap.lt_size hob
    have nai : a ≠ it := apartT hit ht
    have nea : en ≠ a := apartE hE ht
    have li : i < ws.toArray.size := by
      have := (List.getElem?_eq_some_iff.mp hu).1
      simpa using this
    refine wpAny_pyNext_enum_itemD (drawsT (A := X.A.in1) (I.ok.hd hc) it a nai ws.toArray) hE ⟨hit, ht⟩ li ne (by simp [ne, nea]) fun y h' tk hy hout hit' hT hsz hk => ?_
    have ey : y = u := by
      have hy' : ws.toArray[i]? = some y := hy
      rw [List.getElem?_toArray, hu] at hy'
      exact (Option.some.inj hy').symm
    subst ey
    refine ⟨_, rfl, wpAny_letOwnedTupleGo_enum (s := { s with heap := h', toks := tk + 1 }) hout fun h2 hE2 sb => ?_⟩
    have hT2 : h2.get? s.heap.objs.size = some { cls := .type "tuple", data := .seq #[.int i tk, y] } := (sb.2 _ (Nat.ne_of_gt len)).trans hT
    have okT : ObjOk X.prog X.w (upd H s.heap.objs.size (.tup [.int (i : Nat), x])) h2 s.heap.objs.size (.tup [.int (i : Nat), x]) :=
      ⟨(by show 2 ≤ sizeLine; decide), [.int i tk, y], .cons ⟨_, rfl⟩ (.cons ru .nil), ⟨_, hT2, rfl, _, rfl⟩⟩
    have I1 : Inv X pins σ (upd H s.heap.objs.size (.tup [.int (i : Nat), x])) { s with heap := h2, toks := tk + 1 } :=
      I.turnedNew (ch := [en, it]) (fun b ob hb z => (sb.2 b (fun z' => hb (by rw [z']; simp))).trans (hk b ob (fun z' => hb (by rw [z']; simp)) (fun z' => hb (by rw [z']; simp)) z)) hf (Nat.le_refl _) okT
    refine ⟨.ref s.heap.objs.size, _, I1, rfl, ⟨_, x, rfl, I.hok.fresh (Nat.le_refl _), rfl, fun ys hy => by rw [I.tuple_inj hy hq]; exact hx⟩, ⟨⟨y, ?_⟩, ?_, ne⟩, fun b hb => ?_⟩
    · rw [show ((i + 1 : Nat) : Int) = (i : Int) + 1 by omega]
      exact hE2
    · exact hit'.1.at fun o z => (sb.2 it ne.symm).trans z
    · have hbb : b = en ∨ b = it := by simpa using hb
      have hlt : b < s.heap.objs.size := by
        rcases hbb with rfl | rfl
        · exact len
        · exact lit
      rw [upd_ne (Nat.ne_of_lt hlt)]
      exact (hf b hb).1
  done := by
    intro X eP eW eK hc i pins s σ H E I hf st hg
    subst eP eW eK
    obtain ⟨⟨old, hE⟩, hit, ne⟩ := st
    obtain ⟨xs, hq, hx⟩ := hg
    obtain ⟨ws, rv, ht, _⟩ := I.tuple hq
    have nai : a ≠ it := apartT hit ht
    have li : ws.toArray.size = i := by
      have := rv.length
      rw [List.size_toArray]
      omega
    subst li
    obtain ⟨g0, g1, g2, g3, g4, g5⟩ := hf it (by simp)
    exact wpAny_pyNext_enum_endD (drawsT (A := X.A.in1) (I.ok.hd hc) it a nai ws.toArray) hE ⟨hit, ht⟩ fun h' eb => ⟨rfl, I.turned (t' := s.toks) (fun b ob hb z => eb b ob hb z) g0 g1 g3 g4 g5⟩
  self := fun A i s Q E st h => by
    obtain ⟨⟨old, hE⟩, _⟩ := st
    exact wpAny_pyIter_enum hE h
abbrev et1 (h : Heap) (l : Addr) : Heap := h.push { cls := .type "tuple_iterator", data := .fields #[.ref l, .int 0 0] }
abbrev et2 (h : Heap) (l : Addr) : Heap := (et1 h l).push { cls := .type "enumerate", data := .fields #[.none, .bool false, .ref h.objs.size, rawInt 0, .none, .none] }
set_option maxHeartbeats 2000000 in
theorem meets_enumT (l : Addr) (items : Array Value) :
    Meets (Builtin.«enumerate.__new__» ⟨[.type "enumerate", .ref l], []⟩) (fun _ R s => s.heap.IsTuple l items ∧ R (.ok (.ret (.ref (et1 s.heap l).objs.size))) { s with heap := et2 s.heap l }) :=
  .of_wp fun prog w A R s h => by
    obtain ⟨h0, g0, d0, t0, o0⟩ := s
    obtain ⟨hl, h⟩ := h
    have sub := sub_enumerate
    have hL : Heap.IsTuple (Shared.heap ⟨h0, g0, d0, t0, o0⟩) l items := hl
    wp_walk
    refine wpAny_stack_any fun st => wpAny_pure ?_
    split
    · rename_i c _ _ _ _ _
      cases (c == Value.type "enumerate")
      · wp_walk using wpAny_pyIter_tuple hL
        exact ⟨_, rfl, h⟩
      · wp_walk using wpAny_pyIter_tuple hL
        exact ⟨_, rfl, h⟩
    · wp_walk using wpAny_pyIter_tuple hL
      exact ⟨_, rfl, h⟩
section
variable {prog : Program} {w : World} {A : Around} {E : Value → Shared → Prop} {s : Shared}
theorem call_enumT {l : Addr} {items : Array Value} {Q : Value → Shared → Prop} (hl : s.heap.IsTuple l items)
    (h : ∀ g, IsEnum g (s.heap.objs.size + 1) s.heap.objs.size 0 .none → g.IsTupleIter s.heap.objs.size l 0 → (∀ b o, s.heap.get? b = some o → g.get? b = some o) → Q (.ref (s.heap.objs.size + 1)) { s with heap := g }) :
    wpAny (model prog w) A (call (.type "enumerate") [.ref l]) Q E s := by
  refine callType_new F.called_enumerate (by decide) (F.typeCall_enumerate_1 _) (F.newCall_enumerate_1 _) (fun ob => F.args_object_init_2 ob _) F.entry_enumerate_new (meets_enumT l items) ⟨hl, ?_⟩
  have z1 : (et1 s.heap l).objs.size = s.heap.objs.size + 1 := Heap.size_push ..
  have k2 : (et2 s.heap l).get? (et1 s.heap l).objs.size = some _ := Heap.get?_push_size _ rfl
  have k1 : (et2 s.heap l).get? s.heap.objs.size = some _ := Heap.get?_push_of_some _ (Heap.get?_push_size _ rfl)
  show _ ∧ _
  rw [z1] at k2 ⊢
  exact ⟨⟨_, k2, rfl⟩, h _ k2 ⟨_, k1, rfl, rfl⟩ fun b o z => Heap.get?_push_of_some _ (Heap.get?_push_of_some _ z)⟩
end
def iEnumT (K : PySem.W.Frag) (ta : TA) : TI := fun σ H R => ta σ H fun vs H1 => ∃ a xs, vs = [.ref a] ∧ SqT K H1 a xs ∧ R (Itet K a) H1
theorem pi_enumT {X : Cx} {e : Expr} {ta : TA} {p pos tpos : Pos} {elts : List Expr} {kk : Nat} (hg : Gl X "enumerate") (hm : X.mg "enumerate" = none) (ha : PA X [e] ta) (one : starEach [e] X.env = [(false, eval e X.env)] := by rfl) :
    PI X (.Tuple elts kk tpos) (.Call (.Name "enumerate" p) [e] [] pos) (iEnumT X.K ta) := by
  refine ⟨fun pins s σ H R I h => ?_⟩
  refine Call_ (ld_blt I hg hm boot_enumerate (PyProof.Rows.callWith_type1 (thn (ha.run pos pins s σ H _ I h) fun us s1 ⟨vs, H1, I1, rr, qq⟩ => ?_) one rfl))
  obtain ⟨a, xs, rfl, hq, q⟩ := qq
  rcases rr with _ | ⟨r, rr⟩
  cases rr
  cases r
  obtain ⟨ws, rv, ht, _⟩ := I1.tuple hq
  refine call_enumT (show s1.heap.IsTuple a ws.toArray from ht) fun g hE hit hk => wpAny_pyIter_enum hE ?_
  have I2 : Inv X pins σ H1 { s1 with heap := g } := I1.kept (t' := s1.toks) hk
  refine ⟨s1.heap.objs.size + 1, [s1.heap.objs.size + 1, s1.heap.objs.size], _, _, H1, rfl, I2, turn_enumT a (s1.heap.objs.size + 1) s1.heap.objs.size, ⟨⟨.none, hE⟩, hit, Nat.succ_ne_self _⟩, fun b hb => ?_, q⟩
  have hbb : b = s1.heap.objs.size + 1 ∨ b = s1.heap.objs.size := by simpa using hb
  have hle : s1.heap.objs.size ≤ b := by
    rcases hbb with rfl | rfl
    · exact Nat.le_succ _
    · exact Nat.le_refl _
  exact I1.fpOk hle (I1.hok.fresh hle)
theorem walk_enumT {K : PySem.W.Frag} {a : Addr} {xs : List V} : Walk (Itet K a) xs.length (fun H => SqT K H a xs) (YPair (fun i => some (.int (i : Nat))) (fun i => xs[i]?)) := by
  refine ⟨fun i _ hi q => ⟨xs, xs[i], q, by simp [hi]⟩, fun _ q => ⟨xs, q, rfl⟩, fun i H v H' _ q y => ?_⟩
  obtain ⟨U, x, h1, h2, h3, h4⟩ := y
  exact ⟨U, .int (i : Nat), x, h1, h2, h3, rfl, h4 xs q⟩
end LB

namespace LB
open PySem PySem.Spec PyProof.Rows L2
/-! ### zip(text, text): a new pair of signs at each turn -/
/-- the five objects of a zip apart -/
structure ZAp (q ti to p1 p2 : Addr) : Prop where
  a1 : ti ≠ q
  a2 : to ≠ q
  a3 : p1 ≠ q
  a4 : p2 ≠ q
  a5 : ti ≠ to
  a6 : ti ≠ p1
  a7 : ti ≠ p2
  a8 : to ≠ p1
  a9 : to ≠ p2
  a0 : p1 ≠ p2
section
variable {prog : Program} {w : World} {A : Around} {E : Value → Shared → Prop} {s : Shared}
variable {q ti to p1 p2 : Addr} {n1 n2 k : Nat} {P1 P2 : Nat → Value → Prop} {S1 S2 : Nat → Heap → Prop} {a b : Value}
abbrev DrA (prog : Program) (w : World) (p : Addr) (n : Nat) (P : Nat → Value → Prop) (S : Nat → Heap → Prop) : Prop := ∀ B : Around, B.handled = none → Draws prog w B p [p] n P S
theorem DrA.kp {p : Addr} {n i : Nat} {P : Nat → Value → Prop} {S : Nat → Heap → Prop} {h h' : Heap} (W : DrA prog w p n P S) (hh : A.handled = none) (st : S i h) (e : ∀ o, h.get? p = some o → h'.get? p = some o) : S i h' :=
  (W A hh).frame i h h' st fun c hc o ho => by
    have ec : c = p := by simpa using hc
    subst ec
    exact e o ho
theorem zipD_item {Q : Value → Shared → Prop} (hh : A.handled = none) (W1 : DrA prog w p1 n1 P1 S1) (W2 : DrA prog w p2 n2 P2 S2) (Z : ZAp q ti to p1 p2)
    (hq : IsZip s.heap q ti to .none) (hi : IsPair s.heap ti (.ref p1) (.ref p2)) (ho : IsPair s.heap to a b) (s1 : S1 k s.heap) (s2 : S2 k s.heap) (l1 : k < n1) (l2 : k < n2)
    (hQ : ∀ x y g tk, P1 k x → P2 k y → IsZip g q ti to (rawInt s.heap.objs.size) → IsPair g to x y → S1 (k + 1) g → S2 (k + 1) g → IsPair g s.heap.objs.size x y → g.objs.size = s.heap.objs.size + 1 →
      (∀ c o, c ≠ q → c ≠ to → c ≠ p1 → c ≠ p2 → s.heap.get? c = some o → g.get? c = some o) → Q (.ref s.heap.objs.size) { s with heap := g, toks := tk }) :
    wpAny (model prog w) A (Builtin.«zip.__next__» ⟨[.ref q], []⟩) (fun r s' => ∃ v, r = .done (.ret v) ∧ Q v s') E s := by
  obtain ⟨hp, gg, dd, tk0, os⟩ := s
  show wpAny _ _ (field (.ref q) 2 >>= _) _ _ _
  refine wpAny_bind (wpAny_field hq rfl (x := .bool false) rfl ?_); show wpAny _ _ (field (.ref q) 3 >>= _) _ _ _
  refine wpAny_bind (wpAny_field hq rfl (x := .ref ti) rfl ?_); refine wpAny_bind (wpAny_seqItems hi rfl ?_)
  show wpAny _ _ (Builtin.SmallTypes.ownedTupleIsFree (.ref q) >>= _) _ _ _
  refine wpAny_bind ?_; unfold Builtin.SmallTypes.ownedTupleIsFree
  refine wpAny_bind (wpAny_field hq rfl (x := .none) rfl (wpAny_pure ?_)); simp only [if_true]; refine wpAny_bind (wpAny_rule ?_)
  refine wpAny_bind (wpAny_field hq rfl (x := .ref to) rfl ?_)
  refine wpAny_bind (wpAny_setField_rec hq (by simp) fun g1 hq1 b1 => ?_)
  replace hq1 : IsZip g1 q ti to .ellipsis := hq1
  refine wpAny_bind ?_; simp only [List.zipIdx_cons, List.zipIdx_nil, List.forIn_cons, List.forIn_nil]
  refine wpAny_bind (wpAny_bind (wpAny_onRaise ?_)); show wpAny _ _ (Builtin.SmallTypes.nextOf (.ref p1) >>= _) _ _ _
  have s1a : S1 k g1 := W1.kp hh s1 fun o e => b1.extBut _ _ Z.a3 e
  refine wpAny_bind ((W1 _ hh).item k _ _ _ l1 s1a fun x g2 tk2 px s1b b2 => wpAny_pure ?_)
  replace b2 : Heap.SameBut p1 g1 g2 := b2
  have ho2 : IsPair g2 to a b := b2.extBut _ _ Z.a8 (b1.extBut _ _ Z.a2 ho)
  refine wpAny_bind (wpAny_seqItems (s := ⟨g2, gg, dd, tk2, os⟩) ho2 rfl ?_)
  refine wpAny_bind (wpAny_updateSeq_pair (s := ⟨g2, gg, dd, tk2, os⟩) ho2 fun g3 ho3 b3 => ?_)
  replace ho3 : IsPair g3 to x b := ho3
  replace b3 : Heap.SameBut to g2 g3 := b3
  refine wpAny_bind (wpAny_letGo (wpAny_pure ?_))
  refine wpAny_bind (wpAny_bind (wpAny_onRaise ?_)); show wpAny _ _ (Builtin.SmallTypes.nextOf (.ref p2) >>= _) _ _ _
  have s2a : S2 k g3 := W2.kp hh s2 fun o e => b3.extBut _ _ Z.a9.symm (b2.extBut _ _ Z.a0.symm (b1.extBut _ _ Z.a4 e))
  refine wpAny_bind ((W2 _ hh).item k ⟨g3, gg, dd, tk2, os⟩ _ _ l2 s2a fun y g4 tk4 py s2b b4 => wpAny_pure ?_)
  replace b4 : Heap.SameBut p2 g3 g4 := b4
  have ho4 : IsPair g4 to x b := b4.extBut _ _ Z.a9 ho3
  refine wpAny_bind (wpAny_seqItems (s := ⟨g4, gg, dd, tk4, os⟩) ho4 rfl ?_)
  refine wpAny_bind (wpAny_updateSeq_pair (s := ⟨g4, gg, dd, tk4, os⟩) ho4 fun g5 ho5 b5 => ?_)
  replace ho5 : IsPair g5 to x y := ho5
  replace b5 : Heap.SameBut to g4 g5 := b5
  refine wpAny_bind (wpAny_letGo (wpAny_pure (wpAny_pure ?_)))
  refine wpAny_bind (wpAny_seqItems (s := ⟨g5, gg, dd, tk4, os⟩) ho5 rfl ?_); refine wpAny_bind (wpAny_newTuple ?_)
  have sz : g5.objs.size = hp.objs.size := by rw [b5.1, b4.1, b3.1, b2.1, b1.1]
  have hq5 : IsZip g5 q ti to .ellipsis := b5.extBut _ _ Z.a2.symm (b4.extBut _ _ Z.a4.symm (b3.extBut _ _ Z.a2.symm (b2.extBut _ _ Z.a3.symm hq1)))
  have kp5 : ∀ c o, c ≠ q → c ≠ to → c ≠ p1 → c ≠ p2 → hp.get? c = some o → g5.get? c = some o := fun c o u1 u2 u3 u4 e =>
    b5.extBut _ _ u2 (b4.extBut _ _ u4 (b3.extBut _ _ u2 (b2.extBut _ _ u3 (b1.extBut _ _ u1 e))))
  have s15 : S1 (k + 1) g5 := W1.kp hh s1b fun o e => b5.extBut _ _ Z.a8.symm (b4.extBut _ _ Z.a0 (b3.extBut _ _ Z.a8.symm e))
  have s25 : S2 (k + 1) g5 := W2.kp hh s2b fun o e => b5.extBut _ _ Z.a9.symm e
  have ql : q < g5.objs.size := Heap.lt_size hq5
  show wpAny _ _ (Builtin.SmallTypes.ownedTupleHandOut (.ref q) (.ref g5.objs.size) >>= _) _ _ _
  refine wpAny_bind ?_; unfold Builtin.SmallTypes.ownedTupleHandOut
  have hq6 : IsZip (g5.push { cls := .type "tuple", data := .seq #[x, y] }) q ti to .ellipsis := Heap.get?_push_of_some _ hq5
  refine wpAny_bind (wpAny_setField_rec hq6 (by simp) fun g7 hq7 b7 => ?_)
  replace hq7 : IsZip g7 q ti to (rawInt g5.objs.size) := hq7
  refine wpAny_setField_rec hq7 (by simp) fun g8 hq8 b8 => ?_
  replace hq8 : IsZip g8 q ti to (rawInt g5.objs.size) := hq8
  have up : ∀ c o, c ≠ q → g5.get? c = some o → g8.get? c = some o := fun c o u e => b8.extBut _ _ u (b7.extBut _ _ u (Heap.get?_push_of_some _ e))
  have hT8 : IsPair g8 g5.objs.size x y := b8.extBut _ _ (Nat.ne_of_gt ql) (b7.extBut _ _ (Nat.ne_of_gt ql) (Heap.get?_push_size _ rfl))
  have sz8 : g8.objs.size = g5.objs.size + 1 := by rw [b8.1, b7.1, Heap.size_push]
  rw [sz] at hq8 hT8 sz8
  refine wpAny_pure ⟨_, rfl, ?_⟩
  show Q (.ref g5.objs.size) _
  rw [sz]
  exact hQ x y g8 tk4 px py hq8 (up _ _ Z.a2 ho5) (W1.kp hh s15 fun o e => up _ o Z.a3 e) (W2.kp hh s25 fun o e => up _ o Z.a4 e) hT8 sz8 fun c o u1 u2 u3 u4 e => up c o u1 (kp5 c o u1 u2 u3 u4 e)
theorem zipD_end {Q : Fin → Shared → Prop} (hh : A.handled = none) (W1 : DrA prog w p1 n1 P1 S1) (W2 : DrA prog w p2 n2 P2 S2) (Z : ZAp q ti to p1 p2)
    (hq : IsZip s.heap q ti to .none) (hi : IsPair s.heap ti (.ref p1) (.ref p2)) (ho : IsPair s.heap to a b) (s1 : S1 k s.heap) (s2 : S2 k s.heap) (hend : k = n1 ∨ k < n1 ∧ k = n2)
    (hE : ∀ g e, (∀ c o, c ≠ q → c ≠ to → c ≠ p1 → c ≠ p2 → s.heap.get? c = some o → g.get? c = some o) → (∃ o, g.get? e = some o ∧ o.cls = .type "StopIteration") → ∀ tk, E (.ref e) { s with heap := g, toks := tk }) :
    wpAny (model prog w) A (Builtin.«zip.__next__» ⟨[.ref q], []⟩) Q E s := by
  obtain ⟨hp, gg, dd, tk0, os⟩ := s
  show wpAny _ _ (field (.ref q) 2 >>= _) _ _ _
  refine wpAny_bind (wpAny_field hq rfl (x := .bool false) rfl ?_); show wpAny _ _ (field (.ref q) 3 >>= _) _ _ _
  refine wpAny_bind (wpAny_field hq rfl (x := .ref ti) rfl ?_); refine wpAny_bind (wpAny_seqItems hi rfl ?_)
  show wpAny _ _ (Builtin.SmallTypes.ownedTupleIsFree (.ref q) >>= _) _ _ _
  refine wpAny_bind ?_; unfold Builtin.SmallTypes.ownedTupleIsFree
  refine wpAny_bind (wpAny_field hq rfl (x := .none) rfl (wpAny_pure ?_)); simp only [if_true]; refine wpAny_bind (wpAny_rule ?_)
  refine wpAny_bind (wpAny_field hq rfl (x := .ref to) rfl ?_)
  refine wpAny_bind (wpAny_setField_rec hq (by simp) fun g1 hq1 b1 => ?_)
  replace hq1 : IsZip g1 q ti to .ellipsis := hq1
  refine wpAny_bind ?_; simp only [List.zipIdx_cons, List.zipIdx_nil, List.forIn_cons, List.forIn_nil]
  refine wpAny_bind (wpAny_bind (wpAny_onRaise ?_)); show wpAny _ _ (Builtin.SmallTypes.nextOf (.ref p1) >>= _) _ _ _
  have s1a : S1 k g1 := W1.kp hh s1 fun o e => b1.extBut _ _ Z.a3 e
  rcases hend with e | ⟨l1, e⟩
  · subst e
    refine wpAny_bind ((W1 _ hh).done _ _ _ s1a fun g2 e b2 he => ?_)
    obtain ⟨oe, hoe, hce⟩ := he
    have hq2 : IsZip g2 q ti to .ellipsis := b2 _ _ Z.a3.symm hq1
    have ne : e ≠ q := fun z => by subst z; rw [hq2] at hoe; cases hoe; simp at hce
    exact wpAny_setField_rec hq2 (by simp) fun g3 _ b3 => hE g3 e (fun c o u1 _ u3 _ z => b3.extBut _ _ u1 (b2 _ _ u3 (b1.extBut _ _ u1 z))) ⟨oe, b3.extBut _ _ ne hoe, hce⟩ _
  · subst e
    refine wpAny_bind ((W1 _ hh).item k _ _ _ l1 s1a fun x g2 tk2 px s1b b2 => wpAny_pure ?_)
    replace b2 : Heap.SameBut p1 g1 g2 := b2
    have ho2 : IsPair g2 to a b := b2.extBut _ _ Z.a8 (b1.extBut _ _ Z.a2 ho)
    refine wpAny_bind (wpAny_seqItems (s := ⟨g2, gg, dd, tk2, os⟩) ho2 rfl ?_)
    refine wpAny_bind (wpAny_updateSeq_pair (s := ⟨g2, gg, dd, tk2, os⟩) ho2 fun g3 ho3 b3 => ?_)
    replace b3 : Heap.SameBut to g2 g3 := b3
    refine wpAny_bind (wpAny_letGo (wpAny_pure ?_))
    refine wpAny_bind (wpAny_bind (wpAny_onRaise ?_)); show wpAny _ _ (Builtin.SmallTypes.nextOf (.ref p2) >>= _) _ _ _
    have s2a : S2 k g3 := W2.kp hh s2 fun o e => b3.extBut _ _ Z.a9.symm (b2.extBut _ _ Z.a0.symm (b1.extBut _ _ Z.a4 e))
    refine wpAny_bind ((W2 _ hh).done ⟨g3, gg, dd, tk2, os⟩ _ _ s2a fun g4 e b4 he => ?_)
    replace b4 : Heap.ExtBut p2 g3 g4 := b4
    obtain ⟨oe, hoe, hce⟩ := he
    have hq4 : IsZip g4 q ti to .ellipsis := b4 _ _ Z.a4.symm (b3.extBut _ _ Z.a2.symm (b2.extBut _ _ Z.a3.symm hq1))
    have ne : e ≠ q := fun z => by subst z; rw [hq4] at hoe; cases hoe; simp at hce
    exact wpAny_setField_rec (s := ⟨g4, gg, dd, tk2, os⟩) hq4 (by simp) fun g5 _ b5 => hE g5 e (fun c o u1 u2 u3 u4 z => b5.extBut _ _ u1 (b4 _ _ u4 (b3.extBut _ _ u2 (b2.extBut _ _ u3 (b1.extBut _ _ u1 z))))) ⟨oe, b5.extBut _ _ ne hoe, hce⟩ _
theorem next_zipD_item {Q : Option Value → Shared → Prop} (hh : A.handled = none) (W1 : DrA prog w p1 n1 P1 S1) (W2 : DrA prog w p2 n2 P2 S2) (Z : ZAp q ti to p1 p2)
    (hq : IsZip s.heap q ti to .none) (hi : IsPair s.heap ti (.ref p1) (.ref p2)) (ho : IsPair s.heap to a b) (s1 : S1 k s.heap) (s2 : S2 k s.heap) (l1 : k < n1) (l2 : k < n2)
    (hQ : ∀ x y g tk, P1 k x → P2 k y → IsZip g q ti to (rawInt s.heap.objs.size) → IsPair g to x y → S1 (k + 1) g → S2 (k + 1) g → IsPair g s.heap.objs.size x y → g.objs.size = s.heap.objs.size + 1 →
      (∀ c o, c ≠ q → c ≠ to → c ≠ p1 → c ≠ p2 → s.heap.get? c = some o → g.get? c = some o) → Q (some (.ref s.heap.objs.size)) { s with heap := g, toks := tk }) :
    wpAny (model prog w) A (pyNext (.ref q)) Q E s := by
  have ty : s.TypeIs (.ref q) "zip" := ⟨_, hq, rfl⟩
  unfold pyNext
  exact wpAny_bind (wpAny_attempt (wpAny_callSpecial?_slot (name := Str.ofString "__next__") ty F.slot_zip_next (wpAny_call_entry F.slot_zip_next ty F.entry_zip_next
    (zipD_item hh W1 W2 Z hq hi ho s1 s2 l1 l2 fun x y g tk c1 c2 c3 c4 c5 c6 c7 c8 c9 => wpAny_pure (hQ x y g tk c1 c2 c3 c4 c5 c6 c7 c8 c9)) (F.args_zip_next_1 _))))
theorem next_zipD_end {Q : Option Value → Shared → Prop} (hh : A.handled = none) (W1 : DrA prog w p1 n1 P1 S1) (W2 : DrA prog w p2 n2 P2 S2) (Z : ZAp q ti to p1 p2)
    (hq : IsZip s.heap q ti to .none) (hi : IsPair s.heap ti (.ref p1) (.ref p2)) (ho : IsPair s.heap to a b) (s1 : S1 k s.heap) (s2 : S2 k s.heap) (hend : k = n1 ∨ k < n1 ∧ k = n2)
    (hQ : ∀ g tk, (∀ c o, c ≠ q → c ≠ to → c ≠ p1 → c ≠ p2 → s.heap.get? c = some o → g.get? c = some o) → Q none { s with heap := g, toks := tk }) : wpAny (model prog w) A (pyNext (.ref q)) Q E s := by
  have ty : s.TypeIs (.ref q) "zip" := ⟨_, hq, rfl⟩
  unfold pyNext
  refine wpAny_bind (wpAny_attempt (wpAny_callSpecial?_slot (name := Str.ofString "__next__") ty F.slot_zip_next (wpAny_call_entry F.slot_zip_next ty F.entry_zip_next
    (zipD_end hh W1 W2 Z hq hi ho s1 s2 hend fun g e hk he tk => ?_) (F.args_zip_next_1 _))))
  obtain ⟨oe, hoe, hce⟩ := he
  exact wpAny_bind (wpAny_isInstance (T := "StopIteration") (b := true) ⟨oe, hoe, hce⟩ isSubtype_stop (wpAny_pure (hQ _ _ hk)))
end
/-! the making of it -/
abbrev zs1 (h : Heap) (x : Str) (t : Tok) : Heap := h.push { cls := .type (strIterType x), data := .fields #[.str x t, .int 0 0] }
abbrev zs2 (h : Heap) (x : Str) (t : Tok) (y : Str) (u : Tok) : Heap := zs1 (zs1 h x t) y u
abbrev zs3 (h : Heap) (x : Str) (t : Tok) (y : Str) (u : Tok) : Heap := (zs2 h x t y u).push { cls := .type "tuple", data := .seq #[.ref h.objs.size, .ref (zs1 h x t).objs.size] }
abbrev zs4 (h : Heap) (x : Str) (t : Tok) (y : Str) (u : Tok) : Heap := (zs3 h x t y u).push { cls := .type "tuple", data := .seq #[.none, .none] }
abbrev zs5 (h : Heap) (x : Str) (t : Tok) (y : Str) (u : Tok) : Heap := (zs4 h x t y u).push { cls := .type "zip", data := .fields #[.none, .bool false, .bool false, .ref (zs2 h x t y u).objs.size, .ref (zs3 h x t y u).objs.size] }
set_option maxHeartbeats 2000000 in
theorem meets_zipS (x : Str) (t : Tok) (y : Str) (u : Tok) :
    Meets (Builtin.«zip.__new__» ⟨[.type "zip", .str x t, .str y u], []⟩) (fun _ R s => R (.ok (.ret (.ref (zs4 s.heap x t y u).objs.size))) { s with heap := zs5 s.heap x t y u }) :=
  .of_wp fun prog w A R s h => by
    obtain ⟨hp, g, d, tk, os⟩ := s
    have sub := sub_zip
    wp_walk using wpAny_pyIter_strU, wpAny_pyIter_strU
    exact ⟨_, rfl, h⟩
section
variable {prog : Program} {w : World} {A : Around} {E : Value → Shared → Prop} {s : Shared}
theorem call_zipS {x : Str} {t : Tok} {y : Str} {u : Tok} {Q : Value → Shared → Prop}
    (h : ∀ g, IsZip g (s.heap.objs.size + 4) (s.heap.objs.size + 2) (s.heap.objs.size + 3) .none → IsPair g (s.heap.objs.size + 2) (.ref s.heap.objs.size) (.ref (s.heap.objs.size + 1)) →
      IsPair g (s.heap.objs.size + 3) .none .none → g.IsStrIter s.heap.objs.size (strIterType x) x t 0 → g.IsStrIter (s.heap.objs.size + 1) (strIterType y) y u 0 → g.objs.size = s.heap.objs.size + 5 →
      (∀ c o, s.heap.get? c = some o → g.get? c = some o) → Q (.ref (s.heap.objs.size + 4)) { s with heap := g }) :
    wpAny (model prog w) A (call (.type "zip") [.str x t, .str y u]) Q E s := by
  refine callType_new F.called_zip (by decide) (F.typeCall_zip_2 _ _) (F.newCall_zip_2 _ _) (fun ob => F.args_object_init_3 ob _ _) F.entry_zip_new (meets_zipS x t y u) ?_
  have z1 : (zs1 s.heap x t).objs.size = s.heap.objs.size + 1 := Heap.size_push ..
  have z2 : (zs2 s.heap x t y u).objs.size = s.heap.objs.size + 2 := by rw [Heap.size_push, z1]
  have z3 : (zs3 s.heap x t y u).objs.size = s.heap.objs.size + 3 := by rw [Heap.size_push, z2]
  have z4 : (zs4 s.heap x t y u).objs.size = s.heap.objs.size + 4 := by rw [Heap.size_push, z3]
  have z5 : (zs5 s.heap x t y u).objs.size = s.heap.objs.size + 5 := by rw [Heap.size_push, z4]
  have up : ∀ {g : Heap} {c : Addr} {o r : Obj}, g.get? c = some o → (g.push r).get? c = some o := fun e => Heap.get?_push_of_some _ e
  have k5 : (zs5 s.heap x t y u).get? (zs4 s.heap x t y u).objs.size = some _ := Heap.get?_push_size _ rfl
  have k4 : (zs5 s.heap x t y u).get? (zs3 s.heap x t y u).objs.size = some _ := up (Heap.get?_push_size _ rfl)
  have k3 : (zs5 s.heap x t y u).get? (zs2 s.heap x t y u).objs.size = some _ := up (up (Heap.get?_push_size _ rfl))
  have k2 : (zs5 s.heap x t y u).get? (zs1 s.heap x t).objs.size = some _ := up (up (up (Heap.get?_push_size _ rfl)))
  have k1 : (zs5 s.heap x t y u).get? s.heap.objs.size = some _ := up (up (up (up (Heap.get?_push_size _ rfl))))
  show _ ∧ _
  rw [z2, z3, z4] at k5; rw [z1, z2] at k3; rw [z3] at k4; rw [z1] at k2; rw [z4]
  exact ⟨⟨_, k5, rfl⟩, h _ k5 k3 k4 ⟨_, k1, rfl, rfl⟩ ⟨_, k2, rfl, rfl⟩ z5 fun c o e => up (up (up (up (up e))))⟩
end
/-! the rule -/
def Itzs (x y : Str) : It :=
  ⟨fun i _ => i < x.cps.size ∧ i < y.cps.size, fun i H v H' => ∃ U c d, v = .ref U ∧ H U = none ∧ x.cps[i]? = some c ∧ y.cps[i]? = some d ∧ H' = upd H U (.tup [.str (sg c), .str (sg d)]),
   fun i _ => i = x.cps.size ∨ i < x.cps.size ∧ i = y.cps.size⟩
theorem drA {prog : Program} {w : World} (it : Addr) (x : Str) (t : Tok) : DrA prog w it x.cps.size (fun i v => ∃ c u, x.cps[i]? = some c ∧ v = .str ⟨#[c]⟩ u) (fun i h => h.IsStrIter it (strIterType x) x t i) := fun _ hB => drawsS hB it x t
theorem turn_zipS {P : Program} {w : World} {K : PySem.W.Frag} {elts : List Expr} {kk : Nat} {tpos : Pos} (x : Str) (t : Tok) (y : Str) (u : Tok) {q ti to p1 p2 : Addr} (Z : ZAp q ti to p1 p2) :
    Turn P w K (.Tuple elts kk tpos) (Itzs x y) [q, ti, to, p1, p2] q (fun i h => IsZip h q ti to .none ∧ IsPair h ti (.ref p1) (.ref p2) ∧ (∃ a b, IsPair h to a b) ∧ h.IsStrIter p1 (strIterType x) x t i ∧ h.IsStrIter p2 (strIterType y) y u i) where
  mem := by simp
  obj := fun i h st c hc => by
    obtain ⟨hq, hi, ⟨a, b, ho⟩, ⟨o1, e1, _, d1⟩, ⟨o2, e2, _, d2⟩⟩ := st
    have ec : c = q ∨ c = ti ∨ c = to ∨ c = p1 ∨ c = p2 := by simpa using hc
    rcases ec with z | z | z | z | z <;> rw [z]
    · exact ⟨_, hq, fun v y => nomatch y⟩
    · exact ⟨_, hi, fun v y => nomatch y⟩
    · exact ⟨_, ho, fun v y => nomatch y⟩
    · exact ⟨o1, e1, fun v y => by rw [d1] at y; cases y⟩
    · exact ⟨o2, e2, fun v y => by rw [d2] at y; cases y⟩
  keep := fun i h h' st kp => by
    obtain ⟨hq, hi, ⟨a, b, ho⟩, ⟨o1, e1, r1⟩, ⟨o2, e2, r2⟩⟩ := st
    exact ⟨kp q (by simp) _ hq, kp ti (by simp) _ hi, ⟨a, b, kp to (by simp) _ ho⟩, ⟨o1, kp p1 (by simp) _ e1, r1⟩, ⟨o2, kp p2 (by simp) _ e2, r2⟩⟩
  item := by
    intro X eP eW eK hc i pins s σ H E I hf st hg
    subst eP eW eK
    obtain ⟨hq, hi, ⟨a, b, ho⟩, h1, h2⟩ := st
    obtain ⟨l1, l2⟩ : i < x.cps.size ∧ i < y.cps.size := hg
    have ql : q < s.heap.objs.size := Heap.lt_size hq
    refine next_zipD_item (I.ok.hd hc) (drA p1 x t) (drA p2 y u) Z hq hi ho h1 h2 l1 l2 fun v1 v2 g tk pv1 pv2 hq' ho' h1' h2' hT hsz hk => ?_
    obtain ⟨c, u1, ec, rfl⟩ := pv1
    obtain ⟨d, u2, ed, rfl⟩ := pv2
    refine ⟨_, rfl, wpAny_letOwnedTupleGo_zip (s := { s with heap := g, toks := tk }) hq' fun g2 hq2 sb => ?_⟩
    have hT2 : g2.get? s.heap.objs.size = some { cls := .type "tuple", data := .seq #[.str ⟨#[c]⟩ u1, .str ⟨#[d]⟩ u2] } := (sb.2 _ (Nat.ne_of_gt ql)).trans hT
    have okT : ObjOk X.prog X.w (upd H s.heap.objs.size (.tup [.str (sg c), .str (sg d)])) g2 s.heap.objs.size (.tup [.str (sg c), .str (sg d)]) :=
      ⟨(by show 2 ≤ sizeLine; decide), [.str ⟨#[c]⟩ u1, .str ⟨#[d]⟩ u2], .cons ⟨_, rfl⟩ (.cons ⟨_, rfl⟩ .nil), ⟨_, hT2, rfl, _, rfl⟩⟩
    have I1 : Inv X pins σ (upd H s.heap.objs.size (.tup [.str (sg c), .str (sg d)])) { s with heap := g2, toks := tk } :=
      I.turnedNew (ch := [q, ti, to, p1, p2]) (fun e ob hb z => (sb.2 e (fun z' => hb (by rw [z']; simp))).trans (hk e ob (fun z' => hb (by rw [z']; simp)) (fun z' => hb (by rw [z']; simp)) (fun z' => hb (by rw [z']; simp)) (fun z' => hb (by rw [z']; simp)) z)) hf (Nat.le_refl _) okT
    refine ⟨.ref s.heap.objs.size, _, I1, rfl, ⟨_, c, d, rfl, I.hok.fresh (Nat.le_refl _), ec, ed, rfl⟩, ⟨hq2, ?_, ⟨_, _, (sb.2 _ Z.a2).trans ho'⟩, ?_, ?_⟩, fun e he => ?_⟩
    · exact (sb.2 _ Z.a1).trans (hk _ _ Z.a1 Z.a5 Z.a6 Z.a7 hi)
    · obtain ⟨ob, hob, r⟩ := h1'
      exact ⟨ob, (sb.2 p1 Z.a3).trans hob, r⟩
    · obtain ⟨ob, hob, r⟩ := h2'
      exact ⟨ob, (sb.2 p2 Z.a4).trans hob, r⟩
    · have hlt : e < s.heap.objs.size := by
        have ec : e = q ∨ e = ti ∨ e = to ∨ e = p1 ∨ e = p2 := by simpa using he
        rcases ec with z | z | z | z | z <;> rw [z]
        · exact ql
        · exact Heap.lt_size hi
        · exact Heap.lt_size ho
        · obtain ⟨_, z1, _⟩ := h1; exact Heap.lt_size z1
        · obtain ⟨_, z1, _⟩ := h2; exact Heap.lt_size z1
      rw [upd_ne (Nat.ne_of_lt hlt)]
      exact (hf e he).1
  done := by
    intro X eP eW eK hc i pins s σ H E I hf st hg
    subst eP eW eK
    obtain ⟨hq, hi, ⟨a, b, ho⟩, h1, h2⟩ := st
    exact next_zipD_end (I.ok.hd hc) (drA p1 x t) (drA p2 y u) Z hq hi ho h1 h2 hg fun g tk hk => ⟨rfl, I.turnedL (t' := tk) (ch := [q, ti, to, p1, p2]) (fun c o hb z =>
      hk c o (fun z' => hb (by simp [z'])) (fun z' => hb (by simp [z'])) (fun z' => hb (by simp [z'])) (fun z' => hb (by simp [z'])) z) hf⟩
  self := fun A i s Q E st h => wpAny_pyIter_zip st.1 h
theorem apart (n i j : Nat) (h : i ≠ j) : (n + i : Nat) ≠ n + j := fun z => h (Nat.add_left_cancel z)
def iZipS (ta : TA) : TI := fun σ H R => ta σ H fun vs H1 => ∃ x y, vs = [.str x, .str y] ∧ R (Itzs x y) H1
theorem pi_zipS {X : Cx} {e e2 : Expr} {ta : TA} {p pos tpos : Pos} {elts : List Expr} {kk : Nat} (hg : Gl X "zip") (hm : X.mg "zip" = none) (ha : PA X [e, e2] ta)
    (one : starEach [e, e2] X.env = (false, eval e X.env) :: starEach [e2] X.env := by rfl) (two : (backTo pos (starEach [e2] X.env)).any (·.1) = false := by rfl) :
    PI X (.Tuple elts kk tpos) (.Call (.Name "zip" p) [e, e2] [] pos) (iZipS ta) := by
  refine ⟨fun pins s σ H R I h => ?_⟩
  refine Call_ (ld_blt I hg hm boot_zip (PyProof.Rows.callWith_type1 (thn (ha.run pos pins s σ H _ I h) fun us s1 ⟨vs, H1, I1, rr, qq⟩ => ?_) one two))
  obtain ⟨x, y, rfl, r⟩ := qq
  rcases rr with _ | ⟨r1, rr⟩
  rcases rr with _ | ⟨r2, rr⟩
  cases rr
  obtain ⟨t, rfl⟩ := r1
  obtain ⟨u, rfl⟩ := r2
  refine call_zipS fun g hq hi ho h1 h2 hsz hk => wpAny_pyIter_zip hq ?_
  have I2 : Inv X pins σ H1 { s1 with heap := g } := I1.kept (t' := s1.toks) hk
  have Z : ZAp (s1.heap.objs.size + 4) (s1.heap.objs.size + 2) (s1.heap.objs.size + 3) s1.heap.objs.size (s1.heap.objs.size + 1) := 
    ⟨apart _ 2 4 (by decide), apart _ 3 4 (by decide), apart _ 0 4 (by decide), apart _ 1 4 (by decide), apart _ 2 3 (by decide), apart _ 2 0 (by decide), apart _ 2 1 (by decide), apart _ 3 0 (by decide), apart _ 3 1 (by decide), apart _ 0 1 (by decide)⟩
  refine ⟨s1.heap.objs.size + 4, [s1.heap.objs.size + 4, s1.heap.objs.size + 2, s1.heap.objs.size + 3, s1.heap.objs.size, s1.heap.objs.size + 1], _, _, H1, rfl, I2, turn_zipS x t y u Z, ⟨hq, hi, ⟨_, _, ho⟩, h1, h2⟩, fun c hc => ?_, r⟩
  have ec : c = s1.heap.objs.size + 4 ∨ c = s1.heap.objs.size + 2 ∨ c = s1.heap.objs.size + 3 ∨ c = s1.heap.objs.size ∨ c = s1.heap.objs.size + 1 := by simpa using hc
  have hle : s1.heap.objs.size ≤ c := by
    rcases ec with z | z | z | z | z <;> rw [z]
    · exact Nat.le_add_right _ _
    · exact Nat.le_add_right _ _
    · exact Nat.le_add_right _ _
    · exact Nat.le_refl _
    · exact Nat.le_add_right _ _
  exact I1.fpOk hle (I1.hok.fresh hle)
theorem walk_zipS {x y : Str} {n : Nat} (hn : n = min x.cps.size y.cps.size) : Walk (Itzs x y) n (fun _ => True) (fun i H v H' => ∃ U c d, v = .ref U ∧ H U = none ∧ x.cps[i]? = some c ∧ y.cps[i]? = some d ∧ H' = upd H U (.tup [.str (sg c), .str (sg d)])) := by
  subst hn
  refine ⟨fun i _ hi _ => ⟨Nat.lt_of_lt_of_le hi (Nat.min_le_left _ _), Nat.lt_of_lt_of_le hi (Nat.min_le_right _ _)⟩, fun _ _ => ?_, fun _ _ _ _ _ _ y => y⟩
  show min x.cps.size y.cps.size = x.cps.size ∨ min x.cps.size y.cps.size < x.cps.size ∧ min x.cps.size y.cps.size = y.cps.size
  omega
end LB

namespace LB
open PySem PySem.Spec PyProof.Rows L2
/-! ### list(text), text[::-1] -/
theorem vals_signs {l : List Nat} {acc : List Value} (hn : acc.length = l.length) (h : ∀ (j : Nat) v, acc[j]? = some v → ∃ c u, l[j]? = some c ∧ v = Value.str ⟨#[c]⟩ u) : Vals (l.map fun c => V.str (sg c)) acc := by
  induction l generalizing acc with
  | nil =>
    cases acc with
    | nil => exact .nil
    | cons _ _ => cases hn
  | cons c r ih =>
    cases acc with
    | nil => cases hn
    | cons v q =>
      obtain ⟨c', u, e1, e2⟩ := h 0 v rfl
      cases (Option.some.inj e1)
      refine .cons ⟨u, e2⟩ (ih (by simpa using hn) fun j w hj => ?_)
      simpa using h (j + 1) w (by simpa using hj)
section
variable {X : Cx}
theorem call_list_tx (hc : X.calm = true) : CallR X (.type "list") (fun xs H Q => ∃ l : List Nat, xs = [.str (tx l)] ∧ l.length < 100000 ∧ ∀ p, H p = none → Q (.ref p) (upd H p (.lst (l.map fun c => V.str (sg c))))) := by
  intro pins s σ H xs us Q I r h
  obtain ⟨l, rfl, hl, q⟩ := h
  rcases r with _ | ⟨r1, rr⟩
  cases rr
  obtain ⟨t, rfl⟩ := r1
  have hs : (tx l).cps.size = l.length := List.size_toArray ..
  refine call_list_str (I.ok.hd hc) (tx l) t (fun h' tk acc c kp e it => ?_) (by rw [hs]; exact Nat.le_trans (Nat.le_of_lt hl) (by decide))
  have rv : Vals (l.map fun c => V.str (sg c)) acc.toList := vals_signs (by rw [Array.length_toList, it.1, hs]) fun j v hj => by
    obtain ⟨d, u, e1, e2⟩ := it.2 j v (by rw [← Array.getElem?_toList]; exact hj)
    exact ⟨d, u, by rw [← Array.getElem?_toList] at e1; exact e1, e2⟩
  exact ⟨.ref s.heap.objs.size, _, I.laid (t' := tk) kp (Nat.le_refl _) (show ObjOk X.prog X.w _ h' _ (.lst _) from ⟨by rw [List.length_map]; exact Nat.le_trans (Nat.le_of_lt hl) (by decide), acc.toList, c, rv, by simpa using e⟩), rfl, q _ (I.hok.fresh (Nat.le_refl _))⟩
def tRevS (te : TE) : TE := fun σ H Q => te σ H fun x H1 => ∃ l : List Nat, x = .str (tx l) ∧ l.length < 100000 ∧ Q (.str (tx l.reverse)) H1
theorem rev_pick (l : List Nat) : (⟨((Builtin.Str.strSliceIndices none none (-1) (tx l).length).filterMap ((tx l).cps[·]?)).toArray⟩ : Str) = tx l.reverse := by
  have e : Builtin.Str.strSliceIndices none none (-1) (tx l).length = (List.range (tx l).cps.size).reverse := by
    rw [← PySem.W.krv_range, ← PySem.W.krv_sliceRange]
    rfl
  rw [e, List.filterMap_reverse, PySem.W.krv_all]
theorem pe_revS {e : Expr} {te : TE} {k : Nat} {p1 p2 p3 pos : Pos} (he : PE X e te) : PE X (.Subscript e (.Slice none none (some (.UnaryOp .USub (.Constant (.int 1) k p1) p2)) p3) pos) (tRevS te) := by
  refine ⟨fun pins s σ H Q I h => ?_⟩
  refine Subscript_ (thn (he.run pins s σ H _ I h) fun v s1 ⟨x, H1, I1, r1, l, ex, hl, q⟩ => ?_)
  subst ex
  obtain ⟨t, rfl⟩ := r1
  have hst : PO X (some (.UnaryOp .USub (.Constant (.int 1) k p1) p2)) (tPart (tUn (rU fun i => .int (-i)) (tC (.int 1)))) := po_some (pe_un un_neg pe_int)
  refine wpAny_Slice (thn (po_none.run pins s1 σ H1 (fun o G => o = none ∧ G = H1) I1 ⟨rfl, rfl⟩) fun vl s2 ⟨o2, H2, I2, pl, eo2, eh2⟩ => ?_)
  subst eo2 eh2
  refine thn (po_none.run pins s2 σ H2 (fun o G => o = none ∧ G = H2) I2 ⟨rfl, rfl⟩) fun vu s3 ⟨o3, H3, I3, pu, eo3, eh3⟩ => ?_
  subst eo3 eh3
  refine thn (hst.run pins s3 σ H3 (fun o G => o = some (-1) ∧ G = H3) I3 ⟨1, rfl, -1, rfl, rfl, rfl⟩) fun vs s4 ⟨o4, H4, I4, ps, eo4, eh4⟩ => ?_
  subst eo4 eh4
  obtain ⟨l1, rfl, el1⟩ := IsPart.raw pl
  obtain ⟨u1, rfl, eu1⟩ := IsPart.raw pu
  obtain ⟨w1, rfl, ew1⟩ := IsPart.raw ps
  have I5 : Inv X pins σ H4 { s4 with heap := s4.heap.push { cls := .type "slice", data := .fields #[partValue l1, partValue u1, partValue w1] } } := I4.kept (t' := s4.toks) fun b ob z => Heap.get?_push_of_some _ z
  refine tail_any (ops := [.ref s4.heap.objs.size, .str (tx l) t]) (typeIs_str _ _ _) F.slot_str_getitem.lookup ?_ (by with_unfolding_all rfl)
  refine wpAny_getItem_str_slice (l := l1) (u := u1) (st := w1) ⟨_, Heap.get?_push_size _ rfl, rfl, rfl⟩ (by rw [ew1]; rfl) ?_
  unfold sliceMade slicePicked
  rw [el1, eu1, ew1]
  have c0 : ¬ (((some (-1 : Int)).getD 1 == 1 && (Builtin.Str.strSliceIndices none none ((some (-1 : Int)).getD 1) (tx l).length).length == (tx l).length) = true) := by
    intro z
    rw [Bool.and_eq_true] at z
    exact absurd z.1 (by decide)
  rw [if_neg c0]
  show Made.post (Made.str ⟨((Builtin.Str.strSliceIndices none none (-1) (tx l).length).filterMap ((tx l).cps[·]?)).toArray⟩) _ _
  rw [rev_pick]
  refine ⟨?_, .str _, H4, I5.tok _, ⟨_, rfl⟩, q⟩
  rw [tx_len, List.length_reverse]
  exact Nat.le_trans (Nat.le_of_lt hl) (by decide)
end
end LB

namespace LB
open PySem PySem.Spec PyProof.Rows L2
theorem noPart {σ : L2.St} {H : Hp} {Q : Option Int → Hp → Prop} (h : Q none H) : tNoPart σ H Q := h
/-! ### a tuple turned round -/
section
variable {prog : Program} {w : World} {A : Around} {E : Value → Shared → Prop} {s : Shared}
theorem cut_back {sl : Addr} {va vb vc : Value} {n : Nat} {Q : Int × Int × Nat → Shared → Prop} (hs : s.heap.IsSliceOf sl va vb vc) (pa : IsPart va none) (pb : IsPart vb none) (pc : IsPart vc (some (-1)))
    (h : Q ((n : Int) - 1, -1, n) s) : wpAny (model prog w) A (Builtin.Slice.sliceApplied (.ref sl) (pure (n : Int))) Q E s := by
  obtain ⟨ob, e1, e2, e3⟩ := id hs
  unfold Builtin.Slice.sliceApplied Builtin.Slice.sliceFields
  refine wpAny_bind (wpAny_bind (wpAny_field e1 e3 (x := va) rfl (wpAny_bind (wpAny_field e1 e3 (x := vb) rfl (wpAny_bind (wpAny_field e1 e3 (x := vc) rfl (wpAny_pure ?_)))))))
  refine wpAny_bind (HT.slicePart_ pc ?_)
  show wpAny _ _ (if ((-1 : Int) == 0) = true then _ else _) _ _ s
  rw [if_neg (by decide)]
  refine wpAny_bind (HT.slicePart_ pa (wpAny_bind (HT.slicePart_ pb (wpAny_bind (wpAny_pure ?_)))))
  show wpAny _ _ (pure ((n : Int) - 1, (-1 : Int), Builtin.Slice.slicePlaces ((n : Int) - 1) (-1) (-1))) _ _ s
  have e : Builtin.Slice.slicePlaces ((n : Int) - 1) (-1) (-1) = n := by
    unfold Builtin.Slice.slicePlaces
    rw [if_neg (by omega)]
    by_cases h0 : n = 0
    · subst h0
      rfl
    · rw [if_pos (by omega), show (- -1 : Int) = 1 from rfl, Int.ediv_one]
      omega
  rw [e]
  exact wpAny_pure h
theorem fm_congr {α β : Type} {f g : α → Option β} : ∀ {l : List α}, (∀ x ∈ l, f x = g x) → l.filterMap f = l.filterMap g
  | [], _ => rfl
  | a :: r, h => by
    rw [List.filterMap_cons, List.filterMap_cons, h a (by simp), fm_congr fun x hx => h x (by simp [hx])]
theorem rep_flat (l : List Nat) : ∀ (m : Nat) (acc : List Nat), List.foldl (fun x1 x2 => x1 ++ x2) acc.toArray (List.replicate m l.toArray) = (acc ++ (List.replicate m l).flatten).toArray
  | 0, acc => by simp
  | m + 1, acc => by
    rw [List.replicate_succ, List.replicate_succ, List.foldl_cons, List.append_toArray, rep_flat l m (acc ++ l), List.flatten_cons, List.append_assoc]
theorem pick_back (xs : Array Value) : ((List.range xs.size).filterMap fun (m : Nat) => xs[((xs.size : Int) - 1 + (m : Int) * (-1)).toNat]?).toArray = xs.toList.reverse.toArray := by
  congr 1
  have e : ∀ m ∈ List.range xs.size, xs[((xs.size : Int) - 1 + (m : Int) * (-1)).toNat]? = xs.toList.reverse[m]? := fun m hm => by
    have hm' := List.mem_range.mp hm
    rw [List.getElem?_reverse (by simpa using hm'), Array.length_toList, Array.getElem?_toList, show ((xs.size : Int) - 1 + (m : Int) * (-1)).toNat = xs.size - 1 - m by omega]
  rw [fm_congr e]
  have := HT.pick_gen xs.toList.reverse.toArray 0 xs.size
  simp only [List.getElem?_toArray, List.drop_zero] at this
  have t2 := congrArg Array.toList this
  simp only [List.toList_toArray] at t2
  rw [show (List.range xs.size).filterMap (fun m => xs.toList.reverse[m]?) = (List.range xs.size).filterMap (fun (m : Nat) => xs.toList.reverse[(((0 : Nat) : Int) + (m : Int) * 1).toNat]?) from fm_congr fun m _ => by rw [show (((0 : Nat) : Int) + (m : Int) * 1).toNat = m by omega]]
  rw [t2]
  exact List.take_of_length_le (by simp)
theorem item_back {t sl : Addr} {items : Array Value} {va vb vc : Value} {Q : Value → Shared → Prop} (ht : IsTup s.heap t items) (hs : s.heap.IsSliceOf sl va vb vc) (pa : IsPart va none) (pb : IsPart vb none) (pc : IsPart vc (some (-1)))
    (h : Q (.ref s.heap.objs.size) { s with heap := s.heap.push { cls := .type "tuple", data := .seq items.toList.reverse.toArray } })
    (hsz : items.size ≤ sizeLine) : wpAny (model prog w) A (getItem (.ref t) (.ref sl)) Q E s := by
  have ok : sizeOk (.seq items.toList.reverse.toArray) := by
    show items.toList.reverse.toArray.size ≤ sizeLine
    rw [List.size_toArray, List.length_reverse, Array.length_toList]
    exact hsz
  obtain ⟨ob, e1, e2, e3⟩ := id hs
  have ty : s.TypeIs (.ref sl) "slice" := ⟨ob, e1, e2⟩
  unfold getItem
  try with_reducible (refine wpAny_holding ?_)
  first | (refine wpAny_bind (wpAny_pure ?_)) | skip
  refine wpAny_bind (wpAny_sequenceKey ht.typeIs (by decide) ?_)
  refine wpAny_bind (wpAny_callSpecial?_slot (name := Str.ofString "__getitem__") ht.typeIs PyProof.Rows.slot_tuple_getitem (wpAny_call_entry PyProof.Rows.slot_tuple_getitem ht.typeIs entry_tuple_getitem ?_ (args_tuple_getitem _ _)))
  show wpAny _ _ (Builtin.Tuple.tupleItemsOf (.ref t) >>= _) _ _ s
  refine wpAny_bind (tupleItemsOf_ ht (wpAny_bind (wpAny_typeOf ty ?_)))
  rw [if_pos (by decide)]
  refine wpAny_bind (cut_back hs pa pb pc ?_)
  show wpAny _ _ (if ((items.size : Int) - 1 == 0 && (-1 : Int) == 1 && items.size == items.size) = true then _ else _) _ _ s
  rw [if_neg (by rw [show ((-1 : Int) == 1) = false from rfl, Bool.and_false, Bool.false_and]; exact Bool.false_ne_true), pick_back]
  first
    | (exact wpAny_bind (m := Builtin.Tuple.tupleExact _) (wpAny_newObj_type (wpAny_pure ⟨_, rfl, wpAny_pure h⟩) ok))
    | (exact wpAny_bind (m := Builtin.Tuple.tupleExact _) (wpAny_newObj_type (wpAny_bind (wpAny_pure (wpAny_pure ⟨_, rfl, wpAny_pure h⟩))) ok))
    | (exact wpAny_bind (wpAny_bind (m := Builtin.Tuple.tupleExact _) (wpAny_newObj_type (wpAny_pure (wpAny_pure ⟨_, rfl, wpAny_pure h⟩)) ok)))
    | (exact wpAny_bind (wpAny_bind (m := Builtin.Tuple.tupleExact _) (wpAny_newObj_type (wpAny_pure ⟨_, rfl, wpAny_pure h⟩) ok)))
end
section
variable {X : Cx}
def tRevT (K : PySem.W.Frag) (te : TE) : TE := fun σ H Q => te σ H fun x H1 => ∃ a xs, x = .ref a ∧ SqT K H1 a xs ∧ ∀ p, H1 p = none → Q (.ref p) (upd H1 p (.tup xs.reverse))
theorem pe_revT {e : Expr} {te : TE} {k : Nat} {p1 p2 p3 pos : Pos} (he : PE X e te) : PE X (.Subscript e (.Slice none none (some (.UnaryOp .USub (.Constant (.int 1) k p1) p2)) p3) pos) (tRevT X.K te) := by
  refine ⟨fun pins s σ H Q I h => ?_⟩
  refine Subscript_ (thn (he.run pins s σ H _ I h) fun v s1 ⟨x, H1, I1, r1, a, xs, ex, hx, q⟩ => ?_)
  subst ex
  cases r1
  have hst : PO X (some (.UnaryOp .USub (.Constant (.int 1) k p1) p2)) (tPart (tUn (rU fun i => .int (-i)) (tC (.int 1)))) := po_some (pe_un un_neg pe_int)
  refine wpAny_Slice (thn (po_none.run pins s1 σ H1 (fun o G => o = none ∧ G = H1) I1 ⟨rfl, rfl⟩) fun va s2 ⟨o2, H2, I2, pa, eo2, eh2⟩ => ?_)
  subst eo2 eh2
  refine thn (po_none.run pins s2 σ H2 (fun o G => o = none ∧ G = H2) I2 ⟨rfl, rfl⟩) fun vb s3 ⟨o3, H3, I3, pb, eo3, eh3⟩ => ?_
  subst eo3 eh3
  refine thn (hst.run pins s3 σ H3 (fun o G => o = some (-1) ∧ G = H3) I3 ⟨1, rfl, -1, rfl, rfl, rfl⟩) fun vc s4 ⟨o4, H4, I4, pc, eo4, eh4⟩ => ?_
  subst eo4 eh4
  have I5 : Inv X pins σ H4 { s4 with heap := s4.heap.push { cls := .type "slice", data := .fields #[va, vb, vc] } } := I4.kept (t' := s4.toks) fun b ob z => Heap.get?_push_of_some _ z
  obtain ⟨its, r, ht, hz⟩ := I5.tuple hx
  have hlen := r.length
  show wpAny (model X.prog X.w) X.A (subscriptTail e (.Slice none none (some (.UnaryOp .USub (.Constant (.int 1) k p1) p2)) p3) (.ref a) (.ref s4.heap.objs.size)) (EP X pins σ Q) X.xe { s4 with heap := s4.heap.push { cls := .type "slice", data := .fields #[va, vb, vc] } }
  refine tail_any (ops := [.ref a, .ref s4.heap.objs.size]) ht.typeIs (PyProof.Rows.slot_tuple_getitem.lookup) ?_ (by with_unfolding_all rfl)
  refine item_back ht (Heap.IsSliceOf.new _ va vb vc) pa pb pc ?_ (by rw [List.size_toArray]; omega)
  refine ⟨.ref _, _, I5.laid (t' := s4.toks) (o := .tup xs.reverse) (fun b ob z => Heap.get?_push_of_some _ z) (Nat.le_refl _) ?_, rfl, q _ (I5.hok.fresh (Nat.le_refl _))⟩
  exact ⟨by rw [List.length_reverse]; exact hz, _, r.reverse, IsTup.new _ _⟩
/-! ### text * count -/
theorem mulT {l : List Nat} {k : Int} (h1 : 1 ≤ k) : Txt.mul (tx l) k = tx (List.replicate k.toNat l).flatten := by
  unfold Txt.mul
  rw [if_neg (by omega)]
  by_cases hk : k = 1
  · subst hk
    rw [if_pos (by rw [show ((1 : Int) == 1) = true from rfl, Bool.true_or])]
    show tx l = tx (l ++ [])
    rw [List.append_nil]
  · by_cases hl : l = []
    · subst hl
      rw [if_pos (by rw [show ((tx []).length == 0) = true from rfl, Bool.or_true])]
      congr 1
      rw [List.flatten_replicate_nil]
    · rw [if_neg (by
        rw [tx_len, Bool.or_eq_true]
        rintro (z | z)
        · exact hk (eq_of_beq z)
        · exact hl (List.eq_nil_of_length_eq_zero (eq_of_beq z)))]
      have := rep_flat l k.toNat []
      rw [List.nil_append] at this
      exact congrArg Str.mk this
theorem op_mulS : OpR X (binaryOp .Mult) (fun x y H Q => ∃ (l : List Nat) (k : Int), x = .str (tx l) ∧ y = .int k ∧ 1 ≤ k ∧ k ≤ 1000 ∧ l.length ≤ 1000 ∧ Q (.str (tx (List.replicate k.toNat l).flatten)) H) := by
  intro pins s σ H x y v u Q I rx ry h
  obtain ⟨l, k, rfl, rfl, h1, h2, hl, q⟩ := h
  obtain ⟨t, rfl⟩ := rx
  obtain ⟨t', rfl⟩ := ry
  refine SB.mul ⟨?_, fun _ _ => ?_, fun _ _ => ?_⟩ fun t2 k2 => ⟨.str _, H, I.tok _, ⟨_, rfl⟩, by rw [mulT h1]; exact q⟩
  · rw [decide_eq_false (by omega), decide_eq_false (by omega)]
    rfl
  · rw [tx_len]
    have : (1000 : Int) ≤ (2 ^ 63 - 1) / k := Int.le_ediv_of_mul_le (by omega) (by omega)
    omega
  · rw [tx_len]
    have : l.length * k.toNat ≤ 1000 * 1000 := Nat.mul_le_mul hl (by omega)
    exact decide_eq_false (by rw [sizeLine_eq]; omega)
/-! ### a tuple once or not at all -/
theorem tup_one (l : Addr) (items : Array Value) (n : Nat) (dd : Option Addr) (sl : Array (Option Value)) (u : Tok) :
    Meets (Builtin.«tuple.__mul__» ⟨[.ref l, .int 1 u], []⟩) (fun _ R s => s.heap.get? l = some { cls := .type "tuple", dict := dd, data := .seq items n, slots := sl } ∧ R (.ok (.ret (Value.ref l))) s) :=
  .of_wp fun prog w A R s h => by
    obtain ⟨h0, g0, d0, t0, o0⟩ := s
    obtain ⟨hw, h⟩ := h
    have f1 := AutoSeq1.idx_int
    have c1 : (items.isEmpty || (1 : Int) == 1) = true := by rw [show ((1 : Int) == 1) = true from rfl, Bool.or_true]
    wp_walk using wpAny_loadPart' hw
    repeat (first
      | (refine wpAny_ite_true (decide_eq_true c1) ?_; wp_walk using wpAny_loadPart' hw)
      | (refine wpAny_ite_false (decide_eq_false (by decide)) ?_; wp_walk using wpAny_loadPart' hw))
    exact ⟨_, rfl, h⟩
theorem tup_zero (l : Addr) (items : Array Value) (n : Nat) (dd : Option Addr) (sl : Array (Option Value)) (u : Tok) (hi : items.isEmpty = false) :
    Meets (Builtin.«tuple.__mul__» ⟨[.ref l, .int 0 u], []⟩) (fun _ R s => s.heap.get? l = some { cls := .type "tuple", dict := dd, data := .seq items n, slots := sl } ∧
      R (.ok (.ret (Value.ref s.heap.objs.size))) { s with heap := s.heap.push { cls := Value.type "tuple", data := Data.seq #[] }, toks := s.toks }) :=
  .of_wp fun prog w A R s h => by
    obtain ⟨h0, g0, d0, t0, o0⟩ := s
    obtain ⟨hw, h⟩ := h
    have f1 := AutoSeq1.idx_int
    have c1 : (items.isEmpty || (0 : Int) == 1) = false := by rw [hi]; rfl
    have c2 : (decide ((0 : Int) ≤ 0) || items.isEmpty) = true := by rw [show decide ((0 : Int) ≤ 0) = true from rfl, Bool.true_or]
    wp_walk using wpAny_loadPart' hw
    repeat (first
      | (refine wpAny_ite_false (decide_eq_false (by rw [c1]; exact Bool.false_ne_true)) ?_; wp_walk using wpAny_loadPart' hw)
      | (refine wpAny_ite_true (decide_eq_true c2) ?_; wp_walk using wpAny_loadPart' hw)
      | (refine wpAny_ite_false (decide_eq_false (by decide)) ?_; wp_walk using wpAny_loadPart' hw))
    exact ⟨_, rfl, h⟩
def rRep01 (K : PySem.W.Frag) : R2 := fun x y H Q => ∃ l k xs, x = .ref l ∧ y = .int k ∧ SqT K H l xs ∧ xs ≠ [] ∧ ((k = 1 ∧ Q (.ref l) H) ∨ (k = 0 ∧ ∀ p, H p = none → Q (.ref p) (upd H p (.tup []))))
theorem op_rep01 : OpR X (binaryOp .Mult) (rRep01 X.K) := by
  intro pins s σ H x y v u Q I rx ry h
  obtain ⟨l, k, xs, rfl, rfl, hT, hne, h⟩ := h
  cases rx
  obtain ⟨t, rfl⟩ := ry
  obtain ⟨ws, r, ⟨⟨kc, dd, kd, sl⟩, ho, hc, n, hd⟩, _⟩ := I.tuple hT
  simp only at hc hd
  subst hc hd
  have hi : ws.toArray.isEmpty = false := by
    cases ws with
    | nil =>
      cases r
      exact absurd rfl hne
    | cons a b => rfl
  rcases h with ⟨rfl, q⟩ | ⟨rfl, q⟩
  · exact wpAny_binaryOp_repeat_ref (T := "tuple") (U := "int") (by decide) ⟨_, ho, rfl⟩ (fun s' => typeIs_int s' 1 t) noFill_tuple_mul F.fills_int_mul F.slot_int_rmul repeat_tuple F.slot_int_index.lookup
      (call_meets F.slot_int_rmul (typeIs_int s 1 t) F.entry_int_rmul (F.args_int_rmul_2 _ _) (int_rmul_tuple 1 t l ws.toArray n dd sl)
        ⟨ho, rfl, ⟨_, ho, rfl⟩, call_meets F.slot_tuple_mul ⟨_, ho, rfl⟩ F.entry_tuple_mul (F.args_tuple_mul_2 _ _) (tup_one l ws.toArray n dd sl t) ⟨ho, ⟨.ref l, H, I, rfl, q⟩⟩⟩)
  · refine wpAny_binaryOp_repeat_ref (T := "tuple") (U := "int") (by decide) ⟨_, ho, rfl⟩ (fun s' => typeIs_int s' 0 t) noFill_tuple_mul F.fills_int_mul F.slot_int_rmul repeat_tuple F.slot_int_index.lookup
      (call_meets F.slot_int_rmul (typeIs_int s 0 t) F.entry_int_rmul (F.args_int_rmul_2 _ _) (int_rmul_tuple 0 t l ws.toArray n dd sl)
        ⟨ho, rfl, ⟨_, ho, rfl⟩, call_meets F.slot_tuple_mul ⟨_, ho, rfl⟩ F.entry_tuple_mul (F.args_tuple_mul_2 _ _) (tup_zero l ws.toArray n dd sl t hi) ⟨ho, ?_⟩⟩)
    refine ⟨.ref s.heap.objs.size, _, I.laid (t' := s.toks) (o := .tup []) (fun b ob z => Heap.get?_push_of_some _ z) (Nat.le_refl _) ?_, rfl, q _ (I.hok.fresh (Nat.le_refl _))⟩
    exact ⟨Nat.zero_le _, [], .nil, IsTup.new _ _⟩
end
end LB

namespace LB
open PySem PySem.Spec PyProof.Rows L2
/-! ### atoms, products -/
abbrev Atm := List Nat × Bool
def atD (a : Atm) : D := .tup [.str a.1, .bl a.2]
def prD (as : List Atm) : D := .tup (as.map atD)
structure AtOk (a : Atm) : Prop where
  ne : a.1 ≠ []
  lw : ∀ c ∈ a.1, 97 ≤ c ∧ c < 123
  rs : a.1.Pairwise (· < ·)
  one : a.2 = true ∨ a.1.length = 1
  len : a.1.length < 100
theorem AtOk.ascii {a : Atm} (h : AtOk a) : ascii a.1 := fun c hc => by
  have := h.lw c hc
  omega
theorem AtOk.single {a : Atm} (h : AtOk a) (e : a.2 = false) : ∃ x, a.1 = [x] := by
  rcases h.one with z | z
  · rw [e] at z
    cases z
  · exact List.length_eq_one_iff.mp z
/-! small letters alone -/
def low (zs : List Nat) : Bool := zs.all fun c => decide (c ∈ alphabet.cps.toList)
theorem mem_alpha {c : Nat} (h : 97 ≤ c ∧ c < 123) : c ∈ alphabet.cps.toList := by
  rw [alpha_codes]
  exact List.mem_map.mpr ⟨c - 97, List.mem_range.mpr (by omega), by omega⟩
theorem low_of {zs : List Nat} (h : ∀ c ∈ zs, 97 ≤ c ∧ c < 123) : low zs = true := by
  unfold low
  rw [List.all_eq_true]
  exact fun c hc => decide_eq_true (mem_alpha (h c hc))
theorem rise_get {zs : List Nat} (h : zs.Pairwise (· < ·)) {i c d : Nat} (h1 : zs[i]? = some c) (h2 : (zs.drop 1)[i]? = some d) : c < d := by
  rw [List.getElem?_drop] at h2
  obtain ⟨l1, e1⟩ := List.getElem?_eq_some_iff.mp h1
  obtain ⟨l2, e2⟩ := List.getElem?_eq_some_iff.mp h2
  rw [← e1, ← e2]
  exact List.pairwise_iff_getElem.mp h i (1 + i) l1 l2 (by omega)
/-! the words of a product, sign by sign -/
def drp (c : Nat) : List Atm → Option (List Atm)
  | [] => none
  | a :: r => if c ∈ a.1 then some (if a.2 then a :: r else r) else drp c r
def hold : List Atm → List Nat → Bool
  | _, [] => true
  | as, c :: w => match drp c as with
    | none => false
    | some bs => hold bs w
theorem hold_nil (as : List Atm) : hold as [] = true := by cases as <;> rfl
theorem hold_cons (as : List Atm) (c : Nat) (w : List Nat) : hold as (c :: w) = match drp c as with | none => false | some bs => hold bs w := by cases as <;> rfl
/-- what an atom leaves of a word when it takes all that it can -/
def eat (a : Atm) (w : List Nat) : List Nat := if a.2 = true then w.dropWhile (fun c => decide (c ∈ a.1)) else match w with
  | [] => []
  | c :: r => if [c] = a.1 then r else c :: r
theorem hold_many (a : Atm) (r : List Atm) (e : a.2 = true) : ∀ w : List Nat, hold (a :: r) w = hold r (w.dropWhile fun c => decide (c ∈ a.1))
  | [] => by rw [hold_nil, List.dropWhile_nil, hold_nil]
  | c :: w => by
    rw [hold_cons]
    unfold drp
    by_cases h : c ∈ a.1
    · rw [if_pos h, if_pos e, List.dropWhile_cons, if_pos (by simpa using h)]
      exact hold_many a r e w
    · rw [if_neg h, List.dropWhile_cons, if_neg (by simpa using h), hold_cons]
theorem hold_eat {a : Atm} (ok : AtOk a) (r : List Atm) (w : List Nat) : hold (a :: r) w = hold r (eat a w) := by
  unfold eat
  by_cases e : a.2 = true
  · rw [if_pos e]
    exact hold_many a r e w
  · rw [if_neg e]
    rw [Bool.not_eq_true] at e
    obtain ⟨x, hx⟩ := ok.single e
    cases w with
    | nil => rw [hold_nil, hold_nil]
    | cons c w =>
      rw [hold_cons]
      show _ = hold r (if [c] = a.1 then w else c :: w)
      unfold drp
      by_cases h : c = x
      · subst h
        rw [if_pos (by rw [hx]; simp), if_pos hx.symm, e]
        rfl
      · have h2 : ¬ [c] = a.1 := fun z => h (by rw [hx] at z; simpa using z)
        rw [if_neg (by rw [hx]; simpa using h), if_neg h2, hold_cons]
def eats (as : List Atm) (w : List Nat) : List Nat := as.foldl (fun w a => eat a w) w
theorem eats_hold : ∀ {as : List Atm}, (∀ a ∈ as, AtOk a) → ∀ w, decide (eats as w = []) = hold as w
  | [], _, w => by
    cases w with
    | nil => rfl
    | cons c w => rfl
  | a :: r, h, w => by
    rw [hold_eat (h a (by simp)), ← eats_hold (fun x hx => h x (by simp [hx]))]
    rfl
/-! by places, as the law looks -/
def ixs (as : List Atm) (c lo k : Nat) : List Nat := (List.range' lo k).filter fun j => decide (c ∈ (as.getD j ([], false)).1)
def nxt (as : List Atm) (j : Nat) : Int := (j : Int) + 1 - (if (as.getD j ([], false)).2 = true then 1 else 0)
theorem ixs_next (as : List Atm) (c lo k : Nat) : ixs as c lo (k + 1) = ixs as c lo k ++ if c ∈ (as.getD (lo + k) ([], false)).1 then [lo + k] else [] := by
  unfold ixs
  rw [List.range'_1_concat, List.filter_append]
  congr 1
  by_cases h : c ∈ (as.getD (lo + k) ([], false)).1
  · rw [if_pos h, List.filter_cons, if_pos (by simpa using h)]
    rfl
  · rw [if_neg h, List.filter_cons, if_neg (by simpa using h)]
    rfl
theorem ixs_ge {as : List Atm} {c lo k j : Nat} (h : j ∈ ixs as c lo k) : lo ≤ j ∧ j < lo + k ∧ c ∈ (as.getD j ([], false)).1 := by
  unfold ixs at h
  obtain ⟨h1, h2⟩ := List.mem_filter.mp h
  rw [List.mem_range'_1] at h1
  exact ⟨h1.1, h1.2, of_decide_eq_true h2⟩
theorem ixs_first (as : List Atm) (c lo k : Nat) : ixs as c lo (k + 1) = (if c ∈ (as.getD lo ([], false)).1 then [lo] else []) ++ ixs as c (lo + 1) k := by
  unfold ixs
  rw [List.range'_succ, List.filter_cons]
  by_cases h : c ∈ (as.getD lo ([], false)).1
  · rw [if_pos h, if_pos (by simpa using h)]
    rfl
  · rw [if_neg h, if_neg (by simpa using h)]
    rfl
theorem nxt_ge (as : List Atm) (j : Nat) : (j : Int) ≤ nxt as j ∧ nxt as j ≤ (j : Int) + 1 := by
  unfold nxt
  by_cases h : (as.getD j ([], false)).2 = true
  · rw [if_pos h]
    omega
  · rw [if_neg h]
    omega
theorem getD_at {as : List Atm} {j : Nat} (h : j < as.length) : as.getD j ([], false) = as[j] := by
  rw [List.getD_eq_getElem?_getD, List.getElem?_eq_getElem h]
  rfl
theorem drp_none (as : List Atm) (c : Nat) : ∀ (k lo : Nat), lo + k = as.length → ixs as c lo k = [] → drp c (as.drop lo) = none
  | 0, lo, h, _ => by
    rw [List.drop_of_length_le (by omega)]
    rfl
  | k + 1, lo, h, e => by
    have hl : lo < as.length := by omega
    rw [ixs_first] at e
    obtain ⟨e1, e2⟩ := List.append_eq_nil_iff.mp e
    rw [List.drop_eq_getElem_cons hl]
    unfold drp
    by_cases hc : c ∈ (as.getD lo ([], false)).1
    · rw [if_pos hc] at e1
      cases e1
    · rw [getD_at hl] at hc
      rw [if_neg hc]
      exact drp_none as c k (lo + 1) (by omega) e2
theorem drp_some (as : List Atm) (c : Nat) : ∀ (k lo : Nat) (m : Int), lo + k = as.length → m ∈ (ixs as c lo k).map (nxt as) → (∀ y ∈ (ixs as c lo k).map (nxt as), m ≤ y) → drp c (as.drop lo) = some (as.drop m.toNat)
  | 0, lo, m, h, hm, _ => by cases hm
  | k + 1, lo, m, h, hm, hle => by
    have hl : lo < as.length := by omega
    rw [List.drop_eq_getElem_cons hl]
    unfold drp
    rw [ixs_first] at hm hle
    by_cases hc : c ∈ (as.getD lo ([], false)).1
    · rw [if_pos hc] at hm hle
      have h1 : m ≤ nxt as lo := hle _ (by simp)
      have h2 : m = nxt as lo := by
        simp only [List.map_append, List.map_cons, List.map_nil, List.mem_append, List.mem_singleton] at hm
        rcases hm with hm | hm
        · exact hm
        · obtain ⟨j, hj, rfl⟩ := List.mem_map.mp hm
          have g1 := (ixs_ge hj).1
          have g2 := nxt_ge as j
          have g3 := nxt_ge as lo
          omega
      rw [getD_at hl] at hc
      rw [if_pos hc, h2]
      unfold nxt
      rw [getD_at hl]
      by_cases hb : as[lo].2 = true
      · rw [if_pos hb, if_pos hb, show ((lo : Int) + 1 - 1).toNat = lo by omega, List.drop_eq_getElem_cons hl]
      · rw [if_neg hb, if_neg hb, show ((lo : Int) + 1 - 0).toNat = lo + 1 by omega]
    · rw [if_neg hc, List.nil_append] at hm hle
      rw [getD_at hl] at hc
      rw [if_neg hc]
      exact drp_some as c k (lo + 1) m (by omega) hm hle
theorem nxt_bd {as : List Atm} {c lo k : Nat} {m : Int} (h : lo + k = as.length) (hm : m ∈ (ixs as c lo k).map (nxt as)) : 0 ≤ m ∧ m.toNat ≤ as.length := by
  obtain ⟨j, hj, rfl⟩ := List.mem_map.mp hm
  have g1 := ixs_ge hj
  have g2 := nxt_ge as j
  omega
/-! a word as a product -/
def ofW (ws : List Nat) : List Atm := ws.map fun c => ([c], false)
theorem ofW_ok {ws : List Nat} (h : ∀ c ∈ ws, 97 ≤ c ∧ c < 123) : ∀ a ∈ ofW ws, AtOk a := fun a ha => by
  obtain ⟨c, hc, rfl⟩ := List.mem_map.mp ha
  exact ⟨by simp, fun d hd => by rw [List.mem_singleton.mp hd]; exact h c hc, List.pairwise_singleton _ _, .inr rfl, by simp⟩
theorem isS_map {α : Type} {o : Option (List α)} {f : List α → List α} : (o.map f).isSome = o.isSome := by cases o <;> rfl
theorem gs_any : ∀ (a g : List Nat) (k j : Nat), (gs a g k).isSome = (gs a g j).isSome
  | [], g, k, j => by rw [gs_nil, gs_nil]
  | _ :: _, [], k, j => rfl
  | x :: r, y :: q, k, j => by
    unfold gs
    by_cases e : y = x
    · rw [if_pos e, if_pos e, isS_map, isS_map]
      exact gs_any r q (k + 1) (j + 1)
    · rw [if_neg e, if_neg e]
      exact gs_any (x :: r) q (k + 1) (j + 1)
theorem hold_ofW : ∀ (g a : List Nat), hold (ofW g) a = (gs a g 0).isSome
  | g, [] => by rw [hold_nil, gs_nil]; rfl
  | [], c :: w => rfl
  | x :: g, c :: w => by
    rw [hold_cons]
    show (match drp c (([x], false) :: ofW g) with | none => false | some bs => hold bs w) = _
    unfold drp gs
    by_cases e : c = x
    · subst e
      rw [if_pos (by simp), if_pos rfl, isS_map, gs_any w g (0 + 1) 0]
      exact hold_ofW g w
    · rw [if_neg (by simpa using e), if_neg (fun z => e z.symm), gs_any (c :: w) g (0 + 1) 0, ← hold_ofW g (c :: w), hold_cons]
/-! products in the heap -/
theorem Rp.bl {av : Addr → Prop} {H : Hp} {n : Nat} {v : V} {b : Bool} (h : Rp av H n v (.bl b)) : v = .bl b := by
  cases n with
  | zero =>
    cases v <;> first | cases h | skip
    rfl
  | succ n =>
    rcases h with h | ⟨_, _, _, _, z, _⟩ | ⟨_, _, _, _, z, _⟩
    · cases v <;> first | cases h | skip
      rfl
    · cases z
    · cases z
theorem rp_bl {av : Addr → Prop} {H : Hp} {n : Nat} {b : Bool} : Rp av H n (.bl b) (.bl b) := flatR_rp n rfl
theorem Rp.atom {av : Addr → Prop} {H : Hp} {n : Nat} {v : V} {a : Atm} (h : Rp av H (n + 1) v (atD a)) : ∃ p, v = .ref p ∧ ¬ av p ∧ H p = some (.tup [.str (tx a.1), .bl a.2]) := by
  obtain ⟨p, xs, rfl, na, hp, _, pp⟩ := h.tup
  rcases pp with _ | ⟨a1, pp⟩
  rcases pp with _ | ⟨a2, pp⟩
  cases pp
  rw [(Rp.str a1).1, Rp.bl a2] at hp
  exact ⟨p, rfl, na, hp⟩
theorem rp_atom {av : Addr → Prop} {H : Hp} {n : Nat} {p : Addr} {a : Atm} (na : ¬ av p) (as : ascii a.1) (hp : H p = some (.tup [.str (tx a.1), .bl a.2])) : Rp av H (n + 1) (.ref p) (atD a) :=
  rp_tup na hp (by show 2 < 100000; decide) (.cons (rp_str as) (.cons rp_bl .nil))
/-- a product's value, with its items -/
theorem Rp.prod {av : Addr → Prop} {H : Hp} {v : V} {as : List Atm} (h : Rp av H 2 v (prD as)) : ∃ p xs, v = .ref p ∧ ¬ av p ∧ H p = some (.tup xs) ∧ xs.length = as.length ∧ as.length < 100000 ∧ Paired (Rp av H 1) xs (as.map atD) := by
  obtain ⟨p, xs, rfl, na, hp, hl, pp⟩ := h.tup
  have := Paired.length pp
  rw [List.length_map] at this
  exact ⟨p, xs, rfl, na, hp, this, by omega, pp⟩
theorem prod_get {av : Addr → Prop} {H : Hp} {xs : List V} {as : List Atm} {i : Nat} {x : V} (pp : Paired (Rp av H 1) xs (as.map atD)) (hx : xs[i]? = some x) : ∃ a, as[i]? = some a ∧ ∃ p, x = .ref p ∧ ¬ av p ∧ H p = some (.tup [.str (tx a.1), .bl a.2]) := by
  have hl := Paired.length pp
  rw [List.length_map] at hl
  obtain ⟨l1, e1⟩ := List.getElem?_eq_some_iff.mp hx
  have l2 : i < as.length := by omega
  refine ⟨as[i], List.getElem?_eq_getElem l2, ?_⟩
  obtain ⟨y, hy, r⟩ := paired_rget (i := i) pp (by rw [List.getElem?_map, List.getElem?_eq_getElem l2]; rfl)
  rw [hx] at hy
  cases hy
  exact Rp.atom r
theorem eats_take {as : List Atm} {i : Nat} {a : Atm} (h : as[i]? = some a) (w : List Nat) : eats (as.take (i + 1)) w = eat a (eats (as.take i) w) := by
  unfold eats
  rw [List.take_add_one, h, List.foldl_append]
  rfl
theorem mem_of_get {α : Type} {xs : List α} {i : Nat} {x : α} (h : xs[i]? = some x) : x ∈ xs := List.mem_of_getElem? h
/-! letters sorted -/
theorem rising_le : ∀ (ds : List Nat) (p : Nat), risingS (sg p) (ds.map sg) = true → (p :: ds).Pairwise (· ≤ ·)
  | [], p, _ => List.pairwise_singleton _ _
  | x :: r, p, h => by
    have h' : (!ltCps [x] [p] && risingS (sg x) (r.map sg)) = true := h
    rw [Bool.and_eq_true] at h'
    have ih := rising_le r x h'.2
    have hx : p ≤ x := by
      have := h'.1
      by_cases lt : x < p
      · simp [ltCps, lt] at this
      · omega
    rw [List.pairwise_cons] at ih ⊢
    refine ⟨fun y hy => ?_, List.pairwise_cons.mpr ih⟩
    rcases List.mem_cons.mp hy with e | e
    · omega
    · exact Nat.le_trans hx (ih.1 y e)
theorem srt_letters {cs : List Nat} {ys : List Str} (p : ys.Perm (cs.map sg)) (h : sortedS ys = true) (nd : cs.Nodup) : ∃ ds : List Nat, ys = ds.map sg ∧ ds.Pairwise (· < ·) ∧ ds.length = cs.length ∧ ∀ c ∈ ds, c ∈ cs := by
  obtain ⟨ds, e⟩ : ∃ ds : List Nat, ys = ds.map sg := by
    refine ⟨ys.map fun y => y.cps.toList.headD 0, ?_⟩
    rw [List.map_map]
    refine ((List.map_congr_left (g := id) fun y hy => ?_).trans (List.map_id ys)).symm
    obtain ⟨c, _, rfl⟩ := List.mem_map.mp (p.subset hy)
    rfl
  subst e
  have pd : ds.Perm cs := by
    have := p.map fun y : Str => y.cps.toList.headD 0
    rw [List.map_map, List.map_map] at this
    simpa [Function.comp_def] using this
  have le : ds.Pairwise (· ≤ ·) := by
    cases ds with
    | nil => exact .nil
    | cons x r => exact rising_le r x h
  have nd' : ds.Pairwise (· ≠ ·) := pd.nodup_iff.mpr nd
  refine ⟨ds, rfl, (le.and nd').imp fun h => by omega, pd.length_eq, fun c hc => pd.subset hc⟩
end LB

namespace LB
open PySem PySem.Spec PyProof.Rows L2
/-! ### a product has with a word all that lie within it -/
theorem dw_mono (f : Nat → Bool) {v w : List Nat} (h : v.Sublist w) : (v.dropWhile f).Sublist (w.dropWhile f) := by
  induction h with
  | slnil => exact .slnil
  | @cons l1 l2 a h ih =>
    rw [List.dropWhile_cons]
    by_cases e : f a = true
    · rw [if_pos e]
      exact ih
    · rw [if_neg e]
      exact ((List.dropWhile_sublist f).trans h).trans (List.sublist_cons_self _ _)
  | @cons_cons l1 l2 a h ih =>
    rw [List.dropWhile_cons, List.dropWhile_cons]
    by_cases e : f a = true
    · rw [if_pos e, if_pos e]
      exact ih
    · rw [if_neg e, if_neg e]
      exact h.cons_cons a
theorem eat_sub (a : Atm) (w : List Nat) : (eat a w).Sublist w := by
  unfold eat
  by_cases e : a.2 = true
  · rw [if_pos e]
    exact List.dropWhile_sublist _
  · rw [if_neg e]
    cases w with
    | nil => exact .slnil
    | cons c r =>
      show (if [c] = a.1 then r else c :: r).Sublist _
      by_cases h : [c] = a.1
      · rw [if_pos h]
        exact List.sublist_cons_self _ _
      · rw [if_neg h]
        exact List.Sublist.refl _
theorem eat_mono (a : Atm) {v w : List Nat} (h : v.Sublist w) : (eat a v).Sublist (eat a w) := by
  by_cases e : a.2 = true
  · unfold eat
    rw [if_pos e, if_pos e]
    exact dw_mono _ h
  · cases w with
    | nil =>
      rw [List.sublist_nil.mp h]
      exact List.Sublist.refl _
    | cons d w =>
      have ed : eat a (d :: w) = if [d] = a.1 then w else d :: w := by
        unfold eat
        rw [if_neg e]
      by_cases hd : [d] = a.1
      · rw [ed, if_pos hd]
        cases v with
        | nil =>
          have : eat a [] = [] := by
            unfold eat
            rw [if_neg e]
          rw [this]
          exact List.nil_sublist _
        | cons c v =>
          have ec : eat a (c :: v) = if [c] = a.1 then v else c :: v := by
            unfold eat
            rw [if_neg e]
          rw [ec]
          by_cases hc : [c] = a.1
          · rw [if_pos hc]
            rcases List.sublist_cons_iff.mp h with h | ⟨r, e1, h⟩
            · exact (List.sublist_cons_self _ _).trans h
            · cases e1
              exact h
          · rw [if_neg hc]
            rcases List.sublist_cons_iff.mp h with h | ⟨r, e1, h⟩
            · exact h
            · cases e1
              exact absurd hd hc
      · rw [ed, if_neg hd]
        exact (eat_sub a v).trans h
theorem hold_mono : ∀ {as : List Atm}, (∀ a ∈ as, AtOk a) → ∀ {v w : List Nat}, v.Sublist w → hold as w = true → hold as v = true
  | [], _, v, w, h, e => by
    cases w with
    | nil =>
      rw [List.sublist_nil.mp h]
      rfl
    | cons c r => cases e
  | a :: r, ok, v, w, h, e => by
    rw [hold_eat (ok a (by simp))] at e ⊢
    exact hold_mono (fun x hx => ok x (by simp [hx])) (eat_mono a h) e
/-! ### a word that decides -/
def rep (n : Nat) (l : List Nat) : List Nat := (List.replicate n l).flatten
theorem rep_succ (n : Nat) (l : List Nat) : rep (n + 1) l = l ++ rep n l := by
  unfold rep
  rw [List.replicate_succ, List.flatten_cons]
theorem rep_le {l : List Nat} : ∀ {m n : Nat}, m ≤ n → (rep m l).Sublist (rep n l)
  | 0, n, _ => List.nil_sublist _
  | m + 1, 0, h => absurd h (by omega)
  | m + 1, n + 1, h => by
    rw [rep_succ, rep_succ]
    exact (List.Sublist.refl l).append (rep_le (by omega))
def chk (n : Nat) (a : Atm) : List Nat := rep (1 + n * (if a.2 = true then 1 else 0)) a.1
theorem chk_many {n : Nat} {a : Atm} (e : a.2 = true) : chk n a = a.1 ++ rep n a.1 := by
  unfold chk
  rw [if_pos e, Nat.mul_one, Nat.add_comm, rep_succ]
theorem chk_one {n : Nat} {a : Atm} (e : a.2 = false) : chk n a = a.1 := by
  unfold chk
  rw [if_neg (by rw [e]; exact Bool.false_ne_true), Nat.mul_zero, rep_succ]
  show a.1 ++ [] = _
  rw [List.append_nil]
def lng (n : Nat) (as : List Atm) : List Nat := as.flatMap (chk n)
theorem lng_cons (n : Nat) (a : Atm) (r : List Atm) : lng n (a :: r) = chk n a ++ lng n r := rfl
theorem chk_le {a : Atm} {m n : Nat} (h : m ≤ n) : (chk m a).Sublist (chk n a) := by
  by_cases e : a.2 = true
  · rw [chk_many e, chk_many e]
    exact (List.Sublist.refl _).append (rep_le h)
  · rw [Bool.not_eq_true] at e
    rw [chk_one e, chk_one e]
    exact List.Sublist.refl _
theorem lng_le {m n : Nat} (h : m ≤ n) : ∀ as : List Atm, (lng m as).Sublist (lng n as)
  | [] => .slnil
  | a :: r => by
    rw [lng_cons, lng_cons]
    exact (chk_le h).append (lng_le h r)
/-- whether the great atom is many and has all letters of the small one -/
def tk (g s : Atm) : Bool := g.2 && s.1.all fun c => decide (c ∈ g.1)
theorem tk_iff {g s : Atm} : tk g s = true ↔ g.2 = true ∧ ∀ c ∈ s.1, c ∈ g.1 := by
  unfold tk
  rw [Bool.and_eq_true, List.all_eq_true]
  simp
def eatP (a : Atm) (one : List Atm) : List Atm := if a.2 = true then one.dropWhile (tk a) else match one with
  | [] => []
  | x :: r => if x = a then r else x :: r
def eatsP (other one : List Atm) : List Atm := other.foldl (fun o a => eatP a o) one
def insB (one other : List Atm) : Bool := decide (eatsP other one = [])
theorem eatP_mem {a : Atm} {one : List Atm} {x : Atm} (h : x ∈ eatP a one) : x ∈ one := by
  unfold eatP at h
  by_cases e : a.2 = true
  · rw [if_pos e] at h
    exact (List.dropWhile_sublist _).subset h
  · rw [if_neg e] at h
    cases one with
    | nil => cases h
    | cons y r =>
      have h' : x ∈ (if y = a then r else y :: r) := h
      by_cases c : y = a
      · rw [if_pos c] at h'
        exact List.mem_cons_of_mem _ h'
      · rw [if_neg c] at h'
        exact h'
theorem dw_all (f : Nat → Bool) : ∀ (l z : List Nat), (∀ c ∈ l, f c = true) → (l ++ z).dropWhile f = z.dropWhile f
  | [], z, _ => rfl
  | c :: l, z, h => by
    rw [List.cons_append, List.dropWhile_cons, if_pos (h c (by simp))]
    exact dw_all f l z fun d hd => h d (by simp [hd])
theorem dw_some (f : Nat → Bool) : ∀ (l z : List Nat), (∃ c ∈ l, f c = false) → (l ++ z).dropWhile f = l.dropWhile f ++ z
  | [], z, h => by
    obtain ⟨c, hc, _⟩ := h
    cases hc
  | c :: l, z, h => by
    rw [List.cons_append, List.dropWhile_cons, List.dropWhile_cons]
    by_cases e : f c = true
    · rw [if_pos e, if_pos e]
      refine dw_some f l z ?_
      obtain ⟨d, hd, e2⟩ := h
      rcases List.mem_cons.mp hd with z | z
      · rw [z, e] at e2
        cases e2
      · exact ⟨d, z, e2⟩
    · rw [if_neg e, if_neg e]
      rfl
theorem mem_rep {c : Nat} {l : List Nat} : ∀ {n : Nat}, c ∈ rep n l → c ∈ l
  | 0, h => by cases h
  | n + 1, h => by
    rw [rep_succ, List.mem_append] at h
    rcases h with h | h
    · exact h
    · exact mem_rep h
/-- what an atom leaves of the word that decides lies between two such words of what it leaves of the product -/
theorem eat_lng {a : Atm} (oka : AtOk a) {n : Nat} (hn : 0 < n) : ∀ (one : List Atm), (∀ x ∈ one, AtOk x) →
    (lng (n - 1) (eatP a one)).Sublist (eat a (lng n one)) ∧ (eat a (lng n one)).Sublist (lng n (eatP a one)) := by
  by_cases ea : a.2 = true
  · have e1 : ∀ w, eat a w = w.dropWhile (fun c => decide (c ∈ a.1)) := fun w => by
      unfold eat
      rw [if_pos ea]
    have e2 : ∀ o, eatP a o = o.dropWhile (tk a) := fun o => by
      unfold eatP
      rw [if_pos ea]
    intro one
    induction one with
    | nil =>
      intro _
      rw [e1, e2]
      exact ⟨.slnil, .slnil⟩
    | cons y r ih =>
      intro ok
      rw [e1, e2, lng_cons, List.dropWhile_cons]
      by_cases t : tk a y = true
      · rw [if_pos t, dw_all]
        · have := ih fun x hx => ok x (by simp [hx])
          rw [e1, e2] at this
          exact this
        · intro c hc
          exact decide_eq_true ((tk_iff.mp t).2 c (mem_rep hc))
      · rw [if_neg t]
        have hy : ∃ c ∈ y.1, decide (c ∈ a.1) = false := by
          by_cases h : ∃ c ∈ y.1, decide (c ∈ a.1) = false
          · exact h
          · refine absurd (tk_iff.mpr ⟨ea, fun c hc => ?_⟩) t
            by_cases m : c ∈ a.1
            · exact m
            · exact absurd ⟨c, hc, decide_eq_false m⟩ h
        by_cases ey : y.2 = true
        · rw [chk_many ey, List.append_assoc, dw_some _ _ _ hy]
          refine ⟨?_, ?_⟩
          · rw [lng_cons, chk_many ey, ← rep_succ, show n - 1 + 1 = n by omega]
            exact ((List.Sublist.refl _).append (lng_le (by omega) r)).trans (List.sublist_append_right _ _)
          · rw [lng_cons, chk_many ey, List.append_assoc]
            exact (List.dropWhile_sublist _).append (List.Sublist.refl _)
        · rw [Bool.not_eq_true] at ey
          obtain ⟨x, hx⟩ := (ok y (by simp)).single ey
          rw [chk_one ey, dw_some _ _ _ hy, lng_cons, lng_cons, chk_one ey, chk_one ey]
          have e3 : y.1.dropWhile (fun c => decide (c ∈ a.1)) = y.1 := by
            obtain ⟨c, hc, hf⟩ := hy
            rw [hx] at hc ⊢
            rw [List.mem_singleton.mp hc] at hf
            rw [List.dropWhile_cons, if_neg (by rw [hf]; exact Bool.false_ne_true)]
          rw [e3]
          exact ⟨(List.Sublist.refl _).append (lng_le (by omega) r), List.Sublist.refl _⟩
  · rw [Bool.not_eq_true] at ea
    obtain ⟨x, hx⟩ := oka.single ea
    intro one ok
    cases one with
    | nil =>
      have : eatP a [] = [] := by
        unfold eatP
        rw [if_neg (by rw [ea]; exact Bool.false_ne_true)]
      rw [this]
      have : eat a (lng n []) = [] := by
        unfold eat
        rw [if_neg (by rw [ea]; exact Bool.false_ne_true)]
        rfl
      rw [this]
      exact ⟨.slnil, .slnil⟩
    | cons y r =>
      have oky := ok y (by simp)
      obtain ⟨c, t, hy⟩ : ∃ c t, y.1 = c :: t := by
        cases h : y.1 with
        | nil => exact absurd h oky.ne
        | cons c t => exact ⟨c, t, rfl⟩
      have el : ∃ z, chk n y ++ lng n r = c :: z := by
        by_cases ey : y.2 = true
        · rw [chk_many ey, hy]
          exact ⟨_, rfl⟩
        · rw [Bool.not_eq_true] at ey
          rw [chk_one ey, hy]
          exact ⟨_, rfl⟩
      obtain ⟨z, hz⟩ := el
      have e1 : eat a (lng n (y :: r)) = if [c] = a.1 then z else c :: z := by
        rw [lng_cons, hz]
        unfold eat
        rw [if_neg (by rw [ea]; exact Bool.false_ne_true)]
      have e2 : eatP a (y :: r) = if y = a then r else y :: r := by
        unfold eatP
        rw [if_neg (by rw [ea]; exact Bool.false_ne_true)]
      rw [e1, e2]
      by_cases hya : y = a
      · rw [if_pos hya]
        subst hya
        rw [hx] at hy
        cases hy
        rw [if_pos hx.symm]
        rw [chk_one ea, hx] at hz
        have : lng n r = z := by
          injection hz
        rw [← this]
        exact ⟨lng_le (by omega) r, List.Sublist.refl _⟩
      · rw [if_neg hya]
        by_cases hc : [c] = a.1
        · rw [if_pos hc]
          have ey : y.2 = true := by
            rcases oky.one with h | h
            · exact h
            · refine Classical.byContradiction fun h2 => hya ?_
              rw [Bool.not_eq_true] at h2
              obtain ⟨u, hu⟩ := List.length_eq_one_iff.mp h
              rw [hy] at hu
              injection hu with hu1 hu2
              refine Prod.ext ?_ (h2.trans ea.symm)
              rw [hy, hu2]
              exact hc
          rw [lng_cons, lng_cons, hz]
          refine ⟨?_, List.sublist_cons_self _ _⟩
          rw [chk_many ey, ← rep_succ, show n - 1 + 1 = n by omega]
          have hz2 : t ++ (rep n y.1 ++ lng n r) = z := by
            rw [chk_many ey, hy] at hz
            rw [hy]
            simpa using hz
          rw [← hz2]
          exact ((List.Sublist.refl _).append (lng_le (by omega) r)).trans (List.sublist_append_right _ _)
        · rw [if_neg hc, lng_cons, lng_cons, hz]
          refine ⟨?_, List.Sublist.refl _⟩
          rw [← hz]
          exact (chk_le (by omega)).append (lng_le (by omega) r)
theorem lng_nil {n : Nat} {one : List Atm} (ok : ∀ x ∈ one, AtOk x) : lng n one = [] ↔ one = [] := by
  constructor
  · intro h
    cases one with
    | nil => rfl
    | cons y r =>
      rw [lng_cons] at h
      have h1 := (List.append_eq_nil_iff.mp h).1
      unfold chk at h1
      rw [Nat.add_comm, rep_succ] at h1
      exact absurd (List.append_eq_nil_iff.mp h1).1 (ok y (by simp)).ne
  · rintro rfl
    rfl
theorem ins_hold : ∀ {other : List Atm}, (∀ a ∈ other, AtOk a) → ∀ {n : Nat}, other.length ≤ n → ∀ {one : List Atm}, (∀ x ∈ one, AtOk x) → hold other (lng n one) = insB one other
  | [], _, n, _, one, ok => by
    unfold insB
    show hold [] (lng n one) = decide (one = [])
    by_cases h : one = []
    · rw [decide_eq_true h, (lng_nil ok).mpr h]
      rfl
    · rw [decide_eq_false h]
      cases e : lng n one with
      | nil => exact absurd ((lng_nil ok).mp e) h
      | cons c r => rfl
  | a :: r, oko, n, hn, one, ok => by
    have hn' : r.length + 1 ≤ n := by simpa using hn
    have okr : ∀ x ∈ r, AtOk x := fun x hx => oko x (by simp [hx])
    have okp : ∀ x ∈ eatP a one, AtOk x := fun x hx => ok x (eatP_mem hx)
    rw [hold_eat (oko a (by simp))]
    have e : insB one (a :: r) = insB (eatP a one) r := rfl
    obtain ⟨h1, h2⟩ := eat_lng (oko a (by simp)) (show 0 < n by omega) one ok
    have g1 := ins_hold okr (n := n - 1) (by omega) okp
    have g2 := ins_hold okr (n := n) (by omega) okp
    rw [e]
    cases hb : insB (eatP a one) r with
    | true =>
      rw [hb] at g2
      exact hold_mono okr h2 g2
    | false =>
      rw [hb] at g1
      cases hh : hold r (eat a (lng n one)) with
      | false => rfl
      | true =>
        rw [hold_mono okr h1 hh] at g1
        cases g1
/-! the words of a product lie within words that decide -/
theorem sub_rep {l : List Nat} : ∀ {v : List Nat}, (∀ c ∈ v, c ∈ l) → v.Sublist (rep v.length l)
  | [], _ => .slnil
  | c :: v, h => by
    rw [List.length_cons, rep_succ]
    exact (List.singleton_sublist.mpr (h c (by simp))).append (sub_rep fun d hd => h d (by simp [hd]))
theorem tw_all {f : Nat → Bool} : ∀ {l : List Nat} {c : Nat}, c ∈ l.takeWhile f → f c = true
  | [], _, h => by cases h
  | x :: l, c, h => by
    rw [List.takeWhile_cons] at h
    by_cases e : f x = true
    · rw [if_pos e] at h
      rcases List.mem_cons.mp h with z | z
      · rw [z]
        exact e
      · exact tw_all z
    · rw [if_neg e] at h
      cases h
theorem hold_sub : ∀ {one : List Atm}, (∀ x ∈ one, AtOk x) → ∀ {w : List Nat} {m : Nat}, w.length ≤ m → hold one w = true → w.Sublist (lng m one)
  | [], _, w, m, _, h => by
    cases w with
    | nil => exact .slnil
    | cons c r => cases h
  | a :: r, ok, w, m, hm, h => by
    rw [hold_eat (ok a (by simp))] at h
    have okr : ∀ x ∈ r, AtOk x := fun x hx => ok x (by simp [hx])
    have ih := hold_sub okr (Nat.le_trans (eat_sub a w).length_le hm) h
    rw [lng_cons]
    obtain ⟨p, e, hp⟩ : ∃ p, w = p ++ eat a w ∧ p.Sublist (chk m a) := by
      by_cases ea : a.2 = true
      · refine ⟨w.takeWhile (fun c => decide (c ∈ a.1)), ?_, ?_⟩
        · unfold eat
          rw [if_pos ea, List.takeWhile_append_dropWhile]
        · rw [chk_many ea, ← rep_succ]
          refine (sub_rep fun c hc => ?_).trans (rep_le ?_)
          · exact of_decide_eq_true (tw_all (f := fun c => decide (c ∈ a.1)) hc)
          · have := (List.takeWhile_sublist (l := w) (fun c => decide (c ∈ a.1))).length_le
            omega
      · cases w with
        | nil => exact ⟨[], by unfold eat; rw [if_neg ea]; rfl, List.nil_sublist _⟩
        | cons c w =>
          by_cases hc : [c] = a.1
          · refine ⟨[c], ?_, ?_⟩
            · unfold eat
              rw [if_neg ea]
              show c :: w = [c] ++ (if [c] = a.1 then w else c :: w)
              rw [if_pos hc]
              rfl
            · rw [Bool.not_eq_true] at ea
              rw [chk_one ea, hc]
              exact List.Sublist.refl _
          · refine ⟨[], ?_, List.nil_sublist _⟩
            unfold eat
            rw [if_neg ea]
            show c :: w = (if [c] = a.1 then w else c :: w)
            rw [if_neg hc]
    rw [e]
    exact hp.append ih
theorem ins_word {one other : List Atm} (ok1 : ∀ x ∈ one, AtOk x) (ok2 : ∀ x ∈ other, AtOk x) (h : insB one other = true) {w : List Nat} (hw : hold one w = true) : hold other w = true := by
  have e := ins_hold ok2 (n := max other.length w.length) (Nat.le_max_left _ _) ok1
  rw [h] at e
  exact hold_mono ok2 (hold_sub ok1 (Nat.le_max_right _ _) hw) e
/-- and the other way round -/
theorem word_ins {one other : List Atm} (ok1 : ∀ x ∈ one, AtOk x) (ok2 : ∀ x ∈ other, AtOk x) (h : ∀ w, hold one w = true → hold other w = true) : insB one other = true := by
  rw [← ins_hold ok2 (Nat.le_refl _) ok1]
  refine h _ ?_
  have go : ∀ (n : Nat) {as : List Atm}, (∀ x ∈ as, AtOk x) → hold as (lng n as) = true := fun n as => by
    induction as with
    | nil => exact fun _ => rfl
    | cons a r ih =>
      intro ok
      rw [hold_eat (ok a (by simp)), lng_cons]
      have okr : ∀ x ∈ r, AtOk x := fun x hx => ok x (by simp [hx])
      refine hold_mono okr ?_ (ih okr)
      by_cases ea : a.2 = true
      · unfold eat
        rw [if_pos ea, dw_all]
        · exact List.dropWhile_sublist _
        · exact fun c hc => decide_eq_true (mem_rep hc)
      · have ea' := ea
        rw [Bool.not_eq_true] at ea'
        obtain ⟨x, hx⟩ := (ok a (by simp)).single ea'
        rw [chk_one ea', hx]
        unfold eat
        rw [if_neg ea]
        show (if [x] = a.1 then lng n r else _).Sublist _
        rw [if_pos hx.symm]
        exact List.Sublist.refl _
  exact go _ ok1
/-! ### products as data; slices and sums of them -/
def dA (a : Atm) : PyData := .tuple [.str (tx a.1), .bool a.2]
theorem dA_eqv (a b : Atm) : PyData.eqv (dA a) (dA b) = decide (a = b) := by
  obtain ⟨l, m⟩ := a
  obtain ⟨l', m'⟩ := b
  show ((tx l == tx l') && ((m == m') && true)) = _
  by_cases h1 : l = l'
  · subst h1
    by_cases h2 : m = m'
    · subst h2
      simp
    · simp [h2]
  · have : (tx l == tx l') = false := by
      rw [beq_eq_false_iff_ne]
      intro z
      exact h1 (by simpa using congrArg (fun z => z.cps.toList) z)
    rw [this]
    simp [h1]
theorem dA_lay {a : Atm} (h : ascii a.1) : PyData.canLay0 (dA a) = true := by
  show (PyData.canLay0 (.str (tx a.1)) && (PyData.canLay0 (.bool a.2) && true)) = true
  rw [show PyData.canLay0 (.str (tx a.1)) = true from strOk_tx h]
  rfl
theorem dA_one_shaped {a : Atm} (h : ascii a.1) : SeqAt.shaped (.tuple [dA a]) = true := by
  unfold SeqAt.shaped
  rw [show PyData.canLay0 (.tuple [dA a]) = (PyData.canLay0 (dA a) && true) from rfl, dA_lay h]
  rfl
theorem cutV_one (xs : List V) (k : Nat) : cutV xs (some (k : Int)) (some ((k : Int) + 1)) = (xs.drop k).take 1 := by
  unfold cutV
  rw [HT.sIx_nat, show (k : Int) + 1 = ((k + 1 : Nat) : Int) by omega, HT.sIx_nat]
  by_cases h : k < xs.length
  · rw [Nat.min_eq_left (by omega), Nat.min_eq_left (by omega), show k + 1 - k = 1 by omega]
  · rw [Nat.min_eq_right (by omega), Nat.min_eq_right (by omega), Nat.sub_self, List.drop_of_length_le (by omega), List.drop_of_length_le (by omega), List.take_nil, List.take_nil]
theorem cutV_whole {xs : List V} {lo hi : Option Int} (h : HT.sIx xs.length 0 lo = 0 ∧ HT.sIx xs.length xs.length hi = xs.length) : cutV xs lo hi = xs := by
  unfold cutV
  rw [h.1, h.2, List.drop_zero, Nat.sub_zero, List.take_length]
theorem slA_of {K : PySem.W.Frag} {H : Hp} {p : Addr} {xs : List V} {lo hi : Option Int} {Q : VK} (hp : H p = some (.tup xs)) (q : ∀ H' z, Same H H' → (z = p ∨ H z = none) → H' z = some (.tup (cutV xs lo hi)) → Q (.ref z) H') : rSlA K (.ref p) lo hi H Q :=
  ⟨p, xs, rfl, .of hp, fun hw => q H p (.refl H) (.inl rfl) (by rw [cutV_whole hw]; exact hp), fun _ z nz => q _ z (same_new nz) (.inr nz) upd_same⟩
theorem catA_of {K : PySem.W.Frag} {H : Hp} {a c : Addr} {xs ys : List V} {Q : VK} (ha : H a = some (.tup xs)) (hc : H c = some (.tup ys)) (hz : xs.length + ys.length ≤ sizeLine)
    (q : ∀ H' z, Same H H' → (z = a ∨ z = c ∨ H z = none) → H' z = some (.tup (xs ++ ys)) → Q (.ref z) H') : rCatA K (.ref a) (.ref c) H Q := by
  refine ⟨a, c, xs, ys, rfl, rfl, .of ha, .of hc, hz, fun e => ?_, fun _ e => ?_, fun _ _ z nz => q _ z (same_new nz) (.inr (.inr nz)) upd_same⟩
  · subst e
    exact q H c (.refl H) (.inr (.inl rfl)) hc
  · subst e
    exact q H a (.refl H) (.inl rfl) (by rw [List.append_nil]; exact ha)
theorem paired_take {α β : Type} {F : α → β → Prop} : ∀ {xs : List α} {ys : List β} (k : Nat), Paired F xs ys → Paired F (xs.take k) (ys.take k)
  | _, _, 0, _ => by rw [List.take_zero, List.take_zero]; exact .nil
  | _, _, _ + 1, .nil => .nil
  | _, _, k + 1, .cons r p => .cons r (paired_take k p)
theorem paired_drop {α β : Type} {F : α → β → Prop} : ∀ {xs : List α} {ys : List β} (k : Nat), Paired F xs ys → Paired F (xs.drop k) (ys.drop k)
  | _, _, 0, p => p
  | _, _, _ + 1, .nil => .nil
  | _, _, k + 1, .cons r p => paired_drop k p
theorem paired_cat {α β : Type} {F : α → β → Prop} {us : List α} {ws : List β} (q : Paired F us ws) : ∀ {xs : List α} {ys : List β}, Paired F xs ys → Paired F (xs ++ us) (ys ++ ws)
  | _, _, .nil => q
  | _, _, .cons r p => .cons r (paired_cat q p)
theorem paired_rev {α β : Type} {F : α → β → Prop} : ∀ {xs : List α} {ys : List β}, Paired F xs ys → Paired F xs.reverse ys.reverse
  | _, _, .nil => .nil
  | _, _, .cons r p => by
    rw [List.reverse_cons, List.reverse_cons]
    exact paired_cat (.cons r .nil) (paired_rev p)
section
variable {b s : Addr} {H : Hp} {K : PySem.W.Frag} {v v' : V} {as bs : List Atm} {Q : VK}
abbrev nB (b : Addr) : Addr → Prop := fun a => a = b
theorem rp_take (hB : Bag b s H) (rp : Rp (nB b) H 2 v (prD as)) {k : Int} (hk : 0 ≤ k) (q : ∀ H' u, Same H H' → Rp (nB b) H' 2 u (prD (as.take k.toNat)) → Q u H') : rSlA K v none (some k) H Q := by
  obtain ⟨p, xs, rfl, na, hp, hl, l1, pp⟩ := rp.prod
  refine slA_of hp fun H' z sm hz hc => q H' _ sm ?_
  obtain ⟨n, rfl⟩ := Int.eq_ofNat_of_zero_le hk
  rw [cut_take] at hc
  refine rp_tup ?_ hc (by rw [List.length_take]; omega) ?_
  · rcases hz with rfl | hz
    · exact na
    · exact hB.nb hz
  · unfold prD at *
    rw [List.map_take]
    exact Paired.mapP (paired_take n pp) fun _ _ r => r.mv (Same.kp sm)
theorem cut_dropV (xs : List V) (k : Nat) : cutV xs (some (k : Int)) none = xs.drop k := by
  unfold cutV
  rw [HT.sIx_nat, HT.sIx_none]
  by_cases h : k ≤ xs.length
  · rw [Nat.min_eq_left h]
    exact List.take_of_length_le (by rw [List.length_drop]; omega)
  · rw [Nat.min_eq_right (by omega), List.drop_of_length_le (Nat.le_refl _), List.drop_of_length_le (by omega), List.take_nil]
theorem rp_drop (hB : Bag b s H) (rp : Rp (nB b) H 2 v (prD as)) {k : Int} (hk : 0 ≤ k) (q : ∀ H' u, Same H H' → Rp (nB b) H' 2 u (prD (as.drop k.toNat)) → Q u H') : rSlA K v (some k) none H Q := by
  obtain ⟨p, xs, rfl, na, hp, hl, l1, pp⟩ := rp.prod
  refine slA_of hp fun H' z sm hz hc => q H' _ sm ?_
  obtain ⟨n, rfl⟩ := Int.eq_ofNat_of_zero_le hk
  rw [cut_dropV] at hc
  refine rp_tup ?_ hc (by rw [List.length_drop]; omega) ?_
  · rcases hz with rfl | hz
    · exact na
    · exact hB.nb hz
  · unfold prD at *
    rw [List.map_drop]
    exact Paired.mapP (paired_drop n pp) fun _ _ r => r.mv (Same.kp sm)
theorem rp_cat (hB : Bag b s H) (rp : Rp (nB b) H 2 v (prD as)) (rq : Rp (nB b) H 2 v' (prD bs)) (hz : as.length + bs.length < 10000) (q : ∀ H' u, Same H H' → Rp (nB b) H' 2 u (prD (as ++ bs)) → Q u H') : rCatA K v v' H Q := by
  obtain ⟨p, xs, rfl, na, hp, hl, l1, pp⟩ := rp.prod
  obtain ⟨p', xs', rfl, na', hp', hl', l1', pp'⟩ := rq.prod
  refine catA_of hp hp' (by rw [sizeLine_eq]; omega) fun H' z sm hz hc => q H' _ sm ?_
  refine rp_tup ?_ hc (by rw [List.length_append]; omega) ?_
  · rcases hz with rfl | rfl | hz
    · exact na
    · exact na'
    · exact hB.nb hz
  · unfold prD at *
    rw [List.map_append]
    exact Paired.mapP (paired_cat pp' pp) fun _ _ r => r.mv (Same.kp sm)
end
end LB

namespace LB
open PySem PySem.Spec PyProof.Rows L2
/-! ### made plain: the last one kept first -/
def pushR (R : List Atm) (a : Atm) : List Atm := match R.dropWhile (tk a) with
  | [] => [a]
  | t :: r => if tk t a = true then t :: r else a :: t :: r
def mpR (as : List Atm) : List Atm := as.foldl pushR []
def mp (as : List Atm) : List Atm := (mpR as).reverse
def Adj (as : List Atm) : Prop := ∀ i x y, as[i]? = some x → as[i + 1]? = some y → tk y x = false ∧ tk x y = false
theorem tk_self {a : Atm} (h : a.2 = true) : tk a a = true := tk_iff.mpr ⟨h, fun _ h => h⟩
theorem tk_many {a b : Atm} (h : tk a b = true) : a.2 = true := (tk_iff.mp h).1
theorem dwA_head {f : Atm → Bool} : ∀ {l : List Atm} {t : Atm} {r : List Atm}, l.dropWhile f = t :: r → f t = false
  | [], _, _, h => by cases h
  | x :: l, t, r, h => by
    rw [List.dropWhile_cons] at h
    by_cases e : f x = true
    · rw [if_pos e] at h
      exact dwA_head h
    · rw [if_neg e] at h
      cases h
      exact Bool.not_eq_true _ ▸ e
theorem dwA_stay {f : Atm → Bool} {t : Atm} {r : List Atm} (h : f t = false) : (t :: r).dropWhile f = t :: r := by
  rw [List.dropWhile_cons, if_neg (by rw [h]; exact Bool.false_ne_true)]
theorem dwA_idem (f : Atm → Bool) (l : List Atm) : (l.dropWhile f).dropWhile f = l.dropWhile f := by
  cases e : l.dropWhile f with
  | nil => rfl
  | cons t r => exact dwA_stay (dwA_head e)
/-- the three ways in which a push ends -/
theorem push_cases (R : List Atm) (a : Atm) : (R.dropWhile (tk a) = [] ∧ pushR R a = [a]) ∨ (∃ t r, R.dropWhile (tk a) = t :: r ∧ tk a t = false ∧ tk t a = true ∧ pushR R a = t :: r) ∨
    ∃ t r, R.dropWhile (tk a) = t :: r ∧ tk a t = false ∧ tk t a = false ∧ pushR R a = a :: t :: r := by
  unfold pushR
  cases e : R.dropWhile (tk a) with
  | nil => exact .inl ⟨rfl, rfl⟩
  | cons t r =>
    have h := dwA_head e
    cases ht : tk t a with
    | true => exact .inr (.inl ⟨t, r, rfl, h, ht, if_pos ht⟩)
    | false => exact .inr (.inr ⟨t, r, rfl, h, ht, if_neg (by rw [ht]; exact Bool.false_ne_true)⟩)
theorem push_mem {R : List Atm} {a x : Atm} (h : x ∈ pushR R a) : x = a ∨ x ∈ R := by
  have sub : ∀ y, y ∈ R.dropWhile (tk a) → y ∈ R := fun y hy => (List.dropWhile_sublist _).subset hy
  rcases push_cases R a with ⟨_, e⟩ | ⟨t, r, e, _, _, e2⟩ | ⟨t, r, e, _, _, e2⟩
  · rw [e] at h
    exact .inl (List.mem_singleton.mp h)
  · rw [e2, ← e] at h
    exact .inr (sub x h)
  · rw [e2, ← e] at h
    rcases List.mem_cons.mp h with h | h
    · exact .inl h
    · exact .inr (sub x h)
theorem foldR_mem : ∀ {as R : List Atm} {x : Atm}, x ∈ as.foldl pushR R → x ∈ as ∨ x ∈ R
  | [], R, x, h => .inr h
  | a :: as, R, x, h => by
    rcases foldR_mem (as := as) h with h | h
    · exact .inl (List.mem_cons_of_mem _ h)
    · rcases push_mem h with h | h
      · exact .inl (by rw [h]; simp)
      · exact .inr h
theorem mp_mem {as : List Atm} {x : Atm} (h : x ∈ mp as) : x ∈ as := by
  rcases foldR_mem (List.mem_reverse.mp h) with h | h
  · exact h
  · cases h
theorem push_len (R : List Atm) (a : Atm) : (pushR R a).length ≤ R.length + 1 := by
  have := (List.dropWhile_sublist (tk a) (l := R)).length_le
  rcases push_cases R a with ⟨_, e⟩ | ⟨t, r, e, _, _, e2⟩ | ⟨t, r, e, _, _, e2⟩
  · rw [e]
    simp
  · rw [e2, ← e]
    omega
  · rw [e2, ← e, List.length_cons]
    omega
theorem foldR_len : ∀ (as R : List Atm), (as.foldl pushR R).length ≤ R.length + as.length
  | [], R => Nat.le_refl _
  | a :: as, R => by
    have h1 := foldR_len as (pushR R a)
    have h2 := push_len R a
    rw [List.foldl_cons, List.length_cons]
    omega
theorem mp_len (as : List Atm) : (mp as).length ≤ as.length := by
  unfold mp mpR
  rw [List.length_reverse]
  have := foldR_len as []
  simpa using this
/-! neighbours -/
theorem Adj.tail {a : Atm} {r : List Atm} (h : Adj (a :: r)) : Adj r := fun i x y h1 h2 => h (i + 1) x y (by simpa using h1) (by simpa using h2)
theorem Adj.dropW {f : Atm → Bool} : ∀ {l : List Atm}, Adj l → Adj (l.dropWhile f)
  | [], h => h
  | a :: l, h => by
    rw [List.dropWhile_cons]
    by_cases e : f a = true
    · rw [if_pos e]
      exact Adj.dropW h.tail
    · rw [if_neg e]
      exact h
theorem Adj.push {R : List Atm} {a : Atm} (h : Adj R) : Adj (pushR R a) := by
  have hd := h.dropW (f := tk a)
  rcases push_cases R a with ⟨_, e⟩ | ⟨t, r, e, _, _, e2⟩ | ⟨t, r, e, h1, h2, e2⟩
  · rw [e]
    intro i x y h1 h2
    simp at h2
  · rw [e2, ← e]
    exact hd
  · rw [e2]
    rw [e] at hd
    intro i x y g1 g2
    cases i with
    | zero =>
      simp at g1 g2
      subst g1 g2
      exact ⟨h2, h1⟩
    | succ i => exact hd i x y (by simpa using g1) (by simpa using g2)
theorem Adj.fold : ∀ {as R : List Atm}, Adj R → Adj (as.foldl pushR R)
  | [], _, h => h
  | a :: as, _, h => Adj.fold (as := as) h.push
theorem Adj.rev {R : List Atm} (h : Adj R) : Adj R.reverse := fun i x y h1 h2 => by
  have l2 : i + 1 < R.length := by
    have := (List.getElem?_eq_some_iff.mp h2).1
    simpa using this
  rw [List.getElem?_reverse (by omega)] at h1
  rw [List.getElem?_reverse (by omega)] at h2
  have := h (R.length - 1 - (i + 1)) y x h2 (by rw [show R.length - 1 - (i + 1) + 1 = R.length - 1 - i by omega]; exact h1)
  exact ⟨this.2, this.1⟩
theorem mp_adj (as : List Atm) : Adj (mp as) := by
  have h0 : Adj [] := fun i x y h _ => by simp at h
  exact (Adj.fold (as := as) h0).rev
theorem push_adj {R : List Atm} {a : Atm} (h : ∀ t r, R = t :: r → tk a t = false ∧ tk t a = false) : pushR R a = a :: R := by
  cases R with
  | nil => rfl
  | cons t r =>
    obtain ⟨h1, h2⟩ := h t r rfl
    unfold pushR
    rw [dwA_stay h1]
    exact if_neg (by rw [h2]; exact Bool.false_ne_true)
theorem fold_adj {as : List Atm} (h : Adj as) : ∀ i, i ≤ as.length → (as.take i).foldl pushR [] = (as.take i).reverse
  | 0, _ => rfl
  | i + 1, hi => by
    have ha : as[i]? = some as[i] := List.getElem?_eq_getElem (by omega)
    rw [List.take_add_one, ha, List.foldl_append, fold_adj h i (by omega), List.reverse_append]
    refine push_adj fun t r e => ?_
    cases i with
    | zero => cases e
    | succ i =>
      have hb : as[i]? = some as[i] := List.getElem?_eq_getElem (by omega)
      rw [List.take_add_one, hb, List.reverse_append] at e
      cases e
      exact h i _ _ hb ha
theorem mp_plain {as : List Atm} (h : Adj as) : mp as = as := by
  have := fold_adj h as.length (Nat.le_refl _)
  rw [List.take_length] at this
  unfold mp mpR
  rw [this, List.reverse_reverse]
/-! the same words -/
theorem eat_split (a : Atm) (w : List Nat) : ∃ p, w = p ++ eat a w ∧ ∀ c ∈ p, c ∈ a.1 := by
  by_cases ea : a.2 = true
  · refine ⟨w.takeWhile (fun c => decide (c ∈ a.1)), ?_, fun c hc => of_decide_eq_true (tw_all (f := fun c => decide (c ∈ a.1)) hc)⟩
    unfold eat
    rw [if_pos ea, List.takeWhile_append_dropWhile]
  · cases w with
    | nil => exact ⟨[], by unfold eat; rw [if_neg ea]; rfl, fun _ h => nomatch h⟩
    | cons c w =>
      have e : eat a (c :: w) = if [c] = a.1 then w else c :: w := by
        unfold eat
        rw [if_neg ea]
      rw [e]
      by_cases hc : [c] = a.1
      · rw [if_pos hc]
        exact ⟨[c], rfl, fun d hd => by rw [← hc]; exact hd⟩
      · rw [if_neg hc]
        exact ⟨[], rfl, fun _ h => nomatch h⟩
theorem absorb1 {a t : Atm} (h : tk a t = true) (v : List Nat) : eat a (eat t v) = eat a v := by
  obtain ⟨p, e, hp⟩ := eat_split t v
  obtain ⟨ea, hs⟩ := tk_iff.mp h
  have ew : ∀ w, eat a w = w.dropWhile (fun c => decide (c ∈ a.1)) := fun w => by
    unfold eat
    rw [if_pos ea]
  rw [ew, ew]
  conv => rhs; rw [e]
  rw [dw_all _ _ _ fun c hc => decide_eq_true (hs c (hp c hc))]
theorem absorb2 {a t : Atm} (h : tk t a = true) (v : List Nat) : eat a (eat t v) = eat t v := by
  obtain ⟨et, hs⟩ := tk_iff.mp h
  have ew : ∀ w, eat t w = w.dropWhile (fun c => decide (c ∈ t.1)) := fun w => by
    unfold eat
    rw [if_pos et]
  have hd : ∀ {l : List Nat} {c : Nat} {r : List Nat}, l.dropWhile (fun c => decide (c ∈ t.1)) = c :: r → c ∉ t.1 := by
    intro l
    induction l with
    | nil =>
      intro c r h
      cases h
    | cons x l ih =>
      intro c r h
      rw [List.dropWhile_cons] at h
      by_cases e : decide (x ∈ t.1) = true
      · rw [if_pos e] at h
        exact ih h
      · rw [if_neg e] at h
        cases h
        exact fun z => e (decide_eq_true z)
  rw [ew]
  cases e : v.dropWhile (fun c => decide (c ∈ t.1)) with
  | nil =>
    unfold eat
    by_cases ea : a.2 = true
    · rw [if_pos ea]
      rfl
    · rw [if_neg ea]
  | cons c r =>
    have hc := hd e
    have hca : c ∉ a.1 := fun z => hc (hs c z)
    unfold eat
    by_cases ea : a.2 = true
    · rw [if_pos ea, List.dropWhile_cons, if_neg (by simpa using hca)]
    · rw [if_neg ea]
      show (if [c] = a.1 then r else c :: r) = c :: r
      rw [if_neg fun z => hca (by rw [← z]; simp)]
theorem eats_app (as bs : List Atm) (w : List Nat) : eats (as ++ bs) w = eats bs (eats as w) := by
  unfold eats
  rw [List.foldl_append]
theorem eats_rev (t : Atm) (R : List Atm) (w : List Nat) : eats (t :: R).reverse w = eat t (eats R.reverse w) := by
  rw [List.reverse_cons, eats_app]
  rfl
theorem eats_pop (a : Atm) (w : List Nat) : ∀ R : List Atm, eat a (eats (R.dropWhile (tk a)).reverse w) = eat a (eats R.reverse w)
  | [] => rfl
  | t :: R => by
    rw [List.dropWhile_cons]
    by_cases e : tk a t = true
    · rw [if_pos e, eats_pop a w R, eats_rev, absorb1 e]
    · rw [if_neg e]
theorem eats_push (R : List Atm) (a : Atm) (w : List Nat) : eats (pushR R a).reverse w = eat a (eats R.reverse w) := by
  rw [← eats_pop]
  rcases push_cases R a with ⟨e, e2⟩ | ⟨t, r, e, _, h, e2⟩ | ⟨t, r, e, _, _, e2⟩
  · rw [e, e2]
    rfl
  · rw [e, e2, eats_rev, absorb2 h]
  · rw [e, e2, eats_rev]
theorem eats_fold : ∀ (as R : List Atm) (w : List Nat), eats (as.foldl pushR R).reverse w = eats as (eats R.reverse w)
  | [], R, w => rfl
  | a :: as, R, w => by
    rw [List.foldl_cons, eats_fold as, eats_push]
    rfl
theorem hold_mp {as : List Atm} (ok : ∀ a ∈ as, AtOk a) (w : List Nat) : hold (mp as) w = hold as w := by
  rw [← eats_hold ok, ← eats_hold fun a h => ok a (mp_mem h)]
  have := eats_fold as [] w
  unfold mp mpR
  rw [this]
  rfl
theorem mp_inside {as : List Atm} (ok : ∀ a ∈ as, AtOk a) : insB (mp as) as = true ∧ insB as (mp as) = true :=
  have ok' : ∀ a ∈ mp as, AtOk a := fun a h => ok a (mp_mem h)
  ⟨word_ins ok' ok fun w h => by rw [← hold_mp ok w]; exact h, word_ins ok ok' fun w h => by rw [hold_mp ok w]; exact h⟩
/-! blown up -/
theorem push_one {R : List Atm} {c : Nat} : pushR R ([c], false) = R ∧ R ≠ [] ∨ pushR R ([c], false) = ([c], false) :: R := by
  have hn : ∀ t, tk ([c], false) t = false := fun t => rfl
  have e : R.dropWhile (tk ([c], false)) = R := by
    cases R with
    | nil => rfl
    | cons t r => exact dwA_stay (hn t)
  rcases push_cases R ([c], false) with ⟨e1, e2⟩ | ⟨t, r, e1, _, _, e2⟩ | ⟨t, r, e1, _, _, e2⟩
  · rw [e] at e1
    subst e1
    exact .inr e2
  · rw [e] at e1
    subst e1
    exact .inl ⟨e2, by simp⟩
  · rw [e] at e1
    subst e1
    exact .inr e2
theorem push_i {R : List Atm} {a : Atm} {c : Nat} (h : a.2 = true) (hc : c ∈ a.1) : pushR (pushR R ([c], false)) a = pushR R a := by
  rcases push_one (R := R) (c := c) with ⟨e, _⟩ | e
  · rw [e]
  · rw [e]
    have : tk a ([c], false) = true := tk_iff.mpr ⟨h, fun d hd => by rw [List.mem_singleton.mp hd]; exact hc⟩
    unfold pushR
    rw [List.dropWhile_cons, if_pos this]
theorem push_ii {R : List Atm} {a : Atm} (h : a.2 = true) : pushR (pushR R a) a = pushR R a := by
  rcases push_cases R a with ⟨e, e2⟩ | ⟨t, r, e, h1, h2, e2⟩ | ⟨t, r, e, h1, h2, e2⟩
  · rw [e2]
    unfold pushR
    rw [List.dropWhile_cons, if_pos (tk_self h)]
    rfl
  · rw [e2]
    unfold pushR
    rw [dwA_stay h1]
    exact if_pos h2
  · rw [e2]
    unfold pushR
    rw [List.dropWhile_cons, if_pos (tk_self h), dwA_stay h1]
    exact if_neg (by rw [h2]; exact Bool.false_ne_true)
theorem push_iii {R : List Atm} {a : Atm} {c : Nat} (h : a.2 = true) (hc : c ∈ a.1) : pushR (pushR R a) ([c], false) = pushR R a := by
  have stay : ∀ t r, (∀ d, d ∈ a.1 → d ∈ t.1) → t.2 = true → pushR (t :: r) ([c], false) = t :: r := fun t r hs ht => by
    unfold pushR
    rw [dwA_stay (show tk ([c], false) t = false from rfl)]
    exact if_pos (tk_iff.mpr ⟨ht, fun d hd => by rw [List.mem_singleton.mp hd]; exact hs c hc⟩)
  rcases push_cases R a with ⟨e, e2⟩ | ⟨t, r, e, h1, h2, e2⟩ | ⟨t, r, e, h1, h2, e2⟩
  · rw [e2]
    exact stay a [] (fun _ z => z) h
  · rw [e2]
    exact stay t r (tk_iff.mp h2).2 (tk_iff.mp h2).1
  · rw [e2]
    exact stay a _ (fun _ z => z) h
/-- what may stand ahead of a many atom and behind it -/
def preOf (a : Atm) (k : Nat) : List Atm := if a.2 = true then [[], [(a.1.take 1, false)], [a], [(a.1.take 1, false), (a.1.take 1, false)]].getD k [] else []
theorem piece_push {a : Atm} (ok : AtOk a) (k m : Nat) (hm : m < 2) (R : List Atm) : (preOf a k ++ [a] ++ (preOf a k).take m).foldl pushR R = pushR R a := by
  unfold preOf
  by_cases h : a.2 = true
  · rw [if_pos h]
    obtain ⟨c, t, hl⟩ : ∃ c t, a.1 = c :: t := by
      cases e : a.1 with
      | nil => exact absurd e ok.ne
      | cons c t => exact ⟨c, t, rfl⟩
    have hc : c ∈ a.1 := by rw [hl]; simp
    have e1 : a.1.take 1 = [c] := by rw [hl]; rfl
    rw [e1]
    match k, m, hm with
    | 0, 0, _ => rfl
    | 0, 1, _ => rfl
    | 1, 0, _ => exact push_i h hc
    | 1, 1, _ =>
      show pushR (pushR (pushR R ([c], false)) a) ([c], false) = _
      rw [push_i h hc, push_iii h hc]
    | 2, 0, _ => exact push_ii h
    | 2, 1, _ =>
      show pushR (pushR (pushR R a) a) a = _
      rw [push_ii h, push_ii h]
    | 3, 0, _ =>
      show pushR (pushR (pushR R ([c], false)) ([c], false)) a = _
      rw [push_i h hc, push_i h hc]
    | 3, 1, _ =>
      show pushR (pushR (pushR (pushR R ([c], false)) ([c], false)) a) ([c], false) = _
      rw [push_i h hc, push_i h hc, push_iii h hc]
    | k + 4, 0, _ => rfl
    | k + 4, 1, _ => rfl
  · rw [if_neg h]
    match m, hm with
    | 0, _ => rfl
    | 1, _ => rfl
theorem one_ok {a : Atm} (ok : AtOk a) : AtOk (a.1.take 1, false) := by
  obtain ⟨c, t, hl⟩ : ∃ c t, a.1 = c :: t := by
    cases e : a.1 with
    | nil => exact absurd e ok.ne
    | cons c t => exact ⟨c, t, rfl⟩
  have e1 : a.1.take 1 = [c] := by rw [hl]; rfl
  rw [e1]
  exact ⟨by simp, fun d hd => by rw [List.mem_singleton.mp hd]; exact ok.lw c (by rw [hl]; simp), List.pairwise_singleton _ _, .inr rfl, by show 1 < 100; decide⟩
theorem preOf_ok {a : Atm} (ok : AtOk a) (k : Nat) : ∀ x ∈ preOf a k, AtOk x := by
  unfold preOf
  by_cases h : a.2 = true
  · rw [if_pos h]
    match k with
    | 0 => exact fun _ z => nomatch z
    | 1 => exact fun x hx => by rw [List.mem_singleton.mp hx]; exact one_ok ok
    | 2 => exact fun x hx => by rw [List.mem_singleton.mp hx]; exact ok
    | 3 =>
      intro x hx
      have hx' : x = (a.1.take 1, false) ∨ x = (a.1.take 1, false) := by simpa using hx
      rcases hx' with h | h <;> rw [h] <;> exact one_ok ok
    | k + 4 => exact fun _ z => nomatch z
  · rw [if_neg h]
    exact fun _ z => nomatch z
theorem preOf_len (a : Atm) (k : Nat) : (preOf a k).length ≤ 2 := by
  unfold preOf
  by_cases h : a.2 = true
  · rw [if_pos h]
    match k with
    | 0 => exact Nat.zero_le _
    | 1 => exact Nat.le_succ _
    | 2 => exact Nat.le_succ _
    | 3 => exact Nat.le_refl _
    | k + 4 => exact Nat.zero_le _
  · rw [if_neg h]
    exact Nat.zero_le _
theorem rp_rep01 {b s : Addr} {H : Hp} {K : PySem.W.Frag} {v : V} {as : List Atm} {m : Bool} {Q : VK} (hB : Bag b s H) (rp : Rp (nB b) H 2 v (prD as)) (ne : as ≠ []) (q : ∀ H' u, Same H H' → Rp (nB b) H' 2 u (prD (if m = true then as else [])) → Q u H') : rRep01 K v (.int (if m = true then 1 else 0)) H Q := by
  obtain ⟨p, xs, rfl, na, hp, hl, l1, pp⟩ := id rp.prod
  have nx : xs ≠ [] := fun z => ne (by
    rw [z] at hl
    exact List.eq_nil_of_length_eq_zero hl.symm)
  refine ⟨p, _, xs, rfl, rfl, .of hp, nx, ?_⟩
  cases m with
  | true => exact .inl ⟨rfl, q H _ (.refl H) rp⟩
  | false => exact .inr ⟨rfl, fun z nz => q _ _ (same_new nz) (rp_tup (hB.nb nz) upd_same (by decide) .nil)⟩
end LB

namespace LB
open PySem PySem.Spec PyProof.Rows L2
/-! ### what is left of a word with more behind it -/
theorem eat_suf (a : Atm) (w : List Nat) : eat a w <:+ w := by
  obtain ⟨p, e, _⟩ := eat_split a w
  exact ⟨p, e.symm⟩
theorem eats_suf : ∀ (p : List Atm) (w : List Nat), eats p w <:+ w
  | [], w => List.suffix_refl _
  | a :: p, w => (eats_suf p (eat a w)).trans (eat_suf a w)
theorem eats_nil : ∀ p : List Atm, eats p [] = []
  | [] => rfl
  | a :: p => by
    have h : eat a [] = [] := List.eq_nil_of_suffix_nil (eat_suf a [])
    show eats p (eat a []) = []
    rw [h, eats_nil p]
theorem dw_nil {f : Nat → Bool} : ∀ {l : List Nat}, l.dropWhile f = [] → ∀ c ∈ l, f c = true
  | [], _, _, h => by cases h
  | x :: l, h, c, hc => by
    rw [List.dropWhile_cons] at h
    by_cases e : f x = true
    · rw [if_pos e] at h
      rcases List.mem_cons.mp hc with z | z
      · rw [z]
        exact e
      · exact dw_nil h c z
    · rw [if_neg e] at h
      cases h
theorem dw_not {f : Nat → Bool} : ∀ {l : List Nat}, l.dropWhile f ≠ [] → ∃ c ∈ l, f c = false
  | [], h => absurd rfl h
  | x :: l, h => by
    rw [List.dropWhile_cons] at h
    by_cases e : f x = true
    · rw [if_pos e] at h
      obtain ⟨c, hc, hf⟩ := dw_not h
      exact ⟨c, by simp [hc], hf⟩
    · exact ⟨x, by simp, Bool.not_eq_true _ ▸ e⟩
theorem eat_more {a : Atm} {w : List Nat} (z : List Nat) (h : eat a w ≠ []) : eat a (w ++ z) = eat a w ++ z := by
  by_cases ea : a.2 = true
  · have e : ∀ u, eat a u = u.dropWhile (fun c => decide (c ∈ a.1)) := fun u => by
      unfold eat
      rw [if_pos ea]
    rw [e] at h ⊢
    rw [e, dw_some _ _ _ (dw_not h)]
  · cases w with
    | nil => exact absurd (List.eq_nil_of_suffix_nil (eat_suf a [])) h
    | cons c r =>
      have e : ∀ u, eat a (c :: u) = if [c] = a.1 then u else c :: u := fun u => by
        unfold eat
        rw [if_neg ea]
      rw [List.cons_append, e, e]
      by_cases hc : [c] = a.1
      · rw [if_pos hc, if_pos hc]
      · rw [if_neg hc, if_neg hc]
        rfl
theorem eat_none {a : Atm} {w : List Nat} (z : List Nat) (h : eat a w = []) : eat a (w ++ z) <:+ z := by
  by_cases ea : a.2 = true
  · have e : ∀ u, eat a u = u.dropWhile (fun c => decide (c ∈ a.1)) := fun u => by
      unfold eat
      rw [if_pos ea]
    rw [e] at h ⊢
    rw [dw_all _ _ _ (dw_nil h)]
    exact List.dropWhile_suffix _
  · cases w with
    | nil => exact eat_suf a z
    | cons c r =>
      have e : ∀ u, eat a (c :: u) = if [c] = a.1 then u else c :: u := fun u => by
        unfold eat
        rw [if_neg ea]
      rw [e] at h
      rw [List.cons_append, e]
      by_cases hc : [c] = a.1
      · rw [if_pos hc] at h ⊢
        rw [h]
        exact List.suffix_refl _
      · rw [if_neg hc] at h
        cases h
theorem eats_more : ∀ {p : List Atm} {v : List Nat} (z : List Nat), eats p v ≠ [] → eats p (v ++ z) = eats p v ++ z
  | [], _, _, _ => rfl
  | a :: p, v, z, h => by
    have h' : eats p (eat a v) ≠ [] := h
    have ne : eat a v ≠ [] := fun e => h' (by rw [e, eats_nil])
    show eats p (eat a (v ++ z)) = eats p (eat a v) ++ z
    rw [eat_more z ne]
    exact eats_more z h'
theorem eats_none : ∀ {p : List Atm} {v : List Nat} (z : List Nat), eats p v = [] → eats p (v ++ z) <:+ z
  | [], v, z, h => by
    have h' : v = [] := h
    rw [h']
    exact List.suffix_refl _
  | a :: p, v, z, h => by
    have h' : eats p (eat a v) = [] := h
    show eats p (eat a (v ++ z)) <:+ z
    by_cases e : eat a v = []
    · exact (eats_suf p _).trans (eat_none z e)
    · rw [eat_more z e]
      exact eats_none z h'
theorem hold_iff {p : List Atm} (ok : ∀ a ∈ p, AtOk a) {w : List Nat} : hold p w = true ↔ eats p w = [] := by
  rw [← eats_hold ok]
  exact decide_eq_true_iff
theorem okApp {p : List Atm} {a : Atm} (ok : ∀ x ∈ p, AtOk x) (h : AtOk a) : ∀ x ∈ p ++ [a], AtOk x := fun x hx => by
  rcases List.mem_append.mp hx with z | z
  · exact ok x z
  · rw [List.mem_singleton.mp z]
    exact h
theorem eats_last (p : List Atm) (a : Atm) (w : List Nat) : eats (p ++ [a]) w = eat a (eats p w) := by
  rw [eats_app]
  rfl
/-! ### sent, swollen -/
def dueS (p : List Atm) (c : Nat) (w : List Nat) : Bool := if w.getLast? = some c then hold p w || hold p w.dropLast else hold p w
theorem suf_one {e : List Nat} {d : Nat} (h : e <:+ [d]) : e = [] ∨ e = [d] := by
  obtain ⟨t, ht⟩ := h
  cases t with
  | nil => exact .inr ht
  | cons x t =>
    injection ht with _ h2
    exact .inl (List.append_eq_nil_iff.mp h2).2
theorem hold_sent {p : List Atm} (ok : ∀ a ∈ p, AtOk a) {c : Nat} (okc : AtOk ([c], false)) (w : List Nat) : hold (p ++ [([c], false)]) w = dueS p c w := by
  have ok' := okApp ok okc
  unfold dueS
  rcases List.eq_nil_or_concat w with rfl | ⟨v, d, rfl⟩
  · rw [hold_nil, if_neg (by simp), hold_nil]
  · rw [List.concat_eq_append, List.getLast?_concat, List.dropLast_concat]
    have one : ∀ e : List Nat, eat ([c], false) e = match e with | [] => [] | x :: r => if [x] = [c] then r else x :: r := fun e => rfl
    cases hv : hold p v with
    | false =>
      have ne : eats p v ≠ [] := fun z => by
        rw [(hold_iff ok).mpr z] at hv
        cases hv
      have e1 := eats_more [d] ne
      have h1 : hold p (v ++ [d]) = false := by
        cases h : hold p (v ++ [d]) with
        | false => rfl
        | true =>
          have := (hold_iff ok).mp h
          rw [e1] at this
          simp at this
      have h2 : hold (p ++ [([c], false)]) (v ++ [d]) = false := by
        cases h : hold (p ++ [([c], false)]) (v ++ [d]) with
        | false => rfl
        | true =>
          have := (hold_iff ok').mp h
          rw [eats_last, e1, one] at this
          cases e : eats p v with
          | nil => exact absurd e ne
          | cons x r =>
            rw [e] at this
            have this : (if [x] = [c] then r ++ [d] else x :: (r ++ [d])) = [] := this
            by_cases hx : [x] = [c]
            · rw [if_pos hx] at this
              simp at this
            · rw [if_neg hx] at this
              cases this
      rw [h1, h2]
      simp
    | true =>
      have e0 := (hold_iff ok).mp hv
      have cs := suf_one (eats_none [d] e0)
      by_cases hd : d = c
      · subst hd
        rw [if_pos rfl, Bool.or_true]
        refine (hold_iff ok').mpr ?_
        rw [eats_last]
        rcases cs with e | e
        · rw [e]
          rfl
        · rw [e, one]
          show (if [d] = [d] then [] else [d]) = []
          rw [if_pos rfl]
      · rw [if_neg (by simpa using hd)]
        rcases cs with e | e
        · rw [(hold_iff ok).mpr e]
          refine (hold_iff ok').mpr ?_
          rw [eats_last, e]
          rfl
        · have h1 : hold p (v ++ [d]) = false := by
            cases h : hold p (v ++ [d]) with
            | false => rfl
            | true =>
              rw [(hold_iff ok).mp h] at e
              cases e
          rw [h1]
          cases h : hold (p ++ [([c], false)]) (v ++ [d]) with
          | false => rfl
          | true =>
            have := (hold_iff ok').mp h
            rw [eats_last, e, one] at this
            have this : (if [d] = [c] then [] else [d]) = ([] : List Nat) := this
            rw [if_neg (by simpa using hd)] at this
            cases this
def swol (p : List Atm) (L : List Nat) : List Atm := if L = [] then p else p ++ [(L, true)]
theorem hold_swol {p : List Atm} (ok : ∀ a ∈ p, AtOk a) {L : List Nat} (okL : L ≠ [] → AtOk (L, true)) (w : List Nat) :
    hold (swol p L) w = true ↔ ∃ k, k ≤ w.length ∧ hold p (w.take k) = true ∧ ∀ c ∈ w.drop k, c ∈ L := by
  unfold swol
  by_cases hL : L = []
  · subst hL
    rw [if_pos rfl]
    constructor
    · exact fun h => ⟨w.length, Nat.le_refl _, by rw [List.take_length]; exact h, fun c hc => by rw [List.drop_length] at hc; cases hc⟩
    · rintro ⟨k, hk, h, hd⟩
      have : w.drop k = [] := List.eq_nil_iff_forall_not_mem.mpr fun c hc => nomatch hd c hc
      rw [← List.take_append_drop k w, this, List.append_nil]
      exact h
  · rw [if_neg hL]
    have ok' := okApp ok (okL hL)
    have many : ∀ e : List Nat, eat (L, true) e = e.dropWhile (fun c => decide (c ∈ L)) := fun e => rfl
    rw [hold_iff ok', eats_last, many]
    constructor
    · intro h
      obtain ⟨v, hv⟩ := eats_suf p w
      refine ⟨v.length, by rw [← hv, List.length_append]; omega, ?_, ?_⟩
      · have e1 : w.take v.length = v := by rw [← hv, List.take_left' rfl]
        rw [e1]
        refine (hold_iff ok).mpr (Classical.byContradiction fun ne => ?_)
        have := eats_more (eats p w) ne
        rw [hv] at this
        have hl := congrArg List.length this
        rw [List.length_append] at hl
        have : 0 < (eats p v).length := List.length_pos_iff.mpr ne
        omega
      · have e1 : w.drop v.length = eats p w := by
          conv => lhs; rw [← hv]
          rw [List.drop_left' rfl]
        rw [e1]
        exact fun c hc => of_decide_eq_true (dw_nil h c hc)
    · rintro ⟨k, hk, h, hd⟩
      have e0 := (hold_iff ok).mp h
      have sf := eats_none (w.drop k) e0
      rw [List.take_append_drop] at sf
      have : ∀ c ∈ eats p w, decide (c ∈ L) = true := fun c hc => decide_eq_true (hd c (sf.subset hc))
      have := dw_all (fun c => decide (c ∈ L)) (eats p w) [] this
      rw [List.append_nil] at this
      rw [this]
      rfl
theorem drp_mem {c : Nat} : ∀ {p bs : List Atm}, drp c p = some bs → ∀ x ∈ bs, x ∈ p
  | [], _, h => by cases h
  | a :: r, bs, h => by
    unfold drp at h
    by_cases hc : c ∈ a.1
    · rw [if_pos hc] at h
      cases h
      by_cases ha : a.2 = true
      · rw [if_pos ha]
        exact fun x hx => hx
      · rw [if_neg ha]
        exact fun x hx => List.mem_cons_of_mem _ hx
    · rw [if_neg hc] at h
      exact fun x hx => List.mem_cons_of_mem _ (drp_mem h x hx)
theorem drp_len {c : Nat} : ∀ {p bs : List Atm}, drp c p = some bs → bs.length ≤ p.length
  | [], _, h => by cases h
  | a :: r, bs, h => by
    unfold drp at h
    by_cases hc : c ∈ a.1
    · rw [if_pos hc] at h
      cases h
      by_cases ha : a.2 = true
      · rw [if_pos ha]
        exact Nat.le_refl _
      · rw [if_neg ha]
        exact Nat.le_succ _
    · rw [if_neg hc] at h
      have := drp_len h
      rw [List.length_cons]
      omega
end LB

namespace K33
open PySem PySem.Spec PyProof.Rows L2 LB
def topS (i : Nat) : Stmt := PySem.Challenge.pw_leakpost_k33_products_sent_taken_swollen.main.body.getD i (.Pass ⟨0, 0, 0, 0⟩)
abbrev s_p_is_word : Stmt := topS 6
abbrev N_p_is_word : List Str := ["text", "sign"]
abbrev P_p_is_word : List Str := ["text"]
theorem sc_p_is_word : FnScope N_p_is_word P_p_is_word (defScope s_p_is_word) := ⟨rfl, rfl, rfl, by decide +kernel, rfl, by decide +kernel, by decide +kernel⟩
abbrev s_p_is_letter : Stmt := topS 7
abbrev N_p_is_letter : List Str := ["text"]
abbrev P_p_is_letter : List Str := ["text"]
theorem sc_p_is_letter : FnScope N_p_is_letter P_p_is_letter (defScope s_p_is_letter) := ⟨rfl, rfl, rfl, by decide +kernel, rfl, by decide +kernel, by decide +kernel⟩
abbrev s_p_is_rising : Stmt := topS 9
abbrev N_p_is_rising : List Str := ["text", "low", "high"]
abbrev P_p_is_rising : List Str := ["text"]
theorem sc_p_is_rising : FnScope N_p_is_rising P_p_is_rising (defScope s_p_is_rising) := ⟨rfl, rfl, rfl, by decide +kernel, rfl, by decide +kernel, by decide +kernel⟩
abbrev s_p_is_atom : Stmt := topS 10
abbrev N_p_is_atom : List Str := ["letters", "many"]
abbrev P_p_is_atom : List Str := ["letters", "many"]
theorem sc_p_is_atom : FnScope N_p_is_atom P_p_is_atom (defScope s_p_is_atom) := ⟨rfl, rfl, rfl, by decide +kernel, rfl, by decide +kernel, by decide +kernel⟩
abbrev s_p_is_product : Stmt := topS 11
abbrev N_p_is_product : List Str := ["thing", "letters", "many"]
abbrev P_p_is_product : List Str := ["thing"]
theorem sc_p_is_product : FnScope N_p_is_product P_p_is_product (defScope s_p_is_product) := ⟨rfl, rfl, rfl, by decide +kernel, rfl, by decide +kernel, by decide +kernel⟩
abbrev s_p_check_product : Stmt := topS 12
abbrev N_p_check_product : List Str := ["product"]
abbrev P_p_check_product : List Str := ["product"]
theorem sc_p_check_product : FnScope N_p_check_product P_p_check_product (defScope s_p_check_product) := ⟨rfl, rfl, rfl, by decide +kernel, rfl, by decide +kernel, by decide +kernel⟩
abbrev s_p_check_letter : Stmt := topS 13
abbrev N_p_check_letter : List Str := ["letter"]
abbrev P_p_check_letter : List Str := ["letter"]
theorem sc_p_check_letter : FnScope N_p_check_letter P_p_check_letter (defScope s_p_check_letter) := ⟨rfl, rfl, rfl, by decide +kernel, rfl, by decide +kernel, by decide +kernel⟩
abbrev s_p_takes_in : Stmt := topS 14
abbrev N_p_takes_in : List Str := ["great", "small", "letter"]
abbrev P_p_takes_in : List Str := ["great", "small"]
theorem sc_p_takes_in : FnScope N_p_takes_in P_p_takes_in (defScope s_p_takes_in) := ⟨rfl, rfl, rfl, by decide +kernel, rfl, by decide +kernel, by decide +kernel⟩
abbrev s_p_has_word : Stmt := topS 15
abbrev N_p_has_word : List Str := ["product", "word", "at", "letters", "many"]
abbrev P_p_has_word : List Str := ["product", "word"]
theorem sc_p_has_word : FnScope N_p_has_word P_p_has_word (defScope s_p_has_word) := ⟨rfl, rfl, rfl, by decide +kernel, rfl, by decide +kernel, by decide +kernel⟩
abbrev s_p_holds : Stmt := topS 16
abbrev N_p_holds : List Str := ["product", "word"]
abbrev P_p_holds : List Str := ["product", "word"]
theorem sc_p_holds : FnScope N_p_holds P_p_holds (defScope s_p_holds) := ⟨rfl, rfl, rfl, by decide +kernel, rfl, by decide +kernel, by decide +kernel⟩
abbrev s_p_made_plain : Stmt := topS 17
abbrev N_p_made_plain : List Str := ["atoms", "kept", "atom"]
abbrev P_p_made_plain : List Str := ["atoms"]
theorem sc_p_made_plain : FnScope N_p_made_plain P_p_made_plain (defScope s_p_made_plain) := ⟨rfl, rfl, rfl, by decide +kernel, rfl, by decide +kernel, by decide +kernel⟩
abbrev s_p_with_letter : Stmt := topS 18
abbrev N_p_with_letter : List Str := ["product", "letter"]
abbrev P_p_with_letter : List Str := ["product", "letter"]
theorem sc_p_with_letter : FnScope N_p_with_letter P_p_with_letter (defScope s_p_with_letter) := ⟨rfl, rfl, rfl, by decide +kernel, rfl, by decide +kernel, by decide +kernel⟩
abbrev s_p_sent : Stmt := topS 19
abbrev N_p_sent : List Str := ["product", "letter"]
abbrev P_p_sent : List Str := ["product", "letter"]
theorem sc_p_sent : FnScope N_p_sent P_p_sent (defScope s_p_sent) := ⟨rfl, rfl, rfl, by decide +kernel, rfl, by decide +kernel, by decide +kernel⟩
abbrev s_p_left_behind : Stmt := topS 20
abbrev N_p_left_behind : List Str := ["product", "letter", "at", "letters", "many"]
abbrev P_p_left_behind : List Str := ["product", "letter"]
theorem sc_p_left_behind : FnScope N_p_left_behind P_p_left_behind (defScope s_p_left_behind) := ⟨rfl, rfl, rfl, by decide +kernel, rfl, by decide +kernel, by decide +kernel⟩
abbrev s_p_taken : Stmt := topS 21
abbrev N_p_taken : List Str := ["product", "letter"]
abbrev P_p_taken : List Str := ["product", "letter"]
theorem sc_p_taken : FnScope N_p_taken P_p_taken (defScope s_p_taken) := ⟨rfl, rfl, rfl, by decide +kernel, rfl, by decide +kernel, by decide +kernel⟩
abbrev s_p_with_any : Stmt := topS 22
abbrev N_p_with_any : List Str := ["product", "letters"]
abbrev P_p_with_any : List Str := ["product", "letters"]
theorem sc_p_with_any : FnScope N_p_with_any P_p_with_any (defScope s_p_with_any) := ⟨rfl, rfl, rfl, by decide +kernel, rfl, by decide +kernel, by decide +kernel⟩
abbrev s_p_swollen : Stmt := topS 23
abbrev N_p_swollen : List Str := ["product", "letters"]
abbrev P_p_swollen : List Str := ["product", "letters"]
theorem sc_p_swollen : FnScope N_p_swollen P_p_swollen (defScope s_p_swollen) := ⟨rfl, rfl, rfl, by decide +kernel, rfl, by decide +kernel, by decide +kernel⟩
abbrev s_bag : Stmt := topS 25
abbrev N_bag : List Str := ["_law_script", "_law_seed", "_law_cell"]
abbrev P_bag : List Str := ["_law_script"]
theorem sc_bag : FnScope N_bag P_bag (defScope s_bag) := ⟨rfl, rfl, rfl, by decide +kernel, rfl, by decide +kernel, by decide +kernel⟩
abbrev s_pull : Stmt := topS 26
abbrev N_pull : List Str := ["_law_bag_here", "_law_many", "_law_rest", "_law_cell", "_law_one", "_law_two"]
abbrev P_pull : List Str := ["_law_bag_here", "_law_many"]
theorem sc_pull : FnScope N_pull P_pull (defScope s_pull) := ⟨rfl, rfl, rfl, by decide +kernel, rfl, by decide +kernel, by decide +kernel⟩
abbrev s_of : Stmt := topS 27
abbrev N_of : List Str := ["_law_bag_here", "_law_some"]
abbrev P_of : List Str := ["_law_bag_here", "_law_some"]
theorem sc_of : FnScope N_of P_of (defScope s_of) := ⟨rfl, rfl, rfl, by decide +kernel, rfl, by decide +kernel, by decide +kernel⟩
abbrev s_same : Stmt := topS 28
abbrev N_same : List Str := ["_law_found", "_law_due", "_law_a", "_law_b"]
abbrev P_same : List Str := ["_law_found", "_law_due"]
theorem sc_same : FnScope N_same P_same (defScope s_same) := ⟨rfl, rfl, rfl, by decide +kernel, rfl, by decide +kernel, by decide +kernel⟩
abbrev s_letters : Stmt := topS 29
abbrev N_letters : List Str := ["_law_bag_here", "_law_alphabet", "_law_first", "_law_by", "_law_k"]
abbrev P_letters : List Str := ["_law_bag_here"]
theorem sc_letters : FnScope N_letters P_letters (defScope s_letters) := ⟨rfl, rfl, rfl, by decide +kernel, rfl, by decide +kernel, by decide +kernel⟩
abbrev s_word : Stmt := topS 30
abbrev N_word : List Str := ["_law_bag_here", "_law_letters_here", "_law_top", "_law_k"]
abbrev P_word : List Str := ["_law_bag_here", "_law_letters_here", "_law_top"]
theorem sc_word : FnScope N_word P_word (defScope s_word) := ⟨rfl, rfl, rfl, by decide +kernel, rfl, by decide +kernel, by decide +kernel⟩
abbrev s_product : Stmt := topS 31
abbrev N_product : List Str := ["_law_bag_here", "_law_letters_here", "_law_top", "_law_found", "_law_k", "_law_some", "_law_many", "_law_letter"]
abbrev P_product : List Str := ["_law_bag_here", "_law_letters_here", "_law_top"]
theorem sc_product : FnScope N_product P_product (defScope s_product) := ⟨rfl, rfl, rfl, by decide +kernel, rfl, by decide +kernel, by decide +kernel⟩
abbrev s_words_to : Stmt := topS 32
abbrev N_words_to : List Str := ["_law_letters_here", "_law_top", "_law_found", "_law_edge", "_law_k", "_law_longer", "_law_word_here", "_law_letter"]
abbrev P_words_to : List Str := ["_law_letters_here", "_law_top"]
theorem sc_words_to : FnScope N_words_to P_words_to (defScope s_words_to) := ⟨rfl, rfl, rfl, by decide +kernel, rfl, by decide +kernel, by decide +kernel⟩
abbrev s_holds : Stmt := topS 33
abbrev N_holds : List Str := ["_law_product_here", "_law_word_here", "_law_first", "_law_sign", "_law_places", "_law_at"]
abbrev P_holds : List Str := ["_law_product_here", "_law_word_here"]
theorem sc_holds : FnScope N_holds P_holds (defScope s_holds) := ⟨rfl, rfl, rfl, by decide +kernel, rfl, by decide +kernel, by decide +kernel⟩
abbrev s_six : Stmt := topS 34
abbrev N_six : List Str := ["_law_bag_here", "_law_alphabet", "_law_start", "_law_by", "_law_k"]
abbrev P_six : List Str := ["_law_bag_here"]
theorem sc_six : FnScope N_six P_six (defScope s_six) := ⟨rfl, rfl, rfl, by decide +kernel, rfl, by decide +kernel, by decide +kernel⟩
abbrev s_plain_look : Stmt := topS 35
abbrev N_plain_look : List Str := ["_law_product_here", "_law_one", "_law_other", "_law_letter"]
abbrev P_plain_look : List Str := ["_law_product_here"]
theorem sc_plain_look : FnScope N_plain_look P_plain_look (defScope s_plain_look) := ⟨rfl, rfl, rfl, by decide +kernel, rfl, by decide +kernel, by decide +kernel⟩
abbrev s_tail_in : Stmt := topS 36
abbrev N_tail_in : List Str := ["_law_product_here", "_law_word_here", "_law_tail", "_law_at", "_law_letter"]
abbrev P_tail_in : List Str := ["_law_product_here", "_law_word_here", "_law_tail"]
theorem sc_tail_in : FnScope N_tail_in P_tail_in (defScope s_tail_in) := ⟨rfl, rfl, rfl, by decide +kernel, rfl, by decide +kernel, by decide +kernel⟩
abbrev s_law : Stmt := topS 37
abbrev N_law : List Str := ["_law_script", "_law_bag_here", "_law_letters_here", "_law_some", "_law_product_here", "_law_sign", "_law_tail", "_law_made", "_law_words", "_law_word_here", "_law_due", "_law_letter", "_law_k", "_law_row"]
abbrev P_law : List Str := ["_law_script"]
theorem sc_law : FnScope N_law P_law (defScope s_law) := ⟨rfl, rfl, rfl, by decide +kernel, rfl, by decide +kernel, by decide +kernel⟩
set_option maxHeartbeats 0 in
structure Tx (K : PySem.W.Frag) (mg : Str → Option Value) where
  f_p_is_word : Addr
  fd_p_is_word : FuncData
  F_p_is_word : Fun K "is_word" "is_word" s_p_is_word f_p_is_word fd_p_is_word
  b_p_is_word : L2.Binds K fd_p_is_word P_p_is_word []
  g_p_is_word : mg "is_word" = some (.ref f_p_is_word)
  f_p_is_letter : Addr
  fd_p_is_letter : FuncData
  F_p_is_letter : Fun K "is_letter" "is_letter" s_p_is_letter f_p_is_letter fd_p_is_letter
  b_p_is_letter : L2.Binds K fd_p_is_letter P_p_is_letter []
  g_p_is_letter : mg "is_letter" = some (.ref f_p_is_letter)
  f_p_is_rising : Addr
  fd_p_is_rising : FuncData
  F_p_is_rising : Fun K "is_rising" "is_rising" s_p_is_rising f_p_is_rising fd_p_is_rising
  b_p_is_rising : L2.Binds K fd_p_is_rising P_p_is_rising []
  g_p_is_rising : mg "is_rising" = some (.ref f_p_is_rising)
  f_p_is_atom : Addr
  fd_p_is_atom : FuncData
  F_p_is_atom : Fun K "is_atom" "is_atom" s_p_is_atom f_p_is_atom fd_p_is_atom
  b_p_is_atom : L2.Binds K fd_p_is_atom P_p_is_atom []
  g_p_is_atom : mg "is_atom" = some (.ref f_p_is_atom)
  f_p_is_product : Addr
  fd_p_is_product : FuncData
  F_p_is_product : Fun K "is_product" "is_product" s_p_is_product f_p_is_product fd_p_is_product
  b_p_is_product : L2.Binds K fd_p_is_product P_p_is_product []
  g_p_is_product : mg "is_product" = some (.ref f_p_is_product)
  f_p_check_product : Addr
  fd_p_check_product : FuncData
  F_p_check_product : Fun K "check_product" "check_product" s_p_check_product f_p_check_product fd_p_check_product
  b_p_check_product : L2.Binds K fd_p_check_product P_p_check_product []
  g_p_check_product : mg "check_product" = some (.ref f_p_check_product)
  f_p_check_letter : Addr
  fd_p_check_letter : FuncData
  F_p_check_letter : Fun K "check_letter" "check_letter" s_p_check_letter f_p_check_letter fd_p_check_letter
  b_p_check_letter : L2.Binds K fd_p_check_letter P_p_check_letter []
  g_p_check_letter : mg "check_letter" = some (.ref f_p_check_letter)
  f_p_takes_in : Addr
  fd_p_takes_in : FuncData
  F_p_takes_in : Fun K "takes_in" "takes_in" s_p_takes_in f_p_takes_in fd_p_takes_in
  b_p_takes_in : L2.Binds K fd_p_takes_in P_p_takes_in []
  g_p_takes_in : mg "takes_in" = some (.ref f_p_takes_in)
  f_p_has_word : Addr
  fd_p_has_word : FuncData
  F_p_has_word : Fun K "has_word" "has_word" s_p_has_word f_p_has_word fd_p_has_word
  b_p_has_word : L2.Binds K fd_p_has_word P_p_has_word []
  g_p_has_word : mg "has_word" = some (.ref f_p_has_word)
  f_p_holds : Addr
  fd_p_holds : FuncData
  F_p_holds : Fun K "holds" "holds" s_p_holds f_p_holds fd_p_holds
  b_p_holds : L2.Binds K fd_p_holds P_p_holds []
  g_p_holds : mg "holds" = some (.ref f_p_holds)
  f_p_made_plain : Addr
  fd_p_made_plain : FuncData
  F_p_made_plain : Fun K "made_plain" "made_plain" s_p_made_plain f_p_made_plain fd_p_made_plain
  b_p_made_plain : L2.Binds K fd_p_made_plain P_p_made_plain []
  g_p_made_plain : mg "made_plain" = some (.ref f_p_made_plain)
  f_p_with_letter : Addr
  fd_p_with_letter : FuncData
  F_p_with_letter : Fun K "with_letter" "with_letter" s_p_with_letter f_p_with_letter fd_p_with_letter
  b_p_with_letter : L2.Binds K fd_p_with_letter P_p_with_letter []
  g_p_with_letter : mg "with_letter" = some (.ref f_p_with_letter)
  f_p_sent : Addr
  fd_p_sent : FuncData
  F_p_sent : Fun K "sent" "sent" s_p_sent f_p_sent fd_p_sent
  b_p_sent : L2.Binds K fd_p_sent P_p_sent []
  g_p_sent : mg "sent" = some (.ref f_p_sent)
  f_p_left_behind : Addr
  fd_p_left_behind : FuncData
  F_p_left_behind : Fun K "left_behind" "left_behind" s_p_left_behind f_p_left_behind fd_p_left_behind
  b_p_left_behind : L2.Binds K fd_p_left_behind P_p_left_behind []
  g_p_left_behind : mg "left_behind" = some (.ref f_p_left_behind)
  f_p_taken : Addr
  fd_p_taken : FuncData
  F_p_taken : Fun K "taken" "taken" s_p_taken f_p_taken fd_p_taken
  b_p_taken : L2.Binds K fd_p_taken P_p_taken []
  g_p_taken : mg "taken" = some (.ref f_p_taken)
  f_p_with_any : Addr
  fd_p_with_any : FuncData
  F_p_with_any : Fun K "with_any" "with_any" s_p_with_any f_p_with_any fd_p_with_any
  b_p_with_any : L2.Binds K fd_p_with_any P_p_with_any []
  g_p_with_any : mg "with_any" = some (.ref f_p_with_any)
  f_p_swollen : Addr
  fd_p_swollen : FuncData
  F_p_swollen : Fun K "swollen" "swollen" s_p_swollen f_p_swollen fd_p_swollen
  b_p_swollen : L2.Binds K fd_p_swollen P_p_swollen []
  g_p_swollen : mg "swollen" = some (.ref f_p_swollen)
  f_bag : Addr
  fd_bag : FuncData
  F_bag : Fun K "_law_bag" "_law_bag" s_bag f_bag fd_bag
  b_bag : L2.Binds K fd_bag P_bag []
  g_bag : mg "_law_bag" = some (.ref f_bag)
  f_pull : Addr
  fd_pull : FuncData
  F_pull : Fun K "_law_pull" "_law_pull" s_pull f_pull fd_pull
  b_pull : L2.Binds K fd_pull P_pull []
  g_pull : mg "_law_pull" = some (.ref f_pull)
  f_of : Addr
  fd_of : FuncData
  F_of : Fun K "_law_of" "_law_of" s_of f_of fd_of
  b_of : L2.Binds K fd_of P_of []
  g_of : mg "_law_of" = some (.ref f_of)
  f_same : Addr
  fd_same : FuncData
  F_same : Fun K "_law_same" "_law_same" s_same f_same fd_same
  b_same : L2.Binds K fd_same P_same []
  g_same : mg "_law_same" = some (.ref f_same)
  f_letters : Addr
  fd_letters : FuncData
  F_letters : Fun K "_law_letters" "_law_letters" s_letters f_letters fd_letters
  b_letters : L2.Binds K fd_letters P_letters []
  g_letters : mg "_law_letters" = some (.ref f_letters)
  f_word : Addr
  fd_word : FuncData
  F_word : Fun K "_law_word" "_law_word" s_word f_word fd_word
  b_word : L2.Binds K fd_word P_word []
  g_word : mg "_law_word" = some (.ref f_word)
  f_product : Addr
  fd_product : FuncData
  F_product : Fun K "_law_product" "_law_product" s_product f_product fd_product
  b_product : L2.Binds K fd_product P_product []
  g_product : mg "_law_product" = some (.ref f_product)
  f_words_to : Addr
  fd_words_to : FuncData
  F_words_to : Fun K "_law_words_to" "_law_words_to" s_words_to f_words_to fd_words_to
  b_words_to : L2.Binds K fd_words_to P_words_to []
  g_words_to : mg "_law_words_to" = some (.ref f_words_to)
  f_holds : Addr
  fd_holds : FuncData
  F_holds : Fun K "_law_holds" "_law_holds" s_holds f_holds fd_holds
  b_holds : L2.Binds K fd_holds P_holds []
  g_holds : mg "_law_holds" = some (.ref f_holds)
  f_six : Addr
  fd_six : FuncData
  F_six : Fun K "_law_six" "_law_six" s_six f_six fd_six
  b_six : L2.Binds K fd_six P_six []
  g_six : mg "_law_six" = some (.ref f_six)
  f_plain_look : Addr
  fd_plain_look : FuncData
  F_plain_look : Fun K "_law_plain_look" "_law_plain_look" s_plain_look f_plain_look fd_plain_look
  b_plain_look : L2.Binds K fd_plain_look P_plain_look []
  g_plain_look : mg "_law_plain_look" = some (.ref f_plain_look)
  f_tail_in : Addr
  fd_tail_in : FuncData
  F_tail_in : Fun K "_law_tail_in" "_law_tail_in" s_tail_in f_tail_in fd_tail_in
  b_tail_in : L2.Binds K fd_tail_in P_tail_in []
  g_tail_in : mg "_law_tail_in" = some (.ref f_tail_in)
  f_law : Addr
  fd_law : FuncData
  F_law : Fun K "law" "law" s_law f_law fd_law
  b_law : L2.Binds K fd_law P_law []
  g_law : mg "law" = some (.ref f_law)
  m_all : mg "all" = none
  m_bool : mg "bool" = none
  m_enumerate : mg "enumerate" = none
  m_int : mg "int" = none
  m_isinstance : mg "isinstance" = none
  m_len : mg "len" = none
  m_list : mg "list" = none
  m_min : mg "min" = none
  m_range : mg "range" = none
  m_sorted : mg "sorted" = none
  m_str : mg "str" = none
  m_tuple : mg "tuple" = none
  m_zip : mg "zip" = none
  u_LETTERS : Value
  c_LETTERS : mg "LETTERS" = some u_LETTERS
  r_LETTERS : RelV (V.str (PySem.Str.ofString "abcdefghijklmnopqrstuvwxyz")) u_LETTERS
section
variable {P : Program} {w : World} {K : PySem.W.Frag} {mg : Str → Option Value} {base : Heap}
/-! ### the bag: made, drawn from -/
def sp_bag (K : PySem.W.Frag) : Sp := fun vs H Q _ => ∃ (a : Addr) (ns : List Int), vs = [.ref a] ∧ SqL K H a (ns.map V.int) ∧ ns.length ≤ 63 ∧ ∀ H' b s, Same H H' → Bag b s H' → H b = none → Q (.ref b) H'
theorem ok_bag (T : Tx K mg) : FnOk P w K mg base CX0 1 T.f_bag T.fd_bag P_bag (sp_bag K) := by
  refine T.F_bag.ok sc_bag (fun vs H Q E h => ?_) (fun cdv A outer s H vs Q E hr h => ?_)
  · obtain ⟨a, ns, rfl, _⟩ := h
    rfl
  · obtain ⟨a, ns, rfl, hS, hlen, q⟩ := h
    refine ⟨_, 
      (pss_cons (ps_set (i := 1) sc_bag.nd rfl (.inl rfl) pe_int)
      (pss_cons (ps_for PassesOwn.never rfl (pi_list (pe_slice sl_list (L2.pv 0) po_none (po_some pe_int))) (pg_name (i := 2) sc_bag.nd rfl (.inl rfl))
        (pss_one (ps_set (i := 1) sc_bag.nd rfl (.inl rfl) (pe_op op_mod (pe_op op_add (pe_op op_add (pe_op op_mul (L2.pv 1) pe_int) (L2.pv 2)) pe_int) pe_int))))
      (pss_one (ps_ret (pe_lst (pa_cons (pe_callTy call_list_of (by rfl) T.m_list (by decide +kernel) (pa_cons (pe_slice sl_list (L2.pv 0) po_none (po_some pe_int)) pa_nil)) (pa_cons pe_int (pa_cons pe_int (pa_cons (L2.pv 1) (pa_cons pe_int pa_nil)))))))))), ?_⟩
    refine ⟨.ref a, rfl, 63, rfl, a, ns.map V.int, rfl, hS, fun c nc => ?_⟩
    have ec : cutV (ns.map V.int) none (some 63) = ns.map V.int := by
      rw [show (63 : Int) = ((63 : Nat) : Int) from rfl, LB.cut_take, List.take_of_length_le (by rw [List.length_map]; exact hlen)]
    rw [ec]
    have s1 : Same H (upd H c (.lst (ns.map V.int))) := LB.same_new nc
    refine ⟨c, rfl, ⟨_, .of upd_same⟩, for_list (xs := ns.map V.int) (fun _ σ H' => ∃ (sd : Int) (y : Option V), σ = [some (.ref a), some (.int sd), y] ∧ H' = upd H c (.lst (ns.map V.int))) ⟨_, _, rfl, rfl⟩ (fun i σ H' _ h => ?_) (fun i x σ H' hx h => ?_) (fun σ H' h => ?_)⟩
    · obtain ⟨sd, y, _, rfl⟩ := h
      exact .of upd_same
    · obtain ⟨sd, y, rfl, rfl⟩ := h
      obtain ⟨n, _, rfl⟩ : ∃ n, ns[i]? = some n ∧ V.int n = x := by
        rw [List.getElem?_map] at hx
        cases e : ns[i]? with
        | none => rw [e] at hx; cases hx
        | some n => rw [e] at hx; exact ⟨n, rfl, Option.some.inj hx⟩
      refine ⟨.int sd, rfl, sd, 65539, rfl, rfl, .inr ⟨by decide, by decide⟩, .int n, rfl, _, n, rfl, rfl, _, 7, rfl, rfl, _, 2147483629, rfl, rfl, (by show (0 : Int) < 2147483629; decide), _, _, rfl, rfl⟩
    · obtain ⟨sd, y, rfl, rfl⟩ := h
      refine ⟨.ref a, rfl, 63, rfl, a, ns.map V.int, rfl, s1.seq hS, fun d nd => ?_⟩
      rw [ec]
      have s2 := LB.same_new (o := .lst (ns.map V.int)) nd
      refine ⟨d, _, rfl, .inl (.of upd_same), fun l nl => ?_⟩
      have s3 := LB.same_new (o := .lst (ns.map V.int)) nl
      refine ⟨.int sd, rfl, (by show 5 ≤ sizeLine; decide), fun b nb => ?_⟩
      have s4 := LB.same_new (o := .lst [.ref l, .int 0, .int 0, .int sd, .int 0]) nb
      have nlb : l ≠ b := ne_of_none upd_same nb
      refine q _ b l (s1.trans (s2.trans (s3.trans s4))) ⟨nlb, ns, 0, 0, sd, 0, upd_same, ?_, hlen, Int.le_refl _⟩ ((s1.trans (s2.trans s3)).free nb)
      rw [upd_ne nlb, upd_same]
def sp_pull : Sp := fun vs H Q _ => ∃ (b s : Addr) (m : Int), vs = [.ref b, .int m] ∧ Bag b s H ∧ 0 < m ∧ m < 1000000 ∧ ∀ H' v, BX b s H H' → 0 ≤ v → v < m → Q (.int v) H'
theorem ok_pull (T : Tx K mg) : FnOk P w K mg base CX0 1 T.f_pull T.fd_pull P_pull sp_pull := by
  refine T.F_pull.ok sc_pull (fun vs H Q E h => ?_) (fun cdv A outer s H vs Q E hr h => ?_)
  · obtain ⟨b, s, m, rfl, _⟩ := h
    rfl
  · obtain ⟨b, cs, m, rfl, ⟨nsb, ns, i, r, sd, c, e1, e2, hl, i0⟩, m0, m1, q⟩ := h
    have fin : ∀ i' r' sd' c', 0 ≤ i' → BX b cs H (upd H b (bagL cs i' r' sd' c')) := fun i' r' sd' c' h0 =>
      ⟨⟨nsb, ns, i', r', sd', c', upd_same, (upd_ne nsb).trans e2, hl, h0⟩, fun a o na e => (upd_ne na).trans e⟩
    refine ⟨_, 
      (pss_cons (ps_augS (L2.pv 0) pe_int LB.get_list pe_int ip_add set_list)
      (pss_cons (ps_if (pt_cmpR op_gt (pe_ix ix_list (L2.pv 0) pe_int (fun _ _ => rfl)) pe_int (nomark _))
        (pss_cons (ps_set (i := 2) sc_pull.nd rfl (.inl rfl) (pe_ix ix_list (L2.pv 0) pe_int (fun _ _ => rfl)))
        (pss_cons (ps_asg (pe_op op_fdiv (L2.pv 2) (L2.pv 1)) (pg_sub (L2.pv 0) pe_int set_list))
        (pss_one (ps_ret (pe_op op_mod (L2.pv 2) (L2.pv 1))))))
        pss_nil)
      (pss_cons (ps_set (i := 3) sc_pull.nd rfl (.inl rfl) (pe_ix ix_list (L2.pv 0) pe_int (fun _ _ => rfl)))
      (Evl.pss_cut (ps_if (pt_cmpR op_lt (pe_ix ix_list (L2.pv 0) pe_int (fun _ _ => rfl)) (pe_callB call_len_seq (by rfl) T.m_len PySem.boot_len (pa_cons (pe_ix ix_list (L2.pv 0) pe_int (fun _ _ => rfl)) pa_nil)) (nomark _))
        (pss_cons (ps_set (i := 3) sc_pull.nd rfl (.inl rfl) (pe_ix ix_list (pe_ix ix_list (L2.pv 0) pe_int (fun _ _ => rfl)) (pe_ix ix_list (L2.pv 0) pe_int (fun _ _ => rfl)) (fun _ _ => rfl)))
        (pss_one (ps_augS (L2.pv 0) pe_int LB.get_list pe_int ip_add set_list)))
        pss_nil)
      (pss_cons (ps_if (pt_cmpR op_ge (L2.pv 3) (pe_op op_pow pe_int pe_int) (nomark _))
        (pss_cons (ps_asg (pe_op op_fdiv (L2.pv 3) (L2.pv 1)) (pg_sub (L2.pv 0) pe_int set_list))
        (pss_one (ps_ret (pe_op op_mod (L2.pv 3) (L2.pv 1)))))
        pss_nil)
      (pss_cons (ps_set (i := 4) sc_pull.nd rfl (.inl rfl) (pe_op op_mod (pe_op op_add (pe_op op_add (pe_op op_add (pe_op op_mul (L2.pv 3) pe_int) (pe_op op_mul (pe_ix ix_list (L2.pv 0) pe_int (fun _ _ => rfl)) pe_int)) (pe_op op_mul (pe_ix ix_list (L2.pv 0) pe_int (fun _ _ => rfl)) pe_int)) pe_int) pe_int))
      (pss_cons (ps_set (i := 5) sc_pull.nd rfl (.inl rfl) (pe_op op_mod (pe_op op_add (pe_op op_add (pe_op op_mul (L2.pv 4) (pe_op op_add (pe_op op_mod (L2.pv 4) pe_int) pe_int)) (pe_op op_mul (pe_ix ix_list (L2.pv 0) pe_int (fun _ _ => rfl)) pe_int)) (pe_op op_mod (pe_ix ix_list (L2.pv 0) pe_int (fun _ _ => rfl)) pe_int)) pe_int))
      (pss_cons (ps_asg (pe_op op_mod (pe_op op_add (pe_op op_mul (pe_ix ix_list (L2.pv 0) pe_int (fun _ _ => rfl)) pe_int) (L2.pv 5)) pe_int) (pg_sub (L2.pv 0) pe_int set_list))
      (pss_one (ps_ret (pe_op op_mod (pe_op op_fdiv (L2.pv 5) pe_int) (L2.pv 1)))))))))))), ?_⟩
    -- the count
    refine ⟨.ref b, rfl, b, _, 4, .int c, rfl, rfl, .of e1, rfl, c, 1, rfl, rfl, b, _, 4, 4, rfl, rfl, e1, rfl, ?_⟩
    show _
    have f1 : (upd H b (bagL cs i r sd (c + 1))) b = some (bagL cs i r sd (c + 1)) := upd_same
    refine ⟨.ref b, rfl, b, _, 2, .int r, rfl, rfl, .of f1, rfl, r, 0, rfl, rfl, _, rfl, ite2 (fun e => ?_) (fun e => ?_)⟩
    · -- what is left of a great number
      refine ⟨.ref b, rfl, b, _, 2, .int r, rfl, rfl, .of f1, rfl, ?_⟩
      refine ⟨.int r, rfl, .int m, rfl, r, m, rfl, rfl, ⟨m0, by omega⟩, .ref b, rfl, b, _, 2, 2, rfl, rfl, f1, rfl, ?_⟩
      refine ⟨.int r, rfl, .int m, rfl, r, m, rfl, rfl, m0, ?_⟩
      rw [upd_upd]
      exact q _ _ (fin i (r / m) sd (c + 1) i0) (Int.emod_nonneg _ (by omega)) (Int.emod_lt_of_pos _ m0)
    · refine ⟨.ref b, rfl, b, _, 3, .int sd, rfl, rfl, .of f1, rfl, ?_⟩
      -- a cell, where one is left
      have f2 : (upd H b (bagL cs i r sd (c + 1))) cs = some (.lst (ns.map V.int)) := (upd_ne nsb).trans e2
      refine ⟨fun σ G => ∃ i' cell, 0 ≤ i' ∧ σ = [some (.ref b), some (.int m), none, some (.int cell), none, none] ∧ G = upd H b (bagL cs i' r sd (c + 1)), ⟨.ref b, rfl, b, _, 1, .int i, rfl, rfl, .of f1, rfl, .ref b, rfl, b, _, 0, .ref cs, rfl, rfl, .of f1, rfl, cs, _, rfl, .inl (.of f2), i, _, rfl, rfl, _, rfl, ite2 (fun e' => ?_) (fun _ => ⟨i, sd, i0, rfl, rfl⟩)⟩, fun σ G h => ?_⟩
      · have hi : i < ns.length := by
          have := of_decide_eq_true e'
          rw [List.length_map] at this
          exact this
        have gi : (ns.map V.int)[i.toNat]? = some (.int (ns[i.toNat]'(by omega))) := by
          rw [List.getElem?_map, List.getElem?_eq_getElem (by omega)]
          rfl
        have ga : atI (ns.map V.int) i = some (.int (ns[i.toNat]'(by omega))) := by
          have := atI_nat gi
          rw [Int.toNat_of_nonneg i0] at this
          exact this
        refine ⟨.ref b, rfl, b, _, 0, .ref cs, rfl, rfl, .of f1, rfl, .ref b, rfl, b, _, 1, .int i, rfl, rfl, .of f1, rfl, cs, _, i, _, rfl, rfl, .of f2, ga, ?_⟩
        refine ⟨.ref b, rfl, b, _, 1, .int i, rfl, rfl, .of f1, rfl, i, 1, rfl, rfl, b, _, 1, 1, rfl, rfl, f1, rfl, ?_⟩
        exact ⟨i + 1, _, by omega, rfl, upd_upd⟩
      · obtain ⟨i', cell, h0, rfl, rfl⟩ := h
        have g1 : (upd H b (bagL cs i' r sd (c + 1))) b = some (bagL cs i' r sd (c + 1)) := upd_same
        refine ⟨.int cell, rfl, 10, 18, rfl, rfl, ⟨by decide, by decide, by decide⟩, cell, _, rfl, rfl, _, rfl, ite2 (fun _ => ?_) (fun _ => ?_)⟩
        · refine ⟨.int cell, rfl, .int m, rfl, cell, m, rfl, rfl, ⟨m0, by omega⟩, .ref b, rfl, b, _, 2, 2, rfl, rfl, g1, rfl, ?_⟩
          refine ⟨.int cell, rfl, .int m, rfl, cell, m, rfl, rfl, m0, ?_⟩
          rw [upd_upd]
          exact q _ _ (fin i' (cell / m) sd (c + 1) h0) (Int.emod_nonneg _ (by omega)) (Int.emod_lt_of_pos _ m0)
        · -- a number by mixing
          refine ⟨.int cell, rfl, cell, 48271, rfl, rfl, .inr ⟨by decide, by decide⟩, .ref b, rfl, b, _, 3, .int sd, rfl, rfl, .of g1, rfl, sd, 40503, rfl, rfl, .inr ⟨by decide, by decide⟩, _, _, rfl, rfl,
            .ref b, rfl, b, _, 4, .int (c + 1), rfl, rfl, .of g1, rfl, c + 1, 69621, rfl, rfl, .inr ⟨by decide, by decide⟩, _, _, rfl, rfl, _, 12345, rfl, rfl, _, 2147483629, rfl, rfl, (by show (0 : Int) < 2147483629; decide), ?_⟩
          refine ⟨_, rfl, _, rfl, _, 65521, rfl, rfl, (by show (0 : Int) < 65521; decide), _, 11, rfl, rfl, _, _, rfl, rfl, .inl ⟨by omega, by omega⟩,
            .ref b, rfl, b, _, 4, .int (c + 1), rfl, rfl, .of g1, rfl, c + 1, 40692, rfl, rfl, .inr ⟨by decide, by decide⟩, _, _, rfl, rfl,
            .ref b, rfl, b, _, 3, .int sd, rfl, rfl, .of g1, rfl, sd, 104729, rfl, rfl, (by show (0 : Int) < 104729; decide), _, _, rfl, rfl, _, 998244353, rfl, rfl, (by show (0 : Int) < 998244353; decide), ?_⟩
          refine ⟨.ref b, rfl, b, _, 3, .int sd, rfl, rfl, .of g1, rfl, sd, 16807, rfl, rfl, .inr ⟨by decide, by decide⟩, _, rfl, _, _, rfl, rfl, _, 2147483563, rfl, rfl, (by show (0 : Int) < 2147483563; decide), .ref b, rfl, b, _, 3, 3, rfl, rfl, g1, rfl, ?_⟩
          refine ⟨_, rfl, _, 7, rfl, rfl, ⟨by decide, by decide⟩, .int m, rfl, _, m, rfl, rfl, m0, ?_⟩
          rw [upd_upd]
          exact q _ _ (fin i' r _ (c + 1) h0) (Int.emod_nonneg _ (by omega)) (Int.emod_lt_of_pos _ m0)

/-! ### one of a list, one of a text's signs -/
def sp_of : Sp := fun vs H Q _ => ∃ (b s : Addr), Bag b s H ∧
  ((∃ (a : Addr) (xs : List V), vs = [.ref b, .ref a] ∧ At b H a (.lst xs) ∧ 0 < xs.length ∧ xs.length < 1000000 ∧ ∀ H' v, BX b s H H' → v ∈ xs → Q v H') ∨
   (∃ z : Str, vs = [.ref b, .str z] ∧ 0 < z.length ∧ z.length < 1000000 ∧ ∀ H' c, BX b s H H' → c ∈ z.cps.toList → Q (.str (sg c)) H'))
theorem ok_of (T : Tx K mg) : FnOk P w K mg base CX0 2 T.f_of T.fd_of P_of sp_of := by
  have G_pull : FnOk P w K mg base CX0 1 T.f_pull T.fd_pull P_pull sp_pull := ok_pull T
  refine T.F_of.ok sc_of (fun vs H Q E h => ?_) (fun cdv A outer s H vs Q E hr h => ?_)
  · obtain ⟨b, s, _, ⟨a, xs, rfl, _⟩ | ⟨z, rfl, _⟩⟩ := h
    · rfl
    · rfl
  · obtain ⟨b, cs, hB, ⟨a, xs, rfl, hA, l0, l1, q⟩ | ⟨z, rfl, l0, l1, q⟩⟩ := h
    · refine ⟨_, 
      (pss_one (ps_ret (pe_ix ix_list (L2.pv 1) (pe_call G_pull (hr.mono (by decide)) (by rfl) T.g_pull T.F_pull.kp T.b_pull .nil pass0 (pa_cons (L2.pv 0) (pa_cons (pe_callB call_len_seq (by rfl) T.m_len PySem.boot_len (pa_cons (L2.pv 1) pa_nil)) pa_nil))) (fun _ _ => rfl)))), ?_⟩
      refine ⟨.ref a, rfl, .ref b, rfl, .ref a, rfl, a, xs, rfl, .inl hA.l, b, cs, xs.length, rfl, hB, by omega, by omega, fun H1 v x v0 v1 => ?_⟩
      obtain ⟨y, hy, ay⟩ := mem_get (xs := xs) rfl v0 v1
      exact ⟨a, xs, v, y, rfl, rfl, (hA.mv x).l, ay, q _ _ x hy⟩
    · refine ⟨_, 
      (pss_one (ps_ret (pe_ix ix_str (L2.pv 1) (pe_call G_pull (hr.mono (by decide)) (by rfl) T.g_pull T.F_pull.kp T.b_pull .nil pass0 (pa_cons (L2.pv 0) (pa_cons (pe_callB call_len_str (by rfl) T.m_len PySem.boot_len (pa_cons (L2.pv 1) pa_nil)) pa_nil))) (fun _ _ => rfl)))), ?_⟩
      refine ⟨.str z, rfl, .ref b, rfl, .str z, rfl, z, rfl, Nat.le_trans (Nat.le_of_lt l1) (by decide), b, cs, z.length, rfl, hB, by omega, by omega, fun H1 v x v0 v1 => ?_⟩
      obtain ⟨y, hy, ay⟩ := mem_get (xs := z.cps.toList) (n := z.length) (by simp [Str.length]) v0 v1
      exact ⟨z, v, y, rfl, rfl, Nat.le_trans (Nat.le_of_lt l1) (by decide), ay, q _ _ x hy⟩

/-! ### the same data -/
def sp_same (K : PySem.W.Frag) (n : Nat) : Sp := fun vs H Q _ => ∃ v w, vs = [v, w] ∧ Sam K H n v w ∧ ∀ H', Same H H' → Q (.bl true) H'
theorem same_flat (T : Tx K mg) {k n : Nat} {cdv : Value} {A : Around} {outer : List Env} {s : Shared} {H : Hp} {Q : VK} {E : XK} {v : V} (hv : flat1 v = true) (q : ∀ H', Same H H' → Q (.bl true) H') :
    ∃ t, PSs (cxOf CX0 P w K mg base N_same "_law_same" (defScope s_same) T.f_same cdv A outer s H E).nox (defBody s_same) t ∧ t { nx := fun _ H' => Q .non H', rt := Q } (start N_same [v, v]) H := by
  refine ⟨_, 
      (pss_cons (ps_if (pt_val (pe_callB call_isiT (by rfl) T.m_isinstance (by decide +kernel) (pa_cons (L2.pv 1) (pa_cons (pe_tup (pa_cons (pe_bltn (v := .ty "list") (by rfl) T.m_list (by decide +kernel) rfl) (pa_cons (pe_bltn (v := .ty "tuple") (by rfl) T.m_tuple (by decide +kernel) rfl) pa_nil))) pa_nil))))
        pss_never
        pss_nil)
      (pss_cons (ps_if (PW.pt (pw_or (pt_cmpR op_isN (L2.pv 1) pe_non (nomark _)) (pw_or1 (pt_cmpR op_isN (L2.pv 0) pe_non (nomark _)))))
        (pss_one (ps_ret (pe_and (pe_cmpR op_isN (L2.pv 0) pe_non (nomark _)) (pe_one (pe_cmpR op_isN (L2.pv 1) pe_non (nomark _))))))
        pss_nil)
      (pss_cons (ps_if (PW.pt (pw_or (pt_cmpR op_ne (pe_callB call_isi (by rfl) T.m_isinstance (by decide +kernel) (pa_cons (L2.pv 0) (pa_cons (pe_bltn (v := .ty "bool") (by rfl) T.m_bool (by decide +kernel) rfl) pa_nil))) (pe_callB call_isi (by rfl) T.m_isinstance (by decide +kernel) (pa_cons (L2.pv 1) (pa_cons (pe_bltn (v := .ty "bool") (by rfl) T.m_bool (by decide +kernel) rfl) pa_nil))) (nomark _)) (pw_or1 (pt_cmpR op_ne (pe_callB call_isi (by rfl) T.m_isinstance (by decide +kernel) (pa_cons (L2.pv 0) (pa_cons (pe_bltn (v := .ty "int") (by rfl) T.m_int (by decide +kernel) rfl) pa_nil))) (pe_callB call_isi (by rfl) T.m_isinstance (by decide +kernel) (pa_cons (L2.pv 1) (pa_cons (pe_bltn (v := .ty "int") (by rfl) T.m_int (by decide +kernel) rfl) pa_nil))) (nomark _)))))
        (pss_one (ps_ret pe_bl))
        pss_nil)
      (pss_one (ps_ret (pe_and (pe_cmpR op_eq (pe_callB call_isi (by rfl) T.m_isinstance (by decide +kernel) (pa_cons (L2.pv 0) (pa_cons (pe_bltn (v := .ty "str") (by rfl) T.m_str (by decide +kernel) rfl) pa_nil))) (pe_callB call_isi (by rfl) T.m_isinstance (by decide +kernel) (pa_cons (L2.pv 1) (pa_cons (pe_bltn (v := .ty "str") (by rfl) T.m_str (by decide +kernel) rfl) pa_nil))) (nomark _)) (pe_one (pe_cmpR op_eq (L2.pv 0) (L2.pv 1) (nomark _))))))))), ?_⟩
  cases v with
  | byt _ => cases hv
  | flt _ => cases hv
  | ref _ => cases hv
  | ty _ => cases hv
  | non =>
    refine ⟨.non, rfl, (by show 2 ≤ sizeLine; decide), fun p np => ?_⟩
    refine ⟨.non, p, _, _, _, false, rfl, upd_same, .cons (.ty "list") (.cons (.ty "tuple") .nil), .base .non, kit_seq (by decide +kernel) (by decide +kernel), false, rfl, iteF ?_⟩
    refine ⟨.non, rfl, rfl, _, rfl, iteT (iteT ?_)⟩
    refine ⟨.non, rfl, rfl, _, rfl, iteT ?_⟩
    exact ⟨.non, rfl, rfl, q _ (same_new np)⟩
  | bl y =>
    refine ⟨.bl y, rfl, (by show 2 ≤ sizeLine; decide), fun p np => ?_⟩
    refine ⟨.bl y, p, _, _, _, false, rfl, upd_same, .cons (.ty "list") (.cons (.ty "tuple") .nil), .base (.bl y), kit_seq (by decide +kernel) (by decide +kernel), false, rfl, iteF ?_⟩
    refine ⟨.bl y, rfl, rfl, _, rfl, iteF ⟨.bl y, rfl, rfl, _, rfl, iteF ?_⟩⟩
    refine ⟨.bl y, rfl, .bl y, .ty "bool", _, _, true, rfl, .ty _, .base (.bl y), kit_ty (by decide +kernel), .bl y, rfl, .bl y, .ty "bool", _, _, true, rfl, .ty _, .base (.bl y), kit_ty (by decide +kernel), rfl, _, rfl, iteF ⟨.bl y, rfl, .bl y, .ty "int", _, _, true, rfl, .ty _, .base (.bl y), kit_ty (by decide +kernel), .bl y, rfl, .bl y, .ty "int", _, _, true, rfl, .ty _, .base (.bl y), kit_ty (by decide +kernel), rfl, _, rfl, iteF ?_⟩⟩
    refine ⟨.bl y, rfl, .bl y, .ty "str", _, _, false, rfl, .ty _, .base (.bl y), kit_ty (by decide +kernel), .bl y, rfl, .bl y, .ty "str", _, _, false, rfl, .ty _, .base (.bl y), kit_ty (by decide +kernel), rfl, _, rfl, iteT ⟨.bl y, rfl, .bl y, rfl, rfl, ?_⟩⟩
    rw [decide_eq_true rfl]
    exact q _ (same_new np)
  | int y =>
    refine ⟨.int y, rfl, (by show 2 ≤ sizeLine; decide), fun p np => ?_⟩
    refine ⟨.int y, p, _, _, _, false, rfl, upd_same, .cons (.ty "list") (.cons (.ty "tuple") .nil), .base (.int y), kit_seq (by decide +kernel) (by decide +kernel), false, rfl, iteF ?_⟩
    refine ⟨.int y, rfl, rfl, _, rfl, iteF ⟨.int y, rfl, rfl, _, rfl, iteF ?_⟩⟩
    refine ⟨.int y, rfl, .int y, .ty "bool", _, _, false, rfl, .ty _, .base (.int y), kit_ty (by decide +kernel), .int y, rfl, .int y, .ty "bool", _, _, false, rfl, .ty _, .base (.int y), kit_ty (by decide +kernel), rfl, _, rfl, iteF ⟨.int y, rfl, .int y, .ty "int", _, _, true, rfl, .ty _, .base (.int y), kit_ty (by decide +kernel), .int y, rfl, .int y, .ty "int", _, _, true, rfl, .ty _, .base (.int y), kit_ty (by decide +kernel), rfl, _, rfl, iteF ?_⟩⟩
    refine ⟨.int y, rfl, .int y, .ty "str", _, _, false, rfl, .ty _, .base (.int y), kit_ty (by decide +kernel), .int y, rfl, .int y, .ty "str", _, _, false, rfl, .ty _, .base (.int y), kit_ty (by decide +kernel), rfl, _, rfl, iteT ⟨.int y, rfl, .int y, rfl, rfl, ?_⟩⟩
    rw [decide_eq_true rfl]
    exact q _ (same_new np)
  | str y =>
    refine ⟨.str y, rfl, (by show 2 ≤ sizeLine; decide), fun p np => ?_⟩
    refine ⟨.str y, p, _, _, _, false, rfl, upd_same, .cons (.ty "list") (.cons (.ty "tuple") .nil), .base (.str y), kit_seq (by decide +kernel) (by decide +kernel), false, rfl, iteF ?_⟩
    refine ⟨.str y, rfl, rfl, _, rfl, iteF ⟨.str y, rfl, rfl, _, rfl, iteF ?_⟩⟩
    refine ⟨.str y, rfl, .str y, .ty "bool", _, _, false, rfl, .ty _, .base (.str y), kit_ty (by decide +kernel), .str y, rfl, .str y, .ty "bool", _, _, false, rfl, .ty _, .base (.str y), kit_ty (by decide +kernel), rfl, _, rfl, iteF ⟨.str y, rfl, .str y, .ty "int", _, _, false, rfl, .ty _, .base (.str y), kit_ty (by decide +kernel), .str y, rfl, .str y, .ty "int", _, _, false, rfl, .ty _, .base (.str y), kit_ty (by decide +kernel), rfl, _, rfl, iteF ?_⟩⟩
    refine ⟨.str y, rfl, .str y, .ty "str", _, _, true, rfl, .ty _, .base (.str y), kit_ty (by decide +kernel), .str y, rfl, .str y, .ty "str", _, _, true, rfl, .ty _, .base (.str y), kit_ty (by decide +kernel), rfl, _, rfl, iteT ⟨.str y, rfl, .str y, rfl, rfl, ?_⟩⟩
    rw [decide_eq_true rfl]
    exact q _ (same_new np)
theorem ok_same (T : Tx K mg) : ∀ n : Nat, FnOk P w K mg base CX0 (n + 1) T.f_same T.fd_same P_same (sp_same K n)
  | 0 => by
    refine T.F_same.ok sc_same (fun vs H Q E h => ?_) (fun cdv A outer s H vs Q E hr h => ?_)
    · obtain ⟨v, w, rfl, _⟩ := h
      rfl
    · obtain ⟨v, w, rfl, ⟨hf, rfl⟩, q⟩ := h
      exact same_flat T (k := 0) (n := 0) hf q
  | n + 1 => by
    have G_same : FnOk P w K mg base CX0 (n + 1) T.f_same T.fd_same P_same (sp_same K n) := ok_same T n
    refine T.F_same.ok sc_same (fun vs H Q E h => ?_) (fun cdv A outer s H vs Q E hr h => ?_)
    · obtain ⟨v, w, rfl, _⟩ := h
      rfl
    · obtain ⟨v, w, rfl, ⟨hf, rfl⟩ | ⟨a, c, xs, ys, rfl, rfl, h, hz, p'⟩, q⟩ := h
      · exact same_flat T (k := 0) (n := 0) hf q
      have pl : xs.length = ys.length := Paired.length p'
      rcases h with ⟨h1, h2⟩ | ⟨h1, h2⟩
      · -- two lists
        refine ⟨_, 
      (pss_cons (ps_if (pt_val (pe_callB call_isiT (by rfl) T.m_isinstance (by decide +kernel) (pa_cons (L2.pv 1) (pa_cons (pe_tup (pa_cons (pe_bltn (v := .ty "list") (by rfl) T.m_list (by decide +kernel) rfl) (pa_cons (pe_bltn (v := .ty "tuple") (by rfl) T.m_tuple (by decide +kernel) rfl) pa_nil))) pa_nil))))
        (pss_cons (ps_if (PW.pt (pw_or (pt_cmpR op_ne (pe_callB call_isi (by rfl) T.m_isinstance (by decide +kernel) (pa_cons (L2.pv 0) (pa_cons (pe_bltn (v := .ty "list") (by rfl) T.m_list (by decide +kernel) rfl) pa_nil))) (pe_callB call_isi (by rfl) T.m_isinstance (by decide +kernel) (pa_cons (L2.pv 1) (pa_cons (pe_bltn (v := .ty "list") (by rfl) T.m_list (by decide +kernel) rfl) pa_nil))) (nomark _)) (pw_or1 (pt_cmpR op_ne (pe_callB call_isi (by rfl) T.m_isinstance (by decide +kernel) (pa_cons (L2.pv 0) (pa_cons (pe_bltn (v := .ty "tuple") (by rfl) T.m_tuple (by decide +kernel) rfl) pa_nil))) (pe_callB call_isi (by rfl) T.m_isinstance (by decide +kernel) (pa_cons (L2.pv 1) (pa_cons (pe_bltn (v := .ty "tuple") (by rfl) T.m_tuple (by decide +kernel) rfl) pa_nil))) (nomark _)))))
          (pss_one (ps_ret pe_bl))
          pss_nil)
        (pss_one (ps_ret (pe_and (pe_cmpR op_eq (pe_callB call_len_seq (by rfl) T.m_len PySem.boot_len (pa_cons (L2.pv 0) pa_nil)) (pe_callB call_len_seq (by rfl) T.m_len PySem.boot_len (pa_cons (L2.pv 1) pa_nil)) (nomark _)) (pe_one (pe_callB (cr_all rfl) (by rfl) T.m_all (by decide +kernel) (pa_cons (pe_lc (own := [("_law_a", 2), ("_law_b", 3)]) (g := (gTup K 2 (gCons (gName 2) (gCons (gName 3) gNil)))) (tt := tYes) (by rfl) sc_same.nd (RZ.pi_zipA (by rfl) T.m_zip (pa_cons (L2.pv 0) (pa_cons (L2.pv 1) pa_nil))) (blkOk_by (own := [("_law_a", 2), ("_law_b", 3)]) (N := N_same) (sc := defScope s_same) (by decide +kernel)) (fun _ _ _ _ _ => (pg_tup (by rfl) (pgs_cons (pg_name (i := 2) sc_same.nd rfl (.inl rfl)) (pgs_cons (pg_name (i := 3) sc_same.nd rfl (.inl rfl)) pgs_nil)))) (fun _ _ _ _ _ => pts_nil) (fun _ _ _ _ _ => (pe_call G_same hr (by rfl) T.g_same T.F_same.kp T.b_same .nil pass0 (pa_cons (L2.pv 2) (pa_cons (L2.pv 3) pa_nil))))) pa_nil)))))))
        pss_nil)
      pss_never), ?_⟩
        refine ⟨.ref c, rfl, (by show 2 ≤ sizeLine; decide), fun p np => ?_⟩
        have s1 : Same H (upd H p (.tup [.ty "list", .ty "tuple"])) := same_new np
        have k1 := s1 _ _ h1
        have k2 := s1 _ _ h2
        refine ⟨.ref c, p, _, _, _, true, rfl, upd_same, .cons (.ty "list") (.cons (.ty "tuple") .nil), .base (.lst k2), kit_lst, true, rfl, iteT ?_⟩
        refine ⟨.ref a, rfl, .ref a, .ty "list", _, _, true, rfl, .ty _, .base (.lst k1), kit_ty (by decide +kernel), .ref c, rfl, .ref c, .ty "list", _, _, true, rfl, .ty _, .base (.lst k2), kit_ty (by decide +kernel), rfl, _, rfl, iteF ?_⟩
        refine ⟨.ref a, rfl, .ref a, .ty "tuple", _, _, false, rfl, .ty _, .base (.lst k1), kit_ty (by decide +kernel), .ref c, rfl, .ref c, .ty "tuple", _, _, false, rfl, .ty _, .base (.lst k2), kit_ty (by decide +kernel), rfl, _, rfl, iteF ?_⟩
        refine ⟨.ref a, rfl, a, xs, rfl, .inl (.of k1), .ref c, rfl, c, ys, rfl, .inl (.of k2), rfl, _, rfl, ?_⟩
        rw [← pl, decide_eq_true rfl]
        refine iteT ?_
        refine ⟨.ref a, rfl, .ref c, rfl, a, c, xs, ys, rfl, .inl ⟨.of k1, .of k2, fun D nD => ?_⟩⟩
        have nD0 : H D = none := s1.free nD
        refine lc_it (walk_zip (n := xs.length) (by rw [← pl, Nat.min_self])) (fun i H' => Same H H' ∧ H' D = some (.lst ((List.replicate i true).map V.bl)))
          ⟨same_mut s1 nD0, upd_same⟩ (fun i H' _ h => ⟨.of (h.1 _ _ h1), .of (h.1 _ _ h2)⟩) (fun i x H1 H' hi h y => ?_) (fun H' h => ?_)
        · obtain ⟨sm, eD⟩ := h
          obtain ⟨U, u, v, rfl, nU, rfl, gu, gv⟩ := y
          have sU : Same H (upd H1 U (.tup [u, v])) := sm.trans (same_new nU)
          refine ⟨U, [u, v], rfl, .of upd_same, rfl, u, [v], rfl, v, [], rfl, rfl, ?_⟩
          refine ⟨rfl, u, rfl, v, rfl, u, v, rfl, (paired_get p' gu gv).mono sU, fun H3 s3 => ?_⟩
          have eD3 : H3 D = some (.lst ((List.replicate i true).map V.bl)) := s3 _ _ (by rw [upd_ne (ne_of_none eD nU)]; exact eD)
          refine ⟨_, eD3, ?_, same_mut (sU.trans s3) nD0, ?_⟩
          · rw [List.length_map, List.length_replicate]
            exact Nat.lt_trans hi (Nat.lt_of_lt_of_le hz (by decide))
          · rw [upd_same, List.replicate_succ', List.map_append]
            rfl
        · obtain ⟨sm, eD⟩ := h
          refine ⟨D, _, rfl, .of eD, ?_⟩
          rw [show (List.replicate xs.length true).all id = true from by rw [List.all_replicate]; simp]
          exact q _ sm
      · -- two tuples
        refine ⟨_, 
      (pss_cons (ps_if (pt_val (pe_callB call_isiT (by rfl) T.m_isinstance (by decide +kernel) (pa_cons (L2.pv 1) (pa_cons (pe_tup (pa_cons (pe_bltn (v := .ty "list") (by rfl) T.m_list (by decide +kernel) rfl) (pa_cons (pe_bltn (v := .ty "tuple") (by rfl) T.m_tuple (by decide +kernel) rfl) pa_nil))) pa_nil))))
        (pss_cons (ps_if (PW.pt (pw_or (pt_cmpR op_ne (pe_callB call_isi (by rfl) T.m_isinstance (by decide +kernel) (pa_cons (L2.pv 0) (pa_cons (pe_bltn (v := .ty "list") (by rfl) T.m_list (by decide +kernel) rfl) pa_nil))) (pe_callB call_isi (by rfl) T.m_isinstance (by decide +kernel) (pa_cons (L2.pv 1) (pa_cons (pe_bltn (v := .ty "list") (by rfl) T.m_list (by decide +kernel) rfl) pa_nil))) (nomark _)) (pw_or1 (pt_cmpR op_ne (pe_callB call_isi (by rfl) T.m_isinstance (by decide +kernel) (pa_cons (L2.pv 0) (pa_cons (pe_bltn (v := .ty "tuple") (by rfl) T.m_tuple (by decide +kernel) rfl) pa_nil))) (pe_callB call_isi (by rfl) T.m_isinstance (by decide +kernel) (pa_cons (L2.pv 1) (pa_cons (pe_bltn (v := .ty "tuple") (by rfl) T.m_tuple (by decide +kernel) rfl) pa_nil))) (nomark _)))))
          (pss_one (ps_ret pe_bl))
          pss_nil)
        (pss_one (ps_ret (pe_and (pe_cmpR op_eq (pe_callB call_len_seq (by rfl) T.m_len PySem.boot_len (pa_cons (L2.pv 0) pa_nil)) (pe_callB call_len_seq (by rfl) T.m_len PySem.boot_len (pa_cons (L2.pv 1) pa_nil)) (nomark _)) (pe_one (pe_callB (cr_all rfl) (by rfl) T.m_all (by decide +kernel) (pa_cons (pe_lc (own := [("_law_a", 2), ("_law_b", 3)]) (g := (gTup K 2 (gCons (gName 2) (gCons (gName 3) gNil)))) (tt := tYes) (by rfl) sc_same.nd (RZ.pi_zipA (by rfl) T.m_zip (pa_cons (L2.pv 0) (pa_cons (L2.pv 1) pa_nil))) (blkOk_by (own := [("_law_a", 2), ("_law_b", 3)]) (N := N_same) (sc := defScope s_same) (by decide +kernel)) (fun _ _ _ _ _ => (pg_tup (by rfl) (pgs_cons (pg_name (i := 2) sc_same.nd rfl (.inl rfl)) (pgs_cons (pg_name (i := 3) sc_same.nd rfl (.inl rfl)) pgs_nil)))) (fun _ _ _ _ _ => pts_nil) (fun _ _ _ _ _ => (pe_call G_same hr (by rfl) T.g_same T.F_same.kp T.b_same .nil pass0 (pa_cons (L2.pv 2) (pa_cons (L2.pv 3) pa_nil))))) pa_nil)))))))
        pss_nil)
      pss_never), ?_⟩
        refine ⟨.ref c, rfl, (by show 2 ≤ sizeLine; decide), fun p np => ?_⟩
        have s1 : Same H (upd H p (.tup [.ty "list", .ty "tuple"])) := same_new np
        have k1 := s1 _ _ h1
        have k2 := s1 _ _ h2
        refine ⟨.ref c, p, _, _, _, true, rfl, upd_same, .cons (.ty "list") (.cons (.ty "tuple") .nil), .base (.tup k2), kit_tup, true, rfl, iteT ?_⟩
        refine ⟨.ref a, rfl, .ref a, .ty "list", _, _, false, rfl, .ty _, .base (.tup k1), kit_ty (by decide +kernel), .ref c, rfl, .ref c, .ty "list", _, _, false, rfl, .ty _, .base (.tup k2), kit_ty (by decide +kernel), rfl, _, rfl, iteF ?_⟩
        refine ⟨.ref a, rfl, .ref a, .ty "tuple", _, _, true, rfl, .ty _, .base (.tup k1), kit_ty (by decide +kernel), .ref c, rfl, .ref c, .ty "tuple", _, _, true, rfl, .ty _, .base (.tup k2), kit_ty (by decide +kernel), rfl, _, rfl, iteF ?_⟩
        refine ⟨.ref a, rfl, a, xs, rfl, .inr (.of k1), .ref c, rfl, c, ys, rfl, .inr (.of k2), rfl, _, rfl, ?_⟩
        rw [← pl, decide_eq_true rfl]
        refine iteT ?_
        refine ⟨.ref a, rfl, .ref c, rfl, a, c, xs, ys, rfl, .inr ⟨.of k1, .of k2, fun D nD => ?_⟩⟩
        have nD0 : H D = none := s1.free nD
        refine lc_it (walk_zipT (n := xs.length) (by rw [← pl, Nat.min_self])) (fun i H' => Same H H' ∧ H' D = some (.lst ((List.replicate i true).map V.bl)))
          ⟨same_mut s1 nD0, upd_same⟩ (fun i H' _ h => ⟨.of (h.1 _ _ h1), .of (h.1 _ _ h2)⟩) (fun i x H1 H' hi h y => ?_) (fun H' h => ?_)
        · obtain ⟨sm, eD⟩ := h
          obtain ⟨U, u, v, rfl, nU, rfl, gu, gv⟩ := y
          have sU : Same H (upd H1 U (.tup [u, v])) := sm.trans (same_new nU)
          refine ⟨U, [u, v], rfl, .of upd_same, rfl, u, [v], rfl, v, [], rfl, rfl, ?_⟩
          refine ⟨rfl, u, rfl, v, rfl, u, v, rfl, (paired_get p' gu gv).mono sU, fun H3 s3 => ?_⟩
          have eD3 : H3 D = some (.lst ((List.replicate i true).map V.bl)) := s3 _ _ (by rw [upd_ne (ne_of_none eD nU)]; exact eD)
          refine ⟨_, eD3, ?_, same_mut (sU.trans s3) nD0, ?_⟩
          · rw [List.length_map, List.length_replicate]
            exact Nat.lt_trans hi (Nat.lt_of_lt_of_le hz (by decide))
          · rw [upd_same, List.replicate_succ', List.map_append]
            rfl
        · obtain ⟨sm, eD⟩ := h
          refine ⟨D, _, rfl, .of eD, ?_⟩
          rw [show (List.replicate xs.length true).all id = true from by rw [List.all_replicate]; simp]
          exact q _ sm

/-! ### three letters, a word of letters -/
def lets (cs : List Nat) : List V := cs.map fun c => V.str (sg c)
def sp_letters : Sp := fun vs H Q _ => ∃ b s, vs = [.ref b] ∧ Bag b s H ∧ ∀ H' p f y, BX b s H H' → H p = none → 0 ≤ f → f < 26 → y ∈ [(1 : Int), 3, 5, 7, 9, 11] →
  H' p = some (.lst (lets [lett f y 0, lett f y 1, lett f y 2])) → Q (.ref p) H'
theorem ok_letters (T : Tx K mg) : FnOk P w K mg base CX0 3 T.f_letters T.fd_letters P_letters sp_letters := by
  have G_pull : FnOk P w K mg base CX0 1 T.f_pull T.fd_pull P_pull sp_pull := ok_pull T
  have G_of : FnOk P w K mg base CX0 2 T.f_of T.fd_of P_of sp_of := ok_of T
  refine T.F_letters.ok sc_letters (fun vs H Q E h => ?_) (fun cdv A outer s H vs Q E hr h => ?_)
  · obtain ⟨b, s, rfl, _⟩ := h
    rfl
  · obtain ⟨b, cs, rfl, hB, q⟩ := h
    refine ⟨_, 
      (pss_cons (ps_set (i := 1) sc_letters.nd rfl (.inr rfl) pe_str)
      (pss_cons (ps_set (i := 2) sc_letters.nd rfl (.inr rfl) (pe_call G_pull (hr.mono (by decide)) (by rfl) T.g_pull T.F_pull.kp T.b_pull .nil pass0 (pa_cons (L2.pv 0) (pa_cons pe_int pa_nil))))
      (pss_cons (ps_set (i := 3) sc_letters.nd rfl (.inr rfl) (pe_call G_of (hr.mono (by decide)) (by rfl) T.g_of T.F_of.kp T.b_of .nil pass0 (pa_cons (L2.pv 0) (pa_cons (pe_lst (pa_cons pe_int (pa_cons pe_int (pa_cons pe_int (pa_cons pe_int (pa_cons pe_int (pa_cons pe_int pa_nil))))))) pa_nil))))
      (pss_one (ps_ret (pe_lc (own := [("_law_k", 4)]) (g := (gName 4)) (tt := tYes) (by rfl) sc_letters.nd (pi_range1 (by rfl) T.m_range (pa_cons pe_int pa_nil)) (blkOk_by (own := [("_law_k", 4)]) (N := N_letters) (sc := defScope s_letters) (by decide +kernel)) (fun _ _ _ _ _ => (pg_name (i := 4) sc_letters.nd rfl (.inl rfl))) (fun _ _ _ _ _ => pts_nil) (fun _ _ _ _ _ => (pe_ix ix_str (L2.pv 1) (pe_op op_mod (pe_op op_add (L2.pv 2) (pe_op op_mul (L2.pv 3) (L2.pv 4))) pe_int) (fun _ _ => rfl))))))))), ?_⟩
    refine ⟨.ref b, rfl, b, cs, 26, rfl, hB, by decide, by decide, fun H1 f x1 f0 f1 => ?_⟩
    refine ⟨.ref b, rfl, (by show 6 ≤ sizeLine; decide), fun l nl => ?_⟩
    have x2 : BX b cs H1 (upd H1 l (.lst [.int 1, .int 3, .int 5, .int 7, .int 9, .int 11])) := .new x1.bag nl
    refine ⟨b, cs, x2.bag, .inl ⟨l, _, rfl, .new x1.bag nl, by decide, by decide, fun H2 v x3 hv => ?_⟩⟩
    obtain ⟨y, hy, rfl⟩ : ∃ y : Int, y ∈ [(1 : Int), 3, 5, 7, 9, 11] ∧ v = .int y := by
      simp only [List.mem_cons, List.not_mem_nil, or_false] at hv
      rcases hv with rfl | rfl | rfl | rfl | rfl | rfl
      all_goals exact ⟨_, by decide, rfl⟩
    have x4 : BX b cs H H2 := x1.trans (x2.trans x3)
    have hy1 : 0 < y ∧ y < 12 := by
      simp only [List.mem_cons, List.not_mem_nil, or_false] at hy
      omega
    refine ⟨3, rfl, by decide, by decide, fun D nD => ?_⟩
    have nD0 : H D = none := x4.back nD
    refine lc_range (lo := 0) (n := 3) (fun i H' => BX b cs H H' ∧ H' D = some (.lst (lets ((List.range i).map (lett f y))))) ⟨x4.mut hB nD0, upd_same⟩ (fun i H' hi h => ?_) (fun H' h => ?_)
    · obtain ⟨x, eD⟩ := h
      refine ⟨rfl, .str alphabet, rfl, .int f, rfl, .int y, rfl, .int (0 + i), rfl, y, 0 + i, rfl, rfl, .inl ⟨by omega, by omega⟩, f, _, rfl, rfl, _, 26, rfl, rfl, (by show (0 : Int) < 26; decide), alphabet, _, _, rfl, rfl, by decide +kernel, alpha_at (Int.emod_nonneg _ (by decide)) (Int.emod_lt_of_pos _ (by decide)), _, eD, ?_, x.mut hB nD0, ?_⟩
      · simp only [lets, List.length_map, List.length_range]
        exact small1000 (by omega)
      · rw [upd_same, List.range_succ]
        simp only [lets, List.map_append, List.map_cons, List.map_nil, lett, Int.zero_add]
    · obtain ⟨x, eD⟩ := h
      exact q _ D f y x nD0 f0 f1 hy eD
def sp_word : Sp := fun vs H Q _ => ∃ (b s a : Addr) (cs : List Nat) (top : Int), vs = [.ref b, .ref a, .int top] ∧ Bag b s H ∧ At b H a (.lst (lets cs)) ∧ 0 < cs.length ∧ cs.length < 1000 ∧ 0 ≤ top ∧ top < 1000 ∧
  ∀ H' zs, BX b s H H' → (zs.length : Int) ≤ top → (∀ c ∈ zs, c ∈ cs) → Q (.str (tx zs)) H'
theorem ok_word (T : Tx K mg) : FnOk P w K mg base CX0 3 T.f_word T.fd_word P_word sp_word := by
  have G_pull : FnOk P w K mg base CX0 1 T.f_pull T.fd_pull P_pull sp_pull := ok_pull T
  have G_of : FnOk P w K mg base CX0 2 T.f_of T.fd_of P_of sp_of := ok_of T
  refine T.F_word.ok sc_word (fun vs H Q E h => ?_) (fun cdv A outer s H vs Q E hr h => ?_)
  · obtain ⟨b, s, a, cs, top, rfl, _⟩ := h
    rfl
  · obtain ⟨b, cl, a, cs, top, rfl, hB, hA, l0, l1, t0, t1, q⟩ := h
    refine ⟨_, 
      (pss_one (ps_ret (pe_join pe_str (pe_lc (own := [("_law_k", 3)]) (g := (gName 3)) (tt := tYes) (by rfl) sc_word.nd (pi_range1 (by rfl) T.m_range (pa_cons (pe_call G_pull (hr.mono (by decide)) (by rfl) T.g_pull T.F_pull.kp T.b_pull .nil pass0 (pa_cons (L2.pv 0) (pa_cons (pe_op op_add (L2.pv 2) pe_int) pa_nil))) pa_nil)) (blkOk_by (own := [("_law_k", 3)]) (N := N_word) (sc := defScope s_word) (by decide +kernel)) (fun _ _ _ _ _ => (pg_name (i := 3) sc_word.nd rfl (.inl rfl))) (fun _ _ _ _ _ => pts_nil) (fun _ _ _ _ _ => (pe_call G_of (hr.mono (by decide)) (by rfl) T.g_of T.F_of.kp T.b_of .nil pass0 (pa_cons (L2.pv 0) (pa_cons (L2.pv 1) pa_nil)))))))), ?_⟩
    refine ⟨⟨_, rfl⟩, .ref b, rfl, .int top, rfl, top, 1, rfl, rfl, b, cl, top + 1, rfl, hB, by omega, by omega, fun H1 n x1 n0 n1 => ⟨n, rfl, by omega, by omega, fun D nD => ?_⟩⟩
    have nD0 : H D = none := x1.back nD
    refine lc_range (lo := 0) (n := n.toNat) (fun i H' => BX b cl H H' ∧ ∃ zs : List Nat, zs.length = i ∧ (∀ c ∈ zs, c ∈ cs) ∧ H' D = some (.lst (lets zs))) ⟨x1.mut hB nD0, [], rfl, (fun _ h => nomatch h), upd_same⟩ (fun i H' hi h => ?_) (fun H' h => ?_)
    · obtain ⟨x, zs, hz, hc, eD⟩ := h
      refine ⟨rfl, .ref b, rfl, .ref a, rfl, b, cl, x.bag, .inl ⟨a, _, rfl, hA.mv x, by simpa [lets] using l0, by simpa [lets] using Nat.lt_trans l1 (by decide), fun H2 v x2 hv => ?_⟩⟩
      obtain ⟨c, hcc, rfl⟩ := List.mem_map.mp hv
      refine ⟨_, x2.keep D _ (hB.nb nD0) eD, ?_, (x.trans x2).mut hB nD0, zs ++ [c], ?_, ?_, ?_⟩
      · simp only [lets, List.length_map]
        exact small1000 (by omega)
      · simp [hz]
      · intro d hd
        rcases List.mem_append.mp hd with h | h
        · exact hc d h
        · rw [List.mem_singleton.mp h]
          exact hcc
      · rw [upd_same]
        simp [lets]
    · obtain ⟨x, zs, hz, hc, eD⟩ := h
      refine ⟨_, D, zs.map sg, rfl, rfl, .inl (.of ?_), ?_, ?_⟩
      · rw [eD]
        simp [lets]
      · rw [ones_sum, List.length_map]
        show zs.length + zs.length * 0 ≤ _
        omega
      · rw [join_sg]
        exact q _ _ x (by omega) hc

/-! ### small letters alone -/
def sp_p_is_word : Sp := fun vs H Q _ => ∃ zs : List Nat, vs = [.str (tx zs)] ∧ zs.length < 1000 ∧ ∀ H', Same H H' → Q (.bl (low zs)) H'
theorem ok_p_is_word (T : Tx K mg) : FnOk P w K mg base CX0 1 T.f_p_is_word T.fd_p_is_word P_p_is_word sp_p_is_word := by
  refine T.F_p_is_word.ok sc_p_is_word (fun vs H Q E h => ?_) (fun cdv A outer s H vs Q E hr h => ?_)
  · obtain ⟨zs, rfl, _⟩ := h
    rfl
  · obtain ⟨zs, rfl, lz, q⟩ := h
    refine ⟨_, 
      (pss_one (ps_ret (pe_callB (cr_all rfl) (by rfl) T.m_all (by decide +kernel) (pa_cons (pe_lc (own := [("sign", 1)]) (g := (gName 1)) (tt := tYes) (by rfl) sc_p_is_word.nd (pi_str (L2.pv 0)) (blkOk_by (own := [("sign", 1)]) (N := N_p_is_word) (sc := defScope s_p_is_word) (by decide +kernel)) (fun _ _ _ _ _ => (pg_name (i := 1) sc_p_is_word.nd rfl (.inl rfl))) (fun _ _ _ _ _ => pts_nil) (fun _ _ _ _ _ => (pe_cmpR op_in_sign (L2.pv 1) (pe_glob (by rfl) T.c_LETTERS T.r_LETTERS) rfl))) pa_nil)))), ?_⟩
    refine ⟨.str (tx zs), rfl, tx zs, rfl, fun D nD => ?_⟩
    refine lc_it walk_str (fun i H' => Same H H' ∧ H' D = some (.lst ((zs.take i).map fun c => V.bl (decide (c ∈ alphabet.cps.toList))))) ⟨same_new nD, upd_same⟩ (fun _ _ _ _ => trivial) (fun i x H1 H' hi h y => ?_) (fun H1 h => ?_)
    · obtain ⟨sm, eD⟩ := h
      obtain ⟨rfl, c, hc, rfl⟩ := y
      have hi' : i < zs.length := by simpa using hi
      have hc' : zs[i]? = some c := by
        rw [← Array.getElem?_toList] at hc
        exact hc
      refine ⟨rfl, .str (sg c), rfl, c, alphabet, rfl, rfl, _, eD, ?_, same_mut sm nD, ?_⟩
      · rw [List.length_map, List.length_take]
        exact small1000 (by omega)
      · rw [upd_same, List.take_add_one, hc', List.map_append]
        rfl
    · obtain ⟨sm, eD⟩ := h
      have ez : zs.take (tx zs).cps.size = zs := List.take_of_length_le (by simp)
      rw [ez] at eD
      refine ⟨D, zs.map fun c => decide (c ∈ alphabet.cps.toList), rfl, .of ?_, ?_⟩
      · rw [eD, List.map_map]
        rfl
      · rw [List.all_map]
        exact q _ sm

def sp_p_is_letter : Sp := fun vs H Q _ => ∃ zs : List Nat, vs = [.str (tx zs)] ∧ zs.length < 1000 ∧ ∀ H', Same H H' → Q (.bl (decide (zs.length = 1) && low zs)) H'
theorem ok_p_is_letter (T : Tx K mg) : FnOk P w K mg base CX0 2 T.f_p_is_letter T.fd_p_is_letter P_p_is_letter sp_p_is_letter := by
  have G_p_is_word : FnOk P w K mg base CX0 1 T.f_p_is_word T.fd_p_is_word P_p_is_word sp_p_is_word := ok_p_is_word T
  refine T.F_p_is_letter.ok sc_p_is_letter (fun vs H Q E h => ?_) (fun cdv A outer s H vs Q E hr h => ?_)
  · obtain ⟨zs, rfl, _⟩ := h
    rfl
  · obtain ⟨zs, rfl, lz, q⟩ := h
    have zl : (tx zs).length ≤ sizeLine := by rw [tx_len]; exact Nat.le_of_lt (small1000 (by omega))
    refine ⟨_, 
      (pss_one (ps_ret (pe_and (pe_cmpR op_eq (pe_callB call_len_str (by rfl) T.m_len PySem.boot_len (pa_cons (L2.pv 0) pa_nil)) pe_int (nomark _)) (pe_one (pe_call G_p_is_word (hr.mono (by decide)) (by rfl) T.g_p_is_word T.F_p_is_word.kp T.b_p_is_word .nil pass0 (pa_cons (L2.pv 0) pa_nil)))))), ?_⟩
    refine ⟨.str (tx zs), rfl, tx zs, rfl, zl, rfl, _, rfl, ?_⟩
    rw [tx_len]
    by_cases h1 : zs.length = 1
    · rw [show decide (V.int (zs.length : Int) = V.int 1) = true from decide_eq_true (by rw [h1]; rfl)]
      refine iteT ⟨.str (tx zs), rfl, zs, rfl, lz, fun H' sm => ?_⟩
      have := q H' sm
      rw [decide_eq_true h1] at this
      exact this
    · rw [show decide (V.int (zs.length : Int) = V.int 1) = false from decide_eq_false (fun z => h1 (by injection z with z; omega))]
      refine iteF ?_
      have := q H (.refl H)
      rw [decide_eq_false h1] at this
      exact this

/-! ### what is a product: of good ones alone -/
def sp_p_is_rising : Sp := fun vs H Q _ => ∃ zs : List Nat, vs = [.str (tx zs)] ∧ zs.length < 1000 ∧ (∀ c ∈ zs, 97 ≤ c ∧ c < 123) ∧ zs.Pairwise (· < ·) ∧ ∀ H', Same H H' → Q (.bl true) H'
theorem ok_p_is_rising (T : Tx K mg) : FnOk P w K mg base CX0 2 T.f_p_is_rising T.fd_p_is_rising P_p_is_rising sp_p_is_rising := by
  have G_p_is_word : FnOk P w K mg base CX0 1 T.f_p_is_word T.fd_p_is_word P_p_is_word sp_p_is_word := ok_p_is_word T
  refine T.F_p_is_rising.ok sc_p_is_rising (fun vs H Q E h => ?_) (fun cdv A outer s H vs Q E hr h => ?_)
  · obtain ⟨zs, rfl, _⟩ := h
    rfl
  · obtain ⟨zs, rfl, lz, hl, hp, q⟩ := h
    have zl : (tx zs).length ≤ sizeLine := by rw [tx_len]; exact Nat.le_of_lt (small1000 (by omega))
    refine ⟨_, 
      (pss_one (ps_ret (pe_and (pe_call G_p_is_word (hr.mono (by decide)) (by rfl) T.g_p_is_word T.F_p_is_word.kp T.b_p_is_word .nil pass0 (pa_cons (L2.pv 0) pa_nil)) (pe_one (pe_callB (cr_all rfl) (by rfl) T.m_all (by decide +kernel) (pa_cons (pe_lc (own := [("low", 1), ("high", 2)]) (g := (gTup K 2 (gCons (gName 1) (gCons (gName 2) gNil)))) (tt := tYes) (by rfl) sc_p_is_rising.nd (LB.pi_zipS (by rfl) T.m_zip (pa_cons (L2.pv 0) (pa_cons (pe_slice sl_str (L2.pv 0) (po_some pe_int) po_none) pa_nil))) (blkOk_by (own := [("low", 1), ("high", 2)]) (N := N_p_is_rising) (sc := defScope s_p_is_rising) (by decide +kernel)) (fun _ _ _ _ _ => (pg_tup (by rfl) (pgs_cons (pg_name (i := 1) sc_p_is_rising.nd rfl (.inl rfl)) (pgs_cons (pg_name (i := 2) sc_p_is_rising.nd rfl (.inl rfl)) pgs_nil)))) (fun _ _ _ _ _ => pts_nil) (fun _ _ _ _ _ => (pe_cmpR op_lt_str (L2.pv 1) (L2.pv 2) (nomark _)))) pa_nil)))))), ?_⟩
    refine ⟨.str (tx zs), rfl, zs, rfl, lz, fun H1 s1 => ⟨_, rfl, ?_⟩⟩
    rw [low_of hl]
    refine iteT ⟨.str (tx zs), rfl, .str (tx zs), rfl, 1, rfl, tx zs, rfl, zl, ?_⟩
    rw [show cutS (tx zs) (some 1) none = tx (zs.drop 1) from cutS_drop zs 1]
    refine ⟨_, _, rfl, fun D nD => ?_⟩
    have nD0 : H D = none := s1.free nD
    have ln : min (tx zs).cps.size (tx (zs.drop 1)).cps.size ≤ zs.length := by
      rw [show (tx zs).cps.size = zs.length from tx_len zs]
      exact Nat.min_le_left _ _
    refine lc_it (walk_zipS rfl) (fun i H' => Same H H' ∧ H' D = some (.lst ((List.replicate i true).map V.bl))) ⟨same_mut s1 nD0, upd_same⟩ (fun _ _ _ _ => trivial) (fun i x H2 H' hi h y => ?_) (fun H2 h => ?_)
    · obtain ⟨sm, eD⟩ := h
      obtain ⟨U, c, d, rfl, nU, e1, e2, rfl⟩ := y
      rw [← Array.getElem?_toList] at e1 e2
      have lt : c < d := rise_get hp e1 e2
      refine ⟨U, _, rfl, .of upd_same, rfl, _, _, rfl, _, _, rfl, rfl, ?_⟩
      refine ⟨rfl, .str (sg c), rfl, .str (sg d), rfl, _, _, rfl, rfl, _, (upd_ne (ne_of_none eD nU)).trans eD, ?_, same_mut (sm.trans (same_new nU)) nD0, ?_⟩
      · rw [List.length_map, List.length_replicate]
        exact small1000 (by omega)
      · rw [upd_same, List.replicate_succ', List.map_append, show decide ((sg c).cps.toList < (sg d).cps.toList) = true from decide_eq_true (show [c] < [d] from List.Lex.rel lt)]
        rfl
    · obtain ⟨sm, eD⟩ := h
      refine ⟨D, _, rfl, .of eD, ?_⟩
      rw [show (List.replicate (min (tx zs).cps.size (tx (zs.drop 1)).cps.size) true).all id = true from by rw [List.all_replicate]; simp]
      exact q _ sm
def sp_p_is_atom : Sp := fun vs H Q _ => ∃ a : Atm, vs = [.str (tx a.1), .bl a.2] ∧ AtOk a ∧ ∀ H', Same H H' → Q (.bl true) H'
theorem ok_p_is_atom (T : Tx K mg) : FnOk P w K mg base CX0 3 T.f_p_is_atom T.fd_p_is_atom P_p_is_atom sp_p_is_atom := by
  have G_p_is_rising : FnOk P w K mg base CX0 2 T.f_p_is_rising T.fd_p_is_rising P_p_is_rising sp_p_is_rising := ok_p_is_rising T
  refine T.F_p_is_atom.ok sc_p_is_atom (fun vs H Q E h => ?_) (fun cdv A outer s H vs Q E hr h => ?_)
  · obtain ⟨a, rfl, _⟩ := h
    rfl
  · obtain ⟨⟨zs, m⟩, rfl, ok, q⟩ := h
    have lz : zs.length < 100 := ok.len
    have zl : (tx zs).length ≤ sizeLine := by rw [tx_len]; exact Nat.le_of_lt (small1000 (by omega))
    refine ⟨_, 
      (pss_cons (ps_if (PW.pt (pw_or (pt_cmpR op_eq (L2.pv 0) pe_str (nomark _)) (pw_or1 (pt_not (pt_val (pe_call G_p_is_rising (hr.mono (by decide)) (by rfl) T.g_p_is_rising T.F_p_is_rising.kp T.b_p_is_rising .nil pass0 (pa_cons (L2.pv 0) pa_nil)))))))
        pss_never
        pss_nil)
      (pss_one (ps_ret (pe_or (L2.pv 1) (pe_one (pe_cmpR op_eq (pe_callB call_len_str (by rfl) T.m_len PySem.boot_len (pa_cons (L2.pv 0) pa_nil)) pe_int (nomark _))))))), ?_⟩
    refine ⟨.str (tx zs), rfl, rfl, _, rfl, ?_⟩
    rw [show decide (V.str (tx zs) = V.str (Str.ofString "")) = false from decide_eq_false fun z => ok.ne (by
      injection z with z
      have := congrArg (fun s : Str => s.cps.toList) z
      exact this.trans (by decide +kernel))]
    refine iteF ⟨.str (tx zs), rfl, zs, rfl, by omega, ok.lw, ok.rs, fun H1 s1 => ⟨_, rfl, iteF ?_⟩⟩
    refine ⟨.bl m, rfl, m, rfl, ?_⟩
    cases m with
    | true => exact iteT (q _ s1)
    | false =>
      refine iteF ⟨.str (tx zs), rfl, tx zs, rfl, zl, rfl, ?_⟩
      have l1 : zs.length = 1 := by
        rcases ok.one with z | z
        · cases z
        · exact z
      rw [show decide (V.int (((tx zs).length : Nat) : Int) = V.int 1) = true from decide_eq_true (by rw [tx_len, l1]; rfl)]
      exact q _ s1
def sp_p_is_product : Sp := fun vs H Q _ => ∃ (av : Addr → Prop) (v : V) (as : List Atm), vs = [v] ∧ Rp av H 2 v (prD as) ∧ (∀ a ∈ as, AtOk a) ∧ as.length < 1000 ∧ ∀ H', Same H H' → Q (.bl true) H'
theorem ok_p_is_product (T : Tx K mg) : FnOk P w K mg base CX0 4 T.f_p_is_product T.fd_p_is_product P_p_is_product sp_p_is_product := by
  have G_p_is_atom : FnOk P w K mg base CX0 3 T.f_p_is_atom T.fd_p_is_atom P_p_is_atom sp_p_is_atom := ok_p_is_atom T
  refine T.F_p_is_product.ok sc_p_is_product (fun vs H Q E h => ?_) (fun cdv A outer s H vs Q E hr h => ?_)
  · obtain ⟨av, v, as, rfl, _⟩ := h
    rfl
  · obtain ⟨av, v, as, rfl, hv, ok, la, q⟩ := h
    obtain ⟨p, xs, rfl, na, hp, hl, _, pp⟩ := hv.prod
    refine ⟨_, 
      (pss_one (ps_ret (pe_callB (cr_all rfl) (by rfl) T.m_all (by decide +kernel) (pa_cons (pe_lc (own := [("letters", 1), ("many", 2)]) (g := (gTup K 2 (gCons (gName 1) (gCons (gName 2) gNil)))) (tt := tYes) (by rfl) sc_p_is_product.nd (pi_tup (L2.pv 0)) (blkOk_by (own := [("letters", 1), ("many", 2)]) (N := N_p_is_product) (sc := defScope s_p_is_product) (by decide +kernel)) (fun _ _ _ _ _ => (pg_tup (by rfl) (pgs_cons (pg_name (i := 1) sc_p_is_product.nd rfl (.inl rfl)) (pgs_cons (pg_name (i := 2) sc_p_is_product.nd rfl (.inl rfl)) pgs_nil)))) (fun _ _ _ _ _ => pts_nil) (fun _ _ _ _ _ => (pe_call G_p_is_atom (hr.mono (by decide)) (by rfl) T.g_p_is_atom T.F_p_is_atom.kp T.b_p_is_atom .nil pass0 (pa_cons (L2.pv 1) (pa_cons (L2.pv 2) pa_nil))))) pa_nil)))), ?_⟩
    refine ⟨.ref p, rfl, p, rfl, ⟨_, .of hp⟩, fun D nD => ?_⟩
    refine lc_tup (xs := xs) (fun i H' => Same H H' ∧ H' D = some (.lst ((List.replicate i true).map V.bl))) ⟨same_new nD, upd_same⟩ (fun i H' _ h => .of (h.1 _ _ hp)) (fun i x H1 hx h => ?_) (fun H2 h => ?_)
    · obtain ⟨sm, eD⟩ := h
      obtain ⟨a, ha, r, rfl, _, hr'⟩ := prod_get pp hx
      have li := (List.getElem?_eq_some_iff.mp ha).1
      refine ⟨r, _, rfl, .of (sm _ _ hr'), rfl, _, _, rfl, _, _, rfl, rfl, rfl, ?_⟩
      refine ⟨.str (tx a.1), rfl, .bl a.2, rfl, a, rfl, ok a (mem_of_get ha), fun H2 s2 => ?_⟩
      refine ⟨_, s2 _ _ eD, ?_, same_mut (sm.trans s2) nD, ?_⟩
      · rw [List.length_map, List.length_replicate]
        exact small1000 (by omega)
      · rw [upd_same, List.replicate_succ', List.map_append]
        rfl
    · obtain ⟨sm, eD⟩ := h
      refine ⟨D, _, rfl, .of eD, ?_⟩
      rw [show (List.replicate xs.length true).all id = true from by rw [List.all_replicate]; simp]
      exact q _ sm
def sp_p_check_product : Sp := fun vs H Q _ => ∃ (av : Addr → Prop) (v : V) (as : List Atm), vs = [v] ∧ Rp av H 2 v (prD as) ∧ (∀ a ∈ as, AtOk a) ∧ as.length < 1000 ∧ ∀ H', Same H H' → Q .non H'
theorem ok_p_check_product (T : Tx K mg) : FnOk P w K mg base CX0 5 T.f_p_check_product T.fd_p_check_product P_p_check_product sp_p_check_product := by
  have G_p_is_product : FnOk P w K mg base CX0 4 T.f_p_is_product T.fd_p_is_product P_p_is_product sp_p_is_product := ok_p_is_product T
  refine T.F_p_check_product.ok sc_p_check_product (fun vs H Q E h => ?_) (fun cdv A outer s H vs Q E hr h => ?_)
  · obtain ⟨av, v, as, rfl, _⟩ := h
    rfl
  · obtain ⟨av, v, as, rfl, hv, ok, la, q⟩ := h
    refine ⟨_, 
      (pss_one (ps_if (pt_not (pt_val (pe_call G_p_is_product (hr.mono (by decide)) (by rfl) T.g_p_is_product T.F_p_is_product.kp T.b_p_is_product .nil pass0 (pa_cons (L2.pv 0) pa_nil))))
        pss_never
        pss_nil)), ?_⟩
    exact ⟨v, rfl, av, v, as, rfl, hv, ok, la, fun H1 s1 => ⟨_, rfl, iteF (q _ s1)⟩⟩

/-! ### six letters -/
def sp_six : Sp := fun vs H Q _ => ∃ b s, vs = [.ref b] ∧ Bag b s H ∧ ∀ H' p f y, BX b s H H' → H p = none → y ∈ [(1 : Int), 3, 5, 7, 9, 11] → H' p = some (.lst (lets ((List.range 6).map (lett f y)))) → Q (.ref p) H'
theorem ok_six (T : Tx K mg) : FnOk P w K mg base CX0 2 T.f_six T.fd_six P_six sp_six := by
  have G_pull : FnOk P w K mg base CX0 1 T.f_pull T.fd_pull P_pull sp_pull := ok_pull T
  refine T.F_six.ok sc_six (fun vs H Q E h => ?_) (fun cdv A outer s H vs Q E hr h => ?_)
  · obtain ⟨b, s, rfl, _⟩ := h
    rfl
  · obtain ⟨b, cs, rfl, hB, q⟩ := h
    refine ⟨_, 
      (pss_cons (ps_set (i := 1) sc_six.nd rfl (.inr rfl) pe_str)
      (pss_cons (ps_asg (pe_tup (pa_cons (pe_call G_pull (hr.mono (by decide)) (by rfl) T.g_pull T.F_pull.kp T.b_pull .nil pass0 (pa_cons (L2.pv 0) (pa_cons pe_int pa_nil))) (pa_cons (pe_ix ix_list (pe_lst (pa_cons pe_int (pa_cons pe_int (pa_cons pe_int (pa_cons pe_int pa_nil))))) (pe_call G_pull (hr.mono (by decide)) (by rfl) T.g_pull T.F_pull.kp T.b_pull .nil pass0 (pa_cons (L2.pv 0) (pa_cons pe_int pa_nil))) (fun _ _ => rfl)) pa_nil))) (pg_tup (by rfl) (pgs_cons (pg_name (i := 2) sc_six.nd rfl (.inr rfl)) (pgs_cons (pg_name (i := 3) sc_six.nd rfl (.inr rfl)) pgs_nil))))
      (pss_one (ps_ret (pe_lc (own := [("_law_k", 4)]) (g := (gName 4)) (tt := tYes) (by rfl) sc_six.nd (pi_range1 (by rfl) T.m_range (pa_cons pe_int pa_nil)) (blkOk_by (own := [("_law_k", 4)]) (N := N_six) (sc := defScope s_six) (by decide +kernel)) (fun _ _ _ _ _ => (pg_name (i := 4) sc_six.nd rfl (.inl rfl))) (fun _ _ _ _ _ => pts_nil) (fun _ _ _ _ _ => (pe_ix ix_str (L2.pv 1) (pe_op op_mod (pe_op op_add (L2.pv 2) (pe_op op_mul (L2.pv 3) (L2.pv 4))) pe_int) (fun _ _ => rfl)))))))), ?_⟩
    refine ⟨.ref b, rfl, b, cs, 26, rfl, hB, by decide, by decide, fun H1 f x1 f0 f1 => ?_⟩
    refine ⟨(by show 4 ≤ sizeLine; decide), fun l nl => ?_⟩
    have x2 : BX b cs H1 (upd H1 l (.lst [.int 1, .int 3, .int 5, .int 7])) := .new x1.bag nl
    refine ⟨.ref b, rfl, b, cs, 4, rfl, x2.bag, by decide, by decide, fun H2 v x3 v0 v1 => ?_⟩
    have el := x3.keep l _ (x1.bag.nb nl) upd_same
    obtain ⟨y, hy, ay⟩ : ∃ y : Int, y ∈ [(1 : Int), 3, 5, 7, 9, 11] ∧ atI [V.int 1, .int 3, .int 5, .int 7] v = some (.int y) := by
      have hv : v = 0 ∨ v = 1 ∨ v = 2 ∨ v = 3 := by omega
      rcases hv with rfl | rfl | rfl | rfl
      · exact ⟨1, by decide, rfl⟩
      · exact ⟨3, by decide, rfl⟩
      · exact ⟨5, by decide, rfl⟩
      · exact ⟨7, by decide, rfl⟩
    have hy1 : 0 < y ∧ y < 12 := by
      simp only [List.mem_cons, List.not_mem_nil, or_false] at hy
      omega
    refine ⟨l, _, v, .int y, rfl, rfl, .of el, ay, (by show 2 ≤ sizeLine; decide), fun t nt => ?_⟩
    refine ⟨t, _, rfl, .of upd_same, rfl, _, _, rfl, _, _, rfl, rfl, ?_⟩
    have x4 : BX b cs H (upd H2 t (.tup [.int f, .int y])) := x1.trans (x2.trans (x3.trans (.new x3.bag nt)))
    refine ⟨6, rfl, by decide, by decide, fun D nD => ?_⟩
    have nD0 : H D = none := x4.back nD
    refine lc_range (lo := 0) (n := 6) (fun i H' => BX b cs H H' ∧ H' D = some (.lst (lets ((List.range i).map (lett f y))))) ⟨x4.mut hB nD0, upd_same⟩ (fun i H' hi h => ?_) (fun H' h => ?_)
    · obtain ⟨x, eD⟩ := h
      refine ⟨rfl, .str alphabet, rfl, .int f, rfl, .int y, rfl, .int (0 + i), rfl, y, 0 + i, rfl, rfl, .inl ⟨by omega, by omega⟩, f, _, rfl, rfl, _, 26, rfl, rfl, (by show (0 : Int) < 26; decide), alphabet, _, _, rfl, rfl, by decide +kernel, alpha_at (Int.emod_nonneg _ (by decide)) (Int.emod_lt_of_pos _ (by decide)), _, eD, ?_, x.mut hB nD0, ?_⟩
      · simp only [lets, List.length_map, List.length_range]
        exact small1000 (by omega)
      · rw [upd_same, List.range_succ]
        simp only [lets, List.map_append, List.map_cons, List.map_nil, lett, Int.zero_add]
    · obtain ⟨x, eD⟩ := h
      exact q _ D f y x nD0 hy eD

/-! ### whether a word is of a product, as the law looks -/
def nI (ns : List Nat) : List V := ns.map fun j => V.int (j : Nat)
theorem nI_nil {ns : List Nat} {H : Hp} {K : PySem.W.Frag} {z p : Addr} (ep : H p = some (.lst (nI ns))) (nz : H z = none) :
    ∃ d e, Dp K (upd H z (.lst [])) (.ref p) d ∧ Dp K (upd H z (.lst [])) (.ref z) e ∧ SeqAt.shaped d = true ∧ SeqAt.shaped e = true ∧ PyData.eqv d e = decide (ns = []) := by
  obtain ⟨qs, dq, sq, lq⟩ := rp_dpL (K := K) (av := fun _ => False) (H := upd H z (.lst [])) (n := 0) (paired_map (F := Rp (fun _ => False) (upd H z (.lst [])) 0) (f := fun j : Nat => V.int (j : Nat)) (g := fun j : Nat => D.int (j : Nat)) (fun j => rfl) ns) (by decide)
  refine ⟨.list qs, .list [], .lst (.of ((upd_ne (ne_of_none ep nz)).trans ep)) dq, .lst (.of upd_same) .nil, sq, rfl, ?_⟩
  rw [eqv_nil, lq, List.length_map]
  cases ns with
  | nil => rfl
  | cons a r => exact (decide_eq_false (by simp)).trans (decide_eq_false (by simp)).symm
def sp_holds : Sp := fun vs H Q _ => ∃ (av : Addr → Prop) (v : V) (as : List Atm) (ws : List Nat), vs = [v, .str (tx ws)] ∧ Rp av H 2 v (prD as) ∧ as.length < 1000 ∧ ws.length < 100000 ∧ ∀ H', Same H H' → Q (.bl (hold as ws)) H'
theorem ok_holds (T : Tx K mg) : FnOk P w K mg base CX0 1 T.f_holds T.fd_holds P_holds sp_holds := by
  refine T.F_holds.ok sc_holds (fun vs H Q E h => ?_) (fun cdv A outer s H vs Q E hr h => ?_)
  · obtain ⟨av, v, as, ws, rfl, _⟩ := h
    rfl
  · obtain ⟨av, v, as, ws, rfl, hv, la, lw, q⟩ := h
    obtain ⟨p, xs, rfl, na, hp, hl, _, pp⟩ := id hv.prod
    have getx : ∀ j, j < as.length → ∃ r, xs[j]? = some (.ref r) ∧ H r = some (.tup [.str (tx (as.getD j ([], false)).1), .bl (as.getD j ([], false)).2]) := fun j hj => by
      obtain ⟨a, ha, r, e, _, hr'⟩ := prod_get pp (List.getElem?_eq_getElem (show j < xs.length by omega))
      rw [List.getElem?_eq_getElem hj] at ha
      cases ha
      exact ⟨r, by rw [List.getElem?_eq_getElem (show j < xs.length by omega), e], by rw [getD_at hj]; exact hr'⟩
    refine ⟨_, 
      (pss_cons (ps_set (i := 2) sc_holds.nd rfl (.inl rfl) pe_int)
      (pss_cons (ps_for PassesOwn.never rfl (pi_str (L2.pv 1)) (pg_name (i := 3) sc_holds.nd rfl (.inr rfl))
        (pss_cons (ps_setLc (i := 4) (own := [("_law_at", 5)]) (g := (gName 5)) (by rfl) sc_holds.nd rfl rfl (sw_true rfl rfl rfl (by decide +kernel)) (pi_range2 (by rfl) T.m_range (pa_cons (L2.pv 2) (pa_cons (pe_callB call_len_seq (by rfl) T.m_len PySem.boot_len (pa_cons (L2.pv 0) pa_nil)) pa_nil))) (blkOk_by (own := [("_law_at", 5)]) (N := N_holds) (sc := defScope s_holds) (by decide +kernel)) (fun _ _ _ _ _ => (pg_name (i := 5) sc_holds.nd rfl (.inl rfl))) (fun _ _ _ _ _ => (pts_one (pt_cmpR op_in_sign (L2.pv 3) (pe_ix (r := rIxT K) ix_tup (pe_ix (r := rIxT K) ix_tup (L2.pv 0) (L2.pv 5) (fun _ _ => rfl)) pe_int (fun _ _ => rfl)) rfl))) (fun _ _ _ _ _ => (L2.pv 5)))
        (pss_cons (ps_if (pt_cmpR (op_eqD hr.units) (L2.pv 4) (pe_lst pa_nil) (nomark _))
          (pss_one (ps_ret pe_bl))
          pss_nil)
        (pss_one (ps_set (i := 2) sc_holds.nd rfl (.inl rfl) (pe_callB (cr_min rfl) (by rfl) T.m_min (by decide +kernel) (pa_cons (pe_lc (own := [("_law_at", 5)]) (g := (gName 5)) (tt := tYes) (by rfl) sc_holds.nd (pi_list (L2.pv 4)) (blkOk_by (own := [("_law_at", 5)]) (N := N_holds) (sc := defScope s_holds) (by decide +kernel)) (fun _ _ _ _ _ => (pg_name (i := 5) sc_holds.nd rfl (.inl rfl))) (fun _ _ _ _ _ => pts_nil) (fun _ _ _ _ _ => (pe_op op_sub (pe_op op_add (L2.pv 5) pe_int) (pe_callTy call_int1 (by rfl) T.m_int (by decide +kernel) (pa_cons (pe_ix (r := rIxT K) ix_tup (pe_ix (r := rIxT K) ix_tup (L2.pv 0) (L2.pv 5) (fun _ _ => rfl)) pe_int (fun _ _ => rfl)) pa_nil))))) pa_nil)))))))
      (pss_one (ps_ret pe_bl)))), ?_⟩
    refine ⟨.str (tx ws), rfl, tx ws, rfl, for_it walk_str (fun i σ H' => ∃ y3 y4 k, σ = [some (.ref p), some (.str (tx ws)), some (.int (k : Nat)), y3, y4, none] ∧ Same H H' ∧ k ≤ as.length ∧ hold (as.drop k) (ws.drop i) = hold as ws) ⟨none, none, 0, rfl, .refl H, Nat.zero_le _, rfl⟩ (fun _ _ _ _ _ => trivial) (fun i x σ H1 H' hi h y => ?_) (fun σ H' h => ?_)⟩
    · obtain ⟨y3, y4, k, rfl, sm, lk, hk⟩ := h
      obtain ⟨rfl, c, hc, rfl⟩ := y
      have hi' : i < ws.length := by simpa using hi
      have hc' : ws[i] = c := by
        rw [← Array.getElem?_toList] at hc
        exact (List.getElem?_eq_some_iff.mp hc).2
      rw [List.drop_eq_getElem_cons hi', hc', hold_cons] at hk
      refine ⟨.int (k : Nat), rfl, .ref p, rfl, p, xs, rfl, .inr (.of (sm _ _ hp)), _, _, rfl, ⟨by omega, by omega, by omega, by omega⟩, fun D nD => ?_⟩
      have nD0 : H D = none := sm.free nD
      have ln : (((xs.length : Nat) : Int) - ((k : Nat) : Int)).toNat = as.length - k := by omega
      refine lc_range (lo := (k : Nat)) (n := (((xs.length : Nat) : Int) - ((k : Nat) : Int)).toNat) (fun j G => Same H G ∧ G D = some (.lst (nI (ixs as c k j)))) ⟨same_mut sm nD0, upd_same⟩ (fun j G hj h => ?_) (fun G h => ?_)
      · obtain ⟨sg1, eD⟩ := h
        have hj' : k + j < as.length := by omega
        obtain ⟨r, gx, hr'⟩ := getx (k + j) hj'
        have ej : ((k : Nat) : Int) + (j : Int) = ((k + j : Nat) : Int) := by omega
        refine ⟨rfl, .str (sg c), rfl, .ref p, rfl, .int ((k : Nat) + (j : Int)), rfl, p, xs, _, .ref r, rfl, rfl, .of (sg1 _ _ hp), by rw [ej]; exact atI_nat gx, r, _, 0, .str (tx (as.getD (k + j) ([], false)).1), rfl, rfl, .of (sg1 _ _ hr'), rfl, c, _, rfl, rfl, _, rfl, ?_⟩
        rw [tx_cps]
        have nx := ixs_next as c k j
        by_cases hin : c ∈ (as.getD (k + j) ([], false)).1
        · rw [if_pos hin] at nx
          rw [decide_eq_true hin]
          refine iteT ⟨.int ((k : Nat) + (j : Int)), rfl, _, eD, ?_, same_mut sg1 nD0, ?_⟩
          · show (nI (ixs as c k j)).length < _
            have : (ixs as c k j).length ≤ j := by
              unfold ixs
              exact Nat.le_trans (List.length_filter_le _ _) (Nat.le_of_eq List.length_range')
            simp only [nI, List.length_map]
            exact small1000 (by omega)
          · rw [upd_same, nx, ej]
            simp [nI]
        · rw [if_neg hin, List.append_nil] at nx
          rw [decide_eq_false hin]
          exact iteF ⟨sg1, by rw [nx]; exact eD⟩
      · obtain ⟨sg1, eD⟩ := h
        rw [ln] at eD
        refine ⟨.ref D, rfl, Nat.zero_le _, fun z nz => ?_⟩
        obtain ⟨d, e, d1, d2, d3, d4, d5⟩ := nI_nil (K := K) eD nz
        refine ⟨d, e, d1, d2, d3, d4, _, rfl, ?_⟩
        rw [d5]
        have s2 : Same H (upd G z (.lst [])) := sg1.trans (same_new nz)
        have eD2 : (upd G z (.lst [])) D = some (.lst (nI (ixs as c k (as.length - k)))) := (upd_ne (ne_of_none eD nz)).trans eD
        by_cases hn : ixs as c k (as.length - k) = []
        · rw [decide_eq_true hn]
          refine iteT ?_
          rw [drp_none as c (as.length - k) k (by omega) hn] at hk
          have := q _ s2
          rw [← hk] at this
          exact this
        · rw [decide_eq_false hn]
          refine iteF ⟨.ref D, rfl, D, rfl, ⟨_, .of eD2⟩, fun D2 nD2 => ?_⟩
          have nD20 : H D2 = none := s2.free nD2
          have nDD : D ≠ D2 := ne_of_none eD2 nD2
          refine lc_list (xs := nI (ixs as c k (as.length - k))) (fun j G => Same H G ∧ G D = some (.lst (nI (ixs as c k (as.length - k)))) ∧ G D2 = some (.lst (((ixs as c k (as.length - k)).take j).map fun m => V.int (nxt as m)))) ⟨same_mut s2 nD20, (upd_ne nDD).trans eD2, upd_same⟩ (fun j G _ h => .of h.2.1) (fun j x G hx h => ?_) (fun G h => ?_)
          · obtain ⟨sg2, eD3, eD4⟩ := h
            obtain ⟨m, hm, rfl⟩ : ∃ m, (ixs as c k (as.length - k))[j]? = some m ∧ x = V.int (m : Nat) := by
              unfold nI at hx
              rw [List.getElem?_map] at hx
              cases e : (ixs as c k (as.length - k))[j]? with
              | none => rw [e] at hx; cases hx
              | some m => rw [e] at hx; exact ⟨m, rfl, (Option.some.inj hx).symm⟩
            have hmb := ixs_ge (mem_of_get hm)
            obtain ⟨r, gx, hr'⟩ := getx m (by omega)
            have lj : j < as.length - k := by
              have h1 := (List.getElem?_eq_some_iff.mp hm).1
              have h2 : (ixs as c k (as.length - k)).length ≤ as.length - k := by
                unfold ixs
                exact Nat.le_trans (List.length_filter_le _ _) (Nat.le_of_eq List.length_range')
              omega
            refine ⟨rfl, .int (m : Nat), rfl, _, 1, rfl, rfl, .ref p, rfl, .int (m : Nat), rfl, p, xs, _, .ref r, rfl, rfl, .of (sg2 _ _ hp), atI_nat gx, r, _, 1, .bl (as.getD m ([], false)).2, rfl, rfl, .of (sg2 _ _ hr'), rfl, .inr ⟨_, rfl, _, _, rfl, rfl, _, eD4, ?_, same_mut sg2 nD20, (upd_ne nDD).trans eD3, ?_⟩⟩
            · rw [List.length_map, List.length_take]
              exact small1000 (by omega)
            · rw [upd_same, List.take_add_one, hm, List.map_append]
              rfl
          · obtain ⟨sg2, eD3, eD4⟩ := h
            rw [show (nI (ixs as c k (as.length - k))).length = (ixs as c k (as.length - k)).length from List.length_map .., List.take_length] at eD4
            refine ⟨D2, (ixs as c k (as.length - k)).map (nxt as), rfl, .of ?_, ?_, fun m hm hle => ?_⟩
            · rw [eD4, List.map_map]
              rfl
            · rw [List.length_map]
              exact List.length_pos_iff.mpr hn
            · have bd := nxt_bd (as := as) (c := c) (lo := k) (k := as.length - k) (by omega) hm
              have hd := drp_some as c (as.length - k) k m (by omega) hm hle
              rw [hd] at hk
              refine ⟨some (.str (sg c)), some (.ref D), m.toNat, ?_, sg2, bd.2, hk⟩
              rw [show ((m.toNat : Nat) : Int) = m by omega]
              rfl
    · obtain ⟨y3, y4, k, rfl, sm, lk, hk⟩ := h
      rw [show ws.drop (tx ws).cps.size = [] from List.drop_of_length_le (by simp), hold_nil] at hk
      have := q _ sm
      rw [← hk] at this
      exact this

/-! ### a drawn product -/
def sp_product : Sp := fun vs H Q _ => ∃ (b s a : Addr) (cs : List Nat) (top : Int), vs = [.ref b, .ref a, .int top] ∧ Bag b s H ∧ At b H a (.lst (lets cs)) ∧ 0 < cs.length ∧ cs.length < 60 ∧ cs.Nodup ∧ (∀ c ∈ cs, 97 ≤ c ∧ c < 123) ∧ 0 ≤ top ∧ top < 500 ∧
  ∀ H' v as, BX b s H H' → Rp (Old H) H' 2 v (prD as) → (as.length : Int) ≤ top → (∀ x ∈ as, AtOk x ∧ ∀ c ∈ x.1, c ∈ cs) → Q v H'
theorem ok_product (T : Tx K mg) : FnOk P w K mg base CX0 3 T.f_product T.fd_product P_product sp_product := by
  have G_pull : FnOk P w K mg base CX0 1 T.f_pull T.fd_pull P_pull sp_pull := ok_pull T
  have G_of : FnOk P w K mg base CX0 2 T.f_of T.fd_of P_of sp_of := ok_of T
  refine T.F_product.ok sc_product (fun vs H Q E h => ?_) (fun cdv A outer s H vs Q E hr h => ?_)
  · obtain ⟨b, s, a, cs, top, rfl, _⟩ := h
    rfl
  · obtain ⟨b, cl, a, cs, top, rfl, hB, hA, l0, l1, nd, lw, t0, t1, q⟩ := h
    refine ⟨_, 
      (pss_cons (ps_set (i := 3) sc_product.nd rfl (.inl rfl) (pe_lst pa_nil))
      (pss_cons (ps_for PassesOwn.never rfl (pi_range1 (by rfl) T.m_range (pa_cons (pe_call G_pull (hr.mono (by decide)) (by rfl) T.g_pull T.F_pull.kp T.b_pull .nil pass0 (pa_cons (L2.pv 0) (pa_cons (pe_op op_add (L2.pv 2) pe_int) pa_nil))) pa_nil)) (pg_name (i := 4) sc_product.nd rfl (.inl rfl))
        (pss_cons (ps_set (i := 5) sc_product.nd rfl (.inl rfl) (pe_join pe_str (pe_lc (own := [("_law_letter", 7)]) (g := (gName 7)) (by rfl) sc_product.nd (pi_list (pe_callB cr_sortedS (by rfl) T.m_sorted (by decide +kernel) (pa_cons (L2.pv 1) pa_nil))) (blkOk_by (own := [("_law_letter", 7)]) (N := N_product) (sc := defScope s_product) (by decide +kernel)) (fun _ _ _ _ _ => (pg_name (i := 7) sc_product.nd rfl (.inl rfl))) (fun _ _ _ _ _ => (pts_one (pt_cmpR op_eq (pe_call G_pull (hr.mono (by decide)) (by rfl) T.g_pull T.F_pull.kp T.b_pull .nil pass0 (pa_cons (L2.pv 0) (pa_cons pe_int pa_nil))) pe_int (nomark _)))) (fun _ _ _ _ _ => (L2.pv 7)))))
        (pss_cons (ps_set (i := 6) sc_product.nd rfl (.inl rfl) (pe_and (pe_cmpR op_ne (L2.pv 5) pe_str (nomark _)) (pe_one (pe_cmpR op_gt (pe_call G_pull (hr.mono (by decide)) (by rfl) T.g_pull T.F_pull.kp T.b_pull .nil pass0 (pa_cons (L2.pv 0) (pa_cons pe_int pa_nil))) pe_int (nomark _)))))
        (pss_one (ps_expr (pe_bm PySem.F.plainAttrs_list PySem.F.slot_list_append PySem.F.type_list_append mt_append (L2.pv 3) (pa_cons (pe_ifExp (pt_val (L2.pv 6)) (pe_tup (pa_cons (L2.pv 5) (pa_cons pe_bl pa_nil))) (pe_tup (pa_cons (pe_call G_of (hr.mono (by decide)) (by rfl) T.g_of T.F_of.kp T.b_of .nil pass0 (pa_cons (L2.pv 0) (pa_cons (L2.pv 1) pa_nil))) (pa_cons pe_bl pa_nil)))) pa_nil)))))))
      (pss_one (ps_ret (pe_callTy call_tuple_of (by rfl) T.m_tuple (by decide +kernel) (pa_cons (L2.pv 3) pa_nil)))))), ?_⟩
    refine ⟨Nat.zero_le _, fun F nF => ?_⟩
    have x0 : BX b cl H (upd H F (.lst [])) := .new hB nF
    refine ⟨.ref b, rfl, .int top, rfl, top, 1, rfl, rfl, b, cl, top + 1, rfl, x0.bag, by omega, by omega, fun H1 n x1 n0 n1 => ?_⟩
    have eF1 := x1.keep F _ (hB.nb nF) upd_same
    refine ⟨n, rfl, by omega, by omega, for_range (lo := 0) (n := n.toNat) (fun i σ H' => ∃ y4 y5 y6, σ = [some (.ref b), some (.ref a), some (.int top), some (.ref F), y4, y5, y6, none] ∧ BX b cl H H' ∧
      ∃ xs as, H' F = some (.lst xs) ∧ as.length = i ∧ Paired (Rp (fun c => Old H c ∨ c = F) H' 1) xs (as.map atD) ∧ ∀ x ∈ as, AtOk x ∧ ∀ c ∈ x.1, c ∈ cs) ⟨none, none, none, rfl, x0.trans x1, [], [], eF1, rfl, .nil, fun _ h => nomatch h⟩ (fun i σ H' hi h => ?_) (fun σ H' h => ?_)⟩
    · obtain ⟨y4, y5, y6, rfl, x2, xs, as, eF, li, pp, ok⟩ := h
      have lx : xs.length = i := by
        have := Paired.length pp
        rw [List.length_map] at this
        omega
      -- some letters
      refine ⟨⟨_, rfl⟩, .ref a, rfl, a, cs.map sg, rfl, ?_, by rw [List.length_map]; omega, fun ys p py sy np => ?_⟩
      · rw [List.map_map]
        exact .of (hA.mv x2).2
      obtain ⟨ds, rfl, rs, ld, hd⟩ := srt_letters py sy nd
      have x3 : BX b cl H (upd H' p (.lst ((ds.map sg).map V.str))) := x2.trans (.new x2.bag np)
      refine ⟨p, rfl, ⟨_, .of upd_same⟩, fun D nD => ?_⟩
      have nD0 : H D = none := x3.back nD
      have npD : p ≠ D := ne_of_none upd_same nD
      have nFp : F ≠ p := ne_of_none eF np
      have eF3 : (upd H' p (.lst ((ds.map sg).map V.str))) F = some (.lst xs) := (upd_ne nFp).trans eF
      have nFD : F ≠ D := ne_of_none eF3 nD
      have k3 : Kp (fun c => Old H c ∨ c = F) H' (upd H' p (.lst ((ds.map sg).map V.str))) := Kp.new np
      have nD' : H' D = none := by
        rw [upd_ne npD.symm] at nD
        exact nD
      refine lc_list (xs := (ds.map sg).map V.str) (fun j G => BX b cl H G ∧ G p = some (.lst ((ds.map sg).map V.str)) ∧ G F = some (.lst xs) ∧ Kp (fun c => Old H c ∨ c = F) H' G ∧ ∃ zs : List Nat, zs.Sublist (ds.take j) ∧ G D = some (.lst (lets zs)))
        ⟨x3.mut hB nD0, (upd_ne npD).trans upd_same, (upd_ne nFD).trans eF3, k3.trans (Kp.new nD), [], List.nil_sublist _, upd_same⟩ (fun j G _ h => .of h.2.1) (fun j x G hx h => ?_) (fun G h => ?_)
      · obtain ⟨xG, ep, eF4, kG, zs, hz, eD⟩ := h
        obtain ⟨c, hc, rfl⟩ : ∃ c, ds[j]? = some c ∧ x = V.str (sg c) := by
          rw [List.map_map, List.getElem?_map] at hx
          cases e : ds[j]? with
          | none => rw [e] at hx; cases hx
          | some c => rw [e] at hx; exact ⟨c, rfl, (Option.some.inj hx).symm⟩
        have lzs : zs.length ≤ 60 := by
          have := hz.length_le
          rw [List.length_take] at this
          omega
        refine ⟨rfl, .ref b, rfl, b, cl, 2, rfl, xG.bag, by decide, by decide, fun G2 u xu u0 u1 => ?_⟩
        have eD2 := xu.keep D _ (hB.nb nD0) eD
        have ep2 := xu.keep p _ (x2.bag.nb np) ep
        have eF5 := xu.keep F _ (hB.nb nF) eF4
        have kk : Kp (fun c => Old H c ∨ c = F) H' G2 := kG.trans (xu.kp (.inl hB.old))
        refine ⟨rfl, _, rfl, ite2 (fun _ => ?_) (fun _ => ⟨xG.trans xu, ep2, eF5, kk, zs, hz.trans (by rw [List.take_add_one]; exact List.sublist_append_left _ _), eD2⟩)⟩
        refine ⟨.str (sg c), rfl, _, eD2, ?_, (xG.trans xu).mut hB nD0, (upd_ne npD).trans ep2, (upd_ne nFD).trans eF5, kk.mutN nD', zs ++ [c], ?_, ?_⟩
        · simp only [lets, List.length_map]
          exact small1000 (by omega)
        · rw [List.take_add_one, hc]
          exact hz.append (List.Sublist.refl _)
        · rw [upd_same]
          simp [lets]
      · obtain ⟨xG, ep, eF4, kG, zs, hz, eD⟩ := h
        rw [List.length_map, List.length_map, List.take_length] at hz
        have lzs : zs.length ≤ 60 := by
          have := hz.length_le
          omega
        refine ⟨_, D, zs.map sg, rfl, rfl, .inl (.of ?_), ?_, ?_⟩
        · rw [eD]
          simp [lets]
        · rw [ones_sum, List.length_map]
          show zs.length + zs.length * 0 ≤ _
          omega
        rw [join_sg]
        have inz : ∀ c ∈ zs, c ∈ cs := fun c hc => hd c (hz.subset hc)
        have one : ∀ {G2 G3 : Hp} {z : Addr} {l : List Nat} {m : Bool}, Kp (fun c => Old H c ∨ c = F) H' G2 → BX b cl H G2 → G2 F = some (.lst xs) → G2 z = none → AtOk (l, m) → (∀ c ∈ l, c ∈ cs) → G3 = upd (upd G2 z (.tup [.str (tx l), .bl m])) F (.lst (xs ++ [.ref z])) →
            BX b cl H G3 ∧ ∃ (xs : List V) (as : List Atm), G3 F = some (.lst xs) ∧ as.length = i + 1 ∧ Paired (Rp (fun c => Old H c ∨ c = F) G3 1) xs (as.map atD) ∧ ∀ x ∈ as, AtOk x ∧ ∀ c ∈ x.1, c ∈ cs := by
          intro G2 G3 z l m kG2 xG2 eF2 nz okl il rfl
          have zF : z ≠ F := (ne_of_none eF2 nz).symm
          refine ⟨(xG2.trans (.new xG2.bag nz)).mut hB nF, xs ++ [.ref z], as ++ [(l, m)], upd_same, by simp [li], ?_, ?_⟩
          · rw [List.map_append]
            refine paired_app (Paired.mapP pp fun _ _ r => r.mv (kG2.trans ((Kp.new nz).trans (Kp.mut (.inr rfl))))) (rp_atom (a := (l, m)) ?_ okl.ascii ?_)
            · rintro (h | h)
              · exact h (xG2.back nz)
              · exact zF h
            · rw [upd_ne zF, upd_same]
          · intro x hx
            rcases List.mem_append.mp hx with h | h
            · exact ok x h
            · rw [List.mem_singleton.mp h]
              exact ⟨okl, il⟩
        have okz : zs ≠ [] → AtOk (zs, true) := fun h => ⟨h, fun c hc => lw c (inz c hc), rs.sublist hz, .inl rfl, by show zs.length < 100; omega⟩
        have okc : ∀ c, c ∈ cs → AtOk ([c], false) := fun c hc => ⟨by simp, fun d hd => by rw [List.mem_singleton.mp hd]; exact lw c hc, List.pairwise_singleton _ _, .inr rfl, by show 1 < 100; decide⟩
        have sx : xs.length < sizeLine := small1000 (by omega)
        by_cases hz0 : zs = []
        · subst hz0
          refine ⟨.str (tx []), rfl, rfl, _, rfl, iteF ?_⟩
          refine ⟨.ref F, rfl, .inl ⟨rfl, _, .of eF4⟩, .bl false, rfl, false, rfl, iteF ⟨.ref b, rfl, .ref a, rfl, b, cl, xG.bag, .inl ⟨a, _, rfl, hA.mv xG, by simpa [lets] using l0, by simp [lets]; omega, fun G3 v x3 hv => ?_⟩⟩⟩
          obtain ⟨c, hc, rfl⟩ := List.mem_map.mp hv
          refine ⟨(by show 2 ≤ sizeLine; decide), fun z nz => ?_⟩
          have eF5 := x3.keep F _ (hB.nb nF) eF4
          exact ⟨F, _, _, rfl, rfl, (upd_ne (ne_of_none eF5 nz)).trans eF5, sx, _, _, _, rfl, one (kG.trans (x3.kp (.inl hB.old))) (xG.trans x3) eF5 nz (okc c hc) (fun d hd => by rw [List.mem_singleton.mp hd]; exact hc) rfl⟩
        · refine ⟨.str (tx zs), rfl, rfl, _, rfl, ?_⟩
          rw [show decide (V.str (tx zs) = V.str (Str.ofString "")) = false from decide_eq_false fun z => hz0 (by
            injection z with z
            have := congrArg (fun s : Str => s.cps.toList) z
            exact this.trans (by decide +kernel))]
          refine iteT ⟨.ref b, rfl, b, cl, 3, rfl, xG.bag, by decide, by decide, fun G2 u xu u0 u1 => ⟨_, _, rfl, rfl, ?_⟩⟩
          have eF5 := xu.keep F _ (hB.nb nF) eF4
          have kG2 : Kp (fun c => Old H c ∨ c = F) H' G2 := kG.trans (xu.kp (.inl hB.old))
          have xG2 := xG.trans xu
          by_cases hu : 0 < u
          · refine ⟨.ref F, rfl, .inl ⟨rfl, _, .of eF5⟩, .bl (decide (0 < u)), rfl, _, rfl, ?_⟩
            rw [decide_eq_true hu]
            refine iteT ⟨.str (tx zs), rfl, (by show 2 ≤ sizeLine; decide), fun z nz => ?_⟩
            exact ⟨F, _, _, rfl, rfl, (upd_ne (ne_of_none eF5 nz)).trans eF5, sx, _, _, _, rfl, one kG2 xG2 eF5 nz (okz hz0) inz rfl⟩
          · refine ⟨.ref F, rfl, .inl ⟨rfl, _, .of eF5⟩, .bl (decide (0 < u)), rfl, _, rfl, ?_⟩
            rw [decide_eq_false hu]
            refine iteF ⟨.ref b, rfl, .ref a, rfl, b, cl, xG2.bag, .inl ⟨a, _, rfl, hA.mv xG2, by simpa [lets] using l0, by simp [lets]; omega, fun G3 v x3 hv => ?_⟩⟩
            obtain ⟨c, hc, rfl⟩ := List.mem_map.mp hv
            refine ⟨(by show 2 ≤ sizeLine; decide), fun z nz => ?_⟩
            have eF6 := x3.keep F _ (hB.nb nF) eF5
            exact ⟨F, _, _, rfl, rfl, (upd_ne (ne_of_none eF6 nz)).trans eF6, sx, _, _, _, rfl, one (kG2.trans (x3.kp (.inl hB.old))) (xG2.trans x3) eF6 nz (okc c hc) (fun d hd => by rw [List.mem_singleton.mp hd]; exact hc) rfl⟩
    · obtain ⟨y4, y5, y6, rfl, x2, xs, as, eF, li, pp, ok⟩ := h
      refine ⟨.ref F, rfl, F, xs, rfl, .inl ⟨.of eF, fun z nz => ?_⟩⟩
      refine q _ _ as (x2.trans (.new x2.bag nz)) (rp_tup ?_ upd_same ?_ (Paired.mapP pp fun _ _ r => (r.mv (Kp.new nz)).weak fun a h => .inl h)) (by omega) ok
      · exact fun h => h (x2.back nz)
      · have := Paired.length pp
        rw [List.length_map] at this
        omega

/-! ### whether an atom takes another one in, a product's words another one's -/
def sp_p_takes_in : Sp := fun vs H Q _ => ∃ (p r : Addr) (g a : Atm), vs = [.ref p, .ref r] ∧ H p = some (.tup [.str (tx g.1), .bl g.2]) ∧ H r = some (.tup [.str (tx a.1), .bl a.2]) ∧ a.1.length < 1000 ∧ ∀ H', Same H H' → Q (.bl (tk g a)) H'
theorem ok_p_takes_in (T : Tx K mg) : FnOk P w K mg base CX0 1 T.f_p_takes_in T.fd_p_takes_in P_p_takes_in sp_p_takes_in := by
  refine T.F_p_takes_in.ok sc_p_takes_in (fun vs H Q E h => ?_) (fun cdv A outer s H vs Q E hr h => ?_)
  · obtain ⟨p, r, g, a, rfl, _⟩ := h
    rfl
  · obtain ⟨p, r, ⟨gl, gm⟩, ⟨al, am⟩, rfl, hp, hr', la, q⟩ := h
    refine ⟨_, 
      (pss_cons (ps_if (pt_not (pt_val (pe_ix ix_tup (L2.pv 0) pe_int (fun _ _ => rfl))))
        (pss_one (ps_ret pe_bl))
        pss_nil)
      (pss_cons (ps_for PassesOwn.never rfl (pi_str (pe_ix ix_tup (L2.pv 1) pe_int (fun _ _ => rfl))) (pg_name (i := 2) sc_p_takes_in.nd rfl (.inl rfl))
        (pss_one (ps_if (pt_cmpR op_notIn_sign (L2.pv 2) (pe_ix ix_tup (L2.pv 0) pe_int (fun _ _ => rfl)) rfl)
          (pss_one (ps_ret pe_bl))
          pss_nil)))
      (pss_one (ps_ret pe_bl)))), ?_⟩
    refine ⟨.ref p, rfl, p, _, 1, .bl gm, rfl, rfl, .of hp, rfl, gm, rfl, ?_⟩
    cases gm with
    | false =>
      refine iteT ?_
      exact q H (.refl H)
    | true =>
      refine iteF ?_
      refine ⟨.ref r, rfl, r, _, 0, .str (tx al), rfl, rfl, .of hr', rfl, tx al, rfl, ?_⟩
      refine for_it walk_str (fun i σ G => ∃ y, σ = [some (.ref p), some (.ref r), y] ∧ Same H G ∧ (al.take i).all (fun c => decide (c ∈ gl)) = true) ⟨none, rfl, .refl H, rfl⟩ (fun _ _ _ _ _ => trivial) (fun i x σ G1 G hi h y => ?_) (fun σ G h => ?_)
      · obtain ⟨y2, rfl, sm, ha⟩ := h
        obtain ⟨rfl, c, hc, rfl⟩ := y
        have hi' : i < al.length := by simpa using hi
        have hc' : al[i]? = some c := by
          rw [← Array.getElem?_toList] at hc
          exact hc
        refine ⟨.str (sg c), rfl, .ref p, rfl, p, _, 0, .str (tx gl), rfl, rfl, .of (sm _ _ hp), rfl, c, tx gl, rfl, rfl, _, rfl, ?_⟩
        rw [tx_cps]
        by_cases hin : c ∈ gl
        · rw [decide_eq_true hin]
          refine iteF ⟨_, rfl, sm, ?_⟩
          rw [List.take_add_one, hc', List.all_append, ha]
          simp [hin]
        · rw [decide_eq_false hin]
          refine iteT ?_
          have e : tk (gl, true) (al, am) = false := by
            show (true && al.all fun c => decide (c ∈ gl)) = false
            rw [Bool.true_and, List.all_eq_false]
            exact ⟨c, List.mem_of_getElem? hc', by simpa using hin⟩
          rw [← e]
          exact q _ sm
      · obtain ⟨y2, rfl, sm, ha⟩ := h
        have ez : al.take (tx al).cps.size = al := List.take_of_length_le (by simp)
        rw [ez] at ha
        have e : tk (gl, true) (al, am) = true := by
          show (true && al.all fun c => decide (c ∈ gl)) = true
          rw [Bool.true_and, ha]
        rw [← e]
        exact q _ sm

/-! ### whether a word is of a product; a word as a product -/
theorem cutS_one (zs : List Nat) (k : Nat) : cutS (tx zs) (some (k : Int)) (some ((k : Int) + 1)) = tx ((zs.drop k).take 1) := by
  unfold cutS
  rw [tx_len, HT.sIx_nat, show (k : Int) + 1 = ((k + 1 : Nat) : Int) by omega, HT.sIx_nat, tx_cps]
  show tx _ = tx _
  congr 1
  by_cases h : k < zs.length
  · rw [Nat.min_eq_left (by omega), Nat.min_eq_left (by omega), show k + 1 - k = 1 by omega]
  · rw [Nat.min_eq_right (by omega), Nat.min_eq_right (by omega), Nat.sub_self, List.drop_of_length_le (by omega), List.drop_of_length_le (by omega), List.take_nil, List.take_nil]
theorem dw_split (f : Nat → Bool) : ∀ ws : List Nat, ∃ k, ws.dropWhile f = ws.drop k ∧ k ≤ ws.length
  | [] => ⟨0, rfl, Nat.le_refl _⟩
  | c :: r => by
    obtain ⟨k, e, l⟩ := dw_split f r
    rw [List.dropWhile_cons]
    by_cases h : f c = true
    · rw [if_pos h]
      exact ⟨k + 1, e, by simpa using l⟩
    · rw [if_neg h]
      exact ⟨0, rfl, Nat.zero_le _⟩
def sp_p_holds : Sp := fun vs H Q _ => ∃ (av : Addr → Prop) (v : V) (as : List Atm) (ws : List Nat), vs = [v, .str (tx ws)] ∧ Rp av H 2 v (prD as) ∧ (∀ a ∈ as, AtOk a) ∧ as.length < 1000 ∧ (∀ c ∈ ws, 97 ≤ c ∧ c < 123) ∧ ws.length < 1000 ∧ ∀ H', Same H H' → Q (.bl (hold as ws)) H'
theorem ok_p_has_word (T : Tx K mg) : FnOk P w K mg base CX0 1 T.f_p_has_word T.fd_p_has_word P_p_has_word sp_p_holds := by
  refine T.F_p_has_word.ok sc_p_has_word (fun vs H Q E h => ?_) (fun cdv A outer s H vs Q E hr h => ?_)
  · obtain ⟨av, v, as, ws, rfl, _⟩ := h
    rfl
  · obtain ⟨av, v, as, ws, rfl, hv, ok, la, hw, lw, q⟩ := h
    obtain ⟨p, xs, rfl, na, hp, hl, _, pp⟩ := id hv.prod
    have zw : (tx ws).length ≤ sizeLine := by rw [tx_len]; exact Nat.le_of_lt (small1000 (by omega))
    refine ⟨_, 
      (pss_cons (ps_set (i := 2) sc_p_has_word.nd rfl (.inl rfl) pe_int)
      (pss_cons (ps_for PassesOwn.never rfl (pi_tup (L2.pv 0)) (pg_tup (by rfl) (pgs_cons (pg_name (i := 3) sc_p_has_word.nd rfl (.inl rfl)) (pgs_cons (pg_name (i := 4) sc_p_has_word.nd rfl (.inl rfl)) pgs_nil)))
        (pss_one (ps_if (pt_val (L2.pv 4))
          (pss_one (ps_while PassesOwn.never (PW.pt (pw_and (pt_cmpR op_lt (L2.pv 2) (pe_callB call_len_str (by rfl) T.m_len PySem.boot_len (pa_cons (L2.pv 1) pa_nil)) (nomark _)) (pw_and1 (pt_cmpR op_in_sign (pe_ix ix_str (L2.pv 1) (L2.pv 2) (fun _ _ => rfl)) (L2.pv 3) rfl))))
            (pss_one (ps_aug (i := 2) sc_p_has_word.nd rfl (.inl rfl) pe_int ip_add))))
          (pss_one (ps_if (pt_cmpR op_eq (pe_slice sl_str (L2.pv 1) (po_some (L2.pv 2)) (po_some (pe_op op_add (L2.pv 2) pe_int))) (L2.pv 3) (nomark _))
            (pss_one (ps_aug (i := 2) sc_p_has_word.nd rfl (.inl rfl) pe_int ip_add))
            pss_nil)))))
      (pss_one (ps_ret (pe_cmpR op_eq (L2.pv 2) (pe_callB call_len_str (by rfl) T.m_len PySem.boot_len (pa_cons (L2.pv 1) pa_nil)) (nomark _)))))), ?_⟩
    have s12 := Same.refl H
    refine ⟨.ref p, rfl, p, rfl, ⟨_, .of (s12 _ _ hp)⟩, for_tup (xs := xs) (fun i σ H' => ∃ y3 y4 k, σ = [some (.ref p), some (.str (tx ws)), some (.int (k : Nat)), y3, y4] ∧ Same H H' ∧ k ≤ ws.length ∧ ws.drop k = eats (as.take i) ws) ⟨none, none, 0, rfl, s12, Nat.zero_le _, rfl⟩ (fun i σ H' _ h => ?_) (fun i x σ H' hx h => ?_) (fun σ H' h => ?_)⟩
    · obtain ⟨_, _, _, _, sm, _⟩ := h
      exact .of (sm _ _ hp)
    · obtain ⟨y3, y4, k, rfl, sm, lk, hk⟩ := h
      obtain ⟨⟨ls, m⟩, ha, r, rfl, _, hr'⟩ := prod_get pp hx
      have oka := ok _ (mem_of_get ha)
      have hn : eats (as.take (i + 1)) ws = eat (ls, m) (ws.drop k) := by rw [eats_take ha, hk]
      refine ⟨r, _, rfl, .of (sm _ _ hr'), rfl, _, _, rfl, _, _, rfl, rfl, ?_⟩
      refine ⟨.bl m, rfl, m, rfl, ?_⟩
      cases m with
      | true =>
        refine iteT ?_
        refine while_by (fun σ H' => ∃ k, σ = [some (.ref p), some (.str (tx ws)), some (.int (k : Nat)), some (.str (tx ls)), some (.bl true)] ∧ Same H H' ∧ k ≤ ws.length ∧ (ws.drop k).dropWhile (fun c => decide (c ∈ ls)) = eats (as.take (i + 1)) ws)
          (fun σ _ => match σ with | [_, _, some (.int j), _, _] => ws.length - j.toNat | _ => 0) ⟨k, rfl, sm, lk, ?_⟩ (fun σ H3 h => ?_) (fun σ H3 Q1 Q2 hq h => ?_)
        · rw [hn]
          rfl
        · obtain ⟨k, rfl, sm, lk, hk⟩ := h
          refine ⟨.int (k : Nat), rfl, .str (tx ws), rfl, tx ws, rfl, zw, _, _, rfl, rfl, _, rfl, ?_⟩
          rw [tx_len]
          by_cases lt : k < ws.length
          · rw [show decide (((k : Nat) : Int) < ((ws.length : Nat) : Int)) = true from decide_eq_true (by omega)]
            refine iteT ⟨.str (tx ws), rfl, .int (k : Nat), rfl, tx ws, _, _, rfl, rfl, zw, atI_nat (List.getElem?_eq_getElem lt), .str (tx ls), rfl, _, _, rfl, rfl, _, rfl, ?_⟩
            have hd := List.drop_eq_getElem_cons lt
            rw [hd, List.dropWhile_cons] at hk
            by_cases hc : ws[k] ∈ ls
            · rw [if_pos (decide_eq_true hc)] at hk
              rw [show decide (ws[k] ∈ (tx ls).cps.toList) = true from decide_eq_true hc]
              refine iteT ⟨.int (k : Nat), rfl, _, _, rfl, rfl, ⟨k + 1, ?_, sm, lt, hk⟩, ?_⟩
              · rw [show ((k + 1 : Nat) : Int) = (k : Int) + 1 by omega]
                rfl
              · show ws.length - ((k : Int) + 1).toNat < ws.length - ((k : Nat) : Int).toNat
                omega
            · rw [if_neg (by simpa using hc)] at hk
              rw [show decide (ws[k] ∈ (tx ls).cps.toList) = false from decide_eq_false hc]
              exact iteF ⟨_, _, k, rfl, sm, lk, hd.trans hk⟩
          · rw [show decide (((k : Nat) : Int) < ((ws.length : Nat) : Int)) = false from decide_eq_false (by omega)]
            refine iteF (iteF ⟨_, _, k, rfl, sm, lk, ?_⟩)
            rw [← hk, List.drop_of_length_le (by omega)]
            rfl
        · obtain ⟨x1, e1, x2, e2, z, e3, e4, i1, i2, e5, e6, b, e7, h⟩ := h
          refine ⟨x1, e1, x2, e2, z, e3, e4, i1, i2, e5, e6, b, e7, ?_⟩
          cases b with
          | true =>
            have h := h
            simp only [if_true] at h ⊢
            obtain ⟨x3, e8, x4, e9, z2, i3, c, e10, e11, e12, e13, x5, e14, c2, z3, e15, e16, b2, e17, h⟩ := h
            exact ⟨x3, e8, x4, e9, z2, i3, c, e10, e11, e12, e13, x5, e14, c2, z3, e15, e16, b2, e17, hq _ _ h⟩
          | false =>
            simp only [Bool.false_eq_true, if_false] at h ⊢
            exact hq _ _ h
      | false =>
        obtain ⟨x, hx1⟩ := oka.single rfl
        have hx1 : ls = [x] := hx1
        subst hx1
        refine iteF ⟨.str (tx ws), rfl, .int (k : Nat), rfl, _, rfl, .int (k : Nat), rfl, _, 1, rfl, rfl, _, rfl, tx ws, rfl, zw, .str (tx [x]), rfl, rfl, _, rfl, ?_⟩
        rw [cutS_one]
        by_cases lt : k < ws.length
        · have hd := List.drop_eq_getElem_cons lt
          rw [hd] at hn
          rw [hd]
          show ite (decide (V.str (tx [ws[k]]) = V.str (tx [x])) = true) _ _
          by_cases hc : ws[k] = x
          · rw [show decide (V.str (tx [ws[k]]) = V.str (tx [x])) = true from decide_eq_true (by rw [hc])]
            refine iteT ⟨.int (k : Nat), rfl, _, _, rfl, rfl, some (.str (tx [x])), some (.bl false), k + 1, rfl, sm, lt, ?_⟩
            rw [hn]
            show _ = if [ws[k]] = [x] then _ else _
            rw [if_pos (by rw [hc])]
          · rw [show decide (V.str (tx [ws[k]]) = V.str (tx [x])) = false from decide_eq_false (fun z => hc (by
              injection z with z
              have := congrArg (fun s : Str => s.cps.toList) z
              simpa using this))]
            refine iteF ⟨some (.str (tx [x])), some (.bl false), k, rfl, sm, lk, ?_⟩
            rw [hn, hd]
            show _ = if [ws[k]] = [x] then _ else _
            rw [if_neg (by simpa using hc)]
        · have hd : ws.drop k = [] := List.drop_of_length_le (by omega)
          rw [hd] at hn
          rw [hd]
          rw [show decide (V.str (tx (([] : List Nat).take 1)) = V.str (tx [x])) = false from decide_eq_false (fun z => by
              injection z with z
              have := congrArg (fun s : Str => s.cps.toList) z
              cases this)]
          refine iteF ⟨some (.str (tx [x])), some (.bl false), k, rfl, sm, lk, ?_⟩
          rw [hn, hd]
          rfl
    · obtain ⟨y3, y4, k, rfl, sm, lk, hk⟩ := h
      rw [hl, List.take_length] at hk
      refine ⟨.int (k : Nat), rfl, .str (tx ws), rfl, tx ws, rfl, zw, rfl, ?_⟩
      rw [show decide (V.int ((k : Nat) : Int) = V.int (((tx ws).length : Nat) : Int)) = hold as ws from ?_]
      · exact q _ sm
      · rw [← eats_hold ok, ← hk, tx_len]
        by_cases e : k = ws.length
        · rw [decide_eq_true (by rw [e]), decide_eq_true (List.drop_of_length_le (by omega))]
        · rw [decide_eq_false (fun z => e (by injection z with z; omega)), decide_eq_false (fun z => e (by
            have := List.drop_eq_nil_iff.mp z
            omega))]
theorem ok_p_holds (T : Tx K mg) : FnOk P w K mg base CX0 6 T.f_p_holds T.fd_p_holds P_p_holds sp_p_holds := by
  have G_p_is_word : FnOk P w K mg base CX0 1 T.f_p_is_word T.fd_p_is_word P_p_is_word sp_p_is_word := ok_p_is_word T
  have G_p_check_product : FnOk P w K mg base CX0 5 T.f_p_check_product T.fd_p_check_product P_p_check_product sp_p_check_product := ok_p_check_product T
  have G_p_has_word : FnOk P w K mg base CX0 1 T.f_p_has_word T.fd_p_has_word P_p_has_word sp_p_holds := ok_p_has_word T
  refine T.F_p_holds.ok sc_p_holds (fun vs H Q E h => ?_) (fun cdv A outer s H vs Q E hr h => ?_)
  · obtain ⟨av, v, as, ws, rfl, _⟩ := h
    rfl
  · obtain ⟨av, v, as, ws, rfl, hv, ok, la, hw, lw, q⟩ := h
    refine ⟨_, 
      (pss_cons (ps_expr (pe_call G_p_check_product (hr.mono (by decide)) (by rfl) T.g_p_check_product T.F_p_check_product.kp T.b_p_check_product .nil pass0 (pa_cons (L2.pv 0) pa_nil)))
      (pss_cons (ps_if (pt_not (pt_val (pe_call G_p_is_word (hr.mono (by decide)) (by rfl) T.g_p_is_word T.F_p_is_word.kp T.b_p_is_word .nil pass0 (pa_cons (L2.pv 1) pa_nil))))
        pss_never
        pss_nil)
      (pss_one (ps_ret (pe_call G_p_has_word (hr.mono (by decide)) (by rfl) T.g_p_has_word T.F_p_has_word.kp T.b_p_has_word .nil pass0 (pa_cons (L2.pv 0) (pa_cons (L2.pv 1) pa_nil))))))), ?_⟩
    refine ⟨v, rfl, av, v, as, rfl, hv, ok, la, fun H1 s1 => ?_⟩
    refine ⟨.str (tx ws), rfl, ws, rfl, lw, fun H2 s2 => ⟨_, rfl, ?_⟩⟩
    rw [low_of hw]
    refine iteF ?_
    have s12 := s1.trans s2
    exact ⟨v, rfl, .str (tx ws), rfl, av, v, as, ws, rfl, hv.mv (Same.kp s12), ok, la, hw, lw, fun H3 s3 => q _ (s12.trans s3)⟩

/-! ### made plain -/
theorem rev_last {R : List Atm} {xs : List V} {F : V → D → Prop} {t : Atm} (p : Paired F xs ((t :: R).reverse.map atD)) : ∃ ys y, xs = ys ++ [y] ∧ F y (atD t) ∧ Paired F ys (R.reverse.map atD) := by
  rw [List.reverse_cons, List.map_append] at p
  have hl := Paired.length p
  rw [List.length_append, List.length_map, List.length_reverse] at hl
  have h1 : xs.length = R.length + 1 := by simpa using hl
  have e : xs = xs.take R.length ++ [xs[R.length]] := by
    conv => lhs; rw [← List.take_append_drop R.length xs]
    rw [List.drop_eq_getElem_cons (by omega), List.drop_of_length_le (by omega)]
  refine ⟨xs.take R.length, xs[R.length], e, ?_, ?_⟩
  · obtain ⟨x, hx, r⟩ := paired_rget (i := R.length) p (y := atD t) (by rw [List.getElem?_append_right (by simp)]; simp)
    rw [List.getElem?_eq_getElem (show R.length < xs.length by omega)] at hx
    rw [Option.some.inj hx]
    exact r
  · have := paired_take R.length p
    rw [List.take_left' (by rw [List.length_map, List.length_reverse])] at this
    exact this
theorem rev_nil {xs : List V} {F : V → D → Prop} (p : Paired F xs (([] : List Atm).reverse.map atD)) : xs = [] := by
  cases p
  rfl
theorem atI_last (ys : List V) (y : V) : atI (ys ++ [y]) (-1) = some y := by
  unfold atI ixN
  rw [if_neg (by decide), if_pos (by rw [List.length_append, List.length_singleton]; omega)]
  show (ys ++ [y])[((-1 : Int) + ((ys ++ [y]).length : Nat)).toNat]? = _
  rw [show ((-1 : Int) + ((ys ++ [y]).length : Nat)).toNat = ys.length by rw [List.length_append, List.length_singleton]; omega, List.getElem?_append_right (Nat.le_refl _), Nat.sub_self]
  rfl
def keptLen (D : Addr) (H : Hp) : Nat := match H D with
  | some (.lst xs) => xs.length
  | _ => 0
def sp_p_made_plain : Sp := fun vs H Q _ => ∃ (av : Addr → Prop) (v : V) (as : List Atm), vs = [v] ∧ Rp av H 2 v (prD as) ∧ (∀ a ∈ as, AtOk a) ∧ as.length < 1000 ∧ ∀ H' v', Same H H' → Rp (fun a => av a ∧ Old H a) H' 2 v' (prD (mp as)) → Q v' H'
theorem ok_p_made_plain (T : Tx K mg) : FnOk P w K mg base CX0 2 T.f_p_made_plain T.fd_p_made_plain P_p_made_plain sp_p_made_plain := by
  have G_p_takes_in : FnOk P w K mg base CX0 1 T.f_p_takes_in T.fd_p_takes_in P_p_takes_in sp_p_takes_in := ok_p_takes_in T
  refine T.F_p_made_plain.ok sc_p_made_plain (fun vs H Q E h => ?_) (fun cdv A outer s H vs Q E hr h => ?_)
  · obtain ⟨av, v, as, rfl, _⟩ := h
    rfl
  · obtain ⟨av, v, as, rfl, hv, ok, la, q⟩ := h
    obtain ⟨p, xs, rfl, na, hp, hl, _, pp⟩ := id hv.prod
    refine ⟨_, 
      (pss_cons (ps_set (i := 1) sc_p_made_plain.nd rfl (.inl rfl) (pe_lst pa_nil))
      (pss_cons (ps_for PassesOwn.never rfl (pi_tup (L2.pv 0)) (pg_name (i := 2) sc_p_made_plain.nd rfl (.inl rfl))
        (Evl.pss_cut (ps_while PassesOwn.never (PW.pt (pw_and (pt_truth (L2.pv 1) (by intro _; rfl)) (pw_and1 (pt_val (pe_call G_p_takes_in (hr.mono (by decide)) (by rfl) T.g_p_takes_in T.F_p_takes_in.kp T.b_p_takes_in .nil pass0 (pa_cons (L2.pv 2) (pa_cons (pe_ix ix_list (L2.pv 1) (pe_un un_neg pe_int) (fun _ _ => rfl)) pa_nil)))))))
          (pss_one (ps_expr (pe_bm0 PySem.F.plainAttrs_list PySem.F.slot_list_pop PySem.F.type_list_pop mt_pop (L2.pv 1)))))
        (pss_one (ps_if (PW.pt (pw_or (pt_not (pt_truth (L2.pv 1) (by intro _; rfl))) (pw_or1 (pt_not (pt_val (pe_call G_p_takes_in (hr.mono (by decide)) (by rfl) T.g_p_takes_in T.F_p_takes_in.kp T.b_p_takes_in .nil pass0 (pa_cons (pe_ix ix_list (L2.pv 1) (pe_un un_neg pe_int) (fun _ _ => rfl)) (pa_cons (L2.pv 2) pa_nil))))))))
          (pss_one (ps_expr (pe_bm PySem.F.plainAttrs_list PySem.F.slot_list_append PySem.F.type_list_append mt_append (L2.pv 1) (pa_cons (L2.pv 2) pa_nil))))
          pss_nil))))
      (pss_one (ps_ret (pe_callTy call_tuple_of (by rfl) T.m_tuple (by decide +kernel) (pa_cons (L2.pv 1) pa_nil)))))), ?_⟩
    refine ⟨Nat.zero_le _, fun D nD => ?_⟩
    have okR : ∀ i, ∀ x ∈ (as.take i).foldl pushR [], AtOk x := fun i x hx => by
      rcases foldR_mem hx with h | h
      · exact ok x (List.mem_of_mem_take h)
      · cases h
    refine ⟨.ref p, rfl, p, rfl, ⟨_, .of ((upd_ne (ne_of_none hp nD)).trans hp)⟩, for_tup (xs := xs) (fun i σ G => ∃ y2, σ = [some (.ref p), some (.ref D), y2] ∧ Same H G ∧ ∃ ys, G D = some (.lst ys) ∧ Paired (Rp av H 1) ys (((as.take i).foldl pushR []).reverse.map atD)) ⟨none, rfl, same_new nD, [], upd_same, .nil⟩ (fun i σ G _ h => ?_) (fun i x σ G hx h => ?_) (fun σ G h => ?_)⟩
    · obtain ⟨_, _, sm, _⟩ := h
      exact .of (sm _ _ hp)
    · obtain ⟨y2, rfl, sm, ys, eD, py⟩ := h
      obtain ⟨a, ha, r, rfl, nr, hr'⟩ := prod_get pp hx
      have li := (List.getElem?_eq_some_iff.mp ha).1
      have oka := ok _ (mem_of_get ha)
      have lena := oka.len
      have okt : ∀ x ∈ (as.take i).foldl pushR [], AtOk x := okR i
      have next : (as.take (i + 1)).foldl pushR [] = pushR ((as.take i).foldl pushR []) a := by
        rw [List.take_add_one, ha, List.foldl_append]
        rfl
      have lenR : ((as.take i).foldl pushR []).length ≤ 1000 := by
        have := foldR_len (as.take i) []
        rw [List.length_take] at this
        simp at this
        omega
      generalize (as.take i).foldl pushR [] = R0 at py okt next lenR
      refine ⟨fun σ G => σ = [some (.ref p), some (.ref D), some (.ref r)] ∧ Same H G ∧ ∃ ys, G D = some (.lst ys) ∧ Paired (Rp av H 1) ys ((R0.dropWhile (tk a)).reverse.map atD), ?_, fun σ G h => ?_⟩
      · refine while_by (fun σ G => σ = [some (.ref p), some (.ref D), some (.ref r)] ∧ Same H G ∧ ∃ ys R, G D = some (.lst ys) ∧ Paired (Rp av H 1) ys (R.reverse.map atD) ∧ R.dropWhile (tk a) = R0.dropWhile (tk a) ∧ (∀ x ∈ R, AtOk x)) (fun _ G => keptLen D G) ⟨rfl, sm, ys, R0, eD, py, rfl, okt⟩ (fun σ G h => ?_) (fun σ G Q1 Q2 hq h => ?_)
        · obtain ⟨rfl, sm, ys, R, eD, py, hd, okk⟩ := h
          cases R with
          | nil =>
            rw [rev_nil py] at eD
            refine ⟨.ref D, rfl, false, .inl ⟨[], .of eD, rfl⟩, iteF (iteF ⟨rfl, sm, [], eD, ?_⟩)⟩
            rw [← hd]
            exact .nil
          | cons t R =>
            obtain ⟨zs, y, rfl, ry, pz⟩ := rev_last py
            obtain ⟨u, rfl, nu, hu⟩ := Rp.atom ry
            have lent := (okk t (by simp)).len
            refine ⟨.ref D, rfl, true, .inl ⟨_, .of eD, by simp⟩, iteT ⟨.ref r, rfl, .ref D, rfl, 1, rfl, D, _, -1, .ref u, rfl, rfl, .of eD, atI_last _ _, r, u, a, t, rfl, sm _ _ hr', sm _ _ hu, by omega, fun G2 s2 => ⟨_, rfl, ?_⟩⟩⟩
            have eD2 := s2 _ _ eD
            rw [List.dropWhile_cons] at hd
            cases ht : tk a t with
            | true =>
              rw [if_pos ht] at hd
              refine iteT ⟨.ref D, rfl, .inl ⟨rfl, _, .of eD2⟩, D, _, .ref u, rfl, rfl, eD2, by simp, ⟨rfl, same_mut (sm.trans s2) nD, zs, R, ?_, pz, hd, fun x hx => okk x (by simp [hx])⟩, ?_⟩
              · rw [upd_same, List.dropLast_concat]
              · unfold keptLen
                rw [upd_same, eD, List.dropLast_concat]
                show zs.length < (zs ++ [V.ref u]).length
                rw [List.length_append, List.length_singleton]
                omega
            | false =>
              rw [if_neg (by rw [ht]; exact Bool.false_ne_true)] at hd
              refine iteF ⟨rfl, sm.trans s2, _, eD2, ?_⟩
              rw [← hd]
              exact py
        · obtain ⟨x1, e1, b, e2, h⟩ := h
          refine ⟨x1, e1, b, e2, ?_⟩
          cases b with
          | true =>
            simp only [if_true] at h ⊢
            obtain ⟨x3, e3, x4, e4, i1, e5, w1, w2, w3, w4, e6, e7, e8, e9, p1, r1, g1, a1, e10, e11, e12, e13, h⟩ := h
            exact ⟨x3, e3, x4, e4, i1, e5, w1, w2, w3, w4, e6, e7, e8, e9, p1, r1, g1, a1, e10, e11, e12, e13, fun H5 s5 => by
              obtain ⟨c, e14, h⟩ := h H5 s5
              exact ⟨c, e14, hq _ _ h⟩⟩
          | false =>
            simp only [Bool.false_eq_true, if_false] at h ⊢
            exact hq _ _ h
      · obtain ⟨rfl, sm, ys, eD, py⟩ := h
        have fin : ∀ {G2 : Hp}, Same H G2 → G2 D = some (.lst ys) → pushR R0 a = a :: R0.dropWhile (tk a) → ∃ y2, ([some (.ref p), some (.ref D), some (.ref r)] : L2.St) = [some (.ref p), some (.ref D), y2] ∧ Same H (upd G2 D (.lst (ys ++ [.ref r]))) ∧ ∃ ys', (upd G2 D (.lst (ys ++ [.ref r]))) D = some (.lst ys') ∧ Paired (Rp av H 1) ys' (((as.take (i + 1)).foldl pushR []).reverse.map atD) := by
          intro G2 s2 e2 ep
          refine ⟨_, rfl, same_mut s2 nD, ys ++ [.ref r], upd_same, ?_⟩
          rw [next, ep, List.reverse_cons, List.map_append]
          exact paired_app py (rp_atom nr oka.ascii hr')
        have ls : ys.length < sizeLine := by
          have := Paired.length py
          rw [List.length_map, List.length_reverse] at this
          have h2 := (List.dropWhile_sublist (tk a) (l := R0)).length_le
          rw [sizeLine_eq]
          omega
        rcases push_cases R0 a with ⟨e, ep⟩ | ⟨t, R, e, h1, h2, ep⟩ | ⟨t, R, e, h1, h2, ep⟩
        · rw [e] at py fin
          have := rev_nil py
          subst this
          refine ⟨.ref D, rfl, false, .inl ⟨[], .of eD, rfl⟩, iteT (iteT ⟨.ref D, rfl, .inl ⟨rfl, _, .of eD⟩, .ref r, rfl, D, _, _, rfl, rfl, eD, ls, fin sm eD ep⟩)⟩
        · rw [e] at py fin
          obtain ⟨zs, y, rfl, ry, pz⟩ := rev_last py
          obtain ⟨u, rfl, nu, hu⟩ := Rp.atom ry
          refine ⟨.ref D, rfl, true, .inl ⟨_, .of eD, by simp⟩, iteF ⟨.ref D, rfl, 1, rfl, D, _, -1, .ref u, rfl, rfl, .of eD, atI_last _ _, .ref r, rfl, u, r, t, a, rfl, sm _ _ hu, sm _ _ hr', by omega, fun G2 s2 => ⟨_, rfl, ?_⟩⟩⟩
          rw [h2]
          refine iteF ⟨_, rfl, sm.trans s2, _, s2 _ _ eD, ?_⟩
          rw [next, ep]
          exact py
        · rw [e] at py fin
          obtain ⟨zs, y, rfl, ry, pz⟩ := rev_last py
          obtain ⟨u, rfl, nu, hu⟩ := Rp.atom ry
          refine ⟨.ref D, rfl, true, .inl ⟨_, .of eD, by simp⟩, iteF ⟨.ref D, rfl, 1, rfl, D, _, -1, .ref u, rfl, rfl, .of eD, atI_last _ _, .ref r, rfl, u, r, t, a, rfl, sm _ _ hu, sm _ _ hr', by omega, fun G2 s2 => ⟨_, rfl, ?_⟩⟩⟩
          rw [h2]
          have eD2 := s2 _ _ eD
          exact iteT ⟨.ref D, rfl, .inl ⟨rfl, _, .of eD2⟩, .ref r, rfl, D, _, _, rfl, rfl, eD2, ls, fin (sm.trans s2) eD2 ep⟩
    · obtain ⟨y2, rfl, sm, ys, eD, py⟩ := h
      rw [hl, List.take_length] at py
      refine ⟨.ref D, rfl, D, ys, rfl, .inl ⟨.of eD, fun z nz => ?_⟩⟩
      have lm := mp_len as
      refine q _ _ (sm.trans (same_new nz)) (rp_tup (fun h => h.2 (sm.free nz)) upd_same ?_ (Paired.mapP py fun _ _ r => (r.mv (Same.kp (sm.trans (same_new nz)))).weak fun _ h => h.1))
      have := Paired.length py
      rw [List.length_map] at this
      unfold mp mpR at lm
      omega

/-! ### whether a product is plain, as the law looks; all of a text's letters within others -/
theorem adj_step {as : List Atm} {i : Nat} : (∀ j x y, j < i + 1 → as[j]? = some x → as[j + 1]? = some y → tk y x = false ∧ tk x y = false) ↔ (∀ j x y, j < i → as[j]? = some x → as[j + 1]? = some y → tk y x = false ∧ tk x y = false) ∧ ∀ x y, as[i]? = some x → as[i + 1]? = some y → tk y x = false ∧ tk x y = false := by
  constructor
  · exact fun h => ⟨fun j x y hj => h j x y (by omega), fun x y => h i x y (by omega)⟩
  · rintro ⟨h1, h2⟩ j x y hj
    by_cases e : j < i
    · exact h1 j x y e
    · rw [show j = i by omega]
      exact h2 x y
theorem tt_takes1 {p r t : V} {ra ta : Addr} {G : Hp} {Q : Bool → Hp → Prop} {g c : Atm} (er : r = .ref ra) (et : t = .ref ta) (hg : G ta = some (.tup [.str (tx g.1), .bl g.2])) (hc : G ra = some (.tup [.str (tx c.1), .bl c.2])) (lc : c.1.length < 1000) (q : ∀ G', Same G G' → Q (tk g c) G') :
    tAnd (tB (tOp (rIxT K) (tVar 2) (tC (V.int 1)))) (tB (tCB (rAll K) (tCons (tLc (iStr (tOp (rIxT K) (tVar 1) (tC (V.int 0)))) (gName 3) tYes (tOp (fun x y H Q => ∃ (c : Nat) (z : Str), x = V.str ⟨#[c]⟩ ∧ y = V.str z ∧ Q (V.bl (decide (c ∈ z.cps.toList))) H) (tVar 3) (tOp (rIxT K) (tVar 2) (tC (V.int 0)))) [3]) tNil))) [some p, some r, some t, none] G Q := by
  subst er et
  obtain ⟨gl, gm⟩ := g
  obtain ⟨al, am⟩ := c
  refine ⟨.ref ta, rfl, ta, _, 1, .bl gm, rfl, rfl, .of hg, rfl, gm, rfl, ?_⟩
  cases gm with
  | false => exact iteF (q G (.refl G))
  | true =>
    refine iteT ⟨.ref ra, rfl, ra, _, 0, .str (tx al), rfl, rfl, .of hc, rfl, tx al, rfl, fun D nD => ?_⟩
    refine lc_it walk_str (fun i H' => Same G H' ∧ H' D = some (.lst ((al.take i).map fun c => V.bl (decide (c ∈ gl))))) ⟨same_new nD, upd_same⟩ (fun _ _ _ _ => trivial) (fun i x H1 H' hi h y => ?_) (fun H1 h => ?_)
    · obtain ⟨sm, eD⟩ := h
      obtain ⟨rfl, c, hc1, rfl⟩ := y
      have hi' : i < al.length := by simpa using hi
      have hc' : al[i]? = some c := by
        rw [← Array.getElem?_toList] at hc1
        exact hc1
      have la' : al.length < 1000 := lc
      refine ⟨rfl, .str (sg c), rfl, .ref ta, rfl, ta, _, 0, .str (tx gl), rfl, rfl, .of (sm _ _ hg), rfl, c, tx gl, rfl, rfl, _, eD, ?_, same_mut sm nD, ?_⟩
      · rw [List.length_map, List.length_take]
        exact small1000 (by omega)
      · rw [upd_same, List.take_add_one, hc', List.map_append]
        rfl
    · obtain ⟨sm, eD⟩ := h
      have ez : al.take (tx al).cps.size = al := List.take_of_length_le (by simp)
      rw [ez] at eD
      refine ⟨D, al.map fun c => decide (c ∈ gl), rfl, .of ?_, _, rfl, ?_⟩
      · rw [eD, List.map_map]
        rfl
      · rw [List.all_map]
        exact q _ sm
theorem tt_takes2 {p r t : V} {ra ta : Addr} {G : Hp} {Q : Bool → Hp → Prop} {g c : Atm} (er : r = .ref ra) (et : t = .ref ta) (hg : G ra = some (.tup [.str (tx g.1), .bl g.2])) (hc : G ta = some (.tup [.str (tx c.1), .bl c.2])) (lc : c.1.length < 1000) (q : ∀ G', Same G G' → Q (tk g c) G') :
    tAnd (tB (tOp (rIxT K) (tVar 1) (tC (V.int 1)))) (tB (tCB (rAll K) (tCons (tLc (iStr (tOp (rIxT K) (tVar 2) (tC (V.int 0)))) (gName 3) tYes (tOp (fun x y H Q => ∃ (c : Nat) (z : Str), x = V.str ⟨#[c]⟩ ∧ y = V.str z ∧ Q (V.bl (decide (c ∈ z.cps.toList))) H) (tVar 3) (tOp (rIxT K) (tVar 1) (tC (V.int 0)))) [3]) tNil))) [some p, some r, some t, none] G Q := by
  subst er et
  obtain ⟨gl, gm⟩ := g
  obtain ⟨al, am⟩ := c
  refine ⟨.ref ra, rfl, ra, _, 1, .bl gm, rfl, rfl, .of hg, rfl, gm, rfl, ?_⟩
  cases gm with
  | false => exact iteF (q G (.refl G))
  | true =>
    refine iteT ⟨.ref ta, rfl, ta, _, 0, .str (tx al), rfl, rfl, .of hc, rfl, tx al, rfl, fun D nD => ?_⟩
    refine lc_it walk_str (fun i H' => Same G H' ∧ H' D = some (.lst ((al.take i).map fun c => V.bl (decide (c ∈ gl))))) ⟨same_new nD, upd_same⟩ (fun _ _ _ _ => trivial) (fun i x H1 H' hi h y => ?_) (fun H1 h => ?_)
    · obtain ⟨sm, eD⟩ := h
      obtain ⟨rfl, c, hc1, rfl⟩ := y
      have hi' : i < al.length := by simpa using hi
      have hc' : al[i]? = some c := by
        rw [← Array.getElem?_toList] at hc1
        exact hc1
      have la' : al.length < 1000 := lc
      refine ⟨rfl, .str (sg c), rfl, .ref ra, rfl, ra, _, 0, .str (tx gl), rfl, rfl, .of (sm _ _ hg), rfl, c, tx gl, rfl, rfl, _, eD, ?_, same_mut sm nD, ?_⟩
      · rw [List.length_map, List.length_take]
        exact small1000 (by omega)
      · rw [upd_same, List.take_add_one, hc', List.map_append]
        rfl
    · obtain ⟨sm, eD⟩ := h
      have ez : al.take (tx al).cps.size = al := List.take_of_length_le (by simp)
      rw [ez] at eD
      refine ⟨D, al.map fun c => decide (c ∈ gl), rfl, .of ?_, _, rfl, ?_⟩
      · rw [eD, List.map_map]
        rfl
      · rw [List.all_map]
        exact q _ sm
def sp_plain_look : Sp := fun vs H Q _ => ∃ (av : Addr → Prop) (v : V) (as : List Atm), vs = [v] ∧ Rp av H 2 v (prD as) ∧ (∀ a ∈ as, AtOk a) ∧ as.length < 1000 ∧ ∀ H' b, Same H H' → (b = true ↔ Adj as) → Q (.bl b) H'
theorem ok_plain_look (T : Tx K mg) : FnOk P w K mg base CX0 1 T.f_plain_look T.fd_plain_look P_plain_look sp_plain_look := by
  refine T.F_plain_look.ok sc_plain_look (fun vs H Q E h => ?_) (fun cdv A outer s H vs Q E hr h => ?_)
  · obtain ⟨av, v, as, rfl, _⟩ := h
    rfl
  · obtain ⟨av, v, as, rfl, hv, ok, la, q⟩ := h
    obtain ⟨p, xs, rfl, na, hp, hl, _, pp⟩ := id hv.prod
    refine ⟨_, 
      (pss_cons (ps_for PassesOwn.never rfl (RZ.pi_zipA (by rfl) T.m_zip (pa_cons (L2.pv 0) (pa_cons (pe_slice sl_tupA (L2.pv 0) (po_some pe_int) po_none) pa_nil))) (pg_tup (by rfl) (pgs_cons (pg_name (i := 1) sc_plain_look.nd rfl (.inr rfl)) (pgs_cons (pg_name (i := 2) sc_plain_look.nd rfl (.inr rfl)) pgs_nil)))
        (pss_cons (ps_if (PW.pt (pw_and (pt_val (pe_ix ix_tup (L2.pv 2) pe_int (fun _ _ => rfl))) (pw_and1 (pt_val (pe_callB (cr_all rfl) (by rfl) T.m_all (by decide +kernel) (pa_cons (pe_lc (own := [("_law_letter", 3)]) (g := (gName 3)) (tt := tYes) (by rfl) sc_plain_look.nd (pi_str (pe_ix ix_tup (L2.pv 1) pe_int (fun _ _ => rfl))) (blkOk_by (own := [("_law_letter", 3)]) (N := N_plain_look) (sc := defScope s_plain_look) (by decide +kernel)) (fun _ _ _ _ _ => (pg_name (i := 3) sc_plain_look.nd rfl (.inl rfl))) (fun _ _ _ _ _ => pts_nil) (fun _ _ _ _ _ => (pe_cmpR op_in_sign (L2.pv 3) (pe_ix (r := rIxT K) ix_tup (L2.pv 2) pe_int (fun _ _ => rfl)) rfl))) pa_nil))))))
          (pss_one (ps_ret pe_bl))
          pss_nil)
        (pss_one (ps_if (PW.pt (pw_and (pt_val (pe_ix ix_tup (L2.pv 1) pe_int (fun _ _ => rfl))) (pw_and1 (pt_val (pe_callB (cr_all rfl) (by rfl) T.m_all (by decide +kernel) (pa_cons (pe_lc (own := [("_law_letter", 3)]) (g := (gName 3)) (tt := tYes) (by rfl) sc_plain_look.nd (pi_str (pe_ix ix_tup (L2.pv 2) pe_int (fun _ _ => rfl))) (blkOk_by (own := [("_law_letter", 3)]) (N := N_plain_look) (sc := defScope s_plain_look) (by decide +kernel)) (fun _ _ _ _ _ => (pg_name (i := 3) sc_plain_look.nd rfl (.inl rfl))) (fun _ _ _ _ _ => pts_nil) (fun _ _ _ _ _ => (pe_cmpR op_in_sign (L2.pv 3) (pe_ix (r := rIxT K) ix_tup (L2.pv 1) pe_int (fun _ _ => rfl)) rfl))) pa_nil))))))
          (pss_one (ps_ret pe_bl))
          pss_nil))))
      (pss_one (ps_ret pe_bl))), ?_⟩
    refine ⟨.ref p, rfl, .ref p, rfl, 1, rfl, noPart ?_⟩
    refine slA_of hp fun H1 z s1 hz hc => ?_
    rw [show cutV xs (some 1) none = xs.drop 1 from cut_dropV xs 1] at hc
    refine ⟨p, z, xs, xs.drop 1, rfl, .inr ⟨.of (s1 _ _ hp), .of hc, ?_⟩⟩
    refine for_it (walk_zipT (n := min xs.length (xs.drop 1).length) rfl) (fun i σ G => ∃ y1 y2, σ = [some (.ref p), y1, y2, none] ∧ Same H1 G ∧ ∀ j x y, j < i → as[j]? = some x → as[j + 1]? = some y → tk y x = false ∧ tk x y = false) ⟨none, none, rfl, .refl _, fun j x y h => absurd h (Nat.not_lt_zero _)⟩ (fun i σ G _ h => ?_) (fun i x σ G1 G hi h y => ?_) (fun σ G h => ?_)
    · obtain ⟨_, _, _, sm, _⟩ := h
      exact ⟨.of (sm _ _ (s1 _ _ hp)), .of (sm _ _ hc)⟩
    · obtain ⟨y1, y2, rfl, sm, hA⟩ := h
      obtain ⟨U, u, v, rfl, nU, rfl, gu, gv⟩ := y
      obtain ⟨a, ha, r, rfl, _, hr'⟩ := prod_get pp gu
      have gv : (xs.drop 1)[i]? = some v := gv
      rw [List.getElem?_drop, Nat.add_comm] at gv
      obtain ⟨b, hb, t, rfl, _, ht'⟩ := prod_get pp gv
      have oka := ok a (mem_of_get ha)
      have okb := ok b (mem_of_get hb)
      have la' := oka.len
      have lb' := okb.len
      have sU : Same H (upd G1 U (.tup [.ref r, .ref t])) := s1.trans (sm.trans (same_new nU))
      have s1U : Same H1 (upd G1 U (.tup [.ref r, .ref t])) := sm.trans (same_new nU)
      have hA' : (∀ j x y, j < i + 1 → as[j]? = some x → as[j + 1]? = some y → tk y x = false ∧ tk x y = false) ↔ (tk b a = false ∧ tk a b = false) := by
        rw [adj_step]
        constructor
        · exact fun h => h.2 a b ha hb
        · refine fun h => ⟨hA, fun x y h1 h2 => ?_⟩
          rw [ha] at h1
          rw [hb] at h2
          cases h1
          cases h2
          exact h
      have bad : ¬ (tk b a = false ∧ tk a b = false) → ¬ Adj as := fun h z => h (z i a b ha hb)
      refine ⟨U, _, rfl, .of upd_same, rfl, _, _, rfl, _, _, rfl, rfl, ?_⟩
      refine tt_takes1 (g := b) (c := a) rfl rfl (sU _ _ ht') (sU _ _ hr') (by omega) fun G2 s2 => ?_
      cases h1 : tk b a with
      | true =>
        refine iteT (q _ false (sU.trans s2) ⟨(fun z => nomatch z), fun z => ?_⟩)
        exact absurd z (bad fun h => by rw [h1] at h; cases h.1)
      | false =>
        refine iteF (tt_takes2 (g := a) (c := b) rfl rfl (s2 _ _ (sU _ _ hr')) (s2 _ _ (sU _ _ ht')) (by omega) fun G3 s3 => ?_)
        cases h2 : tk a b with
        | true =>
          refine iteT (q _ false (sU.trans (s2.trans s3)) ⟨(fun z => nomatch z), fun z => ?_⟩)
          exact absurd z (bad fun h => by rw [h2] at h; cases h.2)
        | false => exact iteF ⟨_, _, rfl, s1U.trans (s2.trans s3), hA'.mpr ⟨h1, h2⟩⟩
    · obtain ⟨y1, y2, rfl, sm, hA⟩ := h
      refine q _ true (s1.trans sm) ⟨fun _ i x y h1 h2 => hA i x y ?_ h1 h2, fun _ => rfl⟩
      have := (List.getElem?_eq_some_iff.mp h2).1
      rw [List.length_drop]
      omega

/-! ### a letter sent, a letter taken, letters swollen: of good ones alone -/
def sp_p_check_letter : Sp := fun vs H Q _ => ∃ c : Nat, vs = [.str (sg c)] ∧ (97 ≤ c ∧ c < 123) ∧ ∀ H', Same H H' → Q .non H'
theorem ok_p_check_letter (T : Tx K mg) : FnOk P w K mg base CX0 3 T.f_p_check_letter T.fd_p_check_letter P_p_check_letter sp_p_check_letter := by
  have G_p_is_letter : FnOk P w K mg base CX0 2 T.f_p_is_letter T.fd_p_is_letter P_p_is_letter sp_p_is_letter := ok_p_is_letter T
  refine T.F_p_check_letter.ok sc_p_check_letter (fun vs H Q E h => ?_) (fun cdv A outer s H vs Q E hr h => ?_)
  · obtain ⟨c, rfl, _⟩ := h
    rfl
  · obtain ⟨c, rfl, hc, q⟩ := h
    refine ⟨_, 
      (pss_one (ps_if (pt_not (pt_val (pe_call G_p_is_letter (hr.mono (by decide)) (by rfl) T.g_p_is_letter T.F_p_is_letter.kp T.b_p_is_letter .nil pass0 (pa_cons (L2.pv 0) pa_nil))))
        pss_never
        pss_nil)), ?_⟩
    refine ⟨.str (tx [c]), rfl, [c], rfl, (by show 1 < 1000; decide), fun H1 s1 => ⟨_, rfl, ?_⟩⟩
    rw [show (decide ([c].length = 1) && low [c]) = true from by rw [low_of fun d hd => by rw [List.mem_singleton.mp hd]; exact hc]; rfl]
    exact iteF (q _ s1)
theorem one_tup {H : Hp} {av : Addr → Prop} {l : List Nat} {m : Bool} {t1 t2 : Addr} (h1 : ¬ av t1) (h2 : ¬ av t2) (as : ascii l) (n2 : (upd H t1 (.tup [.str (tx l), .bl m])) t2 = none) :
    Rp av (upd (upd H t1 (.tup [.str (tx l), .bl m])) t2 (.tup [.ref t1])) 2 (.ref t2) (prD [(l, m)]) :=
  rp_tup h2 upd_same (by show 1 < 100000; decide) (.cons (rp_atom (a := (l, m)) h1 as ((upd_ne (ne_of_none upd_same n2)).trans upd_same)) .nil)
theorem rp_catG {av : Addr → Prop} {H : Hp} {K : PySem.W.Frag} {v v' : V} {as bs : List Atm} {Q : VK} (rp : Rp av H 2 v (prD as)) (rq : Rp av H 2 v' (prD bs)) (hz : as.length + bs.length < 10000) (q : ∀ H' u, Same H H' → Rp (fun a => av a ∧ Old H a) H' 2 u (prD (as ++ bs)) → Q u H') : rCatA K v v' H Q := by
  obtain ⟨p, xs, rfl, na, hp, hl, l1, pp⟩ := rp.prod
  obtain ⟨p', xs', rfl, na', hp', hl', l1', pp'⟩ := rq.prod
  refine catA_of hp hp' (by rw [sizeLine_eq]; omega) fun H' z sm hz hc => q H' _ sm ?_
  refine rp_tup ?_ hc (by rw [List.length_append]; omega) ?_
  · rcases hz with rfl | rfl | hz
    · exact fun h => na h.1
    · exact fun h => na' h.1
    · exact fun h => h.2 hz
  · rw [List.map_append]
    exact Paired.mapP (paired_cat pp' pp) fun _ _ r => (r.mv (Same.kp sm)).weak fun _ h => h.1
theorem rp_dropG {av : Addr → Prop} {H : Hp} {K : PySem.W.Frag} {v : V} {as : List Atm} {Q : VK} (rp : Rp av H 2 v (prD as)) {k : Int} (hk : 0 ≤ k) (q : ∀ H' u, Same H H' → Rp (fun a => av a ∧ Old H a) H' 2 u (prD (as.drop k.toNat)) → Q u H') : rSlA K v (some k) none H Q := by
  obtain ⟨p, xs, rfl, na, hp, hl, l1, pp⟩ := rp.prod
  refine slA_of hp fun H' z sm hz hc => q H' _ sm ?_
  obtain ⟨n, rfl⟩ := Int.eq_ofNat_of_zero_le hk
  rw [cut_dropV] at hc
  refine rp_tup ?_ hc (by rw [List.length_drop]; omega) ?_
  · rcases hz with rfl | hz
    · exact fun h => na h.1
    · exact fun h => h.2 hz
  · rw [List.map_drop]
    exact Paired.mapP (paired_drop n pp) fun _ _ r => (r.mv (Same.kp sm)).weak fun _ h => h.1
theorem Old.sm {H H' : Hp} (s : Same H H') {a : Addr} (h : Old H a) : Old H' a := fun z => h (s.free z)
def sp_p_sent : Sp := fun vs H Q _ => ∃ (av : Addr → Prop) (v : V) (as : List Atm) (c : Nat), vs = [v, .str (sg c)] ∧ Rp av H 2 v (prD as) ∧ (∀ a ∈ as, AtOk a) ∧ as.length < 900 ∧ (97 ≤ c ∧ c < 123) ∧ ∀ H' v', Same H H' → Rp (fun a => av a ∧ Old H a) H' 2 v' (prD (mp (as ++ [([c], false)]))) → Q v' H'
theorem okc_of {c : Nat} (h : 97 ≤ c ∧ c < 123) : AtOk ([c], false) := ⟨by simp, fun d hd => by rw [List.mem_singleton.mp hd]; exact h, List.pairwise_singleton _ _, .inr rfl, by show 1 < 100; decide⟩
theorem ok_p_with_letter (T : Tx K mg) : FnOk P w K mg base CX0 3 T.f_p_with_letter T.fd_p_with_letter P_p_with_letter sp_p_sent := by
  have G_p_made_plain : FnOk P w K mg base CX0 2 T.f_p_made_plain T.fd_p_made_plain P_p_made_plain sp_p_made_plain := ok_p_made_plain T
  refine T.F_p_with_letter.ok sc_p_with_letter (fun vs H Q E h => ?_) (fun cdv A outer s H vs Q E hr h => ?_)
  · obtain ⟨av, v, as, c, rfl, _⟩ := h
    rfl
  · obtain ⟨av, v, as, c, rfl, hv, ok, la, hc, q⟩ := h
    refine ⟨_, 
      (pss_one (ps_ret (pe_call G_p_made_plain (hr.mono (by decide)) (by rfl) T.g_p_made_plain T.F_p_made_plain.kp T.b_p_made_plain .nil pass0 (pa_cons (pe_op op_catA (L2.pv 0) (pe_tup (pa_cons (pe_tup (pa_cons (L2.pv 1) (pa_cons pe_bl pa_nil))) pa_nil))) pa_nil)))), ?_⟩
    have s12 := Same.refl H
    refine ⟨v, rfl, .str (sg c), rfl, (by show 2 ≤ sizeLine; decide), fun t1 n1 => ⟨(by show 1 ≤ sizeLine; decide), fun t2 n2 => ?_⟩⟩
    have f1 : H t1 = none := s12.free n1
    have f2 : H t2 = none := (s12.trans (same_new n1)).free n2
    have s3 : Same H (upd (upd H t1 (.tup [.str (sg c), .bl false])) t2 (.tup [.ref t1])) := (same_new n1).trans (same_new n2)
    have okc := okc_of hc
    have r1 := one_tup (H := H) (av := fun a => av a ∧ Old H a) (l := [c]) (m := false) (t1 := t1) (t2 := t2) (fun h => h.2 f1) (fun h => h.2 f2) okc.ascii n2
    refine rp_catG (av := fun a => av a ∧ Old H a) (((hv.mv (Same.kp s12)).mv (Same.kp s3)).weak fun _ h => h.1) r1 (by simp; omega) fun H4 u s4 r4 => ?_
    refine ⟨_, u, as ++ [([c], false)], rfl, r4, okApp ok okc, by simp; omega, fun H5 v5 s5 r5 => ?_⟩
    have s14 := s12.trans (s3.trans s4)
    exact q _ _ (s14.trans s5) (r5.weak fun a h => ⟨⟨h, Old.sm (s12.trans s3) h.2⟩, Old.sm s14 h.2⟩)
theorem ok_p_sent (T : Tx K mg) : FnOk P w K mg base CX0 6 T.f_p_sent T.fd_p_sent P_p_sent sp_p_sent := by
  have G_p_with_letter : FnOk P w K mg base CX0 3 T.f_p_with_letter T.fd_p_with_letter P_p_with_letter sp_p_sent := ok_p_with_letter T
  have G_p_check_product : FnOk P w K mg base CX0 5 T.f_p_check_product T.fd_p_check_product P_p_check_product sp_p_check_product := ok_p_check_product T
  have G_p_check_letter : FnOk P w K mg base CX0 3 T.f_p_check_letter T.fd_p_check_letter P_p_check_letter sp_p_check_letter := ok_p_check_letter T
  refine T.F_p_sent.ok sc_p_sent (fun vs H Q E h => ?_) (fun cdv A outer s H vs Q E hr h => ?_)
  · obtain ⟨av, v, as, c, rfl, _⟩ := h
    rfl
  · obtain ⟨av, v, as, c, rfl, hv, ok, la, hc, q⟩ := h
    refine ⟨_, 
      (pss_cons (ps_expr (pe_call G_p_check_product (hr.mono (by decide)) (by rfl) T.g_p_check_product T.F_p_check_product.kp T.b_p_check_product .nil pass0 (pa_cons (L2.pv 0) pa_nil)))
      (pss_cons (ps_expr (pe_call G_p_check_letter (hr.mono (by decide)) (by rfl) T.g_p_check_letter T.F_p_check_letter.kp T.b_p_check_letter .nil pass0 (pa_cons (L2.pv 1) pa_nil)))
      (pss_one (ps_ret (pe_call G_p_with_letter (hr.mono (by decide)) (by rfl) T.g_p_with_letter T.F_p_with_letter.kp T.b_p_with_letter .nil pass0 (pa_cons (L2.pv 0) (pa_cons (L2.pv 1) pa_nil))))))), ?_⟩
    refine ⟨v, rfl, av, v, as, rfl, hv, ok, by omega, fun H1 s1 => ?_⟩
    refine ⟨.str (sg c), rfl, c, rfl, hc, fun H2 s2 => ?_⟩
    have s12 := s1.trans s2
    exact ⟨v, rfl, .str (sg c), rfl, av, v, as, c, rfl, hv.mv (Same.kp s12), ok, la, hc, fun H3 v3 s3 r3 => q _ _ (s12.trans s3) (r3.weak fun a h => ⟨h.1, Old.sm s12 h.2⟩)⟩
def sp_p_swollen : Sp := fun vs H Q _ => ∃ (av : Addr → Prop) (v : V) (as : List Atm) (L : List Nat), vs = [v, .str (tx L)] ∧ Rp av H 2 v (prD as) ∧ (∀ a ∈ as, AtOk a) ∧ as.length < 900 ∧ (∀ c ∈ L, 97 ≤ c ∧ c < 123) ∧ L.Pairwise (· < ·) ∧ L.length < 100 ∧ ∀ H' v', Same H H' → Rp (fun a => av a ∧ Old H a) H' 2 v' (prD (mp (swol as L))) → Q v' H'
theorem ok_p_with_any (T : Tx K mg) : FnOk P w K mg base CX0 3 T.f_p_with_any T.fd_p_with_any P_p_with_any sp_p_swollen := by
  have G_p_made_plain : FnOk P w K mg base CX0 2 T.f_p_made_plain T.fd_p_made_plain P_p_made_plain sp_p_made_plain := ok_p_made_plain T
  refine T.F_p_with_any.ok sc_p_with_any (fun vs H Q E h => ?_) (fun cdv A outer s H vs Q E hr h => ?_)
  · obtain ⟨av, v, as, L, rfl, _⟩ := h
    rfl
  · obtain ⟨av, v, as, L, rfl, hv, ok, la, hL, rL, lL, q⟩ := h
    refine ⟨_, 
      (pss_one (ps_ret (pe_ifExp (pt_truth (L2.pv 1) (by intro _; rfl)) (pe_call G_p_made_plain (hr.mono (by decide)) (by rfl) T.g_p_made_plain T.F_p_made_plain.kp T.b_p_made_plain .nil pass0 (pa_cons (pe_op op_catA (L2.pv 0) (pe_tup (pa_cons (pe_tup (pa_cons (L2.pv 1) (pa_cons pe_bl pa_nil))) pa_nil))) pa_nil)) (pe_call G_p_made_plain (hr.mono (by decide)) (by rfl) T.g_p_made_plain T.F_p_made_plain.kp T.b_p_made_plain .nil pass0 (pa_cons (L2.pv 0) pa_nil))))), ?_⟩
    have s12 := Same.refl H
    have zl : (tx L).length ≤ sizeLine := by rw [tx_len]; exact Nat.le_of_lt (small1000 (by omega))
    by_cases h0 : L = []
    · subst h0
      refine ⟨.str (tx []), rfl, false, ⟨zl, rfl⟩, iteF ⟨v, rfl, av, v, as, rfl, hv.mv (Same.kp s12), ok, by omega, fun H5 v5 s5 r5 => ?_⟩⟩
      exact q _ _ (s12.trans s5) (r5.weak fun a h => ⟨h.1, Old.sm s12 h.2⟩)
    · have okz : AtOk (L, true) := ⟨h0, hL, rL, .inl rfl, lL⟩
      have hne : ((((tx L).length : Nat) : Int) != 0) = true := by
        rw [tx_len]
        have : 0 < L.length := List.length_pos_iff.mpr h0
        exact bne_iff_ne.mpr (by omega)
      refine ⟨.str (tx L), rfl, true, ⟨zl, hne.symm⟩, iteT ?_⟩
      refine ⟨v, rfl, .str (tx L), rfl, (by show 2 ≤ sizeLine; decide), fun t1 n1 => ⟨(by show 1 ≤ sizeLine; decide), fun t2 n2 => ?_⟩⟩
      have f1 : H t1 = none := s12.free n1
      have f2 : H t2 = none := (s12.trans (same_new n1)).free n2
      have s3 : Same H (upd (upd H t1 (.tup [.str (tx L), .bl true])) t2 (.tup [.ref t1])) := (same_new n1).trans (same_new n2)
      have r1 := one_tup (H := H) (av := fun a => av a ∧ Old H a) (l := L) (m := true) (t1 := t1) (t2 := t2) (fun h => h.2 f1) (fun h => h.2 f2) okz.ascii n2
      refine rp_catG (av := fun a => av a ∧ Old H a) (((hv.mv (Same.kp s12)).mv (Same.kp s3)).weak fun _ h => h.1) r1 (by simp; omega) fun H4 u s4 r4 => ?_
      refine ⟨_, u, as ++ [(L, true)], rfl, r4, okApp ok okz, by simp; omega, fun H5 v5 s5 r5 => ?_⟩
      have s14 := s12.trans (s3.trans s4)
      have e : swol as L = as ++ [(L, true)] := if_neg h0
      rw [← e] at r5
      exact q _ _ (s14.trans s5) (r5.weak fun a h => ⟨⟨h, Old.sm (s12.trans s3) h.2⟩, Old.sm s14 h.2⟩)
theorem ok_p_swollen (T : Tx K mg) : FnOk P w K mg base CX0 6 T.f_p_swollen T.fd_p_swollen P_p_swollen sp_p_swollen := by
  have G_p_with_any : FnOk P w K mg base CX0 3 T.f_p_with_any T.fd_p_with_any P_p_with_any sp_p_swollen := ok_p_with_any T
  have G_p_check_product : FnOk P w K mg base CX0 5 T.f_p_check_product T.fd_p_check_product P_p_check_product sp_p_check_product := ok_p_check_product T
  have G_p_is_rising : FnOk P w K mg base CX0 2 T.f_p_is_rising T.fd_p_is_rising P_p_is_rising sp_p_is_rising := ok_p_is_rising T
  refine T.F_p_swollen.ok sc_p_swollen (fun vs H Q E h => ?_) (fun cdv A outer s H vs Q E hr h => ?_)
  · obtain ⟨av, v, as, L, rfl, _⟩ := h
    rfl
  · obtain ⟨av, v, as, L, rfl, hv, ok, la, hL, rL, lL, q⟩ := h
    refine ⟨_, 
      (pss_cons (ps_expr (pe_call G_p_check_product (hr.mono (by decide)) (by rfl) T.g_p_check_product T.F_p_check_product.kp T.b_p_check_product .nil pass0 (pa_cons (L2.pv 0) pa_nil)))
      (pss_cons (ps_if (pt_not (pt_val (pe_call G_p_is_rising (hr.mono (by decide)) (by rfl) T.g_p_is_rising T.F_p_is_rising.kp T.b_p_is_rising .nil pass0 (pa_cons (L2.pv 1) pa_nil))))
        pss_never
        pss_nil)
      (pss_one (ps_ret (pe_call G_p_with_any (hr.mono (by decide)) (by rfl) T.g_p_with_any T.F_p_with_any.kp T.b_p_with_any .nil pass0 (pa_cons (L2.pv 0) (pa_cons (L2.pv 1) pa_nil))))))), ?_⟩
    refine ⟨v, rfl, av, v, as, rfl, hv, ok, by omega, fun H1 s1 => ?_⟩
    refine ⟨.str (tx L), rfl, L, rfl, by omega, hL, rL, fun H2 s2 => ⟨_, rfl, iteF ?_⟩⟩
    have s12 := s1.trans s2
    exact ⟨v, rfl, .str (tx L), rfl, av, v, as, L, rfl, hv.mv (Same.kp s12), ok, la, hL, rL, lL, fun H3 v3 s3 r3 => q _ _ (s12.trans s3) (r3.weak fun a h => ⟨h.1, Old.sm s12 h.2⟩)⟩
def sp_p_taken : Sp := fun vs H Q _ => ∃ (av : Addr → Prop) (v : V) (as : List Atm) (c : Nat), vs = [v, .str (sg c)] ∧ Rp av H 2 v (prD as) ∧ (∀ a ∈ as, AtOk a) ∧ as.length < 900 ∧ (97 ≤ c ∧ c < 123) ∧
  (∀ H', Same H H' → drp c as = none → Q .non H') ∧ ∀ H' v' bs, Same H H' → drp c as = some bs → Rp (fun a => av a ∧ Old H a) H' 2 v' (prD (mp bs)) → Q v' H'
theorem ok_p_left_behind (T : Tx K mg) : FnOk P w K mg base CX0 3 T.f_p_left_behind T.fd_p_left_behind P_p_left_behind sp_p_taken := by
  have G_p_made_plain : FnOk P w K mg base CX0 2 T.f_p_made_plain T.fd_p_made_plain P_p_made_plain sp_p_made_plain := ok_p_made_plain T
  refine T.F_p_left_behind.ok sc_p_left_behind (fun vs H Q E h => ?_) (fun cdv A outer s H vs Q E hr h => ?_)
  · obtain ⟨av, v, as, c, rfl, _⟩ := h
    rfl
  · obtain ⟨av, v, as, c, rfl, hv, ok, la, hc, q0, q⟩ := h
    obtain ⟨p, xs, rfl, na, hp, hl, _, pp⟩ := id hv.prod
    refine ⟨_, 
      (pss_cons (ps_for PassesOwn.never rfl (LB.pi_enumT (by rfl) T.m_enumerate (pa_cons (L2.pv 0) pa_nil)) (pg_tup (by rfl) (pgs_cons (pg_name (i := 2) sc_p_left_behind.nd rfl (.inl rfl)) (pgs_cons (pg_tup (by rfl) (pgs_cons (pg_name (i := 3) sc_p_left_behind.nd rfl (.inl rfl)) (pgs_cons (pg_name (i := 4) sc_p_left_behind.nd rfl (.inl rfl)) pgs_nil))) pgs_nil)))
        (pss_one (ps_if (pt_cmpR op_in_sign (L2.pv 1) (L2.pv 3) rfl)
          (pss_one (ps_ret (pe_call G_p_made_plain (hr.mono (by decide)) (by rfl) T.g_p_made_plain T.F_p_made_plain.kp T.b_p_made_plain .nil pass0 (pa_cons (pe_ifExp (pt_val (L2.pv 4)) (pe_slice sl_tupA (L2.pv 0) (po_some (L2.pv 2)) po_none) (pe_slice sl_tupA (L2.pv 0) (po_some (pe_op op_add (L2.pv 2) pe_int)) po_none)) pa_nil))))
          pss_nil)))
      (pss_one (ps_ret pe_non))), ?_⟩
    have s12 := Same.refl H
    refine ⟨.ref p, rfl, p, xs, rfl, .of (s12 _ _ hp), ?_⟩
    refine for_it (walk_enumT (xs := xs)) (fun i σ G => ∃ y2 y3 y4, σ = [some (.ref p), some (.str (sg c)), y2, y3, y4] ∧ Same H G ∧ drp c (as.drop i) = drp c as) ⟨none, none, none, rfl, s12, rfl⟩ (fun i σ G _ h => ?_) (fun i x σ G1 G hi h y => ?_) (fun σ G h => ?_)
    · obtain ⟨_, _, _, _, sm, _⟩ := h
      exact .of (sm _ _ hp)
    · obtain ⟨y2, y3, y4, rfl, sm, hd⟩ := h
      obtain ⟨U, u0, v0, rfl, nU, rfl, g1, g2⟩ := y
      have g1 : some (V.int (i : Nat)) = some u0 := g1
      cases g1
      have g2 : xs[i]? = some v0 := g2
      obtain ⟨⟨ls, m⟩, ha, r, rfl, nr, hr'⟩ := prod_get pp g2
      have li := (List.getElem?_eq_some_iff.mp ha)
      have hcons : as.drop i = (ls, m) :: as.drop (i + 1) := by rw [List.drop_eq_getElem_cons li.1, li.2]
      rw [hcons] at hd
      have hd : (if c ∈ ls then some (if m = true then (ls, m) :: as.drop (i + 1) else as.drop (i + 1)) else drp c (as.drop (i + 1))) = drp c as := hd
      have sU := sm.trans (same_new (o := .tup [.int (i : Nat), .ref r]) nU)
      refine ⟨U, _, rfl, .of upd_same, rfl, _, _, rfl, _, _, rfl, r, _, rfl, .of (sU _ _ hr'), rfl, _, _, rfl, _, _, rfl, rfl, rfl, ?_⟩
      refine ⟨.str (sg c), rfl, .str (tx ls), rfl, c, tx ls, rfl, rfl, _, rfl, ?_⟩
      rw [tx_cps]
      by_cases hin : c ∈ ls
      · rw [decide_eq_true hin]
        rw [if_pos hin] at hd
        have vG := hv.mv (Same.kp sU)
        refine iteT ⟨.bl m, rfl, m, rfl, ?_⟩
        cases m with
        | true =>
          have hd : some ((ls, true) :: as.drop (i + 1)) = drp c as := hd
          rw [← hcons] at hd
          refine iteT ⟨.ref p, rfl, .int (i : Nat), rfl, _, rfl, noPart ?_⟩
          refine rp_dropG vG (by omega) fun H4 u s4 r4 => ?_
          rw [show (((i : Nat) : Int)).toNat = i by omega] at r4
          refine ⟨_, u, as.drop i, rfl, r4, fun x hx => ok x (List.mem_of_mem_drop hx), by rw [List.length_drop]; omega, fun H5 v5 s5 r5 => ?_⟩
          exact q _ _ _ (sU.trans (s4.trans s5)) hd.symm (r5.weak fun a h => ⟨⟨h.1, Old.sm sU h.2⟩, Old.sm (sU.trans s4) h.2⟩)
        | false =>
          have hd : some (as.drop (i + 1)) = drp c as := hd
          refine iteF ⟨.ref p, rfl, .int (i : Nat), rfl, _, 1, rfl, rfl, _, rfl, noPart ?_⟩
          refine rp_dropG vG (by omega) fun H4 u s4 r4 => ?_
          rw [show ((i : Int) + 1).toNat = i + 1 by omega] at r4
          refine ⟨_, u, as.drop (i + 1), rfl, r4, fun x hx => ok x (List.mem_of_mem_drop hx), by rw [List.length_drop]; omega, fun H5 v5 s5 r5 => ?_⟩
          exact q _ _ _ (sU.trans (s4.trans s5)) hd.symm (r5.weak fun a h => ⟨⟨h.1, Old.sm sU h.2⟩, Old.sm (sU.trans s4) h.2⟩)
      · rw [decide_eq_false hin]
        rw [if_neg hin] at hd
        exact iteF ⟨_, _, _, rfl, sU, hd⟩
    · obtain ⟨y2, y3, y4, rfl, sm, hd⟩ := h
      rw [show as.drop xs.length = [] from List.drop_of_length_le (by omega)] at hd
      exact q0 _ sm hd.symm
theorem ok_p_taken (T : Tx K mg) : FnOk P w K mg base CX0 6 T.f_p_taken T.fd_p_taken P_p_taken sp_p_taken := by
  have G_p_left_behind : FnOk P w K mg base CX0 3 T.f_p_left_behind T.fd_p_left_behind P_p_left_behind sp_p_taken := ok_p_left_behind T
  have G_p_check_product : FnOk P w K mg base CX0 5 T.f_p_check_product T.fd_p_check_product P_p_check_product sp_p_check_product := ok_p_check_product T
  have G_p_check_letter : FnOk P w K mg base CX0 3 T.f_p_check_letter T.fd_p_check_letter P_p_check_letter sp_p_check_letter := ok_p_check_letter T
  refine T.F_p_taken.ok sc_p_taken (fun vs H Q E h => ?_) (fun cdv A outer s H vs Q E hr h => ?_)
  · obtain ⟨av, v, as, c, rfl, _⟩ := h
    rfl
  · obtain ⟨av, v, as, c, rfl, hv, ok, la, hc, q0, q⟩ := h
    refine ⟨_, 
      (pss_cons (ps_expr (pe_call G_p_check_product (hr.mono (by decide)) (by rfl) T.g_p_check_product T.F_p_check_product.kp T.b_p_check_product .nil pass0 (pa_cons (L2.pv 0) pa_nil)))
      (pss_cons (ps_expr (pe_call G_p_check_letter (hr.mono (by decide)) (by rfl) T.g_p_check_letter T.F_p_check_letter.kp T.b_p_check_letter .nil pass0 (pa_cons (L2.pv 1) pa_nil)))
      (pss_one (ps_ret (pe_call G_p_left_behind (hr.mono (by decide)) (by rfl) T.g_p_left_behind T.F_p_left_behind.kp T.b_p_left_behind .nil pass0 (pa_cons (L2.pv 0) (pa_cons (L2.pv 1) pa_nil))))))), ?_⟩
    refine ⟨v, rfl, av, v, as, rfl, hv, ok, by omega, fun H1 s1 => ?_⟩
    refine ⟨.str (sg c), rfl, c, rfl, hc, fun H2 s2 => ?_⟩
    have s12 := s1.trans s2
    exact ⟨v, rfl, .str (sg c), rfl, av, v, as, c, rfl, hv.mv (Same.kp s12), ok, la, hc, fun H3 s3 e => q0 _ (s12.trans s3) e, fun H3 v3 bs s3 e r3 => q _ _ _ (s12.trans s3) e (r3.weak fun a h => ⟨h.1, Old.sm s12 h.2⟩)⟩

/-! ### all words up to a length; a word's tail -/
def WL (ws : List (List Nat)) : List V := ws.map fun w => V.str (tx w)
structure WOk (cs : List Nat) (k : Nat) (ws : List (List Nat)) : Prop where
  ok : ∀ w ∈ ws, w.length ≤ k ∧ ∀ c ∈ w, c ∈ cs
theorem WOk.up {cs : List Nat} {k m : Nat} {ws : List (List Nat)} (h : WOk cs k ws) (hk : k ≤ m) : WOk cs m ws := ⟨fun w hw => ⟨Nat.le_trans (h.ok w hw).1 hk, (h.ok w hw).2⟩⟩
theorem WOk.app {cs : List Nat} {k : Nat} {ws us : List (List Nat)} (h : WOk cs k ws) (h2 : WOk cs k us) : WOk cs k (ws ++ us) := ⟨fun w hw => (List.mem_append.mp hw).elim (h.ok w) (h2.ok w)⟩
theorem wl_get {ws : List (List Nat)} {i : Nat} {x : V} (h : (WL ws)[i]? = some x) : ∃ w, ws[i]? = some w ∧ x = .str (tx w) := by
  unfold WL at h
  rw [List.getElem?_map] at h
  cases e : ws[i]? with
  | none => rw [e] at h; cases h
  | some w => rw [e] at h; exact ⟨w, rfl, (Option.some.inj h).symm⟩
def sp_words_to : Sp := fun vs H Q _ => ∃ (p : Addr) (cs : List Nat) (top : Int), vs = [.ref p, .int top] ∧ H p = some (.lst (lets cs)) ∧ cs.length ≤ 6 ∧ 0 ≤ top ∧ top ≤ 4 ∧ ∀ H' z ws, Same H H' → H z = none → H' z = some (.lst (WL ws)) → ws.length ≤ 6500 → WOk cs 4 ws → Q (.ref z) H'
theorem ok_words_to (T : Tx K mg) : FnOk P w K mg base CX0 1 T.f_words_to T.fd_words_to P_words_to sp_words_to := by
  refine T.F_words_to.ok sc_words_to (fun vs H Q E h => ?_) (fun cdv A outer s H vs Q E hr h => ?_)
  · obtain ⟨p, cs, top, rfl, _⟩ := h
    rfl
  · obtain ⟨p, cs, top, rfl, hp, lc, t0, t1, q⟩ := h
    refine ⟨_, 
      (pss_cons (ps_set (i := 2) sc_words_to.nd rfl (.inl rfl) (pe_lst (pa_cons pe_str pa_nil)))
      (pss_cons (ps_set (i := 3) sc_words_to.nd rfl (.inl rfl) (pe_lst (pa_cons pe_str pa_nil)))
      (pss_cons (ps_for PassesOwn.never rfl (pi_range1 (by rfl) T.m_range (pa_cons (L2.pv 1) pa_nil)) (pg_name (i := 4) sc_words_to.nd rfl (.inl rfl))
        (pss_cons (ps_set (i := 5) sc_words_to.nd rfl (.inl rfl) (pe_lst pa_nil))
        (pss_cons (ps_for PassesOwn.never rfl (pi_list (L2.pv 3)) (pg_name (i := 6) sc_words_to.nd rfl (.inr rfl))
          (pss_one (ps_set (i := 5) sc_words_to.nd rfl (.inl rfl) (pe_op op_cat (L2.pv 5) (pe_lc (own := [("_law_letter", 7)]) (g := (gName 7)) (tt := tYes) (by rfl) sc_words_to.nd (pi_list (L2.pv 0)) (blkOk_by (own := [("_law_letter", 7)]) (N := N_words_to) (sc := defScope s_words_to) (by decide +kernel)) (fun _ _ _ _ _ => (pg_name (i := 7) sc_words_to.nd rfl (.inl rfl))) (fun _ _ _ _ _ => pts_nil) (fun _ _ _ _ _ => (pe_op op_add_str (L2.pv 6) (L2.pv 7))))))))
        (pss_cons (ps_set (i := 3) sc_words_to.nd rfl (.inl rfl) (L2.pv 5))
        (pss_one (ps_set (i := 2) sc_words_to.nd rfl (.inl rfl) (pe_op op_cat (L2.pv 2) (L2.pv 3))))))))
      (pss_one (ps_ret (L2.pv 2)))))), ?_⟩
    refine ⟨(by show 1 ≤ sizeLine; decide), fun f nf => ⟨(by show 1 ≤ sizeLine; decide), fun e ne => ?_⟩⟩
    have e0 : Str.ofString "" = tx [] := by decide +kernel
    rw [e0] at *
    have nfe : f ≠ e := ne_of_none upd_same ne
    have w0 : WOk cs 0 [[]] := ⟨fun w hw => by rw [List.mem_singleton.mp hw]; exact ⟨Nat.le_refl _, fun _ h => nomatch h⟩⟩
    have s1 : Same H (upd (upd H f (.lst (WL [[]]))) e (.lst (WL [[]]))) := (same_new nf).trans (same_new ne)
    refine ⟨.int top, rfl, top, rfl, by omega, by omega, for_range (lo := 0) (n := top.toNat) (fun k σ G => ∃ y4 y5 y6 f e fs es, σ = [some (.ref p), some (.int top), some (.ref f), some (.ref e), y4, y5, y6, none] ∧ Same H G ∧ H f = none ∧ G f = some (.lst (WL fs)) ∧ G e = some (.lst (WL es)) ∧ es.length ≤ 6 ^ k ∧ fs.length ≤ 1300 * (k + 1) ∧ WOk cs k es ∧ WOk cs k fs)
      ⟨none, none, none, f, e, [[]], [[]], rfl, s1, nf, (upd_ne nfe).trans upd_same, upd_same, Nat.le_refl _, by decide, w0, w0⟩ (fun k σ G hk h => ?_) (fun σ G h => ?_)⟩
    · obtain ⟨y4, y5, y6, f, e, fs, es, rfl, sm, nf, ef, ee, le, lf, we, wf⟩ := h
      have hk4 : k < 4 := by omega
      have l6 : 6 ^ k ≤ 216 := by
        have : k = 0 ∨ k = 1 ∨ k = 2 ∨ k = 3 := by omega
        rcases this with rfl | rfl | rfl | rfl <;> decide
      refine ⟨Nat.zero_le _, fun g ng => ?_⟩
      refine ⟨.ref e, rfl, e, rfl, ⟨_, .of ((upd_ne (ne_of_none ee ng)).trans ee)⟩, for_list (xs := WL es) (fun j σ G2 => ∃ y6 g ls, σ = [some (.ref p), some (.int top), some (.ref f), some (.ref e), some (.int (0 + k)), some (.ref g), y6, none] ∧ Same G G2 ∧ G2 g = some (.lst (WL ls)) ∧ ls.length ≤ 6 * j ∧ WOk cs (k + 1) ls) ⟨y6, g, [], rfl, same_new ng, upd_same, Nat.zero_le _, ⟨fun _ h => nomatch h⟩⟩ (fun j σ G2 _ h => ?_) (fun j x σ G2 hx h => ?_) (fun σ G2 h => ?_)⟩
      · obtain ⟨_, _, _, _, s2, _⟩ := h
        exact .of (s2 _ _ ee)
      · obtain ⟨y6, g, ls, rfl, s2, eg, lg, wg⟩ := h
        obtain ⟨u, hu, rfl⟩ := wl_get hx
        have hj := (List.getElem?_eq_some_iff.mp hu).1
        have hu' := we.ok u (mem_of_get hu)
        have sH := sm.trans s2
        refine ⟨.ref g, rfl, .ref p, rfl, p, rfl, ⟨_, .of (sH _ _ hp)⟩, fun D nD => ?_⟩
        have nD0 := sH.free nD
        have nD2 : G D = none := s2.free nD
        refine lc_list (xs := lets cs) (fun i G3 => Same G2 G3 ∧ G3 D = some (.lst (WL ((cs.take i).map fun c => u ++ [c])))) ⟨same_new nD, upd_same⟩ (fun i G3 _ h => .of (h.1 _ _ (sH _ _ hp))) (fun i x G3 hx h => ?_) (fun G3 h => ?_)
        · obtain ⟨s3, eD⟩ := h
          obtain ⟨c, hc, rfl⟩ : ∃ c, cs[i]? = some c ∧ x = V.str (sg c) := by
            unfold lets at hx
            rw [List.getElem?_map] at hx
            cases e : cs[i]? with
            | none => rw [e] at hx; cases hx
            | some c => rw [e] at hx; exact ⟨c, rfl, (Option.some.inj hx).symm⟩
          have hi := (List.getElem?_eq_some_iff.mp hc).1
          refine ⟨rfl, .str (tx u), rfl, .str (sg c), rfl, _, _, rfl, rfl, ?_, _, eD, ?_, same_mut s3 nD, ?_⟩
          · rw [tx_len, show (sg c).length = 1 from rfl, sizeLine_eq]
            omega
          · unfold WL
            rw [List.length_map, List.length_map, List.length_take]
            exact small1000 (by omega)
          · rw [upd_same, List.take_add_one, hc, show sg c = tx [c] from rfl, tx_app]
            simp [WL]
        · obtain ⟨s3, eD⟩ := h
          rw [show (lets cs).length = cs.length from List.length_map .., List.take_length] at eD
          refine ⟨g, D, _, _, rfl, rfl, s3 _ _ eg, eD, ?_, fun z nz => ?_⟩
          · unfold WL
            rw [List.length_map, List.length_map, List.length_map, sizeLine_eq]
            omega
          · refine ⟨some (.str (tx u)), z, ls ++ cs.map (fun c => u ++ [c]), rfl, s2.trans (s3.trans (same_new nz)), ?_, ?_, wg.app ⟨fun w hw => ?_⟩⟩
            · rw [upd_same]
              simp [WL]
            · rw [List.length_append, List.length_map]
              omega
            · obtain ⟨c, hc, rfl⟩ := List.mem_map.mp hw
              refine ⟨by rw [List.length_append]; have := hu'.1; simp; omega, fun d hd => ?_⟩
              rcases List.mem_append.mp hd with h | h
              · exact hu'.2 d h
              · rw [List.mem_singleton.mp h]
                exact hc
      · obtain ⟨y6, g, ls, rfl, s2, eg, lg, wg⟩ := h
        have lg' : ls.length ≤ 6 * es.length := by
          rw [show (WL es).length = es.length from List.length_map ..] at lg
          exact lg
        have lpow : 6 ^ (k + 1) = 6 ^ k * 6 := Nat.pow_succ ..
        refine ⟨.ref g, rfl, .ref f, rfl, .ref g, rfl, f, g, _, _, rfl, rfl, s2 _ _ ef, eg, ?_, fun z nz => ?_⟩
        · unfold WL
          rw [List.length_map, List.length_map, sizeLine_eq]
          omega
        · have sz := sm.trans (s2.trans (same_new (o := .lst (WL fs ++ WL ls)) nz))
          refine ⟨_, _, _, z, g, fs ++ ls, ls, rfl, sz, (sm.trans s2).free nz, ?_, (upd_ne (ne_of_none eg nz)).trans eg, by omega, ?_, wg, (wf.up (Nat.le_succ _)).app wg⟩
          · rw [upd_same]
            simp [WL]
          · rw [List.length_append]
            omega
    · obtain ⟨y4, y5, y6, f, e, fs, es, rfl, sm, nf, ef, ee, le, lf, we, wf⟩ := h
      exact ⟨.ref f, rfl, q _ f fs sm nf ef (by omega) (wf.up (by omega))⟩
def Tl (as : List Atm) (ws ls : List Nat) : Prop := ∃ k, k ≤ ws.length ∧ hold as (ws.take k) = true ∧ ∀ c ∈ ws.drop k, c ∈ ls
def sp_tail_in : Sp := fun vs H Q _ => ∃ (av : Addr → Prop) (v : V) (as : List Atm) (ws ls : List Nat), vs = [v, .str (tx ws), .str (tx ls)] ∧ Rp av H 2 v (prD as) ∧ as.length < 1000 ∧ ws.length < 900 ∧ ∀ H' t, Same H H' → (t = true ↔ Tl as ws ls) → Q (.bl t) H'
theorem ok_tail_in (T : Tx K mg) : FnOk P w K mg base CX0 2 T.f_tail_in T.fd_tail_in P_tail_in sp_tail_in := by
  have G_holds : FnOk P w K mg base CX0 1 T.f_holds T.fd_holds P_holds sp_holds := ok_holds T
  refine T.F_tail_in.ok sc_tail_in (fun vs H Q E h => ?_) (fun cdv A outer s H vs Q E hr h => ?_)
  · obtain ⟨av, v, as, ws, ls, rfl, _⟩ := h
    rfl
  · obtain ⟨av, v, as, ws, ls, rfl, hv, la, lw, q⟩ := h
    have zw : (tx ws).length ≤ sizeLine := by rw [tx_len]; exact Nat.le_of_lt (small1000 (by omega))
    refine ⟨_, 
      (pss_cons (ps_for PassesOwn.never rfl (pi_range1 (by rfl) T.m_range (pa_cons (pe_op op_add (pe_callB call_len_str (by rfl) T.m_len PySem.boot_len (pa_cons (L2.pv 1) pa_nil)) pe_int) pa_nil)) (pg_name (i := 3) sc_tail_in.nd rfl (.inl rfl))
        (pss_one (ps_if (PW.pt (pw_and (pt_val (pe_call G_holds (hr.mono (by decide)) (by rfl) T.g_holds T.F_holds.kp T.b_holds .nil pass0 (pa_cons (L2.pv 0) (pa_cons (pe_slice sl_str (L2.pv 1) po_none (po_some (L2.pv 3))) pa_nil)))) (pw_and1 (pt_val (pe_callB (cr_all rfl) (by rfl) T.m_all (by decide +kernel) (pa_cons (pe_lc (own := [("_law_letter", 4)]) (g := (gName 4)) (tt := tYes) (by rfl) sc_tail_in.nd (pi_str (pe_slice sl_str (L2.pv 1) (po_some (L2.pv 3)) po_none)) (blkOk_by (own := [("_law_letter", 4)]) (N := N_tail_in) (sc := defScope s_tail_in) (by decide +kernel)) (fun _ _ _ _ _ => (pg_name (i := 4) sc_tail_in.nd rfl (.inl rfl))) (fun _ _ _ _ _ => pts_nil) (fun _ _ _ _ _ => (pe_cmpR op_in_sign (L2.pv 4) (L2.pv 2) rfl))) pa_nil))))))
          (pss_one (ps_ret pe_bl))
          pss_nil)))
      (pss_one (ps_ret pe_bl))), ?_⟩
    refine ⟨.str (tx ws), rfl, tx ws, rfl, zw, _, 1, rfl, rfl, _, rfl, by rw [tx_len]; omega, by rw [tx_len]; omega, for_range (lo := 0) (n := ((((tx ws).length : Nat) : Int) + 1).toNat) (fun i σ G => ∃ y3, σ = [some v, some (.str (tx ws)), some (.str (tx ls)), y3, none] ∧ Same H G ∧ ∀ k, k < i → ¬ (hold as (ws.take k) = true ∧ ∀ c ∈ ws.drop k, c ∈ ls)) ⟨none, rfl, .refl H, fun k h => absurd h (Nat.not_lt_zero _)⟩ (fun i σ G hi h => ?_) (fun σ G h => ?_)⟩
    · obtain ⟨y3, rfl, sm, hno⟩ := h
      have hi' : i ≤ ws.length := by
        rw [tx_len] at hi
        omega
      have ei : (0 : Int) + (i : Int) = (i : Int) := Int.zero_add _
      rw [ei]
      refine ⟨v, rfl, .str (tx ws), rfl, .int (i : Nat), rfl, _, rfl, tx ws, rfl, zw, ?_⟩
      rw [show cutS (tx ws) none (some (i : Int)) = tx (ws.take i) from cutS_take ws i]
      refine ⟨av, v, as, ws.take i, rfl, hv.mv (Same.kp sm), by omega, by rw [List.length_take]; omega, fun G2 s2 => ⟨_, rfl, ?_⟩⟩
      have step : ¬ (hold as (ws.take i) = true ∧ ∀ c ∈ ws.drop i, c ∈ ls) → ∀ k, k < i + 1 → ¬ (hold as (ws.take k) = true ∧ ∀ c ∈ ws.drop k, c ∈ ls) := fun h k hk => by
        by_cases e : k < i
        · exact hno k e
        · rw [show k = i by omega]
          exact h
      cases hh : hold as (ws.take i) with
      | false => exact iteF (iteF ⟨_, rfl, sm.trans s2, step fun h => by rw [hh] at h; cases h.1⟩)
      | true =>
        refine iteT ⟨.str (tx ws), rfl, .int (i : Nat), rfl, _, rfl, noPart ⟨tx ws, rfl, zw, ?_⟩⟩
        rw [show cutS (tx ws) (some (i : Int)) none = tx (ws.drop i) from cutS_drop ws i]
        refine ⟨tx (ws.drop i), rfl, fun D nD => ?_⟩
        have nD0 : H D = none := (sm.trans s2).free nD
        refine lc_it walk_str (fun j G3 => Same G2 G3 ∧ G3 D = some (.lst (((ws.drop i).take j).map fun c => V.bl (decide (c ∈ ls))))) ⟨same_new nD, upd_same⟩ (fun _ _ _ _ => trivial) (fun j x G4 G3 hj h y => ?_) (fun G3 h => ?_)
        · obtain ⟨s3, eD⟩ := h
          obtain ⟨rfl, c, hc1, rfl⟩ := y
          have hj' : j < (ws.drop i).length := by simpa using hj
          have hc' : (ws.drop i)[j]? = some c := by
            rw [← Array.getElem?_toList] at hc1
            exact hc1
          rw [List.length_drop] at hj'
          refine ⟨rfl, .str (sg c), rfl, .str (tx ls), rfl, c, tx ls, rfl, rfl, _, eD, ?_, same_mut s3 nD, ?_⟩
          · rw [List.length_map, List.length_take]
            exact small1000 (by omega)
          · rw [upd_same, List.take_add_one, hc', List.map_append]
            rfl
        · obtain ⟨s3, eD⟩ := h
          rw [show (ws.drop i).take (tx (ws.drop i)).cps.size = ws.drop i from List.take_of_length_le (by simp)] at eD
          refine ⟨D, (ws.drop i).map fun c => decide (c ∈ ls), rfl, .of ?_, _, rfl, ?_⟩
          · rw [eD, List.map_map]
            rfl
          · rw [List.all_map]
            have sa := sm.trans (s2.trans s3)
            cases ha : (ws.drop i).all (id ∘ fun c => decide (c ∈ ls)) with
            | true =>
              refine iteT (q _ true sa ⟨fun _ => ⟨i, hi', hh, fun c hc => ?_⟩, fun _ => rfl⟩)
              exact of_decide_eq_true (List.all_eq_true.mp ha c hc)
            | false =>
              refine iteF ⟨_, rfl, sa, step fun h => ?_⟩
              have : (ws.drop i).all (id ∘ fun c => decide (c ∈ ls)) = true := List.all_eq_true.mpr fun c hc => decide_eq_true (h.2 c hc)
              rw [ha] at this
              cases this
    · obtain ⟨y3, rfl, sm, hno⟩ := h
      refine q _ false sm ⟨(fun z => nomatch z), fun z => ?_⟩
      obtain ⟨k, hk, h1, h2⟩ := z
      exact absurd ⟨h1, h2⟩ (hno k (by rw [tx_len]; omega))

/-! ### the law -/
theorem lett_nd {f y : Int} (hy : y ∈ [(1 : Int), 3, 5, 7, 9, 11]) {n : Nat} (hn : n ≤ 26) : ((List.range n).map (lett f y)).Nodup := by
  refine List.pairwise_map.mpr ((List.nodup_range (n := n)).imp_of_mem fun {i j} hi hj ne h => ne (lett_inj hy ?_ ?_ h))
  · have := List.mem_range.mp hi
    omega
  · have := List.mem_range.mp hj
    omega
theorem lett_lw {f y : Int} {n : Nat} : ∀ c ∈ (List.range n).map (lett f y), 97 ≤ c ∧ c < 123 := fun c hc => by
  obtain ⟨k, _, rfl⟩ := List.mem_map.mp hc
  exact lett_bd f y k

structure Lts (cs : List Nat) : Prop where
  nd : cs.Nodup
  lw : ∀ c ∈ cs, 97 ≤ c ∧ c < 123
  l0 : 0 < cs.length
  l1 : cs.length ≤ 6
theorem Lts.take {cs : List Nat} (h : Lts cs) {k : Nat} (hk : 0 < k) : Lts (cs.take k) :=
  ⟨h.nd.sublist (List.take_sublist _ _), fun c hc => h.lw c (List.mem_of_mem_take hc), by rw [List.length_take]; have := h.l0; omega, by rw [List.length_take]; have := h.l1; omega⟩

theorem cutS_back (zs : List Nat) : cutS (tx zs) (some (-1)) none = tx (zs.drop (zs.length - 1)) := by
  unfold cutS
  rw [tx_len, HT.sIx_none, tx_cps, show HT.sIx zs.length 0 (some (-1)) = zs.length - 1 from by show (if (-1 : Int) < 0 then ((-1 : Int) + ((zs.length : Nat) : Int)).toNat else min (-1 : Int).toNat zs.length) = zs.length - 1; rw [if_pos (by decide)]; omega]
  congr 1
  rw [List.take_of_length_le (by rw [List.length_drop]; omega)]
theorem cutS_init (zs : List Nat) : cutS (tx zs) none (some (-1)) = tx zs.dropLast := by
  unfold cutS
  rw [tx_len, HT.sIx_none, tx_cps, show HT.sIx zs.length zs.length (some (-1)) = zs.length - 1 from by show (if (-1 : Int) < 0 then ((-1 : Int) + ((zs.length : Nat) : Int)).toNat else min (-1 : Int).toNat zs.length) = zs.length - 1; rw [if_pos (by decide)]; omega, List.drop_zero, Nat.sub_zero, List.dropLast_eq_take]
theorem back_iff {zs : List Nat} {c : Nat} : decide (V.str (tx (zs.drop (zs.length - 1))) = V.str (sg c)) = decide (zs.getLast? = some c) := by
  rcases List.eq_nil_or_concat zs with rfl | ⟨v, d, rfl⟩
  · rw [decide_eq_false (fun z => by
      injection z with z
      have := congrArg (fun s : Str => s.cps.toList) z
      cases this), decide_eq_false (by simp)]
  · rw [List.concat_eq_append, List.getLast?_concat, show (v ++ [d]).drop ((v ++ [d]).length - 1) = [d] from by rw [List.length_append, List.length_singleton, Nat.add_sub_cancel, List.drop_left' rfl]]
    by_cases h : d = c
    · rw [decide_eq_true (by rw [h]), decide_eq_true (by rw [h])]
    · rw [decide_eq_false (fun z => h (by
        injection z with z
        have := congrArg (fun s : Str => s.cps.toList) z
        simpa using this)), decide_eq_false (by simpa using h)]
/-- what taken told -/
def Tk1 (b : Addr) (G : Hp) (as : List Atm) (c : Nat) (v : V) : Prop := (v = .non ∧ drp c as = none) ∨ ∃ p bs, v = .ref p ∧ drp c as = some bs ∧ Rp (nB b) G 2 (.ref p) (prD (mp bs))
theorem Tk1.mv {b : Addr} {G G' : Hp} {as : List Atm} {c : Nat} {v : V} (h : Tk1 b G as c v) (k : Kp (nB b) G G') : Tk1 b G' as c v := by
  rcases h with h | ⟨p, bs, e, d, r⟩
  · exact .inl h
  · exact .inr ⟨p, bs, e, d, r.mv k⟩
def sp_law (K : PySem.W.Frag) : Sp := fun vs H Q _ => ∃ (a : Addr) (ns : List Int), vs = [.ref a] ∧ SqL K H a (ns.map V.int) ∧ ns.length ≤ 63 ∧ ∀ H', Q (.bl true) H'
theorem ok_law_at (T : Tx K mg) : FnOk P w K mg base CX0 7 T.f_law T.fd_law P_law (sp_law K) := by
  have G_bag : FnOk P w K mg base CX0 1 T.f_bag T.fd_bag P_bag (sp_bag K) := ok_bag T
  have G_pull : FnOk P w K mg base CX0 1 T.f_pull T.fd_pull P_pull sp_pull := ok_pull T
  have G_of : FnOk P w K mg base CX0 2 T.f_of T.fd_of P_of sp_of := ok_of T
  have G_letters : FnOk P w K mg base CX0 3 T.f_letters T.fd_letters P_letters sp_letters := ok_letters T
  have G_six : FnOk P w K mg base CX0 2 T.f_six T.fd_six P_six sp_six := ok_six T
  have G_word : FnOk P w K mg base CX0 3 T.f_word T.fd_word P_word sp_word := ok_word T
  have G_product : FnOk P w K mg base CX0 3 T.f_product T.fd_product P_product sp_product := ok_product T
  have G_holds : FnOk P w K mg base CX0 1 T.f_holds T.fd_holds P_holds sp_holds := ok_holds T
  have G_plain_look : FnOk P w K mg base CX0 1 T.f_plain_look T.fd_plain_look P_plain_look sp_plain_look := ok_plain_look T
  have G_words_to : FnOk P w K mg base CX0 1 T.f_words_to T.fd_words_to P_words_to sp_words_to := ok_words_to T
  have G_tail_in : FnOk P w K mg base CX0 2 T.f_tail_in T.fd_tail_in P_tail_in sp_tail_in := ok_tail_in T
  have G_same : FnOk P w K mg base CX0 3 T.f_same T.fd_same P_same (sp_same K 2) := ok_same T 2
  have G_p_holds : FnOk P w K mg base CX0 6 T.f_p_holds T.fd_p_holds P_p_holds sp_p_holds := ok_p_holds T
  have G_p_sent : FnOk P w K mg base CX0 6 T.f_p_sent T.fd_p_sent P_p_sent sp_p_sent := ok_p_sent T
  have G_p_taken : FnOk P w K mg base CX0 6 T.f_p_taken T.fd_p_taken P_p_taken sp_p_taken := ok_p_taken T
  have G_p_swollen : FnOk P w K mg base CX0 6 T.f_p_swollen T.fd_p_swollen P_p_swollen sp_p_swollen := ok_p_swollen T
  refine T.F_law.ok sc_law (fun vs H Q E h => ?_) (fun cdv A outer s H vs Q E hr h => ?_)
  · obtain ⟨a, ns, rfl, _⟩ := h
    rfl
  · obtain ⟨a, ns, rfl, hS, hlen, q⟩ := h
    refine ⟨_, 
      (pss_cons (ps_set (i := 1) sc_law.nd rfl (.inr rfl) (pe_call G_bag (hr.mono (by decide)) (by rfl) T.g_bag T.F_bag.kp T.b_bag .nil pass0 (pa_cons (L2.pv 0) pa_nil)))
      (Evl.pss_cut (ps_set (i := 2) sc_law.nd rfl (.inr rfl) (pe_ifExp (pt_cmpR op_eq (pe_call G_pull (hr.mono (by decide)) (by rfl) T.g_pull T.F_pull.kp T.b_pull .nil pass0 (pa_cons (L2.pv 1) (pa_cons pe_int pa_nil))) pe_int (nomark _)) (pe_call G_letters (hr.mono (by decide)) (by rfl) T.g_letters T.F_letters.kp T.b_letters .nil pass0 (pa_cons (L2.pv 1) pa_nil)) (pe_call G_six (hr.mono (by decide)) (by rfl) T.g_six T.F_six.kp T.b_six .nil pass0 (pa_cons (L2.pv 1) pa_nil))))
      (pss_cons (ps_set (i := 3) sc_law.nd rfl (.inl rfl) (pe_slice sl_list (L2.pv 2) po_none (po_some (pe_op op_add pe_int (pe_call G_pull (hr.mono (by decide)) (by rfl) T.g_pull T.F_pull.kp T.b_pull .nil pass0 (pa_cons (L2.pv 1) (pa_cons (pe_callB call_len_seq (by rfl) T.m_len PySem.boot_len (pa_cons (L2.pv 2) pa_nil)) pa_nil)))))))
      (pss_cons (ps_set (i := 4) sc_law.nd rfl (.inl rfl) (pe_call G_product (hr.mono (by decide)) (by rfl) T.g_product T.F_product.kp T.b_product .nil pass0 (pa_cons (L2.pv 1) (pa_cons (L2.pv 3) (pa_cons pe_int pa_nil)))))
      (pss_cons (ps_set (i := 5) sc_law.nd rfl (.inl rfl) (pe_call G_of (hr.mono (by decide)) (by rfl) T.g_of T.F_of.kp T.b_of .nil pass0 (pa_cons (L2.pv 1) (pa_cons (L2.pv 2) pa_nil))))
      (pss_cons (ps_set (i := 6) sc_law.nd rfl (.inl rfl) (pe_join pe_str (pe_lc (own := [("_law_letter", 11)]) (g := (gName 11)) (by rfl) sc_law.nd (pi_list (pe_callB cr_sortedS (by rfl) T.m_sorted (by decide +kernel) (pa_cons (L2.pv 3) pa_nil))) (blkOk_by (own := [("_law_letter", 11)]) (N := N_law) (sc := defScope s_law) (by decide +kernel)) (fun _ _ _ _ _ => (pg_name (i := 11) sc_law.nd rfl (.inl rfl))) (fun _ _ _ _ _ => (pts_one (pt_cmpR op_eq (pe_call G_pull (hr.mono (by decide)) (by rfl) T.g_pull T.F_pull.kp T.b_pull .nil pass0 (pa_cons (L2.pv 1) (pa_cons pe_int pa_nil))) pe_int (nomark _)))) (fun _ _ _ _ _ => (L2.pv 11)))))
      (Evl.pss_cut (ps_set (i := 7) sc_law.nd rfl (.inl rfl) (pe_lst (pa_cons (pe_call G_p_sent (hr.mono (by decide)) (by rfl) T.g_p_sent T.F_p_sent.kp T.b_p_sent .nil pass0 (pa_cons (L2.pv 4) (pa_cons (L2.pv 5) pa_nil))) (pa_cons (pe_call G_p_taken (hr.mono (by decide)) (by rfl) T.g_p_taken T.F_p_taken.kp T.b_p_taken .nil pass0 (pa_cons (L2.pv 4) (pa_cons (L2.pv 5) pa_nil))) (pa_cons (pe_call G_p_swollen (hr.mono (by decide)) (by rfl) T.g_p_swollen T.F_p_swollen.kp T.b_p_swollen .nil pass0 (pa_cons (L2.pv 4) (pa_cons (L2.pv 6) pa_nil))) pa_nil)))))
      (pss_cons (ps_if (pt_cmpR op_eq (pe_cmpR op_isN (pe_ix ix_list (L2.pv 7) pe_int (fun _ _ => rfl)) pe_non (nomark _)) (pe_call G_holds (hr.mono (by decide)) (by rfl) T.g_holds T.F_holds.kp T.b_holds .nil pass0 (pa_cons (L2.pv 4) (pa_cons (L2.pv 5) pa_nil))) (nomark _))
        (pss_one (ps_ret pe_bl))
        pss_nil)
      (pss_cons (ps_if (pt_not (pt_val (pe_callB (cr_all rfl) (by rfl) T.m_all (by decide +kernel) (pa_cons (pe_lc (own := [("_law_row", 13)]) (g := (gName 13)) (by rfl) sc_law.nd (pi_list (L2.pv 7)) (blkOk_by (own := [("_law_row", 13)]) (N := N_law) (sc := defScope s_law) (by decide +kernel)) (fun _ _ _ _ _ => (pg_name (i := 13) sc_law.nd rfl (.inl rfl))) (fun _ _ _ _ _ => (pts_one (pt_cmpR op_notN (L2.pv 13) pe_non (nomark _)))) (fun _ _ _ _ _ => (pe_and (pe_callB (r := rIsi K) call_isi (by rfl) T.m_isinstance (by decide +kernel) (pa_cons (L2.pv 13) (pa_cons (pe_bltn (v := .ty "tuple") (by rfl) T.m_tuple (by decide +kernel) rfl) pa_nil))) (pe_one (pe_call G_plain_look (hr.mono (by decide)) (by rfl) T.g_plain_look T.F_plain_look.kp T.b_plain_look .nil pass0 (pa_cons (L2.pv 13) pa_nil)))))) pa_nil))))
        (pss_one (ps_ret pe_bl))
        pss_nil)
      (pss_cons (ps_set (i := 8) sc_law.nd rfl (.inl rfl) (pe_call G_words_to (hr.mono (by decide)) (by rfl) T.g_words_to T.F_words_to.kp T.b_words_to .nil pass0 (pa_cons (L2.pv 2) (pa_cons (pe_ix ix_list (pe_lst (pa_cons pe_int (pa_cons pe_int pa_nil))) (pe_callTy call_int1 (by rfl) T.m_int (by decide +kernel) (pa_cons (pe_cmpR op_gt (pe_callB call_len_seq (by rfl) T.m_len PySem.boot_len (pa_cons (L2.pv 2) pa_nil)) pe_int (nomark _)) pa_nil)) (fun _ _ => rfl)) pa_nil))))
      (pss_cons (ps_for PassesOwn.never rfl (pi_list (pe_op op_cat (L2.pv 8) (pe_lc (own := [("_law_k", 12)]) (g := (gName 12)) (tt := tYes) (by rfl) sc_law.nd (pi_range1 (by rfl) T.m_range (pa_cons pe_int pa_nil)) (blkOk_by (own := [("_law_k", 12)]) (N := N_law) (sc := defScope s_law) (by decide +kernel)) (fun _ _ _ _ _ => (pg_name (i := 12) sc_law.nd rfl (.inl rfl))) (fun _ _ _ _ _ => pts_nil) (fun _ _ _ _ _ => (pe_call G_word (hr.mono (by decide)) (by rfl) T.g_word T.F_word.kp T.b_word .nil pass0 (pa_cons (L2.pv 1) (pa_cons (L2.pv 2) (pa_cons pe_int pa_nil)))))))) (pg_name (i := 9) sc_law.nd rfl (.inl rfl))
        (pss_cons (ps_set (i := 10) sc_law.nd rfl (.inl rfl) (pe_call G_holds (hr.mono (by decide)) (by rfl) T.g_holds T.F_holds.kp T.b_holds .nil pass0 (pa_cons (L2.pv 4) (pa_cons (L2.pv 9) pa_nil))))
        (Evl.pss_cut (ps_if (pt_cmpR op_eq (pe_slice sl_str (L2.pv 9) (po_some (pe_un un_neg pe_int)) po_none) (L2.pv 5) (nomark _))
          (pss_one (ps_set (i := 10) sc_law.nd rfl (.inl rfl) (pe_or (L2.pv 10) (pe_one (pe_call G_holds (hr.mono (by decide)) (by rfl) T.g_holds T.F_holds.kp T.b_holds .nil pass0 (pa_cons (L2.pv 4) (pa_cons (pe_slice sl_str (L2.pv 9) po_none (po_some (pe_un un_neg pe_int))) pa_nil)))))))
          pss_nil)
        (pss_cons (ps_if (PW.pt (pw_or (pt_cmpR op_ne (pe_call G_holds (hr.mono (by decide)) (by rfl) T.g_holds T.F_holds.kp T.b_holds .nil pass0 (pa_cons (pe_ix ix_list (L2.pv 7) pe_int (fun _ _ => rfl)) (pa_cons (L2.pv 9) pa_nil))) (L2.pv 10) (nomark _)) (pw_or1 (pt_cmpR op_ne (pe_call G_p_holds (hr.mono (by decide)) (by rfl) T.g_p_holds T.F_p_holds.kp T.b_p_holds .nil pass0 (pa_cons (pe_ix ix_list (L2.pv 7) pe_int (fun _ _ => rfl)) (pa_cons (L2.pv 9) pa_nil))) (L2.pv 10) (nomark _)))))
          (pss_one (ps_ret pe_bl))
          pss_nil)
        (pss_cons (ps_set (i := 10) sc_law.nd rfl (.inl rfl) (pe_call G_holds (hr.mono (by decide)) (by rfl) T.g_holds T.F_holds.kp T.b_holds .nil pass0 (pa_cons (L2.pv 4) (pa_cons (pe_op op_add_str (L2.pv 5) (L2.pv 9)) pa_nil))))
        (Evl.pss_cut (ps_if (PW.pt (pw_and (pt_cmpR op_notN (pe_ix ix_list (L2.pv 7) pe_int (fun _ _ => rfl)) pe_non (nomark _)) (pw_and1 (pt_cmpR op_ne (pe_call G_holds (hr.mono (by decide)) (by rfl) T.g_holds T.F_holds.kp T.b_holds .nil pass0 (pa_cons (pe_ix ix_list (L2.pv 7) pe_int (fun _ _ => rfl)) (pa_cons (L2.pv 9) pa_nil))) (L2.pv 10) (nomark _)))))
          (pss_one (ps_ret pe_bl))
          pss_nil)
        (pss_one (ps_if (pt_cmpR op_ne (pe_call G_holds (hr.mono (by decide)) (by rfl) T.g_holds T.F_holds.kp T.b_holds .nil pass0 (pa_cons (pe_ix ix_list (L2.pv 7) pe_int (fun _ _ => rfl)) (pa_cons (L2.pv 9) pa_nil))) (pe_call G_tail_in (hr.mono (by decide)) (by rfl) T.g_tail_in T.F_tail_in.kp T.b_tail_in .nil pass0 (pa_cons (L2.pv 4) (pa_cons (L2.pv 9) (pa_cons (L2.pv 6) pa_nil)))) (nomark _))
          (pss_one (ps_ret pe_bl))
          pss_nil))))))))
      (pss_one (ps_ret (pe_call G_same (hr.mono (by decide)) (by rfl) T.g_same T.F_same.kp T.b_same .nil pass0 (pa_cons (pe_call G_p_swollen (hr.mono (by decide)) (by rfl) T.g_p_swollen T.F_p_swollen.kp T.b_p_swollen .nil pass0 (pa_cons (pe_tup pa_nil) (pa_cons pe_str pa_nil))) (pa_cons (pe_tup pa_nil) pa_nil)))))))))))))))), ?_⟩
    refine ⟨.ref a, rfl, a, ns, rfl, hS, hlen, fun H1 b cl s1 hB nb => ?_⟩
    refine ⟨fun σ G => ∃ p cs, σ = [some (.ref a), some (.ref b), some (.ref p), none, none, none, none, none, none, none, none, none, none, none] ∧ BX b cl H1 G ∧ At b G p (.lst (lets cs)) ∧ Lts cs, ?_, fun σ H2 h => ?_⟩
    · refine ⟨.ref b, rfl, b, cl, 2, rfl, hB, by decide, by decide, fun H2 v x2 v0 v1 => ⟨rfl, _, rfl, ite2 (fun _ => ?_) (fun _ => ?_)⟩⟩
      · refine ⟨.ref b, rfl, b, cl, rfl, x2.bag, fun H3 p f y x3 np f0 f1 hy ep => ⟨p, (List.range 3).map (lett f y), rfl, x2.trans x3, ⟨x2.bag.nb np, ep⟩, lett_nd hy (by decide), lett_lw, by simp, by simp⟩⟩
      · refine ⟨.ref b, rfl, b, cl, rfl, x2.bag, fun H3 p f y x3 np hy ep => ⟨p, (List.range 6).map (lett f y), rfl, x2.trans x3, ⟨x2.bag.nb np, ep⟩, lett_nd hy (by decide), lett_lw, by simp, by simp⟩⟩
    obtain ⟨p, cs, rfl, x2, hP, L⟩ := h
    have lcs := L.l0
    have lcs' := L.l1
    have len : (lets cs).length = cs.length := by simp [lets]
    have kp : ∀ {G G' : Hp}, BX b cl G G' → Kp (nB b) G G' := fun x => x.kp rfl
    -- some letters
    refine ⟨.ref p, rfl, .ref b, rfl, .ref p, rfl, p, _, rfl, .inl hP.l, b, cl, _, rfl, x2.bag, by omega, by omega, fun H4 v x4 v0 v1 => ?_⟩
    have x24 := x2.trans x4
    refine ⟨1, v, rfl, rfl, _, rfl, p, _, rfl, (hP.mv x4).l, fun l nl => ?_⟩
    have x5 : BX b cl H4 (upd H4 l (.lst (cutV (lets cs) none (some (1 + v))))) := .new x24.bag nl
    have x25 := x24.trans x5
    have hP5 := (hP.mv x4).mv x5
    have hL : At b (upd H4 l (.lst (cutV (lets cs) none (some (1 + v))))) l (.lst (lets (cs.take (1 + v).toNat))) := by
      refine ⟨x24.bag.nb nl, ?_⟩
      rw [upd_same, cut_takeI _ (by omega)]
      simp only [lets, List.map_take]
    have L' : Lts (cs.take (1 + v).toNat) := L.take (by omega)
    generalize cs.take (1 + v).toNat = ds at hL L'
    generalize upd H4 l (.lst (cutV (lets cs) none (some (1 + v)))) = H5 at x5 x25 hL hP5
    have lds := L'.l0
    have lds' := L'.l1
    -- the product, the letter
    refine ⟨.ref b, rfl, .ref l, rfl, b, cl, l, ds, 5, rfl, x25.bag, hL, lds, by omega, L'.nd, L'.lw, by decide, by decide, fun H6 pv as x6 rp la oka' => ?_⟩
    have rp : Rp (nB b) H6 2 pv (prD as) := rp.weak fun c h => h ▸ x25.bag.old
    have oka : ∀ x ∈ as, AtOk x := fun x hx => (oka' x hx).1
    refine ⟨.ref b, rfl, .ref p, rfl, b, cl, x6.bag, .inl ⟨p, _, rfl, hP5.mv x6, by omega, by omega, fun H7 sv x7 hsv => ?_⟩⟩
    obtain ⟨c, hc, rfl⟩ := List.mem_map.mp hsv
    have lwc := L.lw c hc
    have okc := okc_of lwc
    have rp := rp.mv (kp x7)
    have x57 := x6.trans x7
    have x27 := x25.trans x57
    -- the tail
    refine ⟨⟨_, rfl⟩, .ref l, rfl, l, ds.map sg, rfl, ?_, by rw [List.length_map]; omega, fun ys sp py sy nsp => ?_⟩
    · rw [List.map_map]
      exact .of (hL.mv x57).2
    obtain ⟨es, rfl, rs, ld, hd⟩ := srt_letters py sy L'.nd
    have x8 : BX b cl H7 (upd H7 sp (.lst ((es.map sg).map V.str))) := .new x27.bag nsp
    refine ⟨sp, rfl, ⟨_, .of upd_same⟩, fun D nD => ?_⟩
    have npD : sp ≠ D := ne_of_none upd_same nD
    have nD7 : H7 D = none := x8.back nD
    refine lc_list (xs := (es.map sg).map V.str) (fun j G => BX b cl H7 G ∧ G sp = some (.lst ((es.map sg).map V.str)) ∧ ∃ zs : List Nat, zs.Sublist (es.take j) ∧ G D = some (.lst (lets zs)))
      ⟨x8.mut x27.bag nD7, (upd_ne npD).trans upd_same, [], List.nil_sublist _, upd_same⟩ (fun j G _ h => .of h.2.1) (fun j x G hx h => ?_) (fun G h => ?_)
    · obtain ⟨xG, ep, zs, hz, eD⟩ := h
      obtain ⟨d, hdd, rfl⟩ : ∃ d, es[j]? = some d ∧ x = V.str (sg d) := by
        rw [List.map_map, List.getElem?_map] at hx
        cases e : es[j]? with
        | none => rw [e] at hx; cases hx
        | some d => rw [e] at hx; exact ⟨d, rfl, (Option.some.inj hx).symm⟩
      have lzs : zs.length ≤ 60 := by
        have := hz.length_le
        rw [List.length_take] at this
        omega
      refine ⟨rfl, .ref b, rfl, b, cl, 2, rfl, xG.bag, by decide, by decide, fun G2 u xu u0 u1 => ?_⟩
      have eD2 := xu.keep D _ (x27.bag.nb nD7) eD
      have ep2 := xu.keep sp _ (x27.bag.nb nsp) ep
      refine ⟨rfl, _, rfl, ite2 (fun _ => ?_) (fun _ => ⟨xG.trans xu, ep2, zs, hz.trans (by rw [List.take_add_one]; exact List.sublist_append_left _ _), eD2⟩)⟩
      refine ⟨.str (sg d), rfl, _, eD2, ?_, (xG.trans xu).mut x27.bag nD7, (upd_ne npD).trans ep2, zs ++ [d], ?_, ?_⟩
      · simp only [lets, List.length_map]
        exact small1000 (by omega)
      · rw [List.take_add_one, hdd]
        exact hz.append (List.Sublist.refl _)
      · rw [upd_same]
        simp [lets]
    obtain ⟨xG, ep, zs, hz, eD⟩ := h
    rw [List.length_map, List.length_map, List.take_length] at hz
    have lzs : zs.length ≤ 60 := by
      have := hz.length_le
      omega
    refine ⟨_, D, zs.map sg, rfl, rfl, .inl (.of ?_), ?_, ?_⟩
    · rw [eD]
      simp [lets]
    · rw [ones_sum, List.length_map]
      show zs.length + zs.length * 0 ≤ _
      omega
    rw [join_sg]
    have lwz : ∀ c ∈ zs, 97 ≤ c ∧ c < 123 := fun c hc => L'.lw c (hd c (hz.subset hc))
    have rz : zs.Pairwise (· < ·) := rs.sublist hz
    have okz : zs ≠ [] → AtOk (zs, true) := fun h => ⟨h, lwz, rz, .inl rfl, by show zs.length < 100; omega⟩
    have rp := rp.mv (kp xG)
    have x2G := x27.trans xG
    have hPG := (hP5.mv x57).mv xG
    clear hL x5 x24 x4
    -- what is made of it
    refine ⟨fun σ G2 => ∃ lm m0 m1 m2, σ = [some (.ref a), some (.ref b), some (.ref p), some (.ref l), some pv, some (.str (sg c)), some (.str (tx zs)), some (.ref lm), none, none, none, none, none, none] ∧ Same G G2 ∧ G2 lm = some (.lst [.ref m0, m1, .ref m2]) ∧
      Rp (nB b) G2 2 (.ref m0) (prD (mp (as ++ [([c], false)]))) ∧ Tk1 b G2 as c m1 ∧ Rp (nB b) G2 2 (.ref m2) (prD (mp (swol as zs))), ?_, fun σ G2 h => ?_⟩
    · refine ⟨pv, rfl, .str (sg c), rfl, _, pv, as, c, rfl, rp, oka, by omega, lwc, fun Ha v0 sa r0 => ?_⟩
      have r0 : Rp (nB b) Ha 2 v0 (prD (mp (as ++ [([c], false)]))) := r0.weak fun d h => ⟨h, h ▸ x2G.bag.old⟩
      have xa := x2G.andSame sa
      have rp := rp.mv (Same.kp sa)
      have fin : ∀ (Hb : Hp) (v1 : V), Same Ha Hb → Tk1 b Hb as c v1 → ∀ {Hc : Hp} {v2 : V}, Same Hb Hc → Rp (nB b) Hc 2 v2 (prD (mp (swol as zs))) → ∀ z, Hc z = none → ∃ lm m0 m1 m2, ([some (.ref a), some (.ref b), some (.ref p), some (.ref l), some pv, some (.str (sg c)), some (.str (tx zs)), some (.ref z), none, none, none, none, none, none] : L2.St) = [some (.ref a), some (.ref b), some (.ref p), some (.ref l), some pv, some (.str (sg c)), some (.str (tx zs)), some (.ref lm), none, none, none, none, none, none] ∧ Same G (upd Hc z (.lst [v0, v1, v2])) ∧ (upd Hc z (.lst [v0, v1, v2])) lm = some (.lst [.ref m0, m1, .ref m2]) ∧
          Rp (nB b) (upd Hc z (.lst [v0, v1, v2])) 2 (.ref m0) (prD (mp (as ++ [([c], false)]))) ∧ Tk1 b (upd Hc z (.lst [v0, v1, v2])) as c m1 ∧ Rp (nB b) (upd Hc z (.lst [v0, v1, v2])) 2 (.ref m2) (prD (mp (swol as zs))) := by
        intro Hb v1 sb t1 Hc v2 sc r2 z nz
        obtain ⟨p0, _, rfl, _⟩ := id r0.prod
        obtain ⟨p2, _, rfl, _⟩ := id r2.prod
        have sz := same_new (o := .lst [.ref p0, v1, .ref p2]) nz
        exact ⟨z, p0, v1, p2, rfl, sa.trans (sb.trans (sc.trans sz)), upd_same, r0.mv (Same.kp (sb.trans (sc.trans sz))), t1.mv (Same.kp (sc.trans sz)), r2.mv (Same.kp sz)⟩
      refine ⟨pv, rfl, .str (sg c), rfl, _, pv, as, c, rfl, rp, oka, by omega, lwc, fun Hb sb e => ?_, fun Hb v1 bs sb e r1 => ?_⟩
      · have rp := rp.mv (Same.kp sb)
        refine ⟨pv, rfl, .str (tx zs), rfl, _, pv, as, zs, rfl, rp, oka, by omega, lwz, rz, by omega, fun Hc v2 sc r2 => ⟨(by show 3 ≤ sizeLine; decide), fun z nz => ?_⟩⟩
        exact fin Hb .non sb (.inl ⟨rfl, e⟩) sc (r2.weak fun d h => ⟨h, h ▸ (xa.andSame sb).bag.old⟩) z nz
      · have rp := rp.mv (Same.kp sb)
        have r1 : Rp (nB b) Hb 2 v1 (prD (mp bs)) := r1.weak fun d h => ⟨h, h ▸ xa.bag.old⟩
        obtain ⟨p1, _, rfl, _⟩ := id r1.prod
        refine ⟨pv, rfl, .str (tx zs), rfl, _, pv, as, zs, rfl, rp, oka, by omega, lwz, rz, by omega, fun Hc v2 sc r2 => ⟨(by show 3 ≤ sizeLine; decide), fun z nz => ?_⟩⟩
        exact fin Hb (.ref p1) sb (.inr ⟨p1, bs, rfl, e, r1⟩) sc (r2.weak fun d h => ⟨h, h ▸ (xa.andSame sb).bag.old⟩) z nz
    obtain ⟨lm, m0, m1, m2, rfl, sG, em, r0, t1, r2⟩ := h
    have rp := rp.mv (Same.kp sG)
    have xm := x2G.andSame sG
    have hPm := hPG.mv (BX.same x2G.bag sG)
    have ok0 : ∀ x ∈ as ++ [([c], false)], AtOk x := okApp oka okc
    have ok2 : ∀ x ∈ swol as zs, AtOk x := by
      unfold swol
      by_cases h : zs = []
      · rw [if_pos h]
        exact oka
      · rw [if_neg h]
        exact okApp oka (okz h)
    have okm0 : ∀ x ∈ mp (as ++ [([c], false)]), AtOk x := fun x hx => ok0 x (mp_mem hx)
    have okm2 : ∀ x ∈ mp (swol as zs), AtOk x := fun x hx => ok2 x (mp_mem hx)
    have lm0 : (mp (as ++ [([c], false)])).length ≤ 100 := Nat.le_trans (mp_len _) (by simp; omega)
    have lm2 : (mp (swol as zs)).length ≤ 100 := Nat.le_trans (mp_len _) (by
      unfold swol
      by_cases h : zs = []
      · rw [if_pos h]
        omega
      · rw [if_neg h]
        simp
        omega)
    have h1 : hold as [c] = !decide (m1 = .non) := by
      rw [hold_cons]
      rcases t1 with ⟨rfl, e⟩ | ⟨p1, bs, rfl, e, _⟩
      · rw [e]
        rfl
      · rw [e]
        exact hold_nil bs
    -- taken tells None just where no word has the letter
    refine ⟨.ref lm, rfl, lm, _, 1, m1, rfl, rfl, .of em, rfl, rfl, pv, rfl, .str (tx [c]), rfl, _, pv, as, [c], rfl, rp, by omega, (by show 1 < 100000; decide), fun Ga sa => ?_⟩
    rw [h1]
    refine ⟨rfl, _, rfl, ?_⟩
    rw [show decide (V.bl (decide (m1 = .non)) = V.bl (!decide (m1 = .non))) = false from decide_eq_false fun z => by injection z with z; cases h : decide (m1 = .non) <;> rw [h] at z <;> cases z]
    refine iteF ?_
    have em := sa _ _ em
    have r0 := r0.mv (Same.kp sa)
    have t1 := t1.mv (Same.kp sa)
    have r2 := r2.mv (Same.kp sa)
    have rp := rp.mv (Same.kp sa)
    have xm := xm.andSame sa
    have hPm : At b Ga p (.lst (lets cs)) := ⟨hPm.1, sa _ _ hPm.2⟩
    -- all told are plain
    refine ⟨.ref lm, rfl, lm, rfl, ⟨_, .of em⟩, fun D nD => ?_⟩
    refine lc_list (xs := [.ref m0, m1, .ref m2]) (fun i G3 => Same Ga G3 ∧ ∃ n, n ≤ i ∧ G3 D = some (.lst ((List.replicate n true).map V.bl))) ⟨same_new nD, 0, Nat.le_refl _, upd_same⟩ (fun i G3 _ h => .of (h.1 _ _ em)) (fun i x G3 hx h => ?_) (fun G3 h => ?_)
    · obtain ⟨s3, n, hn, eD⟩ := h
      have hx3 : x = .non ∨ ∃ m bs, x = .ref m ∧ Rp (nB b) Ga 2 (.ref m) (prD (mp bs)) ∧ (∀ y ∈ mp bs, AtOk y) ∧ (mp bs).length ≤ 100 := by
        match i, hx with
        | 0, hx =>
          cases hx
          exact .inr ⟨m0, _, rfl, r0, okm0, lm0⟩
        | 1, hx =>
          cases hx
          rcases t1 with ⟨rfl, _⟩ | ⟨p1, bs, rfl, e, r1⟩
          · exact .inl rfl
          · exact .inr ⟨p1, bs, rfl, r1, fun y hy => oka y (drp_mem e y (mp_mem hy)), Nat.le_trans (mp_len _) (by have := drp_len e; omega)⟩
        | 2, hx =>
          cases hx
          exact .inr ⟨m2, _, rfl, r2, okm2, lm2⟩
        | k + 3, hx => cases hx
      have hi : i < 3 := by
        have := (List.getElem?_eq_some_iff.mp hx).1
        simpa using this
      rcases hx3 with rfl | ⟨m, bs, rfl, rm, okm, lmm⟩
      · exact ⟨rfl, .non, rfl, rfl, _, rfl, iteF ⟨s3, n, by omega, eD⟩⟩
      · obtain ⟨m', xs', e', _, hm, _⟩ := id (rm.mv (Same.kp s3)).prod
        cases e'
        refine ⟨rfl, .ref m, rfl, rfl, _, rfl, iteT ⟨.ref m, rfl, .ref m, .ty "tuple", _, _, true, rfl, .ty _, .base (.tup hm), kit_ty (by decide +kernel), _, rfl, iteT ?_⟩⟩
        refine ⟨.ref m, rfl, _, .ref m, mp bs, rfl, rm.mv (Same.kp s3), okm, by omega, fun G4 t s4 ht => ?_⟩
        obtain rfl : t = true := ht.mpr (mp_adj bs)
        refine ⟨_, s4 _ _ eD, ?_, same_mut (s3.trans s4) nD, n + 1, by omega, ?_⟩
        · rw [List.length_map, List.length_replicate]
          exact small1000 (by omega)
        · rw [upd_same, List.replicate_succ', List.map_append]
          rfl
    obtain ⟨s3, n, hn, eD⟩ := h
    refine ⟨D, _, rfl, .of eD, _, rfl, ?_⟩
    rw [show (List.replicate n true).all id = true from by rw [List.all_replicate]; simp]
    refine iteF ?_
    have em := s3 _ _ em
    have r0 := r0.mv (Same.kp s3)
    have t1 := t1.mv (Same.kp s3)
    have r2 := r2.mv (Same.kp s3)
    have rp := rp.mv (Same.kp s3)
    have xm := xm.andSame s3
    have hPm : At b G3 p (.lst (lets cs)) := ⟨hPm.1, s3 _ _ hPm.2⟩
    -- the words
    refine ⟨.ref p, rfl, (by show 2 ≤ sizeLine; decide), fun l2 nl2 => ?_⟩
    have s4 : Same G3 (upd G3 l2 (.lst [.int 4, .int 2])) := same_new nl2
    have eP4 := s4 _ _ hPm.2
    refine ⟨.ref p, rfl, p, _, rfl, .inl (.of eP4), _, _, rfl, rfl, .inr ⟨_, rfl, ?_⟩⟩
    obtain ⟨top, ht, t0, t4⟩ : ∃ top : Int, atI [V.int 4, .int 2] (if decide (3 < (((lets cs).length : Nat) : Int)) = true then 1 else 0) = some (.int top) ∧ 0 ≤ top ∧ top ≤ 4 := by
      by_cases h : decide (3 < (((lets cs).length : Nat) : Int)) = true
      · rw [if_pos h]
        exact ⟨2, rfl, by decide, by decide⟩
      · rw [if_neg h]
        exact ⟨4, rfl, by decide, by decide⟩
    refine ⟨l2, _, _, .int top, rfl, rfl, .of upd_same, ht, p, cs, top, rfl, eP4, lcs', t0, t4, fun G5 wz ws s5 nw ew lw wok => ?_⟩
    have nwb : wz ≠ b := (xm.andSame s4).bag.nb nw
    have s35 := s4.trans s5
    have em := s35 _ _ em
    have r0 := r0.mv (Same.kp s35)
    have t1 := t1.mv (Same.kp s35)
    have r2 := r2.mv (Same.kp s35)
    have rp := rp.mv (Same.kp s35)
    have xm := xm.andSame s35
    have hPm : At b G5 p (.lst (lets cs)) := ⟨hPm.1, s35 _ _ hPm.2⟩
    have nlm : lm ≠ b := fun z => by
      obtain ⟨_, ns, i, r, sd, cc, e, _⟩ := xm.bag
      rw [← z, em] at e
      have e2 := Option.some.inj e
      unfold bagL at e2
      injection e2 with e3
      simp at e3
    refine ⟨.ref wz, rfl, 25, rfl, by decide, by decide, fun D2 nD2 => ?_⟩
    refine lc_range (lo := 0) (n := 25) (fun i G6 => BX b cl G5 G6 ∧ ∃ us : List (List Nat), us.length = i ∧ WOk cs 8 us ∧ G6 D2 = some (.lst (WL us))) ⟨.new xm.bag nD2, [], rfl, ⟨fun _ h => nomatch h⟩, upd_same⟩ (fun i G6 hi h => ?_) (fun G6 h => ?_)
    · obtain ⟨x6, us, lu, wu, eD2⟩ := h
      refine ⟨rfl, .ref b, rfl, .ref p, rfl, b, cl, p, cs, 8, rfl, x6.bag, hPm.mv x6, lcs, by omega, by decide, by decide, fun G7 u x7 lu' hu => ?_⟩
      have eD3 := x7.keep D2 _ (xm.bag.nb nD2) eD2
      refine ⟨_, eD3, ?_, (x6.trans x7).mut xm.bag nD2, us ++ [u], by simp [lu], wu.app ⟨fun w hw => by rw [List.mem_singleton.mp hw]; exact ⟨by omega, hu⟩⟩, ?_⟩
      · unfold WL
        rw [List.length_map]
        exact small1000 (by omega)
      · rw [upd_same]
        simp [WL]
    obtain ⟨x6, us, lu, wu, eD2⟩ := h
    refine ⟨wz, D2, _, _, rfl, rfl, x6.keep _ _ nwb ew, eD2, ?_, fun z nz => ?_⟩
    · unfold WL
      rw [List.length_map, List.length_map, sizeLine_eq]
      omega
    have x7 := x6.trans (.new (o := .lst (WL ws ++ WL us)) x6.bag nz)
    have em := x7.keep _ _ nlm em
    have r0 := r0.mv (kp x7)
    have t1 := t1.mv (kp x7)
    have r2 := r2.mv (kp x7)
    have rp := rp.mv (kp x7)
    have wall : WOk cs 8 (ws ++ us) := (wok.up (by decide)).app wu
    have ez : (upd G6 z (.lst (WL ws ++ WL us))) z = some (.lst (WL (ws ++ us))) := by
      rw [upd_same]
      simp [WL]
    generalize upd G6 z (.lst (WL ws ++ WL us)) = G8 at em r0 t1 r2 rp ez x7
    generalize ws ++ us = all at wall ez
    refine ⟨z, rfl, ⟨_, .of ez⟩, for_list (xs := WL all) (fun i σ G9 => ∃ y9 y10, σ = [some (.ref a), some (.ref b), some (.ref p), some (.ref l), some pv, some (.str (sg c)), some (.str (tx zs)), some (.ref lm), some (.ref wz), y9, y10, none, none, none] ∧ Same G8 G9) ⟨none, none, rfl, .refl _⟩ (fun i σ G9 _ h => ?_) (fun i x σ G9 hx h => ?_) (fun σ G9 h => ?_)⟩
    · obtain ⟨_, _, _, s9⟩ := h
      exact .of (s9 _ _ ez)
    · obtain ⟨y9, y10, rfl, s9⟩ := h
      obtain ⟨u, hu, rfl⟩ := wl_get hx
      obtain ⟨lu8, hcu⟩ := wall.ok u (mem_of_get hu)
      have lwu : ∀ d ∈ u, 97 ≤ d ∧ d < 123 := fun d hd => L.lw d (hcu d hd)
      have zl : (tx u).length ≤ sizeLine := by rw [tx_len]; exact Nat.le_of_lt (small1000 (by omega))
      have em := s9 _ _ em
      have r0 := r0.mv (Same.kp s9)
      have t1 := t1.mv (Same.kp s9)
      have r2 := r2.mv (Same.kp s9)
      have rp := rp.mv (Same.kp s9)
      -- sent
      refine ⟨pv, rfl, .str (tx u), rfl, _, pv, as, u, rfl, rp, by omega, by omega, fun Ga sa => ?_⟩
      refine ⟨fun σ G => σ = [some (.ref a), some (.ref b), some (.ref p), some (.ref l), some pv, some (.str (sg c)), some (.str (tx zs)), some (.ref lm), some (.ref wz), some (.str (tx u)), some (.bl (dueS as c u)), none, none, none] ∧ Same Ga G, ?_, fun σ Gb h => ?_⟩
      · refine ⟨.str (tx u), rfl, 1, rfl, _, rfl, noPart ⟨tx u, rfl, zl, .str (sg c), rfl, rfl, _, rfl, ?_⟩⟩
        rw [cutS_back, back_iff]
        have dS : dueS as c u = if u.getLast? = some c then hold as u || hold as u.dropLast else hold as u := rfl
        by_cases hg : u.getLast? = some c
        · rw [decide_eq_true hg]
          refine iteT ⟨.bl (hold as u), rfl, _, rfl, ?_⟩
          rw [if_pos hg] at dS
          cases hh : hold as u with
          | true =>
            rw [hh, Bool.true_or] at dS
            exact iteT ⟨by rw [dS]; rfl, .refl _⟩
          | false =>
            rw [hh, Bool.false_or] at dS
            refine iteF ⟨pv, rfl, .str (tx u), rfl, 1, rfl, _, rfl, tx u, rfl, zl, ?_⟩
            rw [cutS_init]
            refine ⟨_, pv, as, u.dropLast, rfl, rp.mv (Same.kp sa), by omega, by rw [List.length_dropLast]; omega, fun Gb sb => ⟨by rw [dS]; rfl, sb⟩⟩
        · rw [decide_eq_false hg]
          rw [if_neg hg] at dS
          exact iteF ⟨by rw [dS]; rfl, .refl _⟩
      obtain ⟨rfl, sb⟩ := h
      have sab := sa.trans sb
      have em := sab _ _ em
      have r0 := r0.mv (Same.kp sab)
      have t1 := t1.mv (Same.kp sab)
      have r2 := r2.mv (Same.kp sab)
      have rp := rp.mv (Same.kp sab)
      have e0 : hold (mp (as ++ [([c], false)])) u = dueS as c u := (hold_mp ok0 u).trans (hold_sent oka okc u)
      have self : ∀ x : Bool, decide (V.bl x = V.bl x) = true := fun x => decide_eq_true rfl
      refine ⟨.ref lm, rfl, lm, _, 0, .ref m0, rfl, rfl, .of em, rfl, .str (tx u), rfl, _, .ref m0, _, u, rfl, r0, by omega, by omega, fun Gc sc => ?_⟩
      rw [e0]
      refine ⟨.bl (dueS as c u), rfl, rfl, _, rfl, ?_⟩
      rw [self]
      refine iteF ⟨.ref lm, rfl, lm, _, 0, .ref m0, rfl, rfl, .of (sc _ _ em), rfl, .str (tx u), rfl, _, .ref m0, _, u, rfl, r0.mv (Same.kp sc), okm0, by omega, lwu, by omega, fun Gd sd => ?_⟩
      rw [e0]
      refine ⟨.bl (dueS as c u), rfl, rfl, _, rfl, ?_⟩
      rw [self]
      refine iteF ?_
      have scd := sc.trans sd
      have em := scd _ _ em
      have t1 := t1.mv (Same.kp scd)
      have r2 := r2.mv (Same.kp scd)
      have rp := rp.mv (Same.kp scd)
      -- taken
      refine ⟨pv, rfl, .str (sg c), rfl, .str (tx u), rfl, _, _, rfl, rfl, ?_, ?_⟩
      · rw [show (sg c).length = 1 from rfl, tx_len, sizeLine_eq]
        omega
      rw [show sg c ++ tx u = tx (c :: u) from tx_app [c] u]
      refine ⟨_, pv, as, c :: u, rfl, rp, by omega, by rw [List.length_cons]; omega, fun Ge se => ?_⟩
      have em := se _ _ em
      have t1 := t1.mv (Same.kp se)
      have r2 := r2.mv (Same.kp se)
      have rp := rp.mv (Same.kp se)
      refine ⟨fun σ G => σ = [some (.ref a), some (.ref b), some (.ref p), some (.ref l), some pv, some (.str (sg c)), some (.str (tx zs)), some (.ref lm), some (.ref wz), some (.str (tx u)), some (.bl (hold as (c :: u))), none, none, none] ∧ Same Ge G, ?_, fun σ Gf h => ?_⟩
      · refine ⟨.ref lm, rfl, lm, _, 1, m1, rfl, rfl, .of em, rfl, rfl, _, rfl, ?_⟩
        rcases t1 with ⟨rfl, _⟩ | ⟨p1, bs, rfl, e, r1⟩
        · exact iteF (iteF ⟨rfl, .refl _⟩)
        · have hb : hold as (c :: u) = hold (mp bs) u := by
            rw [hold_cons, e, hold_mp fun x hx => oka x (drp_mem e x hx)]
          have lb := drp_len e
          have lb2 := mp_len bs
          refine iteT ⟨.ref lm, rfl, lm, _, 1, .ref p1, rfl, rfl, .of em, rfl, .str (tx u), rfl, _, .ref p1, mp bs, u, rfl, r1, by omega, by omega, fun Gf sf => ?_⟩
          rw [hb]
          refine ⟨.bl (hold (mp bs) u), rfl, rfl, _, rfl, ?_⟩
          rw [self]
          exact iteF ⟨rfl, sf⟩
      obtain ⟨rfl, sf⟩ := h
      have em := sf _ _ em
      have r2 := r2.mv (Same.kp sf)
      have rp := rp.mv (Same.kp sf)
      -- swollen
      refine ⟨.ref lm, rfl, lm, _, 2, .ref m2, rfl, rfl, .of em, rfl, .str (tx u), rfl, _, .ref m2, _, u, rfl, r2, by omega, by omega, fun Gh sh => ?_⟩
      rw [hold_mp ok2 u]
      refine ⟨pv, rfl, .str (tx u), rfl, .str (tx zs), rfl, _, pv, as, u, zs, rfl, rp.mv (Same.kp sh), by omega, by omega, fun Gi t si ht => ?_⟩
      have et : t = hold (swol as zs) u := Bool.eq_iff_iff.mpr (ht.trans (hold_swol oka okz u).symm)
      rw [et]
      refine ⟨rfl, _, rfl, ?_⟩
      rw [self]
      exact iteF ⟨_, _, rfl, s9.trans (sab.trans (scd.trans (se.trans (sf.trans (sh.trans si)))))⟩
    · obtain ⟨y9, y10, rfl, s9⟩ := h
      refine ⟨Nat.zero_le _, fun z3 nz3 => ?_⟩
      refine ⟨fun _ => False, .ref z3, [], [], rfl, rp_tup (fun h => h) upd_same (by decide) .nil, (fun _ h => nomatch h), by decide, (fun _ h => nomatch h), .nil, by decide, fun Ha va sa ra => ?_⟩
      refine ⟨Nat.zero_le _, fun z4 nz4 => ⟨va, .ref z4, rfl, rp_sam (ra.mv (Same.kp (same_new nz4))) (rp_tup (av := fun _ => False) (ds := []) (fun h => h) upd_same (by decide) .nil), fun H5 s5 => q _⟩⟩

end
set_option maxHeartbeats 0 in
theorem all_mk {l : PySem.W.OpenLaw} {w : World} {K : PySem.W.Frag} {h : Heap} {mg : Str → Option Value} {fa : Addr} (X : K.In h) (G : h.Ns mainGlobals mg) (hfa : mg "law" = some (.ref fa))
    {f0 : Addr} {od0 an0 : Option Addr} {sl0 : Array (Option Value)} {oc0 kV0 dc0 pm0 cd0 ct0 : Value}
    {f1 : Addr} {od1 an1 : Option Addr} {sl1 : Array (Option Value)} {oc1 kV1 dc1 pm1 cd1 ct1 : Value}
    {f2 : Addr} {od2 an2 : Option Addr} {sl2 : Array (Option Value)} {oc2 kV2 dc2 pm2 cd2 ct2 : Value}
    {f3 : Addr} {od3 an3 : Option Addr} {sl3 : Array (Option Value)} {oc3 kV3 dc3 pm3 cd3 ct3 : Value}
    {f4 : Addr} {od4 an4 : Option Addr} {sl4 : Array (Option Value)} {oc4 kV4 dc4 pm4 cd4 ct4 : Value}
    {f5 : Addr} {od5 an5 : Option Addr} {sl5 : Array (Option Value)} {oc5 kV5 dc5 pm5 cd5 ct5 : Value}
    {f6 : Addr} {od6 an6 : Option Addr} {sl6 : Array (Option Value)} {oc6 kV6 dc6 pm6 cd6 ct6 : Value}
    {f7 : Addr} {od7 an7 : Option Addr} {sl7 : Array (Option Value)} {oc7 kV7 dc7 pm7 cd7 ct7 : Value}
    {f8 : Addr} {od8 an8 : Option Addr} {sl8 : Array (Option Value)} {oc8 kV8 dc8 pm8 cd8 ct8 : Value}
    {f9 : Addr} {od9 an9 : Option Addr} {sl9 : Array (Option Value)} {oc9 kV9 dc9 pm9 cd9 ct9 : Value}
    {f10 : Addr} {od10 an10 : Option Addr} {sl10 : Array (Option Value)} {oc10 kV10 dc10 pm10 cd10 ct10 : Value}
    {f11 : Addr} {od11 an11 : Option Addr} {sl11 : Array (Option Value)} {oc11 kV11 dc11 pm11 cd11 ct11 : Value}
    {f12 : Addr} {od12 an12 : Option Addr} {sl12 : Array (Option Value)} {oc12 kV12 dc12 pm12 cd12 ct12 : Value}
    {f13 : Addr} {od13 an13 : Option Addr} {sl13 : Array (Option Value)} {oc13 kV13 dc13 pm13 cd13 ct13 : Value}
    {f14 : Addr} {od14 an14 : Option Addr} {sl14 : Array (Option Value)} {oc14 kV14 dc14 pm14 cd14 ct14 : Value}
    {f15 : Addr} {od15 an15 : Option Addr} {sl15 : Array (Option Value)} {oc15 kV15 dc15 pm15 cd15 ct15 : Value}
    {f16 : Addr} {od16 an16 : Option Addr} {sl16 : Array (Option Value)} {oc16 kV16 dc16 pm16 cd16 ct16 : Value}
    {f17 : Addr} {od17 an17 : Option Addr} {sl17 : Array (Option Value)} {oc17 kV17 dc17 pm17 cd17 ct17 : Value}
    {f18 : Addr} {od18 an18 : Option Addr} {sl18 : Array (Option Value)} {oc18 kV18 dc18 pm18 cd18 ct18 : Value}
    {f19 : Addr} {od19 an19 : Option Addr} {sl19 : Array (Option Value)} {oc19 kV19 dc19 pm19 cd19 ct19 : Value}
    {f20 : Addr} {od20 an20 : Option Addr} {sl20 : Array (Option Value)} {oc20 kV20 dc20 pm20 cd20 ct20 : Value}
    {f21 : Addr} {od21 an21 : Option Addr} {sl21 : Array (Option Value)} {oc21 kV21 dc21 pm21 cd21 ct21 : Value}
    {f22 : Addr} {od22 an22 : Option Addr} {sl22 : Array (Option Value)} {oc22 kV22 dc22 pm22 cd22 ct22 : Value}
    {f23 : Addr} {od23 an23 : Option Addr} {sl23 : Array (Option Value)} {oc23 kV23 dc23 pm23 cd23 ct23 : Value}
    {f24 : Addr} {od24 an24 : Option Addr} {sl24 : Array (Option Value)} {oc24 kV24 dc24 pm24 cd24 ct24 : Value}
    {f25 : Addr} {od25 an25 : Option Addr} {sl25 : Array (Option Value)} {oc25 kV25 dc25 pm25 cd25 ct25 : Value}
    {f26 : Addr} {od26 an26 : Option Addr} {sl26 : Array (Option Value)} {oc26 kV26 dc26 pm26 cd26 ct26 : Value}
    {f27 : Addr} {od27 an27 : Option Addr} {sl27 : Array (Option Value)} {oc27 kV27 dc27 pm27 cd27 ct27 : Value}
    {f28 : Addr} {od28 an28 : Option Addr} {sl28 : Array (Option Value)} {oc28 kV28 dc28 pm28 cd28 ct28 : Value}
    {f29 : Addr} {od29 an29 : Option Addr} {sl29 : Array (Option Value)} {oc29 kV29 dc29 pm29 cd29 ct29 : Value}
    (a0 : PySem.W.nsIn K mainGlobals "is_word" = some (some (.ref f0)))
    (l0 : K.lookup f0 = some ⟨oc0, od0, .func (PySem.W.fnOf "is_word" "is_word" (defArgs s_p_is_word) (defBody s_p_is_word) (defScope s_p_is_word) .none kV0 dc0 pm0 an0 cd0 ct0), sl0⟩)
    (c0 : PySem.W.codeIn K cd0 "is_word" = true)
    (k0 : PySem.W.keepIn K (.ref f0) = true)
    (a1 : PySem.W.nsIn K mainGlobals "is_letter" = some (some (.ref f1)))
    (l1 : K.lookup f1 = some ⟨oc1, od1, .func (PySem.W.fnOf "is_letter" "is_letter" (defArgs s_p_is_letter) (defBody s_p_is_letter) (defScope s_p_is_letter) .none kV1 dc1 pm1 an1 cd1 ct1), sl1⟩)
    (c1 : PySem.W.codeIn K cd1 "is_letter" = true)
    (k1 : PySem.W.keepIn K (.ref f1) = true)
    (a2 : PySem.W.nsIn K mainGlobals "is_rising" = some (some (.ref f2)))
    (l2 : K.lookup f2 = some ⟨oc2, od2, .func (PySem.W.fnOf "is_rising" "is_rising" (defArgs s_p_is_rising) (defBody s_p_is_rising) (defScope s_p_is_rising) .none kV2 dc2 pm2 an2 cd2 ct2), sl2⟩)
    (c2 : PySem.W.codeIn K cd2 "is_rising" = true)
    (k2 : PySem.W.keepIn K (.ref f2) = true)
    (a3 : PySem.W.nsIn K mainGlobals "is_atom" = some (some (.ref f3)))
    (l3 : K.lookup f3 = some ⟨oc3, od3, .func (PySem.W.fnOf "is_atom" "is_atom" (defArgs s_p_is_atom) (defBody s_p_is_atom) (defScope s_p_is_atom) .none kV3 dc3 pm3 an3 cd3 ct3), sl3⟩)
    (c3 : PySem.W.codeIn K cd3 "is_atom" = true)
    (k3 : PySem.W.keepIn K (.ref f3) = true)
    (a4 : PySem.W.nsIn K mainGlobals "is_product" = some (some (.ref f4)))
    (l4 : K.lookup f4 = some ⟨oc4, od4, .func (PySem.W.fnOf "is_product" "is_product" (defArgs s_p_is_product) (defBody s_p_is_product) (defScope s_p_is_product) .none kV4 dc4 pm4 an4 cd4 ct4), sl4⟩)
    (c4 : PySem.W.codeIn K cd4 "is_product" = true)
    (k4 : PySem.W.keepIn K (.ref f4) = true)
    (a5 : PySem.W.nsIn K mainGlobals "check_product" = some (some (.ref f5)))
    (l5 : K.lookup f5 = some ⟨oc5, od5, .func (PySem.W.fnOf "check_product" "check_product" (defArgs s_p_check_product) (defBody s_p_check_product) (defScope s_p_check_product) .none kV5 dc5 pm5 an5 cd5 ct5), sl5⟩)
    (c5 : PySem.W.codeIn K cd5 "check_product" = true)
    (k5 : PySem.W.keepIn K (.ref f5) = true)
    (a6 : PySem.W.nsIn K mainGlobals "check_letter" = some (some (.ref f6)))
    (l6 : K.lookup f6 = some ⟨oc6, od6, .func (PySem.W.fnOf "check_letter" "check_letter" (defArgs s_p_check_letter) (defBody s_p_check_letter) (defScope s_p_check_letter) .none kV6 dc6 pm6 an6 cd6 ct6), sl6⟩)
    (c6 : PySem.W.codeIn K cd6 "check_letter" = true)
    (k6 : PySem.W.keepIn K (.ref f6) = true)
    (a7 : PySem.W.nsIn K mainGlobals "takes_in" = some (some (.ref f7)))
    (l7 : K.lookup f7 = some ⟨oc7, od7, .func (PySem.W.fnOf "takes_in" "takes_in" (defArgs s_p_takes_in) (defBody s_p_takes_in) (defScope s_p_takes_in) .none kV7 dc7 pm7 an7 cd7 ct7), sl7⟩)
    (c7 : PySem.W.codeIn K cd7 "takes_in" = true)
    (k7 : PySem.W.keepIn K (.ref f7) = true)
    (a8 : PySem.W.nsIn K mainGlobals "has_word" = some (some (.ref f8)))
    (l8 : K.lookup f8 = some ⟨oc8, od8, .func (PySem.W.fnOf "has_word" "has_word" (defArgs s_p_has_word) (defBody s_p_has_word) (defScope s_p_has_word) .none kV8 dc8 pm8 an8 cd8 ct8), sl8⟩)
    (c8 : PySem.W.codeIn K cd8 "has_word" = true)
    (k8 : PySem.W.keepIn K (.ref f8) = true)
    (a9 : PySem.W.nsIn K mainGlobals "holds" = some (some (.ref f9)))
    (l9 : K.lookup f9 = some ⟨oc9, od9, .func (PySem.W.fnOf "holds" "holds" (defArgs s_p_holds) (defBody s_p_holds) (defScope s_p_holds) .none kV9 dc9 pm9 an9 cd9 ct9), sl9⟩)
    (c9 : PySem.W.codeIn K cd9 "holds" = true)
    (k9 : PySem.W.keepIn K (.ref f9) = true)
    (a10 : PySem.W.nsIn K mainGlobals "made_plain" = some (some (.ref f10)))
    (l10 : K.lookup f10 = some ⟨oc10, od10, .func (PySem.W.fnOf "made_plain" "made_plain" (defArgs s_p_made_plain) (defBody s_p_made_plain) (defScope s_p_made_plain) .none kV10 dc10 pm10 an10 cd10 ct10), sl10⟩)
    (c10 : PySem.W.codeIn K cd10 "made_plain" = true)
    (k10 : PySem.W.keepIn K (.ref f10) = true)
    (a11 : PySem.W.nsIn K mainGlobals "with_letter" = some (some (.ref f11)))
    (l11 : K.lookup f11 = some ⟨oc11, od11, .func (PySem.W.fnOf "with_letter" "with_letter" (defArgs s_p_with_letter) (defBody s_p_with_letter) (defScope s_p_with_letter) .none kV11 dc11 pm11 an11 cd11 ct11), sl11⟩)
    (c11 : PySem.W.codeIn K cd11 "with_letter" = true)
    (k11 : PySem.W.keepIn K (.ref f11) = true)
    (a12 : PySem.W.nsIn K mainGlobals "sent" = some (some (.ref f12)))
    (l12 : K.lookup f12 = some ⟨oc12, od12, .func (PySem.W.fnOf "sent" "sent" (defArgs s_p_sent) (defBody s_p_sent) (defScope s_p_sent) .none kV12 dc12 pm12 an12 cd12 ct12), sl12⟩)
    (c12 : PySem.W.codeIn K cd12 "sent" = true)
    (k12 : PySem.W.keepIn K (.ref f12) = true)
    (a13 : PySem.W.nsIn K mainGlobals "left_behind" = some (some (.ref f13)))
    (l13 : K.lookup f13 = some ⟨oc13, od13, .func (PySem.W.fnOf "left_behind" "left_behind" (defArgs s_p_left_behind) (defBody s_p_left_behind) (defScope s_p_left_behind) .none kV13 dc13 pm13 an13 cd13 ct13), sl13⟩)
    (c13 : PySem.W.codeIn K cd13 "left_behind" = true)
    (k13 : PySem.W.keepIn K (.ref f13) = true)
    (a14 : PySem.W.nsIn K mainGlobals "taken" = some (some (.ref f14)))
    (l14 : K.lookup f14 = some ⟨oc14, od14, .func (PySem.W.fnOf "taken" "taken" (defArgs s_p_taken) (defBody s_p_taken) (defScope s_p_taken) .none kV14 dc14 pm14 an14 cd14 ct14), sl14⟩)
    (c14 : PySem.W.codeIn K cd14 "taken" = true)
    (k14 : PySem.W.keepIn K (.ref f14) = true)
    (a15 : PySem.W.nsIn K mainGlobals "with_any" = some (some (.ref f15)))
    (l15 : K.lookup f15 = some ⟨oc15, od15, .func (PySem.W.fnOf "with_any" "with_any" (defArgs s_p_with_any) (defBody s_p_with_any) (defScope s_p_with_any) .none kV15 dc15 pm15 an15 cd15 ct15), sl15⟩)
    (c15 : PySem.W.codeIn K cd15 "with_any" = true)
    (k15 : PySem.W.keepIn K (.ref f15) = true)
    (a16 : PySem.W.nsIn K mainGlobals "swollen" = some (some (.ref f16)))
    (l16 : K.lookup f16 = some ⟨oc16, od16, .func (PySem.W.fnOf "swollen" "swollen" (defArgs s_p_swollen) (defBody s_p_swollen) (defScope s_p_swollen) .none kV16 dc16 pm16 an16 cd16 ct16), sl16⟩)
    (c16 : PySem.W.codeIn K cd16 "swollen" = true)
    (k16 : PySem.W.keepIn K (.ref f16) = true)
    (a17 : PySem.W.nsIn K mainGlobals "_law_bag" = some (some (.ref f17)))
    (l17 : K.lookup f17 = some ⟨oc17, od17, .func (PySem.W.fnOf "_law_bag" "_law_bag" (defArgs s_bag) (defBody s_bag) (defScope s_bag) .none kV17 dc17 pm17 an17 cd17 ct17), sl17⟩)
    (c17 : PySem.W.codeIn K cd17 "_law_bag" = true)
    (k17 : PySem.W.keepIn K (.ref f17) = true)
    (a18 : PySem.W.nsIn K mainGlobals "_law_pull" = some (some (.ref f18)))
    (l18 : K.lookup f18 = some ⟨oc18, od18, .func (PySem.W.fnOf "_law_pull" "_law_pull" (defArgs s_pull) (defBody s_pull) (defScope s_pull) .none kV18 dc18 pm18 an18 cd18 ct18), sl18⟩)
    (c18 : PySem.W.codeIn K cd18 "_law_pull" = true)
    (k18 : PySem.W.keepIn K (.ref f18) = true)
    (a19 : PySem.W.nsIn K mainGlobals "_law_of" = some (some (.ref f19)))
    (l19 : K.lookup f19 = some ⟨oc19, od19, .func (PySem.W.fnOf "_law_of" "_law_of" (defArgs s_of) (defBody s_of) (defScope s_of) .none kV19 dc19 pm19 an19 cd19 ct19), sl19⟩)
    (c19 : PySem.W.codeIn K cd19 "_law_of" = true)
    (k19 : PySem.W.keepIn K (.ref f19) = true)
    (a20 : PySem.W.nsIn K mainGlobals "_law_same" = some (some (.ref f20)))
    (l20 : K.lookup f20 = some ⟨oc20, od20, .func (PySem.W.fnOf "_law_same" "_law_same" (defArgs s_same) (defBody s_same) (defScope s_same) .none kV20 dc20 pm20 an20 cd20 ct20), sl20⟩)
    (c20 : PySem.W.codeIn K cd20 "_law_same" = true)
    (k20 : PySem.W.keepIn K (.ref f20) = true)
    (a21 : PySem.W.nsIn K mainGlobals "_law_letters" = some (some (.ref f21)))
    (l21 : K.lookup f21 = some ⟨oc21, od21, .func (PySem.W.fnOf "_law_letters" "_law_letters" (defArgs s_letters) (defBody s_letters) (defScope s_letters) .none kV21 dc21 pm21 an21 cd21 ct21), sl21⟩)
    (c21 : PySem.W.codeIn K cd21 "_law_letters" = true)
    (k21 : PySem.W.keepIn K (.ref f21) = true)
    (a22 : PySem.W.nsIn K mainGlobals "_law_word" = some (some (.ref f22)))
    (l22 : K.lookup f22 = some ⟨oc22, od22, .func (PySem.W.fnOf "_law_word" "_law_word" (defArgs s_word) (defBody s_word) (defScope s_word) .none kV22 dc22 pm22 an22 cd22 ct22), sl22⟩)
    (c22 : PySem.W.codeIn K cd22 "_law_word" = true)
    (k22 : PySem.W.keepIn K (.ref f22) = true)
    (a23 : PySem.W.nsIn K mainGlobals "_law_product" = some (some (.ref f23)))
    (l23 : K.lookup f23 = some ⟨oc23, od23, .func (PySem.W.fnOf "_law_product" "_law_product" (defArgs s_product) (defBody s_product) (defScope s_product) .none kV23 dc23 pm23 an23 cd23 ct23), sl23⟩)
    (c23 : PySem.W.codeIn K cd23 "_law_product" = true)
    (k23 : PySem.W.keepIn K (.ref f23) = true)
    (a24 : PySem.W.nsIn K mainGlobals "_law_words_to" = some (some (.ref f24)))
    (l24 : K.lookup f24 = some ⟨oc24, od24, .func (PySem.W.fnOf "_law_words_to" "_law_words_to" (defArgs s_words_to) (defBody s_words_to) (defScope s_words_to) .none kV24 dc24 pm24 an24 cd24 ct24), sl24⟩)
    (c24 : PySem.W.codeIn K cd24 "_law_words_to" = true)
    (k24 : PySem.W.keepIn K (.ref f24) = true)
    (a25 : PySem.W.nsIn K mainGlobals "_law_holds" = some (some (.ref f25)))
    (l25 : K.lookup f25 = some ⟨oc25, od25, .func (PySem.W.fnOf "_law_holds" "_law_holds" (defArgs s_holds) (defBody s_holds) (defScope s_holds) .none kV25 dc25 pm25 an25 cd25 ct25), sl25⟩)
    (c25 : PySem.W.codeIn K cd25 "_law_holds" = true)
    (k25 : PySem.W.keepIn K (.ref f25) = true)
    (a26 : PySem.W.nsIn K mainGlobals "_law_six" = some (some (.ref f26)))
    (l26 : K.lookup f26 = some ⟨oc26, od26, .func (PySem.W.fnOf "_law_six" "_law_six" (defArgs s_six) (defBody s_six) (defScope s_six) .none kV26 dc26 pm26 an26 cd26 ct26), sl26⟩)
    (c26 : PySem.W.codeIn K cd26 "_law_six" = true)
    (k26 : PySem.W.keepIn K (.ref f26) = true)
    (a27 : PySem.W.nsIn K mainGlobals "_law_plain_look" = some (some (.ref f27)))
    (l27 : K.lookup f27 = some ⟨oc27, od27, .func (PySem.W.fnOf "_law_plain_look" "_law_plain_look" (defArgs s_plain_look) (defBody s_plain_look) (defScope s_plain_look) .none kV27 dc27 pm27 an27 cd27 ct27), sl27⟩)
    (c27 : PySem.W.codeIn K cd27 "_law_plain_look" = true)
    (k27 : PySem.W.keepIn K (.ref f27) = true)
    (a28 : PySem.W.nsIn K mainGlobals "_law_tail_in" = some (some (.ref f28)))
    (l28 : K.lookup f28 = some ⟨oc28, od28, .func (PySem.W.fnOf "_law_tail_in" "_law_tail_in" (defArgs s_tail_in) (defBody s_tail_in) (defScope s_tail_in) .none kV28 dc28 pm28 an28 cd28 ct28), sl28⟩)
    (c28 : PySem.W.codeIn K cd28 "_law_tail_in" = true)
    (k28 : PySem.W.keepIn K (.ref f28) = true)
    (a29 : PySem.W.nsIn K mainGlobals "law" = some (some (.ref f29)))
    (l29 : K.lookup f29 = some ⟨oc29, od29, .func (PySem.W.fnOf "law" "law" (defArgs s_law) (defBody s_law) (defScope s_law) .none kV29 dc29 pm29 an29 cd29 ct29), sl29⟩)
    (c29 : PySem.W.codeIn K cd29 "law" = true)
    (k29 : PySem.W.keepIn K (.ref f29) = true)
    (z0 : PySem.W.nsIn K mainGlobals "all" = some none)
    (z1 : PySem.W.nsIn K mainGlobals "bool" = some none)
    (z2 : PySem.W.nsIn K mainGlobals "enumerate" = some none)
    (z3 : PySem.W.nsIn K mainGlobals "int" = some none)
    (z4 : PySem.W.nsIn K mainGlobals "isinstance" = some none)
    (z5 : PySem.W.nsIn K mainGlobals "len" = some none)
    (z6 : PySem.W.nsIn K mainGlobals "list" = some none)
    (z7 : PySem.W.nsIn K mainGlobals "min" = some none)
    (z8 : PySem.W.nsIn K mainGlobals "range" = some none)
    (z9 : PySem.W.nsIn K mainGlobals "sorted" = some none)
    (z10 : PySem.W.nsIn K mainGlobals "str" = some none)
    (z11 : PySem.W.nsIn K mainGlobals "tuple" = some none)
    (z12 : PySem.W.nsIn K mainGlobals "zip" = some none)
    {u0 : Value}
    (d0 : PySem.W.nsIn K mainGlobals "LETTERS" = some (some u0))
    (e0 : RelV (V.str (PySem.Str.ofString "abcdefghijklmnopqrstuvwxyz")) u0)
    : ∃ fd : FuncData, (∀ (s : Shared) (v : Value), BindsTo s fd ⟨[v], []⟩ [("_law_script", v)]) ∧ ∀ base : Heap, K.In base → base.Ns mainGlobals mg → FnOk l.prog w K mg base CX0 7 fa fd ["_law_script"] (sp_law K) := by
  have e := hfa.symm.trans (PySem.W.mg_of X G a29)
  cases e
  have F0 := fun_mk (st := s_p_is_word) l0 c0 k0
  have b0 := F0.binds (ps := P_p_is_word) fun _ _ _ _ _ _ us hl => match us, hl with | [_], _ => rfl
  have F1 := fun_mk (st := s_p_is_letter) l1 c1 k1
  have b1 := F1.binds (ps := P_p_is_letter) fun _ _ _ _ _ _ us hl => match us, hl with | [_], _ => rfl
  have F2 := fun_mk (st := s_p_is_rising) l2 c2 k2
  have b2 := F2.binds (ps := P_p_is_rising) fun _ _ _ _ _ _ us hl => match us, hl with | [_], _ => rfl
  have F3 := fun_mk (st := s_p_is_atom) l3 c3 k3
  have b3 := F3.binds (ps := P_p_is_atom) fun _ _ _ _ _ _ us hl => match us, hl with | [_, _], _ => rfl
  have F4 := fun_mk (st := s_p_is_product) l4 c4 k4
  have b4 := F4.binds (ps := P_p_is_product) fun _ _ _ _ _ _ us hl => match us, hl with | [_], _ => rfl
  have F5 := fun_mk (st := s_p_check_product) l5 c5 k5
  have b5 := F5.binds (ps := P_p_check_product) fun _ _ _ _ _ _ us hl => match us, hl with | [_], _ => rfl
  have F6 := fun_mk (st := s_p_check_letter) l6 c6 k6
  have b6 := F6.binds (ps := P_p_check_letter) fun _ _ _ _ _ _ us hl => match us, hl with | [_], _ => rfl
  have F7 := fun_mk (st := s_p_takes_in) l7 c7 k7
  have b7 := F7.binds (ps := P_p_takes_in) fun _ _ _ _ _ _ us hl => match us, hl with | [_, _], _ => rfl
  have F8 := fun_mk (st := s_p_has_word) l8 c8 k8
  have b8 := F8.binds (ps := P_p_has_word) fun _ _ _ _ _ _ us hl => match us, hl with | [_, _], _ => rfl
  have F9 := fun_mk (st := s_p_holds) l9 c9 k9
  have b9 := F9.binds (ps := P_p_holds) fun _ _ _ _ _ _ us hl => match us, hl with | [_, _], _ => rfl
  have F10 := fun_mk (st := s_p_made_plain) l10 c10 k10
  have b10 := F10.binds (ps := P_p_made_plain) fun _ _ _ _ _ _ us hl => match us, hl with | [_], _ => rfl
  have F11 := fun_mk (st := s_p_with_letter) l11 c11 k11
  have b11 := F11.binds (ps := P_p_with_letter) fun _ _ _ _ _ _ us hl => match us, hl with | [_, _], _ => rfl
  have F12 := fun_mk (st := s_p_sent) l12 c12 k12
  have b12 := F12.binds (ps := P_p_sent) fun _ _ _ _ _ _ us hl => match us, hl with | [_, _], _ => rfl
  have F13 := fun_mk (st := s_p_left_behind) l13 c13 k13
  have b13 := F13.binds (ps := P_p_left_behind) fun _ _ _ _ _ _ us hl => match us, hl with | [_, _], _ => rfl
  have F14 := fun_mk (st := s_p_taken) l14 c14 k14
  have b14 := F14.binds (ps := P_p_taken) fun _ _ _ _ _ _ us hl => match us, hl with | [_, _], _ => rfl
  have F15 := fun_mk (st := s_p_with_any) l15 c15 k15
  have b15 := F15.binds (ps := P_p_with_any) fun _ _ _ _ _ _ us hl => match us, hl with | [_, _], _ => rfl
  have F16 := fun_mk (st := s_p_swollen) l16 c16 k16
  have b16 := F16.binds (ps := P_p_swollen) fun _ _ _ _ _ _ us hl => match us, hl with | [_, _], _ => rfl
  have F17 := fun_mk (st := s_bag) l17 c17 k17
  have b17 := F17.binds (ps := P_bag) fun _ _ _ _ _ _ us hl => match us, hl with | [_], _ => rfl
  have F18 := fun_mk (st := s_pull) l18 c18 k18
  have b18 := F18.binds (ps := P_pull) fun _ _ _ _ _ _ us hl => match us, hl with | [_, _], _ => rfl
  have F19 := fun_mk (st := s_of) l19 c19 k19
  have b19 := F19.binds (ps := P_of) fun _ _ _ _ _ _ us hl => match us, hl with | [_, _], _ => rfl
  have F20 := fun_mk (st := s_same) l20 c20 k20
  have b20 := F20.binds (ps := P_same) fun _ _ _ _ _ _ us hl => match us, hl with | [_, _], _ => rfl
  have F21 := fun_mk (st := s_letters) l21 c21 k21
  have b21 := F21.binds (ps := P_letters) fun _ _ _ _ _ _ us hl => match us, hl with | [_], _ => rfl
  have F22 := fun_mk (st := s_word) l22 c22 k22
  have b22 := F22.binds (ps := P_word) fun _ _ _ _ _ _ us hl => match us, hl with | [_, _, _], _ => rfl
  have F23 := fun_mk (st := s_product) l23 c23 k23
  have b23 := F23.binds (ps := P_product) fun _ _ _ _ _ _ us hl => match us, hl with | [_, _, _], _ => rfl
  have F24 := fun_mk (st := s_words_to) l24 c24 k24
  have b24 := F24.binds (ps := P_words_to) fun _ _ _ _ _ _ us hl => match us, hl with | [_, _], _ => rfl
  have F25 := fun_mk (st := s_holds) l25 c25 k25
  have b25 := F25.binds (ps := P_holds) fun _ _ _ _ _ _ us hl => match us, hl with | [_, _], _ => rfl
  have F26 := fun_mk (st := s_six) l26 c26 k26
  have b26 := F26.binds (ps := P_six) fun _ _ _ _ _ _ us hl => match us, hl with | [_], _ => rfl
  have F27 := fun_mk (st := s_plain_look) l27 c27 k27
  have b27 := F27.binds (ps := P_plain_look) fun _ _ _ _ _ _ us hl => match us, hl with | [_], _ => rfl
  have F28 := fun_mk (st := s_tail_in) l28 c28 k28
  have b28 := F28.binds (ps := P_tail_in) fun _ _ _ _ _ _ us hl => match us, hl with | [_, _, _], _ => rfl
  have F29 := fun_mk (st := s_law) l29 c29 k29
  have b29 := F29.binds (ps := P_law) fun _ _ _ _ _ _ us hl => match us, hl with | [_], _ => rfl
  exact ⟨PySem.W.fnOf "law" "law" (defArgs s_law) (defBody s_law) (defScope s_law) .none kV29 dc29 pm29 an29 cd29 ct29, fun s v => .of_eq rfl, fun base _ _ => ok_law_at ⟨_, _, F0, b0, PySem.W.mg_of X G a0, _, _, F1, b1, PySem.W.mg_of X G a1, _, _, F2, b2, PySem.W.mg_of X G a2, _, _, F3, b3, PySem.W.mg_of X G a3, _, _, F4, b4, PySem.W.mg_of X G a4, _, _, F5, b5, PySem.W.mg_of X G a5, _, _, F6, b6, PySem.W.mg_of X G a6, _, _, F7, b7, PySem.W.mg_of X G a7, _, _, F8, b8, PySem.W.mg_of X G a8, _, _, F9, b9, PySem.W.mg_of X G a9, _, _, F10, b10, PySem.W.mg_of X G a10, _, _, F11, b11, PySem.W.mg_of X G a11, _, _, F12, b12, PySem.W.mg_of X G a12, _, _, F13, b13, PySem.W.mg_of X G a13, _, _, F14, b14, PySem.W.mg_of X G a14, _, _, F15, b15, PySem.W.mg_of X G a15, _, _, F16, b16, PySem.W.mg_of X G a16, _, _, F17, b17, PySem.W.mg_of X G a17, _, _, F18, b18, PySem.W.mg_of X G a18, _, _, F19, b19, PySem.W.mg_of X G a19, _, _, F20, b20, PySem.W.mg_of X G a20, _, _, F21, b21, PySem.W.mg_of X G a21, _, _, F22, b22, PySem.W.mg_of X G a22, _, _, F23, b23, PySem.W.mg_of X G a23, _, _, F24, b24, PySem.W.mg_of X G a24, _, _, F25, b25, PySem.W.mg_of X G a25, _, _, F26, b26, PySem.W.mg_of X G a26, _, _, F27, b27, PySem.W.mg_of X G a27, _, _, F28, b28, PySem.W.mg_of X G a28, _, _, F29, b29, PySem.W.mg_of X G a29, PySem.W.mg_none_of X G z0, PySem.W.mg_none_of X G z1, PySem.W.mg_none_of X G z2, PySem.W.mg_none_of X G z3, PySem.W.mg_none_of X G z4, PySem.W.mg_none_of X G z5, PySem.W.mg_none_of X G z6, PySem.W.mg_none_of X G z7, PySem.W.mg_none_of X G z8, PySem.W.mg_none_of X G z9, PySem.W.mg_none_of X G z10, PySem.W.mg_none_of X G z11, PySem.W.mg_none_of X G z12, _, PySem.W.mg_of X G d0, e0⟩⟩
end K33
open PySem PySem.W PyProof.Rows
set_option maxHeartbeats 0 in
theorem PySem.Challenge.cw_leakpost_k33_products_sent_taken_swollen_holds : PySem.Challenge.rw_leakpost_k33_products_sent_taken_swollen.Holds := by
  w_on; o_law; k_head; (case hw => w_witness2)
  k_fill
  refine L2.walk_of (l := PySem.Challenge.rw_leakpost_k33_products_sent_taken_swollen) (n := 63) (k := 7) (x := "_law_script") (CX := fun _ => L2.CX0) (sp := fun w => K33.sp_law _) rfl (by decide) rfl ⟨rfl, by decide, by decide⟩ (fun w h Y => PySem.W.kIn_of Y) ?F (fun _ _ a ns hl _ hS => ⟨a, ns, rfl, hS, hl, fun _ => rfl⟩) (fun _ _ _ _ _ h => h)
  case F =>
    intro w mg fa h KX G hmg
    refine' K33.all_mk KX G hmg ?a0 ?l0 ?c0 ?k0 ?a1 ?l1 ?c1 ?k1 ?a2 ?l2 ?c2 ?k2 ?a3 ?l3 ?c3 ?k3 ?a4 ?l4 ?c4 ?k4 ?a5 ?l5 ?c5 ?k5 ?a6 ?l6 ?c6 ?k6 ?a7 ?l7 ?c7 ?k7 ?a8 ?l8 ?c8 ?k8 ?a9 ?l9 ?c9 ?k9 ?a10 ?l10 ?c10 ?k10 ?a11 ?l11 ?c11 ?k11 ?a12 ?l12 ?c12 ?k12 ?a13 ?l13 ?c13 ?k13 ?a14 ?l14 ?c14 ?k14 ?a15 ?l15 ?c15 ?k15 ?a16 ?l16 ?c16 ?k16 ?a17 ?l17 ?c17 ?k17 ?a18 ?l18 ?c18 ?k18 ?a19 ?l19 ?c19 ?k19 ?a20 ?l20 ?c20 ?k20 ?a21 ?l21 ?c21 ?k21 ?a22 ?l22 ?c22 ?k22 ?a23 ?l23 ?c23 ?k23 ?a24 ?l24 ?c24 ?k24 ?a25 ?l25 ?c25 ?k25 ?a26 ?l26 ?c26 ?k26 ?a27 ?l27 ?c27 ?k27 ?a28 ?l28 ?c28 ?k28 ?a29 ?l29 ?c29 ?k29 ?z0 ?z1 ?z2 ?z3 ?z4 ?z5 ?z6 ?z7 ?z8 ?z9 ?z10 ?z11 ?z12 ?d0 ?e0
    (case a0 => k_is)
    (case l0 => k_is)
    (case c0 => k_is)
    (case k0 => k_is)
    (case a1 => k_is)
    (case l1 => k_is)
    (case c1 => k_is)
    (case k1 => k_is)
    (case a2 => k_is)
    (case l2 => k_is)
    (case c2 => k_is)
    (case k2 => k_is)
    (case a3 => k_is)
    (case l3 => k_is)
    (case c3 => k_is)
    (case k3 => k_is)
    (case a4 => k_is)
    (case l4 => k_is)
    (case c4 => k_is)
    (case k4 => k_is)
    (case a5 => k_is)
    (case l5 => k_is)
    (case c5 => k_is)
    (case k5 => k_is)
    (case a6 => k_is)
    (case l6 => k_is)
    (case c6 => k_is)
    (case k6 => k_is)
    (case a7 => k_is)
    (case l7 => k_is)
    (case c7 => k_is)
    (case k7 => k_is)
    (case a8 => k_is)
    (case l8 => k_is)
    (case c8 => k_is)
    (case k8 => k_is)
    (case a9 => k_is)
    (case l9 => k_is)
    (case c9 => k_is)
    (case k9 => k_is)
    (case a10 => k_is)
    (case l10 => k_is)
    (case c10 => k_is)
    (case k10 => k_is)
    (case a11 => k_is)
    (case l11 => k_is)
    (case c11 => k_is)
    (case k11 => k_is)
    (case a12 => k_is)
    (case l12 => k_is)
    (case c12 => k_is)
    (case k12 => k_is)
    (case a13 => k_is)
    (case l13 => k_is)
    (case c13 => k_is)
    (case k13 => k_is)
    (case a14 => k_is)
    (case l14 => k_is)
    (case c14 => k_is)
    (case k14 => k_is)
    (case a15 => k_is)
    (case l15 => k_is)
    (case c15 => k_is)
    (case k15 => k_is)
    (case a16 => k_is)
    (case l16 => k_is)
    (case c16 => k_is)
    (case k16 => k_is)
    (case a17 => k_is)
    (case l17 => k_is)
    (case c17 => k_is)
    (case k17 => k_is)
    (case a18 => k_is)
    (case l18 => k_is)
    (case c18 => k_is)
    (case k18 => k_is)
    (case a19 => k_is)
    (case l19 => k_is)
    (case c19 => k_is)
    (case k19 => k_is)
    (case a20 => k_is)
    (case l20 => k_is)
    (case c20 => k_is)
    (case k20 => k_is)
    (case a21 => k_is)
    (case l21 => k_is)
    (case c21 => k_is)
    (case k21 => k_is)
    (case a22 => k_is)
    (case l22 => k_is)
    (case c22 => k_is)
    (case k22 => k_is)
    (case a23 => k_is)
    (case l23 => k_is)
    (case c23 => k_is)
    (case k23 => k_is)
    (case a24 => k_is)
    (case l24 => k_is)
    (case c24 => k_is)
    (case k24 => k_is)
    (case a25 => k_is)
    (case l25 => k_is)
    (case c25 => k_is)
    (case k25 => k_is)
    (case a26 => k_is)
    (case l26 => k_is)
    (case c26 => k_is)
    (case k26 => k_is)
    (case a27 => k_is)
    (case l27 => k_is)
    (case c27 => k_is)
    (case k27 => k_is)
    (case a28 => k_is)
    (case l28 => k_is)
    (case c28 => k_is)
    (case k28 => k_is)
    (case a29 => k_is)
    (case l29 => k_is)
    (case c29 => k_is)
    (case k29 => k_is)
    (case z0 => k_is)
    (case z1 => k_is)
    (case z2 => k_is)
    (case z3 => k_is)
    (case z4 => k_is)
    (case z5 => k_is)
    (case z6 => k_is)
    (case z7 => k_is)
    (case z8 => k_is)
    (case z9 => k_is)
    (case z10 => k_is)
    (case z11 => k_is)
    (case z12 => k_is)
    (case d0 => k_is)
    (case e0 => exact ⟨_, rfl⟩)
