import PyProof.Rows.All
import Wide.All
import OpenK.AllK
import Wide.FinOn
import HandS.ForMost
import HandS.Walk
import HandS.Zip
import HandS.IsInst
import HandS.StrMore
import HandS.Evl
import HandS.Style
import HandS.More
import HandS.Set
import HandS.SetFor
import HandS.SetTxt0
import HandS.TupSets
import HandS.TupLe
import HandS.DictTup
import HandS.SortOrd
import HandS.SortInts
import HandS.Sort
import HandS.SortKw
import HandS.Iter
import PyProof.Rows.SortShellAny
import PyProof.ListStr
import KE.KRevSl
import KE.KDictKeyed
import KE.KDictWalk
import KE.KSortTupG
import KE.KSortKey
import PySem.Challenge.RW_leakpost_k05_least_scenes
set_option Elab.async false
set_option linter.all false
set_option maxRecDepth 100000

namespace LB
open PySem PySem.Spec PyProof.Rows L2
/-! ### the bag of draws: a list of five at b, its cells at s -/
def bagL (s : Addr) (i r sd c : Int) : HO := .lst [.ref s, .int i, .int r, .int sd, .int c]
def Bag (b s : Addr) (H : Hp) : Prop := s ≠ b ∧ ∃ (ns : List Int) (i r sd c : Int), H b = some (bagL s i r sd c) ∧ H s = some (.lst (ns.map V.int)) ∧ ns.length ≤ 63 ∧ 0 ≤ i
/-- all but the bag is as it was -/
structure BX (b s : Addr) (H H' : Hp) : Prop where
  bag : Bag b s H'
  keep : ∀ a o, a ≠ b → H a = some o → H' a = some o
section
variable {b s p a : Addr} {H H' H'' : Hp} {o : HO} {K : PySem.W.Frag}
theorem Bag.nb (h : Bag b s H) (n : H p = none) : p ≠ b := by
  obtain ⟨_, ns, i, r, sd, c, e, _⟩ := h
  exact (ne_of_none e n).symm
theorem Bag.ns (h : Bag b s H) (n : H p = none) : p ≠ s := by
  obtain ⟨_, ns, i, r, sd, c, _, e, _⟩ := h
  exact (ne_of_none e n).symm
theorem BX.refl (h : Bag b s H) : BX b s H H := ⟨h, fun _ _ _ e => e⟩
theorem BX.trans (x : BX b s H H') (y : BX b s H' H'') : BX b s H H'' := ⟨y.bag, fun a o n e => y.keep a o n (x.keep a o n e)⟩
theorem Bag.same (h : Bag b s H) (x : Same H H') : Bag b s H' := by
  obtain ⟨n, ns, i, r, sd, c, e1, e2, l⟩ := h
  exact ⟨n, ns, i, r, sd, c, x _ _ e1, x _ _ e2, l⟩
theorem BX.same (h : Bag b s H) (x : Same H H') : BX b s H H' := ⟨h.same x, fun a o _ e => x a o e⟩
theorem BX.andSame (h : BX b s H H') (x : Same H' H'') : BX b s H H'' := h.trans (.same h.bag x)
theorem same_new (h : H p = none) : Same H (upd H p o) := fun c x e => by
  rw [upd_ne (ne_of_none e h)]
  exact e
theorem BX.new (h : Bag b s H) (n : H p = none) : BX b s H (upd H p o) := .same h (same_new n)
theorem BX.mut (x : BX b s H H') (h : Bag b s H) (n : H p = none) : BX b s H (upd H' p o) := by
  have n1 := h.nb n
  have n2 := h.ns n
  obtain ⟨ne, ns, i, r, sd, c, e1, e2, l⟩ := x.bag
  refine ⟨⟨ne, ns, i, r, sd, c, ?_, ?_, l⟩, fun a o na e => ?_⟩
  · rw [upd_ne n1.symm]; exact e1
  · rw [upd_ne n2.symm]; exact e2
  · rw [upd_ne (ne_of_none e n)]; exact x.keep a o na e
theorem BX.back (x : BX b s H H') (n : H' p = none) : H p = none := by
  cases e : H p with
  | none => rfl
  | some o =>
    by_cases hb : p = b
    · exact absurd hb (x.bag.nb n)
    · rw [x.keep p o hb e] at n
      cases n
theorem same_mut (x : Same H H') (n : H p = none) : Same H (upd H' p o) := fun a u e => by
  rw [upd_ne (ne_of_none e n)]
  exact x a u e
/-- an object that is not the bag -/
def At (b : Addr) (H : Hp) (a : Addr) (o : HO) : Prop := a ≠ b ∧ H a = some o
theorem At.mv (h : At b H a o) (x : BX b s H H') : At b H' a o := ⟨h.1, x.keep a o h.1 h.2⟩
theorem At.new (h : Bag b s H) (n : H p = none) : At b (upd H p o) p o := ⟨h.nb n, upd_same⟩
theorem At.l {xs : List V} (h : At b H a (.lst xs)) : SqL K H a xs := .of h.2
theorem At.t {xs : List V} (h : At b H a (.tup xs)) : SqT K H a xs := .of h.2
/-- xs[i] of a list, by values: for xs[i] op= e -/
theorem get_list {X : Cx} : PGet X (rIxL X.K) := by
  intro pins s σ H o i ov iv Q I ro ri h
  obtain ⟨p, xs, k, z, rfl, rfl, hq, he, q⟩ := h
  cases ro
  obtain ⟨t, rfl⟩ := ri
  obtain ⟨its, r, pl, hz⟩ := I.list hq
  obtain ⟨j, h1, h2, h3, h4, h5⟩ := atI_get he
  obtain ⟨w, ew, rw'⟩ := r.get h2
  have hl := r.length
  have hn := line63
  have fin : EP X pins σ Q w s := ⟨z, H, I, rw', q⟩
  by_cases h0 : 0 ≤ k
  · have hj : k.toNat = j := by
      rw [seqIndex_of h0 h5] at h1
      exact Option.some.inj h1
    exact wpAny_getItem_list pl.isList h0 (by omega) (by rw [hj]; simpa using ew) fin
  · have hj : (k + (its.toArray.size : Int)).toNat = j := by
      rw [seqIndex_neg (by omega) h4] at h1
      rw [List.size_toArray, ← hl]
      exact Option.some.inj h1
    exact wpAny_getItem_list_neg pl.isList (by omega) (by rw [List.size_toArray] <;> omega) (by omega) (by rw [hj]; simpa using ew) fin
end
theorem fmul (c : Int) (h : -(2 ^ 64) < c ∧ c < 2 ^ 64) (i : Int) : CMul i c := .inr h
theorem cut_take (xs : List V) (k : Nat) : cutV xs none (some (k : Int)) = xs.take k := by
  unfold cutV
  rw [HT.sIx_none, HT.sIx_nat]
  show (xs.drop 0).take (min k xs.length - 0) = xs.take k
  rw [List.drop_zero, Nat.sub_zero]
  by_cases h : k ≤ xs.length
  · rw [Nat.min_eq_left h]
  · rw [Nat.min_eq_right (by omega), List.take_length, List.take_of_length_le (by omega)]

theorem cut_takeI (xs : List V) {k : Int} (h : 0 ≤ k) : cutV xs none (some k) = xs.take k.toNat := by
  obtain ⟨n, rfl⟩ := Int.eq_ofNat_of_zero_le h
  exact cut_take xs n
/-! ### texts by their signs -/
abbrev sg (c : Nat) : Str := ⟨#[c]⟩
abbrev tx (l : List Nat) : Str := ⟨l.toArray⟩
theorem tx_app (a b : List Nat) : tx a ++ tx b = tx (a ++ b) := by
  show (⟨a.toArray ++ b.toArray⟩ : Str) = _
  rw [List.append_toArray]
theorem tx_len (a : List Nat) : (tx a).length = a.length := by
  show a.toArray.size = _
  rw [List.size_toArray]
theorem tx_cps (a : List Nat) : (tx a).cps.toList = a := rfl
theorem tx_of (z : Str) : z = tx z.cps.toList := by
  cases z
  rfl
theorem join_sg (cs : List Nat) : Txt.join (Str.ofString "") (cs.map sg) = tx cs := by
  show Builtin.Str.glued _ _ = _
  rw [StrLaws.glued_eq_join, show Str.ofString "" = (tx [] : Str) from by decide +kernel]
  induction cs with
  | nil => rfl
  | cons c r ih =>
    cases r with
    | nil => rfl
    | cons d t =>
      show sg c ++ tx [] ++ Str.join (tx []) ((d :: t).map sg) = _
      rw [ih, show sg c = tx [c] from rfl, tx_app, tx_app]
      rfl
theorem join_tx (ls : List (List Nat)) : Txt.join (Str.ofString "") (ls.map tx) = tx ls.flatten := by
  show Builtin.Str.glued _ _ = _
  rw [StrLaws.glued_eq_join, show Str.ofString "" = (tx [] : Str) from by decide +kernel]
  induction ls with
  | nil => rfl
  | cons c r ih =>
    cases r with
    | nil => simp [Str.join]
    | cons d t =>
      show tx c ++ tx [] ++ Str.join (tx []) ((d :: t).map tx) = _
      rw [ih, tx_app, tx_app]
      simp
theorem ones_sum (cs : List Nat) : ((cs.map sg).map (·.length)).sum = cs.length := by
  induction cs with
  | nil => rfl
  | cons c r ih =>
    rw [List.map_cons, List.map_cons, List.sum_cons, ih, List.length_cons]
    show 1 + r.length = _
    omega
abbrev alphabet : Str := Str.ofString "abcdefghijklmnopqrstuvwxyz"
theorem alpha_at {i : Int} (h0 : 0 ≤ i) (h1 : i < 26) : atI alphabet.cps.toList i = some (i.toNat + 97) := by
  obtain ⟨k, rfl⟩ := Int.eq_ofNat_of_zero_le h0
  have hk : k < 26 := by omega
  have all : ∀ j : Fin 26, atI alphabet.cps.toList ((j.val : Nat) : Int) = some (j.val + 97) := by decide +kernel
  exact all ⟨k, hk⟩
theorem alpha_codes : alphabet.cps.toList = (List.range 26).map (· + 97) := by decide +kernel
/-- the k-th of the letters drawn by (first, step) -/
def lett (f b : Int) (k : Nat) : Nat := ((f + b * (k : Int)) % 26).toNat + 97
theorem mem_get {α : Type} {xs : List α} {i : Int} {n : Nat} (hn : n = xs.length) (h0 : 0 ≤ i) (h1 : i < (n : Int)) : ∃ x, x ∈ xs ∧ atI xs i = some x := by
  obtain ⟨k, rfl⟩ := Int.eq_ofNat_of_zero_le h0
  have hk : k < xs.length := by omega
  exact ⟨xs[k], List.getElem_mem hk, atI_nat (List.getElem?_eq_getElem hk)⟩
/-! ### the same data, up to a depth -/
def flat1 : V → Bool
  | .non => true
  | .bl _ => true
  | .int _ => true
  | .str _ => true
  | _ => false
def Sam (K : PySem.W.Frag) (H : Hp) : Nat → V → V → Prop
  | 0, v, w => flat1 v = true ∧ v = w
  | n + 1, v, w => (flat1 v = true ∧ v = w) ∨ ∃ a c xs ys, v = .ref a ∧ w = .ref c ∧ ((H a = some (.lst xs) ∧ H c = some (.lst ys)) ∨ (H a = some (.tup xs) ∧ H c = some (.tup ys))) ∧ xs.length < 100000 ∧ Paired (Sam K H n) xs ys
theorem Sam.flat {K : PySem.W.Frag} {H : Hp} {v : V} (n : Nat) (h : flat1 v = true) : Sam K H n v v := by
  cases n with
  | zero => exact ⟨h, rfl⟩
  | succ n => exact .inl ⟨h, rfl⟩
theorem Sam.mono {K : PySem.W.Frag} {H H' : Hp} (x : Same H H') : ∀ {n : Nat} {v w : V}, Sam K H n v w → Sam K H' n v w
  | 0, _, _, h => h
  | n + 1, _, _, h => by
    rcases h with h | ⟨a, c, xs, ys, e1, e2, h, hz, p⟩
    · exact .inl h
    · refine .inr ⟨a, c, xs, ys, e1, e2, ?_, hz, Paired.mapP p fun _ _ q => Sam.mono x q⟩
      rcases h with ⟨h1, h2⟩ | ⟨h1, h2⟩
      · exact .inl ⟨x _ _ h1, x _ _ h2⟩
      · exact .inr ⟨x _ _ h1, x _ _ h2⟩
theorem paired_get {α β : Type} {F : α → β → Prop} : ∀ {xs : List α} {ys : List β} {i : Nat} {x : α} {y : β}, Paired F xs ys → xs[i]? = some x → ys[i]? = some y → F x y
  | _, _, _, _, _, .nil, h, _ => by simp at h
  | _, _, 0, _, _, .cons r _, h, h' => by
    simp at h h'
    subst h h'
    exact r
  | _, _, i + 1, _, _, .cons _ t, h, h' => paired_get (i := i) t (by simpa using h) (by simpa using h')
theorem sam_lst {K : PySem.W.Frag} {H : Hp} {n : Nat} {a c : Addr} {xs ys : List V} (h1 : H a = some (.lst xs)) (h2 : H c = some (.lst ys)) (hz : xs.length < 100000) (p : Paired (Sam K H n) xs ys) : Sam K H (n + 1) (.ref a) (.ref c) :=
  .inr ⟨a, c, xs, ys, rfl, rfl, .inl ⟨h1, h2⟩, hz, p⟩
theorem sam_tup {K : PySem.W.Frag} {H : Hp} {n : Nat} {a c : Addr} {xs ys : List V} (h1 : H a = some (.tup xs)) (h2 : H c = some (.tup ys)) (hz : xs.length < 100000) (p : Paired (Sam K H n) xs ys) : Sam K H (n + 1) (.ref a) (.ref c) :=
  .inr ⟨a, c, xs, ys, rfl, rfl, .inr ⟨h1, h2⟩, hz, p⟩
theorem paired_flat {K : PySem.W.Frag} {H : Hp} {n : Nat} : ∀ {xs : List V}, (∀ x ∈ xs, flat1 x = true) → Paired (Sam K H n) xs xs
  | [], _ => .nil
  | x :: r, h => .cons (.flat n (h x (by simp))) (paired_flat fun y hy => h y (by simp [hy]))
theorem kit_seq {K : PySem.W.Frag} {t : String} (h1 : kitB t "list" = some false) (h2 : kitB t "tuple" = some false) : PySem.W.kitAny K (.type t) [.type "list", .type "tuple"] = some false :=
  kitAny_cons (b := false) (kit_ty h1) (fun _ => kitAny_cons (b := false) (kit_ty h2) (fun _ => kitAny_nil) (fun z => nomatch z)) (fun z => nomatch z)
theorem kit_lst {K : PySem.W.Frag} : PySem.W.kitAny K (.type "list") [.type "list", .type "tuple"] = some true :=
  kitAny_cons (b := true) (kit_ty (by decide +kernel)) (fun z => nomatch z) (fun _ => rfl)
theorem kit_tup {K : PySem.W.Frag} : PySem.W.kitAny K (.type "tuple") [.type "list", .type "tuple"] = some true :=
  kitAny_cons (b := false) (kit_ty (by decide +kernel)) (fun _ => kitAny_cons (b := true) (kit_ty (by decide +kernel)) (fun z => nomatch z) (fun _ => rfl)) (fun z => nomatch z)
theorem kit_cls : Paired ClsV [V.ty "list", V.ty "tuple"] [.type "list", .type "tuple"] := .cons (.ty "list") (.cons (.ty "tuple") .nil)
theorem walk_zipT {K : PySem.W.Frag} {a b : Addr} {xs ys : List V} {n : Nat} (hn : n = min xs.length ys.length) : Walk (RZ.ItzT K a b) n (fun H => SqT K H a xs ∧ SqT K H b ys) (YPair (fun i => xs[i]?) (fun i => ys[i]?)) := by
  subst hn
  refine ⟨fun i _ hi q => ?_, fun _ q => ⟨xs, ys, q.1, q.2, by omega⟩, fun i H v H' _ q y => ?_⟩
  · have u1 : i < xs.length := Nat.lt_of_lt_of_le hi (Nat.min_le_left _ _)
    have u2 : i < ys.length := Nat.lt_of_lt_of_le hi (Nat.min_le_right _ _)
    exact ⟨xs, ys, xs[i], ys[i], q.1, q.2, List.getElem?_eq_getElem u1, List.getElem?_eq_getElem u2⟩
  · obtain ⟨T, x, z, g1, g2, g3, g4, g5⟩ := y
    exact ⟨T, x, z, g1, g2, g3, g4 xs q.1, g5 ys q.2⟩
/-- a comprehension whose element gives True at each turn, made beside objects that stay -/
theorem paired_len {α β : Type} {F : α → β → Prop} {xs : List α} {ys : List β} (p : Paired F xs ys) : xs.length = ys.length := Paired.length p
/-! ### f(k = v, ..): keywords alone -/
def tCallK0 (sp : Sp) (gV : List V → List V → List V) (E : XK) (tk : TA) : TE := fun σ H Q => tk σ H fun zs H2 => sp (gV [] zs) H2 Q E
theorem pe_callK0 {X : Cx} {CX : CXT} {k : Nat} {f : Addr} {fd : FuncData} {ps ks : List Str} {sp : Sp} {E : XK} {x : Str} {p pos : Pos} {kws : List Keyword} {tk : TA} {g : List Value → List Value → List Value} {gV : List V → List V → List V}
    (F : FnOk X.prog X.w X.K X.mg X.base CX k f fd ps sp) (hr : Room k X.A) (hg : Gl X x) (hm : X.mg x = some (.ref f)) (kp : PySem.W.keepIn X.K (.ref f) = true) (hb : KBinds X.K fd ps ks g gV) (hx : Passes CX X E)
    (hkw : PK X kws tk) (hall : (backToKw pos (keywordEach kws X.env)).all (·.1.isSome) = true := by rfl) (hks : (backToKw pos (keywordEach kws X.env)).filterMap (·.1) = ks := by rfl)
    (hdb : (x == ("__debug__" : Str)) = false := by decide) (hpl : ((backTo pos (starEach [] X.env)).any (·.1) || (backToKw pos (keywordEach kws X.env)).any (·.1.isNone)) = false := by rfl) :
    PE X (.Call (.Name x p) [] kws pos) (tCallK0 sp gV E tk) := by
  refine ⟨fun pins s σ H Q I h => ?_⟩
  refine wpAny_Call_Name_kw (ld_glob I hg hm ?_ hdb)
  refine PySem.W.callWith_KW0 (h₀ := X.base) I.ok.mod.kin kp hall ?_ hpl
  refine thn (hkw.run pos pins s σ H _ I h) fun ws s2 ⟨zs, H2, I2, rz, q2⟩ => ⟨I2.kIn, ?_⟩
  rw [hks]
  exact run_fnk F hr hb hx I2 .nil rz q2
/-! ### lists of texts as data: for == and != -/
def txsD (ls : List (List Nat)) : List PyData := ls.map fun l => PyData.str (tx l)
theorem strOk_tx {l : List Nat} (h : ∀ c ∈ l, c < 128) : PyData.strOk (tx l) = true := by
  unfold PyData.strOk
  rw [Array.all_eq_true_iff_forall_mem]
  intro c hc
  have := h c (by simpa using hc)
  exact decide_eq_true (by omega)
theorem txs_lay : ∀ {ls : List (List Nat)}, (∀ l ∈ ls, ∀ c ∈ l, c < 128) → PyData.canLayAll0 (txsD ls) = true
  | [], _ => rfl
  | l :: r, h => by
    show (PyData.canLay0 (.str (tx l)) && PyData.canLayAll0 (txsD r)) = true
    rw [txs_lay fun x hx => h x (by simp [hx]), Bool.and_true]
    exact strOk_tx (h l (by simp))
theorem txs_depth : ∀ ls : List (List Nat), PyData.depthAll (txsD ls) = 0
  | [] => rfl
  | l :: r => by
    show max (PyData.depth (.str (tx l))) (PyData.depthAll (txsD r)) = 0
    rw [txs_depth r]
    rfl
theorem txs_shaped {ls : List (List Nat)} (h : ∀ l ∈ ls, ∀ c ∈ l, c < 128) : SeqAt.shaped (.list (txsD ls)) = true := by
  unfold SeqAt.shaped
  rw [show PyData.canLay0 (.list (txsD ls)) = PyData.canLayAll0 (txsD ls) from rfl, txs_lay h, show PyData.depth (.list (txsD ls)) = PyData.depthAll (txsD ls) + 1 from rfl, txs_depth]
  rfl
theorem txs_dp {K : PySem.W.Frag} {H : Hp} : ∀ ls : List (List Nat), DpAll K H (ls.map fun l => V.str (tx l)) (txsD ls)
  | [] => .nil
  | l :: r => .cons (.str _) (txs_dp r)
theorem txs_nil (ls : List (List Nat)) : PyData.eqv (.list (txsD ls)) (.list []) = ls.isEmpty := by
  cases ls with
  | nil => rfl
  | cons l r => rfl
/-- an expression that gives v and leaves the heap -/
theorem pu_use {te : TE} {σ : L2.St} {H : Hp} {Q : VK} (v : V) (h : ∀ Q' : VK, Q' v H → te σ H Q') (q : Q v H) : te σ H Q := h Q q
theorem cutS_drop (zs : List Nat) (k : Nat) : cutS (tx zs) (some (k : Int)) none = tx (zs.drop k) := by
  unfold cutS
  rw [tx_len, HT.sIx_nat, HT.sIx_none, tx_cps]
  show tx _ = tx _
  congr 1
  by_cases h : k ≤ zs.length
  · rw [Nat.min_eq_left h]
    exact List.take_of_length_le (by rw [List.length_drop]; omega)
  · rw [Nat.min_eq_right (by omega), List.drop_of_length_le (Nat.le_refl _), List.drop_of_length_le (by omega), List.take_nil]
theorem cutS_take (zs : List Nat) (k : Nat) : cutS (tx zs) none (some (k : Int)) = tx (zs.take k) := by
  unfold cutS
  rw [tx_len, HT.sIx_nat, HT.sIx_none, tx_cps]
  show tx _ = tx _
  congr 1
  rw [List.drop_zero, Nat.sub_zero]
  by_cases h : k ≤ zs.length
  · rw [Nat.min_eq_left h]
  · rw [Nat.min_eq_right (by omega), List.take_length, List.take_of_length_le (by omega)]
/-! ### sep.join(xs) within a comprehension -/
def rJoin (K : PySem.W.Frag) : V → List V → Hp → VK → Prop := fun x vs H Q => ∃ sep lst, ∃ ts : List Str, x = .str sep ∧ vs = [.ref lst] ∧ (SqL K H lst (ts.map V.str) ∨ SqT K H lst (ts.map V.str)) ∧
  (ts.map (·.length)).sum + ts.length * sep.length ≤ 16777216 ∧ Q (.str (Txt.join sep ts)) H
theorem pe_joinK {X : Cx} {K : PySem.W.Frag} {o e : Expr} {to te : TE} {apos pos : Pos} (ho : PE X o to) (he : PE X e te) (hK : X.K = K := by rfl) (h1 : starEach [e] X.env = [(false, eval e X.env)] := by rfl)
    (h2 : attributeBase o "join" X.env (eval o X.env) = eval o X.env := by rfl) (h3 : (apos.endLine == pos.line) = true := by rfl) : PE X (.Call (.Attribute o "join" apos) [e] [] pos) (tM1 (rJoin K) to te) := by
  subst hK
  exact pe_join ho he h1 h2 h3
end LB

namespace LB
open PySem PySem.Spec PyProof.Rows L2
/-! ### the first place of a sign from a place on -/
def fnd (c : Nat) : List Nat → Nat → Option Nat
  | [], _ => none
  | x :: r, k => if x = c then some k else fnd c r (k + 1)
theorem occ_stay (s sub : Str) (hi : Nat) : ∀ (l : List Nat) (st : Array Nat × Nat), 1 ≤ st.fst.size → (forIn l st (StrLaws.occBody s sub hi 1)).run = st
  | [], st, h => rfl
  | a :: l, st, h => by
    rw [List.forIn_cons]
    have c : ¬ (((st.fst.size < 1 ∧ st.snd ≤ a) ∧ a + sub.length ≤ hi) ∧ Builtin.Str.subAt s sub a = true) := fun z => by
      have := z.1.1.1
      omega
    unfold StrLaws.occBody
    rw [if_neg c]
    exact occ_stay s sub hi l st h
theorem occ_fnd (g : List Nat) (c : Nat) : ∀ (n k free : Nat), free ≤ k → k + n = g.length + 1 →
    (forIn (List.range' k n) ((#[] : Array Nat), free) (StrLaws.occBody (tx g) (sg c) (tx g).length 1)).run.fst.toList = (fnd c (g.drop k) k).toList
  | 0, k, free, hf, hn => by
    rw [List.drop_of_length_le (by omega)]
    rfl
  | n + 1, k, free, hf, hn => by
    rw [List.range'_succ, List.forIn_cons]
    have one := StrLaws.subAt_one (tx g) c k
    rw [tx_cps] at one
    by_cases hc : g[k]? = some c
    · have c1 : (((((#[] : Array Nat), free).fst.size < 1 ∧ ((#[] : Array Nat), free).snd ≤ k) ∧ k + (sg c).length ≤ (tx g).length) ∧ Builtin.Str.subAt (tx g) (sg c) k = true) :=
        ⟨⟨⟨by simp, hf⟩, (one.mpr hc).1⟩, (one.mpr hc).2⟩
      obtain ⟨hlt, e⟩ := List.getElem?_eq_some_iff.mp hc
      rw [List.drop_eq_getElem_cons hlt, e]
      have e1 : StrLaws.occBody (tx g) (sg c) (tx g).length 1 k ((#[] : Array Nat), free) = pure (ForInStep.yield (#[k], k + (sg c).length)) := by
        unfold StrLaws.occBody
        rw [if_pos c1]
        rfl
      rw [e1]
      show (forIn (List.range' (k + 1) n) ((#[k] : Array Nat), k + (sg c).length) (StrLaws.occBody (tx g) (sg c) (tx g).length 1)).run.fst.toList = _
      rw [occ_stay _ _ _ _ _ (by simp)]
      simp [fnd]
    · have c2 : ¬ (((((#[] : Array Nat), free).fst.size < 1 ∧ ((#[] : Array Nat), free).snd ≤ k) ∧ k + (sg c).length ≤ (tx g).length) ∧ Builtin.Str.subAt (tx g) (sg c) k = true) := fun z => hc (one.mp ⟨z.1.2, z.2⟩)
      have e1 : StrLaws.occBody (tx g) (sg c) (tx g).length 1 k ((#[] : Array Nat), free) = pure (ForInStep.yield (#[], free)) := by
        unfold StrLaws.occBody
        rw [if_neg c2]
      rw [e1]
      show (forIn (List.range' (k + 1) n) ((#[] : Array Nat), free) (StrLaws.occBody (tx g) (sg c) (tx g).length 1)).run.fst.toList = _
      rw [occ_fnd g c n (k + 1) free (by omega) (by omega)]
      by_cases hlt : k < g.length
      · rw [List.drop_eq_getElem_cons hlt]
        have ne : g[k] ≠ c := fun z => hc (by rw [List.getElem?_eq_getElem hlt, z])
        simp [fnd, ne]
      · rw [List.drop_of_length_le (by omega), List.drop_of_length_le (by omega)]
        rfl
theorem find3_one (g : List Nat) (c k : Nat) (hk : k ≤ g.length) : Txt.find3 (tx g) (sg c) (k : Int) = match fnd c (g.drop k) k with | some j => (j : Int) | none => -1 := by
  unfold Txt.find3
  have ek : fromIndex (tx g).length (k : Int) = k := by
    unfold fromIndex
    rw [if_neg (by omega)]
    omega
  rw [ek, StrLaws.occ_eq, tx_len, ← tx_len g, occ_fnd g c _ k k (Nat.le_refl _) (by rw [tx_len]; omega)]
  cases fnd c (g.drop k) k <;> rfl
theorem fnd_spec {c : Nat} : ∀ {l : List Nat} {k j : Nat}, fnd c l k = some j → k ≤ j ∧ j < k + l.length ∧ l[j - k]? = some c
  | [], _, _, h => by cases h
  | x :: r, k, j, h => by
    unfold fnd at h
    by_cases e : x = c
    · rw [if_pos e] at h
      cases h
      exact ⟨Nat.le_refl _, by simp, by simp [e]⟩
    · rw [if_neg e] at h
      obtain ⟨h1, h2, h3⟩ := fnd_spec h
      refine ⟨by omega, by simp; omega, ?_⟩
      rw [show j - k = (j - (k + 1)) + 1 by omega]
      simpa using h3
/-! ### where the letters of the small word stand in the great one, each as early as can be -/
def gs : List Nat → List Nat → Nat → Option (List Nat)
  | [], _, _ => some []
  | _ :: _, [], _ => none
  | s :: ss, g :: gg, k => if g = s then (gs ss gg (k + 1)).map (k :: ·) else gs (s :: ss) gg (k + 1)
theorem gs_nil (g : List Nat) (k : Nat) : gs [] g k = some [] := by cases g <;> rfl
theorem gs_fnd (s : Nat) (ss : List Nat) : ∀ (l : List Nat) (k : Nat), gs (s :: ss) l k = match fnd s l k with | none => none | some j => (gs ss (l.drop (j + 1 - k)) (j + 1)).map (j :: ·)
  | [], k => rfl
  | x :: r, k => by
    show (if x = s then (gs ss r (k + 1)).map (k :: ·) else gs (s :: ss) r (k + 1)) = _
    unfold fnd
    by_cases e : x = s
    · rw [if_pos e, if_pos e]
      show _ = (gs ss ((x :: r).drop (k + 1 - k)) (k + 1)).map (k :: ·)
      rw [show k + 1 - k = 1 by omega]
      rfl
    · rw [if_neg e, if_neg e, gs_fnd s ss r (k + 1)]
      cases h : fnd s r (k + 1) with
      | none => rfl
      | some j =>
        have h1 := (fnd_spec h).1
        show (gs ss (r.drop (j + 1 - (k + 1))) (j + 1)).map (j :: ·) = (gs ss ((x :: r).drop (j + 1 - k)) (j + 1)).map (j :: ·)
        rw [show j + 1 - k = (j + 1 - (k + 1)) + 1 by omega]
        rfl
theorem gs_len : ∀ {a g : List Nat} {k : Nat} {ps : List Nat}, gs a g k = some ps → ps.length = a.length ∧ a.length ≤ g.length
  | [], g, k, ps, h => by
    rw [gs_nil] at h
    cases h
    exact ⟨rfl, Nat.zero_le _⟩
  | _ :: _, [], _, _, h => by cases h
  | s :: ss, x :: r, k, ps, h => by
    unfold gs at h
    by_cases e : x = s
    · rw [if_pos e] at h
      cases h2 : gs ss r (k + 1) with
      | none => rw [h2] at h; cases h
      | some qs =>
        rw [h2] at h
        cases h
        have := gs_len h2
        simp
        omega
    · rw [if_neg e] at h
      have := gs_len h
      simp at this ⊢
      omega
theorem gs_self : ∀ (a : List Nat) (k : Nat), (gs a a k).isSome = true
  | [], _ => rfl
  | x :: r, k => by
    unfold gs
    rw [if_pos rfl]
    have := gs_self r (k + 1)
    cases h : gs r r (k + 1) with
    | none => rw [h] at this; cases this
    | some _ => rfl
theorem gs_longer (a b : List Nat) (k : Nat) (h : b.length < a.length) : gs a b k = none := by
  cases e : gs a b k with
  | none => rfl
  | some ps => have := gs_len e; omega
end LB

namespace LB
open PySem PySem.Spec PyProof.Rows L2
/-! ### data in the heap, up to a depth, apart from some addresses -/
inductive D where
  | non | bl (b : Bool) | int (i : Int) | str (l : List Nat) | lst (ds : List D) | tup (ds : List D)
abbrev ascii (l : List Nat) : Prop := ∀ c ∈ l, c < 128
def flatR : V → D → Prop
  | .non, .non => True
  | .bl a, .bl b => a = b
  | .int i, .int j => i = j
  | .str x, .str l => x = tx l ∧ ascii l
  | _, _ => False
def Rp (av : Addr → Prop) (H : Hp) : Nat → V → D → Prop
  | 0, v, d => flatR v d
  | n + 1, v, d => flatR v d ∨ (∃ a xs ds, v = .ref a ∧ d = .lst ds ∧ ¬ av a ∧ H a = some (.lst xs) ∧ xs.length < 100000 ∧ Paired (Rp av H n) xs ds) ∨
      (∃ a xs ds, v = .ref a ∧ d = .tup ds ∧ ¬ av a ∧ H a = some (.tup xs) ∧ xs.length < 100000 ∧ Paired (Rp av H n) xs ds)
def Kp (av : Addr → Prop) (H H' : Hp) : Prop := ∀ a o, ¬ av a → H a = some o → H' a = some o
section
variable {av av' : Addr → Prop} {H H' H'' : Hp} {b s a p : Addr} {o : HO} {n : Nat} {v w : V} {d : D} {ds : List D} {K : PySem.W.Frag}
theorem Kp.refl : Kp av H H := fun _ _ _ e => e
theorem Kp.trans (x : Kp av H H') (y : Kp av H' H'') : Kp av H H'' := fun a o n e => y a o n (x a o n e)
theorem Kp.weak (x : Kp av' H H') (h : ∀ a, av' a → av a) : Kp av H H' := fun a o n e => x a o (fun z => n (h a z)) e
theorem Same.kp (x : Same H H') : Kp av H H' := fun a o _ e => x a o e
theorem BX.kp (x : BX b s H H') (h : av b) : Kp av H H' := fun a o n e => x.keep a o (fun z => n (z ▸ h)) e
theorem Kp.mut (h : av a) : Kp av H (upd H a o) := fun c u n e => by
  have na : c ≠ a := fun z => n (by rw [z]; exact h)
  rw [upd_ne na]
  exact e
theorem Kp.new (h : H p = none) : Kp av H (upd H p o) := Same.kp (same_new h)
theorem Kp.mutN {av : Addr → Prop} {H H' : Hp} {p : Addr} {o : HO} (x : Kp av H H') (n : H p = none) : Kp av H (upd H' p o) := fun a u na e => by
  rw [upd_ne (ne_of_none e n)]
  exact x a u na e
theorem flatR_rp (n : Nat) (h : flatR v d) : Rp av H n v d := by
  cases n with
  | zero => exact h
  | succ n => exact .inl h
theorem Rp.mv : ∀ {n : Nat} {v : V} {d : D}, Kp av H H' → Rp av H n v d → Rp av H' n v d
  | 0, _, _, _, h => h
  | n + 1, _, _, k, h => by
    rcases h with h | ⟨a, xs, ds, e1, e2, na, ha, hl, p⟩ | ⟨a, xs, ds, e1, e2, na, ha, hl, p⟩
    · exact .inl h
    · exact .inr (.inl ⟨a, xs, ds, e1, e2, na, k _ _ na ha, hl, Paired.mapP p fun _ _ q => Rp.mv k q⟩)
    · exact .inr (.inr ⟨a, xs, ds, e1, e2, na, k _ _ na ha, hl, Paired.mapP p fun _ _ q => Rp.mv k q⟩)
theorem Rp.weak : ∀ {n : Nat} {v : V} {d : D}, (∀ a, av' a → av a) → Rp av H n v d → Rp av' H n v d
  | 0, _, _, _, h => h
  | n + 1, _, _, k, h => by
    rcases h with h | ⟨a, xs, ds, e1, e2, na, ha, hl, p⟩ | ⟨a, xs, ds, e1, e2, na, ha, hl, p⟩
    · exact .inl h
    · exact .inr (.inl ⟨a, xs, ds, e1, e2, fun z => na (k a z), ha, hl, Paired.mapP p fun _ _ q => Rp.weak k q⟩)
    · exact .inr (.inr ⟨a, xs, ds, e1, e2, fun z => na (k a z), ha, hl, Paired.mapP p fun _ _ q => Rp.weak k q⟩)
theorem Rp.up : ∀ {n : Nat} {v : V} {d : D}, Rp av H n v d → Rp av H (n + 1) v d
  | 0, _, _, h => .inl h
  | n + 1, _, _, h => by
    rcases h with h | ⟨a, xs, ds, e1, e2, na, ha, hl, p⟩ | ⟨a, xs, ds, e1, e2, na, ha, hl, p⟩
    · exact .inl h
    · exact .inr (.inl ⟨a, xs, ds, e1, e2, na, ha, hl, Paired.mapP p fun _ _ q => Rp.up q⟩)
    · exact .inr (.inr ⟨a, xs, ds, e1, e2, na, ha, hl, Paired.mapP p fun _ _ q => Rp.up q⟩)
theorem rp_lst (na : ¬ av a) {xs : List V} (ha : H a = some (.lst xs)) (hl : xs.length < 100000) (p : Paired (Rp av H n) xs ds) : Rp av H (n + 1) (.ref a) (.lst ds) := .inr (.inl ⟨a, xs, ds, rfl, rfl, na, ha, hl, p⟩)
theorem rp_tup (na : ¬ av a) {xs : List V} (ha : H a = some (.tup xs)) (hl : xs.length < 100000) (p : Paired (Rp av H n) xs ds) : Rp av H (n + 1) (.ref a) (.tup ds) := .inr (.inr ⟨a, xs, ds, rfl, rfl, na, ha, hl, p⟩)
theorem rp_str {l : List Nat} (h : ascii l) : Rp av H n (.str (tx l)) (.str l) := flatR_rp n ⟨rfl, h⟩
theorem Rp.tup (h : Rp av H (n + 1) v (.tup ds)) : ∃ a xs, v = .ref a ∧ ¬ av a ∧ H a = some (.tup xs) ∧ xs.length < 100000 ∧ Paired (Rp av H n) xs ds := by
  rcases h with h | ⟨a, xs, es, e1, e2, na, ha, hl, p⟩ | ⟨a, xs, es, e1, e2, na, ha, hl, p⟩
  · cases v <;> cases h
  · cases e2
  · cases e2
    exact ⟨a, xs, e1, na, ha, hl, p⟩
theorem Rp.lst (h : Rp av H (n + 1) v (.lst ds)) : ∃ a xs, v = .ref a ∧ ¬ av a ∧ H a = some (.lst xs) ∧ xs.length < 100000 ∧ Paired (Rp av H n) xs ds := by
  rcases h with h | ⟨a, xs, es, e1, e2, na, ha, hl, p⟩ | ⟨a, xs, es, e1, e2, na, ha, hl, p⟩
  · cases v <;> cases h
  · cases e2
    exact ⟨a, xs, e1, na, ha, hl, p⟩
  · cases e2
theorem Rp.str {l : List Nat} (h : Rp av H n v (.str l)) : v = .str (tx l) ∧ ascii l := by
  have go : flatR v (.str l) → v = .str (tx l) ∧ ascii l := fun h => by
    cases v with
    | str x => exact ⟨by rw [h.1], h.2⟩
    | non => cases h
    | bl _ => cases h
    | int _ => cases h
    | byt _ => cases h
    | flt _ => cases h
    | ref _ => cases h
    | ty _ => cases h
  cases n with
  | zero => exact go h
  | succ n =>
    rcases h with h | ⟨_, _, _, _, e, _⟩ | ⟨_, _, _, _, e, _⟩
    · exact go h
    · cases e
    · cases e
theorem flat_val (h : flatR v d) : flat1 v = true ∧ ∀ w, flatR w d → v = w := by
  cases v with
  | non =>
    cases d <;> first | exact h.elim | skip
    refine ⟨rfl, fun w h' => ?_⟩
    cases w <;> first | exact h'.elim | rfl
  | bl x =>
    cases d <;> first | exact h.elim | skip
    refine ⟨rfl, fun w h' => ?_⟩
    cases w <;> first | exact h'.elim | exact congrArg V.bl ((show _ = _ from h).trans (show _ = _ from h').symm)
  | int x =>
    cases d <;> first | exact h.elim | skip
    refine ⟨rfl, fun w h' => ?_⟩
    cases w <;> first | exact h'.elim | exact congrArg V.int ((show _ = _ from h).trans (show _ = _ from h').symm)
  | str x =>
    cases d <;> first | exact h.elim | skip
    refine ⟨rfl, fun w h' => ?_⟩
    cases w <;> first | exact h'.elim | exact congrArg V.str (h.1.trans h'.1.symm)
  | byt _ => cases d <;> exact h.elim
  | flt _ => cases d <;> exact h.elim
  | ref _ => cases d <;> exact h.elim
  | ty _ => cases d <;> exact h.elim
theorem flat_sam (h : flatR v d) (h' : flatR w d) : flat1 v = true ∧ v = w := ⟨(flat_val h).1, (flat_val h).2 w h'⟩
theorem paired_join {α β γ : Type} {F : α → γ → Prop} {G : β → γ → Prop} {R : α → β → Prop} (f : ∀ a b c, F a c → G b c → R a b) : ∀ {xs : List α} {ys : List β} {zs : List γ}, Paired F xs zs → Paired G ys zs → Paired R xs ys
  | _, _, _, .nil, .nil => .nil
  | _, _, _, .cons r t, .cons r' t' => .cons (f _ _ _ r r') (paired_join f t t')
theorem rp_sam : ∀ {n : Nat} {v w : V} {d : D}, Rp av H n v d → Rp av' H n w d → Sam K H n v w
  | 0, _, _, _, h, h' => flat_sam h h'
  | n + 1, _, _, _, h, h' => by
    rcases h with h | ⟨a, xs, ds, rfl, rfl, na, ha, hl, p⟩ | ⟨a, xs, ds, rfl, rfl, na, ha, hl, p⟩
    · rcases h' with h' | ⟨c, ys, es, rfl, rfl, nc, hc, hm, q⟩ | ⟨c, ys, es, rfl, rfl, nc, hc, hm, q⟩
      · exact .inl (flat_sam h h')
      · rename_i v; cases v <;> cases h
      · rename_i v; cases v <;> cases h
    · obtain ⟨c, ys, rfl, nc, hc, hm, q⟩ := h'.lst
      exact sam_lst ha hc hl (paired_join (F := Rp av H n) (G := Rp av' H n) (R := Sam K H n) (fun _ _ _ r r' => rp_sam r r') p q)
    · obtain ⟨c, ys, rfl, nc, hc, hm, q⟩ := h'.tup
      exact sam_tup ha hc hl (paired_join (F := Rp av H n) (G := Rp av' H n) (R := Sam K H n) (fun _ _ _ r r' => rp_sam r r') p q)
theorem paired_rget {α β : Type} {F : α → β → Prop} : ∀ {xs : List α} {ys : List β} {i : Nat} {y : β}, Paired F xs ys → ys[i]? = some y → ∃ x, xs[i]? = some x ∧ F x y
  | _, _, _, _, .nil, h => by simp at h
  | _, _, 0, _, .cons r _, h => by
    simp at h
    subst h
    exact ⟨_, rfl, r⟩
  | _, _, i + 1, _, .cons _ t, h => by
    obtain ⟨x, e, r⟩ := paired_rget (i := i) t (by simpa using h)
    exact ⟨x, by simpa using e, r⟩
theorem paired_app {α β : Type} {F : α → β → Prop} {xs : List α} {ys : List β} {x : α} {y : β} (p : Paired F xs ys) (r : F x y) : Paired F (xs ++ [x]) (ys ++ [y]) := by
  induction p with
  | nil => exact .cons r .nil
  | cons q _ ih => exact .cons q ih
theorem paired_map {α β γ : Type} {F : α → β → Prop} {f : γ → α} {g : γ → β} (h : ∀ x, F (f x) (g x)) : ∀ zs : List γ, Paired F (zs.map f) (zs.map g)
  | [] => .nil
  | z :: r => .cons (h z) (paired_map h r)
theorem paired_mem {α β : Type} {F : α → β → Prop} : ∀ {xs : List α} {ys : List β} {x : α}, Paired F xs ys → x ∈ xs → ∃ y, y ∈ ys ∧ F x y
  | _, _, _, .nil, h => by cases h
  | _, _, _, .cons r t, h => by
    rcases List.mem_cons.mp h with rfl | h
    · exact ⟨_, List.mem_cons_self, r⟩
    · obtain ⟨y, hy, f⟩ := paired_mem t h
      exact ⟨y, List.mem_cons_of_mem _ hy, f⟩
/-- a tuple of texts -/
def tupS (ls : List (List Nat)) : D := .tup (ls.map D.str)
theorem rp_strs : ∀ {ls : List (List Nat)}, (∀ l ∈ ls, ascii l) → Paired (Rp av H n) (ls.map fun l => V.str (tx l)) (ls.map D.str)
  | [], _ => .nil
  | l :: r, h => .cons (rp_str (h l (by simp))) (rp_strs fun x hx => h x (by simp [hx]))
theorem strs_rp : ∀ {xs : List V} {ls : List (List Nat)}, Paired (Rp av H n) xs (ls.map D.str) → xs = (ls.map fun l => V.str (tx l)) ∧ ∀ l ∈ ls, ascii l
  | [], [], _ => ⟨rfl, fun _ h => nomatch h⟩
  | x :: xs, l :: ls, .cons r t => by
    obtain ⟨e, a⟩ := r.str
    obtain ⟨e2, a2⟩ := strs_rp t
    refine ⟨by rw [e, e2]; rfl, fun k hk => ?_⟩
    rcases List.mem_cons.mp hk with rfl | hk
    · exact a
    · exact a2 k hk
theorem Rp.tupS {ls : List (List Nat)} (h : Rp av H (n + 1) v (LB.tupS ls)) : ∃ a, v = .ref a ∧ ¬ av a ∧ H a = some (.tup (ls.map fun l => V.str (tx l))) ∧ ls.length < 100000 ∧ ∀ l ∈ ls, ascii l := by
  obtain ⟨a, xs, e, na, ha, hl, p⟩ := h.tup
  obtain ⟨rfl, as⟩ := strs_rp p
  exact ⟨a, e, na, ha, by simpa using hl, as⟩
theorem tup_eqv : ∀ ls ms : List (List Nat), PyData.eqvAll (txsD ls) (txsD ms) = decide (ls = ms)
  | [], [] => rfl
  | [], _ :: _ => rfl
  | _ :: _, [] => rfl
  | l :: r, m :: q => by
    show (PyData.eqv (.str (tx l)) (.str (tx m)) && PyData.eqvAll (txsD r) (txsD q)) = _
    rw [tup_eqv r q]
    show ((tx l == tx m) && decide (r = q)) = _
    by_cases h1 : l = m
    · subst h1
      by_cases h2 : r = q
      · subst h2
        simp
      · simp [h2]
    · have : (tx l == tx m) = false := by
        rw [beq_eq_false_iff_ne]
        intro z
        exact h1 (by simpa using congrArg (fun z => z.cps.toList) z)
      rw [this]
      simp [h1]
theorem tup_shaped {ls : List (List Nat)} (h : ∀ l ∈ ls, ascii l) : SeqAt.shaped (.tuple (txsD ls)) = true := by
  unfold SeqAt.shaped
  rw [show PyData.canLay0 (.tuple (txsD ls)) = PyData.canLayAll0 (txsD ls) from rfl, txs_lay h, show PyData.depth (.tuple (txsD ls)) = PyData.depthAll (txsD ls) + 1 from rfl, txs_depth]
  rfl
end
/-! ### names -/
def isNm (x : List Nat) : Prop := 0 < x.length ∧ x.length ≤ 8 ∧ ∀ c ∈ x, 97 ≤ c ∧ c < 123
structure NameL (ns : List (List Nat)) : Prop where
  nd : ns.Nodup
  ok : ∀ x ∈ ns, isNm x
theorem isNm.ascii {x : List Nat} (h : isNm x) : ascii x := fun c hc => by
  have := h.2.2 c hc
  omega
theorem NameL.take {ns : List (List Nat)} (h : NameL ns) (k : Nat) : NameL (ns.take k) := ⟨h.nd.sublist (List.take_sublist k ns), fun x hx => h.ok x (List.mem_of_mem_take hx)⟩
theorem alpha_mem {c : Nat} (h : c ∈ alphabet.cps.toList) : 97 ≤ c ∧ c < 123 := by
  rw [alpha_codes] at h
  obtain ⟨i, hi, rfl⟩ := List.mem_map.mp h
  have := List.mem_range.mp hi
  omega
theorem lett_bd (f b : Int) (k : Nat) : 97 ≤ lett f b k ∧ lett f b k < 123 := by
  unfold lett
  omega
theorem lett_inj {f b : Int} (hb : b ∈ [(1 : Int), 3, 5, 7, 9, 11]) {j k : Nat} (hj : j < 26) (hk : k < 26) (h : lett f b j = lett f b k) : j = k := by
  unfold lett at h
  simp only [List.mem_cons, List.not_mem_nil, or_false] at hb
  rcases hb with rfl | rfl | rfl | rfl | rfl | rfl <;> omega
/-- a letter put into the tail -/
def nmAt (tail : List Nat) (i : Nat) (c : Nat) : List Nat := tail.take i ++ [c] ++ tail.drop i
theorem nmAt_inj {tail : List Nat} {i c d : Nat} (h : nmAt tail i c = nmAt tail i d) : c = d := by
  unfold nmAt at h
  rw [List.append_assoc, List.append_assoc] at h
  have := List.append_cancel_left h
  simpa using this
theorem nmAt_ok {tail : List Nat} {i c : Nat} (ht : tail.length ≤ 7) (ha : ∀ x ∈ tail, 97 ≤ x ∧ x < 123) (hc : 97 ≤ c ∧ c < 123) : isNm (nmAt tail i c) := by
  unfold nmAt isNm
  refine ⟨by simp; omega, by simp; omega, fun x hx => ?_⟩
  simp only [List.append_assoc, List.mem_append, List.mem_singleton] at hx
  rcases hx with hx | rfl | hx
  · exact ha x (List.mem_of_mem_take hx)
  · exact hc
  · exact ha x (List.mem_of_mem_drop hx)
theorem names_ok {tail : List Nat} {i : Nat} {f b : Int} (hb : b ∈ [(1 : Int), 3, 5, 7, 9, 11]) (ht : tail.length ≤ 7) (ha : ∀ x ∈ tail, 97 ≤ x ∧ x < 123) {m : Nat} (hm : m ≤ 26) :
    NameL ((List.range m).map fun k => nmAt tail i (lett f b k)) := by
  refine ⟨?_, fun x hx => ?_⟩
  · refine List.pairwise_map.mpr (List.Pairwise.imp_of_mem ?_ (List.nodup_range (n := m)))
    intro j k hj hk ne e
    have h1 := List.mem_range.mp hj
    have h2 := List.mem_range.mp hk
    exact ne (lett_inj hb (by omega) (by omega) (nmAt_inj e))
  · obtain ⟨k, _, rfl⟩ := List.mem_map.mp hx
    exact nmAt_ok ht ha (lett_bd f b k)
/-! ### data as the library's own, for == and != -/
theorem rp_dp {av : Addr → Prop} {H : Hp} {K : PySem.W.Frag} : ∀ {n : Nat} {v : V} {d : D}, Rp av H n v d → ∃ q, Dp K H v q ∧ PyData.canLay0 q = true ∧ PyData.depth q ≤ n := by
  have flat : ∀ {v : V} {d : D}, flatR v d → ∃ q, Dp K H v q ∧ PyData.canLay0 q = true ∧ PyData.depth q = 0 := by
    intro v d h
    cases v with
    | non => exact ⟨_, .non, rfl, rfl⟩
    | bl x => exact ⟨_, .bl x, rfl, rfl⟩
    | int x => exact ⟨_, .int x, rfl, rfl⟩
    | str x =>
      cases d <;> first | exact h.elim | skip
      refine ⟨_, .str x, ?_, rfl⟩
      rw [h.1]
      exact strOk_tx h.2
    | byt _ => cases d <;> exact h.elim
    | flt _ => cases d <;> exact h.elim
    | ref _ => cases d <;> exact h.elim
    | ty _ => cases d <;> exact h.elim
  intro n
  induction n with
  | zero =>
    intro v d h
    obtain ⟨q, h1, h2, h3⟩ := flat h
    exact ⟨q, h1, h2, by omega⟩
  | succ n ih =>
    intro v d h
    have all : ∀ {xs : List V} {ds : List D}, Paired (Rp av H n) xs ds → ∃ qs, DpAll K H xs qs ∧ PyData.canLayAll0 qs = true ∧ PyData.depthAll qs ≤ n := by
      intro xs ds p
      induction p with
      | nil => exact ⟨[], .nil, rfl, Nat.zero_le _⟩
      | cons r _ ih2 =>
        obtain ⟨q, a1, a2, a3⟩ := ih r
        obtain ⟨qs, b1, b2, b3⟩ := ih2
        refine ⟨q :: qs, .cons a1 b1, ?_, ?_⟩
        · show (PyData.canLay0 q && PyData.canLayAll0 qs) = true
          rw [a2, b2]
          rfl
        · show max (PyData.depth q) (PyData.depthAll qs) ≤ n
          omega
    rcases h with h | ⟨a, xs, ds, rfl, rfl, na, ha, hl, p⟩ | ⟨a, xs, ds, rfl, rfl, na, ha, hl, p⟩
    · obtain ⟨q, h1, h2, h3⟩ := flat h
      exact ⟨q, h1, h2, by omega⟩
    · obtain ⟨qs, b1, b2, b3⟩ := all p
      exact ⟨.list qs, .lst (.of ha) b1, b2, by show PyData.depthAll qs + 1 ≤ n + 1; omega⟩
    · obtain ⟨qs, b1, b2, b3⟩ := all p
      exact ⟨.tuple qs, .tup (.of ha) b1, b2, by show PyData.depthAll qs + 1 ≤ n + 1; omega⟩
theorem rp_dpL {av : Addr → Prop} {H : Hp} {K : PySem.W.Frag} {n : Nat} {xs : List V} {ds : List D} (p : Paired (Rp av H n) xs ds) (hn : n ≤ 60) :
    ∃ qs, DpAll K H xs qs ∧ SeqAt.shaped (.list qs) = true ∧ qs.length = ds.length := by
  have all : ∃ qs, DpAll K H xs qs ∧ PyData.canLayAll0 qs = true ∧ PyData.depthAll qs ≤ n ∧ qs.length = ds.length := by
    induction p with
    | nil => exact ⟨[], .nil, rfl, Nat.zero_le _, rfl⟩
    | cons r _ ih2 =>
      obtain ⟨q, a1, a2, a3⟩ := rp_dp (K := K) r
      obtain ⟨qs, b1, b2, b3, b4⟩ := ih2
      refine ⟨q :: qs, .cons a1 b1, ?_, ?_, by simp [b4]⟩
      · show (PyData.canLay0 q && PyData.canLayAll0 qs) = true
        rw [a2, b2]
        rfl
      · show max (PyData.depth q) (PyData.depthAll qs) ≤ n
        omega
  obtain ⟨qs, b1, b2, b3, b4⟩ := all
  refine ⟨qs, b1, ?_, b4⟩
  unfold SeqAt.shaped
  rw [show PyData.canLay0 (.list qs) = PyData.canLayAll0 qs from rfl, b2, show PyData.depth (.list qs) = PyData.depthAll qs + 1 from rfl]
  exact decide_eq_true (by omega)
theorem eqv_nil (qs : List PyData) : PyData.eqv (.list qs) (.list []) = decide (qs.length = 0) := by
  cases qs with
  | nil => rfl
  | cons q r => rfl
/-! ### a drawn plan -/
structure PD where
  letters : List Nat
  machines : List (List Nat × List Nat)
  rows : List (List Nat × List Nat)
  moves : List (List Nat × List Nat × List (List Nat) × List Nat)
  stands : List (List (List Nat))
def pairD (x : List Nat × List Nat) : D := .tup [.str x.1, .str x.2]
def mvD (x : List Nat × List Nat × List (List Nat) × List Nat) : D := .tup [.str x.1, .str x.2.1, tupS x.2.2.1, .str x.2.2.2]
def standD (ss : List (List Nat)) : D := .lst (ss.map D.str)
def letD (c : Nat) : D := .str [c]
def kLetters : Str := Str.ofString "letters"
def kMachines : Str := Str.ofString "machines"
def kRows : Str := Str.ofString "rows"
def kMoves : Str := Str.ofString "moves"
def kStands : Str := Str.ofString "stands"
def planK (l m r v t : Addr) : List (Key × V) := [(.inr kLetters, .ref l), (.inr kMachines, .ref m), (.inr kRows, .ref r), (.inr kMoves, .ref v), (.inr kStands, .ref t)]
theorem planK_merge {l m r v t : Addr} : mergeK [] (planK l m r v t) = planK l m r v t := by
  rfl
theorem kne {x y : Str} (h : x ≠ y) : ¬ (Sum.inr x : Key) = Sum.inr y := fun z => h (Sum.inr.inj z)
theorem planK_letters {l m r v t : Addr} : valV (planK l m r v t) (.inr kLetters) = some (.ref l) := by rfl
theorem planK_machines {l m r v t : Addr} : valV (planK l m r v t) (.inr kMachines) = some (.ref m) := by
  unfold planK; rw [valV_neg (kne (by decide +kernel)), valV_pos rfl]
theorem planK_rows {l m r v t : Addr} : valV (planK l m r v t) (.inr kRows) = some (.ref r) := by
  unfold planK; rw [valV_neg (kne (by decide +kernel)), valV_neg (kne (by decide +kernel)), valV_pos rfl]
theorem planK_moves {l m r v t : Addr} : valV (planK l m r v t) (.inr kMoves) = some (.ref v) := by
  unfold planK; rw [valV_neg (kne (by decide +kernel)), valV_neg (kne (by decide +kernel)), valV_neg (kne (by decide +kernel)), valV_pos rfl]
theorem planK_stands {l m r v t : Addr} : valV (planK l m r v t) (.inr kStands) = some (.ref t) := by
  unfold planK; rw [valV_neg (kne (by decide +kernel)), valV_neg (kne (by decide +kernel)), valV_neg (kne (by decide +kernel)), valV_neg (kne (by decide +kernel)), valV_pos rfl]
structure PlanAt (av : Addr → Prop) (H : Hp) (d l m r v t : Addr) (p : PD) : Prop where
  nd : ¬ av d
  d : H d = some (.dK (planK l m r v t))
  l : Rp av H 1 (.ref l) (.lst (p.letters.map letD))
  m : Rp av H 2 (.ref m) (.lst (p.machines.map pairD))
  r : Rp av H 2 (.ref r) (.lst (p.rows.map pairD))
  v : Rp av H 3 (.ref v) (.lst (p.moves.map mvD))
  t : Rp av H 2 (.ref t) (.lst (p.stands.map standD))
section
variable {av av' : Addr → Prop} {H H' : Hp} {d l m r v t : Addr} {p : PD}
theorem PlanAt.mv (h : PlanAt av H d l m r v t p) (k : Kp av H H') : PlanAt av H' d l m r v t p := ⟨h.nd, k _ _ h.nd h.d, h.l.mv k, h.m.mv k, h.r.mv k, h.v.mv k, h.t.mv k⟩
theorem PlanAt.weak (h : PlanAt av H d l m r v t p) (k : ∀ a, av' a → av a) : PlanAt av' H d l m r v t p := ⟨fun z => h.nd (k d z), h.d, h.l.weak k, h.m.weak k, h.r.weak k, h.v.weak k, h.t.weak k⟩
theorem PlanAt.gl (h : PlanAt av H d l m r v t p) : DGet H d (.str kLetters) (some (.ref l)) := by have := DGet.k (k := .inr kLetters) h.d; rw [planK_letters] at this; exact this
theorem PlanAt.gm (h : PlanAt av H d l m r v t p) : DGet H d (.str kMachines) (some (.ref m)) := by have := DGet.k (k := .inr kMachines) h.d; rw [planK_machines] at this; exact this
theorem PlanAt.gr (h : PlanAt av H d l m r v t p) : DGet H d (.str kRows) (some (.ref r)) := by have := DGet.k (k := .inr kRows) h.d; rw [planK_rows] at this; exact this
theorem PlanAt.gv (h : PlanAt av H d l m r v t p) : DGet H d (.str kMoves) (some (.ref v)) := by have := DGet.k (k := .inr kMoves) h.d; rw [planK_moves] at this; exact this
theorem PlanAt.gt (h : PlanAt av H d l m r v t p) : DGet H d (.str kStands) (some (.ref t)) := by have := DGet.k (k := .inr kStands) h.d; rw [planK_stands] at this; exact this
end
def Plan (av : Addr → Prop) (H : Hp) (d : Addr) (p : PD) : Prop := ∃ l m r v t, PlanAt av H d l m r v t p
theorem Plan.mv {av : Addr → Prop} {H H' : Hp} {d : Addr} {p : PD} (h : Plan av H d p) (k : Kp av H H') : Plan av H' d p := by
  obtain ⟨l, m, r, v, t, h⟩ := h
  exact ⟨l, m, r, v, t, h.mv k⟩
theorem Plan.weak {av av' : Addr → Prop} {H : Hp} {d : Addr} {p : PD} (h : Plan av H d p) (k : ∀ a, av' a → av a) : Plan av' H d p := by
  obtain ⟨l, m, r, v, t, h⟩ := h
  exact ⟨l, m, r, v, t, h.weak k⟩
/-- all that is told in H -/
def Old (H : Hp) : Addr → Prop := fun a => H a ≠ none
theorem Old.new {H : Hp} {a : Addr} (h : H a = none) : ¬ Old H a := fun z => z h
theorem Old.of {H : Hp} {a : Addr} {o : HO} (h : H a = some o) : Old H a := fun z => by rw [h] at z; cases z
theorem BX.old {b s : Addr} {H H' : Hp} (x : BX b s H H') {a : Addr} (h : Old H a) : Old H' a := by
  by_cases e : a = b
  · subst e
    obtain ⟨_, _, _, _, _, _, e, _⟩ := x.bag
    exact .of e
  · cases q : H a with
    | none => exact absurd q h
    | some o => exact .of (x.keep a o e q)
theorem Bag.old {b s : Addr} {H : Hp} (x : Bag b s H) : Old H b := by
  obtain ⟨_, _, _, _, _, _, e, _⟩ := x
  exact .of e
def wIdle : List Nat := [105, 100, 108, 101]
def wBare : List Nat := [98, 97, 114, 101]
def wSend : List Nat := [115, 101, 110, 100]
def wTake : List Nat := [116, 97, 107, 101]
inductive ActOk (p : PD) : List (List Nat) → Prop
  | idle : ActOk p [wIdle]
  | bare {x : List Nat × List Nat} (h : x ∈ p.rows) : ActOk p [wBare, x.1]
  | send {x : List Nat × List Nat} {c : Nat} (h : x ∈ p.rows) (hc : c ∈ p.letters) : ActOk p [wSend, x.1, [c]]
  | take {x : List Nat × List Nat} {c : Nat} (h : x ∈ p.rows) (hc : c ∈ p.letters) : ActOk p [wTake, x.1, [c]]
theorem ActOk.of {p q : PD} (hr : p.rows = q.rows) (hl : p.letters = q.letters) {a : List (List Nat)} (h : ActOk p a) : ActOk q a := by
  cases h with
  | idle => exact .idle
  | bare h => exact .bare (hr ▸ h)
  | send h hc => exact .send (hr ▸ h) (hl ▸ hc)
  | take h hc => exact .take (hr ▸ h) (hl ▸ hc)
def MvOk (p : PD) (x : List Nat × List Nat × List (List Nat) × List Nat) : Prop :=
  ∃ (i : Nat) (m : List Nat × List Nat) (ss : List (List Nat)), p.machines[i]? = some m ∧ p.stands[i]? = some ss ∧ x.1 = m.1 ∧ x.2.1 ∈ ss ∧ ActOk p x.2.2.1 ∧ x.2.2.2 ∈ ss
/-! ### a plan while it is made -/
structure PB (b cl : Addr) (H0 H : Hp) (d l nm m r v t : Addr) (cs : List Nat) (ns : List (List Nat)) (xm xr xv xt : List V) : Prop where
  bx : BX b cl H0 H
  d : H d = some (.dK (planK l m r v t))
  l : H l = some (.lst (cs.map fun c => V.str (sg c)))
  nm : H nm = some (.lst (ns.map fun l => V.str (tx l)))
  m : H m = some (.lst xm)
  r : H r = some (.lst xr)
  v : H v = some (.lst xv)
  t : H t = some (.lst xt)
structure PAd (H0 : Hp) (d l nm m r v t : Addr) : Prop where
  fd : H0 d = none
  fl : H0 l = none
  fn : H0 nm = none
  fm : H0 m = none
  fr : H0 r = none
  fv : H0 v = none
  ft : H0 t = none
  qdm : d ≠ m
  qdr : d ≠ r
  qdv : d ≠ v
  qdt : d ≠ t
  qlm : l ≠ m
  qlr : l ≠ r
  qlv : l ≠ v
  qlt : l ≠ t
  qnm : nm ≠ m
  qnr : nm ≠ r
  qnv : nm ≠ v
  qnt : nm ≠ t
  qmr : m ≠ r
  qmv : m ≠ v
  qmt : m ≠ t
  qrv : r ≠ v
  qrt : r ≠ t
  qvt : v ≠ t
def avP (H0 : Hp) (m r v t : Addr) : Addr → Prop := fun a => Old H0 a ∨ a = m ∨ a = r ∨ a = v ∨ a = t
section
variable {b cl : Addr} {H0 H H' : Hp} {d l nm m r v t : Addr} {cs : List Nat} {ns : List (List Nat)} {xm xr xv xt : List V}
theorem PB.mv (A : PAd H0 d l nm m r v t) (hB : Bag b cl H0) (h : PB b cl H0 H d l nm m r v t cs ns xm xr xv xt) (x : BX b cl H H') : PB b cl H0 H' d l nm m r v t cs ns xm xr xv xt :=
  ⟨h.bx.trans x, x.keep _ _ (hB.nb A.fd) h.d, x.keep _ _ (hB.nb A.fl) h.l, x.keep _ _ (hB.nb A.fn) h.nm, x.keep _ _ (hB.nb A.fm) h.m, x.keep _ _ (hB.nb A.fr) h.r, x.keep _ _ (hB.nb A.fv) h.v, x.keep _ _ (hB.nb A.ft) h.t⟩
theorem PB.appM (A : PAd H0 d l nm m r v t) (hB : Bag b cl H0) (h : PB b cl H0 H d l nm m r v t cs ns xm xr xv xt) (y : V) : PB b cl H0 (upd H m (.lst (xm ++ [y]))) d l nm m r v t cs ns (xm ++ [y]) xr xv xt :=
  ⟨h.bx.mut hB A.fm, (upd_ne A.qdm).trans h.d, (upd_ne A.qlm).trans h.l, (upd_ne A.qnm).trans h.nm, upd_same, (upd_ne A.qmr.symm).trans h.r, (upd_ne A.qmv.symm).trans h.v, (upd_ne A.qmt.symm).trans h.t⟩
theorem PB.appR (A : PAd H0 d l nm m r v t) (hB : Bag b cl H0) (h : PB b cl H0 H d l nm m r v t cs ns xm xr xv xt) (y : V) : PB b cl H0 (upd H r (.lst (xr ++ [y]))) d l nm m r v t cs ns xm (xr ++ [y]) xv xt :=
  ⟨h.bx.mut hB A.fr, (upd_ne A.qdr).trans h.d, (upd_ne A.qlr).trans h.l, (upd_ne A.qnr).trans h.nm, (upd_ne A.qmr).trans h.m, upd_same, (upd_ne A.qrv.symm).trans h.v, (upd_ne A.qrt.symm).trans h.t⟩
theorem PB.appV (A : PAd H0 d l nm m r v t) (hB : Bag b cl H0) (h : PB b cl H0 H d l nm m r v t cs ns xm xr xv xt) (y : V) : PB b cl H0 (upd H v (.lst (xv ++ [y]))) d l nm m r v t cs ns xm xr (xv ++ [y]) xt :=
  ⟨h.bx.mut hB A.fv, (upd_ne A.qdv).trans h.d, (upd_ne A.qlv).trans h.l, (upd_ne A.qnv).trans h.nm, (upd_ne A.qmv).trans h.m, (upd_ne A.qrv).trans h.r, upd_same, (upd_ne A.qvt.symm).trans h.t⟩
theorem PB.appT (A : PAd H0 d l nm m r v t) (hB : Bag b cl H0) (h : PB b cl H0 H d l nm m r v t cs ns xm xr xv xt) (y : V) : PB b cl H0 (upd H t (.lst (xt ++ [y]))) d l nm m r v t cs ns xm xr xv (xt ++ [y]) :=
  ⟨h.bx.mut hB A.ft, (upd_ne A.qdt).trans h.d, (upd_ne A.qlt).trans h.l, (upd_ne A.qnt).trans h.nm, (upd_ne A.qmt).trans h.m, (upd_ne A.qrt).trans h.r, (upd_ne A.qvt).trans h.v, upd_same⟩
theorem PB.old (h : PB b cl H0 H d l nm m r v t cs ns xm xr xv xt) {a : Addr} (z : avP H0 m r v t a) : Old H a := by
  rcases z with z | rfl | rfl | rfl | rfl
  · exact h.bx.old z
  · exact .of h.m
  · exact .of h.r
  · exact .of h.v
  · exact .of h.t
theorem PB.gl (h : PB b cl H0 H d l nm m r v t cs ns xm xr xv xt) : DGet H d (.str kLetters) (some (.ref l)) := by have := DGet.k (k := .inr kLetters) h.d; rw [planK_letters] at this; exact this
theorem PB.gm (h : PB b cl H0 H d l nm m r v t cs ns xm xr xv xt) : DGet H d (.str kMachines) (some (.ref m)) := by have := DGet.k (k := .inr kMachines) h.d; rw [planK_machines] at this; exact this
theorem PB.gr (h : PB b cl H0 H d l nm m r v t cs ns xm xr xv xt) : DGet H d (.str kRows) (some (.ref r)) := by have := DGet.k (k := .inr kRows) h.d; rw [planK_rows] at this; exact this
theorem PB.gv (h : PB b cl H0 H d l nm m r v t cs ns xm xr xv xt) : DGet H d (.str kMoves) (some (.ref v)) := by have := DGet.k (k := .inr kMoves) h.d; rw [planK_moves] at this; exact this
theorem PB.gt (h : PB b cl H0 H d l nm m r v t cs ns xm xr xv xt) : DGet H d (.str kStands) (some (.ref t)) := by have := DGet.k (k := .inr kStands) h.d; rw [planK_stands] at this; exact this
theorem PB.plan (A : PAd H0 d l nm m r v t) (h : PB b cl H0 H d l nm m r v t cs ns xm xr xv xt) {p : PD} (hl : p.letters = cs) (hc : ∀ c ∈ cs, c < 128) (l1 : cs.length < 1000)
    (pm : Paired (Rp (avP H0 m r v t) H 1) xm (p.machines.map pairD)) (pr : Paired (Rp (avP H0 m r v t) H 1) xr (p.rows.map pairD)) (pv : Paired (Rp (avP H0 m r v t) H 2) xv (p.moves.map mvD)) (pt : Paired (Rp (avP H0 m r v t) H 1) xt (p.stands.map standD))
    (lm : xm.length < 1000) (lr : xr.length < 1000) (lv : xv.length < 1000) (lt : xt.length < 1000) {av : Addr → Prop} (ha : ∀ a, av a → Old H0 a) : PlanAt av H d l m r v t p := by
  have hw : ∀ a, av a → avP H0 m r v t a := fun a z => .inl (ha a z)
  have nn : ∀ a, H0 a = none → ¬ av a := fun a e z => ha a z e
  refine ⟨nn _ A.fd, h.d, rp_lst (nn _ A.fl) h.l (by rw [List.length_map]; omega) ?_, rp_lst (nn _ A.fm) h.m (by omega) (Paired.mapP pm fun _ _ q => q.weak hw), rp_lst (nn _ A.fr) h.r (by omega) (Paired.mapP pr fun _ _ q => q.weak hw), rp_lst (nn _ A.fv) h.v (by omega) (Paired.mapP pv fun _ _ q => q.weak hw), rp_lst (nn _ A.ft) h.t (by omega) (Paired.mapP pt fun _ _ q => q.weak hw)⟩
  subst hl
  have : ∀ l : List Nat, (∀ c ∈ l, c < 128) → Paired (Rp av H 0) (l.map fun c => V.str (sg c)) (l.map letD) := by
    intro l
    induction l with
    | nil => exact fun _ => .nil
    | cons c q ih => exact fun hh => .cons (rp_str (l := [c]) fun x hx => by rw [List.mem_singleton.mp hx]; exact hh c (by simp)) (ih fun x hx => hh x (by simp [hx]))
  exact this _ hc
end
/-- what is drawn as a plan -/
structure PlanOk (p : PD) (ma st ro mo : Nat) : Prop where
  lm : p.machines.length = ma
  ls : p.stands.length = ma
  lr : p.rows.length = ro
  lv : p.moves.length = if 0 < ma then mo else 0
  ll : 0 < p.letters.length ∧ p.letters.length ≤ 3
  lc : ∀ c ∈ p.letters, 97 ≤ c ∧ c < 123
  nl : p.letters.Nodup
  nms : ∃ ns, NameL ns ∧ ns.length = 12 ∧ p.machines.map (·.1) = ns.take ma ∧ p.rows.map (·.1) = (ns.drop 5).take ro
  ms : ∀ (i : Nat) (x : List Nat × List Nat) (ss : List (List Nat)), p.machines[i]? = some x → p.stands[i]? = some ss → x.2 ∈ ss
  ss : ∀ s ∈ p.stands, NameL s ∧ 0 < s.length ∧ s.length ≤ st
  rw : ∀ x ∈ p.rows, x.2.length ≤ 2 ∧ ∀ c ∈ x.2, c ∈ p.letters
  mv : ∀ x ∈ p.moves, MvOk p x
/-! ### the stands of a machine; scenes -/
def foundIn (name : List Nat) (ms : List (List Nat × List Nat × List (List Nat) × List Nat)) : List (List Nat) := ms.flatMap fun x => if x.1 = name then [x.2.1, x.2.2.2] else []
def foundOf (p : PD) (x : List Nat × List Nat) : List (List Nat) := x.2 :: foundIn x.1 p.moves
theorem foundIn_len (name : List Nat) : ∀ ms : List (List Nat × List Nat × List (List Nat) × List Nat), (foundIn name ms).length ≤ 2 * ms.length
  | [] => Nat.le_refl _
  | x :: r => by
    have := foundIn_len name r
    unfold foundIn at this ⊢
    rw [List.flatMap_cons, List.length_append, List.length_cons]
    split
    · show 2 + _ ≤ _
      omega
    · show 0 + _ ≤ _
      omega
structure HeldOk (p : PD) (x : List Nat × List Nat) (ys : List (List Nat)) : Prop where
  mem : ∀ y, y ∈ ys ↔ y ∈ foundOf p x
  nd : ys.Nodup
  srt : sortedS (ys.map tx) = true
  asc : ∀ y ∈ ys, ascii y
  len : ys.length ≤ 900
structure SceneOk (p : PD) (top : Int) (ss ws : List (List Nat)) : Prop where
  ls : ss.length = p.machines.length
  st : ∀ (i : Nat) (s : List Nat) (x : List Nat × List Nat), ss[i]? = some s → p.machines[i]? = some x → s ∈ foundOf p x
  lw : ws.length = p.rows.length
  wd : ∀ w ∈ ws, (w.length : Int) ≤ top ∧ ∀ c ∈ w, c ∈ p.letters
def sceneD (ss ws : List (List Nat)) : D := .tup [tupS ss, tupS ws]
end LB

namespace LB
open PySem PySem.Spec PyProof.Rows L2
abbrev freshSet (w : World) : Obj := { cls := .type "set", dict := none, data := .set #[] 0 (.fresh 0 0 (!w.params.followText "set-order")) }
section
variable {P : Program} {w : World} {A : Around} {E : Value → Shared → Prop} {s : Shared}
/-! ### set.update's loop, by what is kept of the set at Z -/
theorem upd_loop {it Z : Addr} {fp wr : List Addr} {G : Array GenState → Array GenState → Prop} {n : Nat} {Pv : Nat → Value → Prop} {St : Nat → Shared → Prop} {R : Result → Shared → Prop}
    (W : WalksS P w A.in1 it fp wr G n Pv St) (zf : Z ∉ fp) (g0 : Heap) (z0 : g0.get? Z = none) (w0 : ∀ b ∈ wr, g0.get? b = none) (Iv : Nat → Heap → Prop)
    (stay : ∀ i h h', Iv i h → (∀ o, h.get? Z = some o → h'.get? Z = some o) → (∀ b o, g0.get? b = some o → h'.get? b = some o) → Iv i h')
    (add : ∀ i v (s1 : Shared) (Q : Bool → Shared → Prop) (E' : Value → Shared → Prop), i < n → Pv i v → (∀ b o, g0.get? b = some o → s1.heap.get? b = some o) → Iv i s1.heap →
      (∀ b h' tk, s1.toks ≤ tk → Heap.SameBut Z s1.heap h' → Iv (i + 1) h' → Q b { s1 with heap := h', toks := tk }) → wpAny (model P w) A.in1 (setAdd Z v) Q E' s1) :
    ∀ (k i : Nat) (s : Shared), n - i = k → i ≤ n → St i s → (∀ b o, g0.get? b = some o → s.heap.get? b = some o) → Iv i s.heap →
      (∀ s', Moved (Z :: wr) G s s' → Iv n s'.heap → (∀ b o, g0.get? b = some o → s'.heap.get? b = some o) → R (.ok (.ret .none)) s') →
      codeAny (model P w) A (.builtin "set.update.loop" ⟨[.ref Z, .ref it], []⟩) R s := by
  have zw : Z ∉ wr := fun q => zf (W.sub _ q)
  have wz : ∀ b ∈ wr, b ∈ Z :: wr := fun b q => List.mem_cons_of_mem _ q
  have on : ∀ {s s' : Shared}, Moved wr G s s' → (∀ b o, g0.get? b = some o → s.heap.get? b = some o) → ∀ b o, g0.get? b = some o → s'.heap.get? b = some o := fun mv kp b o e =>
    mv.heap b o (fun q => by rw [w0 b q] at e; cases e) (kp b o e)
  intro k
  induction k with
  | zero =>
    intro i s ek ei st kp iv fin
    obtain rfl : i = n := by omega
    refine codeAny_builtin F.entry_set_update_loop ?_; rw [Around.under_plainId F.plain_set_update_loop _]
    show wpAny _ A.in1 (pyNext (.ref it) >>= _) _ _ s
    refine wpAny_bind (W.done s _ _ st fun s' mv => ?_)
    have kp' := on mv kp
    exact wpAny_pure (fin s' (mv.mono wz) (stay _ _ _ iv (fun o e => mv.heap Z o zw e) kp') kp')
  | succ k ih =>
    intro i s ek ei st kp iv fin
    have lt : i < n := by omega
    refine codeAny_builtin F.entry_set_update_loop ?_; rw [Around.under_plainId F.plain_set_update_loop _]
    show wpAny _ A.in1 (pyNext (.ref it) >>= _) _ _ s
    refine wpAny_bind (W.item i s _ _ lt st fun v s' pv st' mv => ?_)
    have kp' := on mv kp
    show wpAny _ A.in1 (holding [v] (setAdd Z v) >>= _) _ _ s'
    refine wpAny_bind (wpAny_holding (add i v s' _ _ lt pv kp' (stay _ _ _ iv (fun o e => mv.heap Z o zw e) kp') fun b h' tk lk sb iv' => ?_))
    have kp2 : ∀ b o, g0.get? b = some o → h'.get? b = some o := fun b o e => (sb.2 b (fun q => by rw [q, z0] at e; cases e)).trans (kp' b o e)
    refine wpAny_pure ⟨plainId_quiet F.plain_set_update_loop _, ih (i + 1) _ (by omega) lt (W.frame _ s' _ _ st' lk fun b q o e => ?_) kp2 iv' fun s2 mv2 iv2 kp3 => ?_⟩
    · rw [sb.2 b (fun q' : b = Z => zf (by rw [← q']; exact q))]; exact e
    · refine fin s2 (Moved.trans W.gtrans ((mv.mono wz).then_heap lk fun b o q e => ?_) mv2) iv2 kp3
      rw [sb.2 b (fun q' : b = Z => q (by rw [q']; exact List.mem_cons_self))]; exact e

set_option maxHeartbeats 3200000 in
/-- set(xs), xs a list: the set at the next free place, by what each add keeps -/
theorem call_set_iv {l : Addr} {items : Array Value} {Q : Value → Shared → Prop} (calm : A.handled = none) (isl : s.heap.IsList l items) (Iv : Nat → Heap → Prop)
    (ini : ∀ h, h.get? s.heap.objs.size = some (freshSet w) → (∀ b o, s.heap.get? b = some o → h.get? b = some o) → Iv 0 h)
    (stay : ∀ i h h', Iv i h → (∀ o, h.get? s.heap.objs.size = some o → h'.get? s.heap.objs.size = some o) → (∀ b o, s.heap.get? b = some o → h'.get? b = some o) → Iv i h')
    (add : ∀ (A' : Around) i v (s1 : Shared) (Q : Bool → Shared → Prop) (E' : Value → Shared → Prop), A'.handled = none → A'.units ≤ A.units + 4 → items[i]? = some v → (∀ b o, s.heap.get? b = some o → s1.heap.get? b = some o) → Iv i s1.heap →
      (∀ b h' tk, s1.toks ≤ tk → Heap.SameBut s.heap.objs.size s1.heap h' → Iv (i + 1) h' → Q b { s1 with heap := h', toks := tk }) → wpAny (model P w) A' (setAdd s.heap.objs.size v) Q E' s1)
    (out : ∀ (h' : Heap) (tk : Nat), Iv items.size h' → (∀ b o, s.heap.get? b = some o → h'.get? b = some o) → Q (.ref s.heap.objs.size) { s with heap := h', toks := tk }) :
    wpAny (model P w) A (call (.type "set") [.ref l]) Q E s := by
  obtain ⟨c, tl, hmro⟩ := F.called_set.mro
  have hmade := F.called_set.made; have hsub := F.called_set.sub
  refine wpAny_call (codeAny_of_tree ?_); show wpAny _ _ (callAny (.type "set") _) _ _ _
  refine wpAny_pure ⟨Code.quiet_builtin _ (by decide +kernel), codeAny_builtin F.entry_type_call ?_⟩; rw [Around.under_plain (weight_type_call_type "set" [.ref l] []) rfl]
  have k1 := F.called_set.notType; have k2 := F.called_set.canCreate; have k3 := F.typeCall_set_1 (.ref l)
  repeat (any_goals (first | assumption | wp_step))
  refine codeAny_mono (code_set_led1 (.ref l) (E := E) (Q₁ := fun obj s₁ => obj = .ref s.heap.objs.size ∧ s₁ = { s with heap := s.heap.push (freshSet w) }) ⟨rfl, rfl⟩) fun r s1 hr => ?_
  cases r with
  | error e => exact hr
  | ok fl =>
    cases fl with
    | ret obj =>
      obtain ⟨rfl, rfl⟩ := hr
      have hZ : (s.heap.push (freshSet w)).get? s.heap.objs.size = some (freshSet w) := Heap.get?_push_size _ rfl
      have hT : Shared.TypeIs { s with heap := s.heap.push (freshSet w) } (.ref s.heap.objs.size) "set" := ⟨_, hZ, rfl⟩
      have k4 := F.called_set.init.lookup; have k5 := F.called_set.init.bind (.ref s.heap.objs.size)
      repeat (any_goals (first | assumption | wp_step))
      refine codeAny_mono (codeAny_call_builtin (R := wants (fun r s₂ => r = .none ∧ ∃ h' tk, s₂ = { s with heap := h', toks := tk } ∧ Iv items.size h' ∧ (∀ b o, s.heap.get? b = some o → h'.get? b = some o)) E) F.called_set.init.plain F.entry_set_init (check_set_init_1 hT ?_)) fun r2 s2 hr2 => ?_
      · obtain ⟨⟨ocls, odict, odata, oslots⟩, hol, hcl, nl, hdl⟩ := isl
        simp only at hcl hdl
        subst hcl hdl
        have hol' : (s.heap.push (freshSet w)).get? l = some { cls := .type "list", dict := odict, data := .seq items nl, slots := oslots } := Heap.get?_push_of_some _ hol
        have k6 := F.sub_list_set; have k7 := F.sub_list_frozenset
        have k8 : (Value.type "list" == Value.type "dict") = false := by decide
        have isl1 : (s.heap.push (freshSet w)).IsList l items := ⟨_, hol', rfl, nl, rfl⟩
        unfold Builtin.«set.__init__» noKeywords Builtin.Frozenset.updateFrom
        generalize hPI : pyIter = PI
        wp_walk; subst hPI
        refine wpAny_pyIter_list isl1 (wpAny_bind (wpAny_runValue ?_))
        have lS : l < s.heap.objs.size := Heap.lt_size hol
        have calm3 : A.in1.in1.in1.handled = none := by simp [calm]
        have neI : l ≠ (s.heap.push (freshSet w)).objs.size := by
          rw [Heap.size_push]; exact Nat.ne_of_lt (Nat.lt_succ_of_lt lS)
        have zf : s.heap.objs.size ∉ [(s.heap.push (freshSet w)).objs.size, l] := by
          rw [Heap.size_push]; simp only [List.mem_cons, List.not_mem_nil, or_false, not_or]
          exact ⟨Nat.ne_of_lt (Nat.lt_succ_self _), Nat.ne_of_gt lS⟩
        have nn : ∀ b, s.heap.objs.size ≤ b → s.heap.get? b = none := fun b hb => by
          cases q : s.heap.get? b with
          | none => rfl
          | some o => exact absurd (Nat.lt_of_lt_of_le (Heap.lt_size q) hb) (Nat.lt_irrefl _)
        have kpp : ∀ b o, s.heap.get? b = some o → ((s.heap.push (freshSet w)).push { cls := .type "list_iterator", data := .fields #[.ref l, .int 0 0] }).get? b = some o := fun b o e => Heap.get?_push_of_some _ (Heap.get?_push_of_some _ e)
        refine upd_loop ((Walks.list calm3 _ l neI items).toS) zf s.heap (nn _ (Nat.le_refl _)) (fun b hb => nn b (by
            rw [List.mem_singleton.mp hb, Heap.size_push]
            exact Nat.le_succ _)) Iv stay (fun i v s3 Q' E' hi pv kp iv q => add _ i v s3 Q' E' (by simp [calm]) ?hu pv kp iv q) (items.size - 0) 0 _ (by omega) (Nat.zero_le _)
          ⟨⟨_, Heap.get?_push_size _ rfl, rfl, rfl⟩, (isl1.push _)⟩ kpp (ini _ (Heap.get?_push_of_some _ hZ) kpp) ?hR
        case hu => first | exact Nat.le_refl _ | (show A.units + _ ≤ A.units + 4; omega) | (show A.units + 1 + 1 + 1 ≤ A.units + 4; omega)
        case hR =>
          intro s' mv iv kp
          obtain ⟨h', g2, d', tk', os'⟩ := s'
          obtain rfl : g2 = s.gens := mv.gens
          obtain rfl : d' = s.drawn := mv.drawn
          obtain rfl : os' = s.os := mv.os
          show wpAny _ _ _ _ _ _
          exact wpAny_pure (wpAny_pure ⟨rfl, h', tk', rfl, iv, kp⟩)
      · cases r2 with
        | error e => exact hr2
        | ok fl2 =>
          cases fl2 with
          | ret r =>
            obtain ⟨rfl, h', tk, rfl, iv, kp⟩ := hr2
            repeat (any_goals (first | assumption | wp_step))
            exact out _ _ iv kp
          | _ => exact hr2.elim
    | _ => exact hr.elim
end
end LB

namespace LB
open PySem PySem.Spec PyProof.Rows L2
/-! ### sets of texts: made of a list, sorted -/
def kx (e : Int × Value) : Str := PyProof.Rows.strOf e.2
structure SetX (P : Program) (w : World) (h : Heap) (a : Addr) (ks : List Str) : Prop where
  ex : ∃ D : Froz.SD, h.get? a = some (Froz.sObj "set" D) ∧ Froz.TxOk P w D ks ∧ Ris D.2.2.place.toList ∧ (w.params.followText "set-order" = true ∨ D.2.2.led = true) ∧ (D.1.toList.map kx).Perm ks ∧ ∀ e ∈ D.1.toList, ∃ x t, e.2 = Value.str x t
  nd : ks.Nodup
theorem tail_ris {ep : Nat} {es : Array (Int × Value)} {t : SetTable} {wd : Bool} (r : Ris t.place.toList) : Ris (Froz.tailTx ep es t wd).2.2.place.toList := by
  unfold Froz.tailTx
  split
  · exact relayAll_ris _ _ _
  · exact r
theorem tail_led {ep : Nat} {es : Array (Int × Value)} {t : SetTable} {wd : Bool} : (Froz.tailTx ep es t wd).2.2.led = t.led := by
  unfold Froz.tailTx
  split
  · exact relayAll_led _ _ _
  · rfl
theorem tail_perm {ep : Nat} {es : Array (Int × Value)} {t : SetTable} {wd : Bool} : (Froz.tailTx ep es t wd).1.toList.Perm es.toList := by
  unfold Froz.tailTx
  split
  · exact relayAll_perm _ _ _
  · exact .refl _
theorem add_ris {D : Froz.SD} {h : Int} {v : Value} (r : Ris D.2.2.place.toList) : Ris (Froz.addTx h v D).2.2.place.toList := by
  unfold Froz.addTx
  refine tail_ris ?_
  by_cases c : (layNew D.2.2 D.1 h v).2.1.plain = true
  · rw [if_pos c]
    exact layNew_ris _ _ _ _ r
  · rw [if_neg c]
    exact layNew_ris _ _ _ _ r
theorem add_led {D : Froz.SD} {h : Int} {v : Value} : (Froz.addTx h v D).2.2.led = D.2.2.led := by
  unfold Froz.addTx
  rw [tail_led]
  by_cases c : (layNew D.2.2 D.1 h v).2.1.plain = true
  · rw [if_pos c]
    exact layNew_led _ _ _ _
  · rw [if_neg c]
    exact layNew_led _ _ _ _
theorem add_perm {D : Froz.SD} {h : Int} {v : Value} : (Froz.addTx h v D).1.toList.Perm ((h, v) :: D.1.toList) := by
  have p := layNew_perm D.2.2 D.1 h v
  rw [Array.toList_push] at p
  exact tail_perm.trans (p.trans (List.perm_append_singleton _ _))
section
variable {P : Program} {w : World} {A : Around} {E : Value → Shared → Prop} {s : Shared}
theorem add_tx {a : Addr} {D : Froz.SD} {l : List Str} {k : Str} {u : Tok} {Q : Bool → Shared → Prop} (ho : s.heap.get? a = some (Froz.sObj "set" D)) (F : Froz.TxOk P w D l) (hb : l.length + 1 < scanBound)
    (q1 : k ∈ l → Q false { s with toks := s.toks + 1 }) (q2 : k ∉ l → Q true { s with heap := s.heap.update a (fun _ => Froz.sObj "set" (Froz.addTx (hashStr w k) (.str k u) D)), toks := s.toks + 1 }) :
    wpAny (model P w) A (setAdd a (.str k u)) Q E s := by
  have ky : (PySem.strKind P w).is k (.str k u) = true := Froz.is_str k u
  unfold setAdd
  refine wpAny_holding (wpAny_bind ((PySem.strKind P w).pyHash ky ?_))
  by_cases hk : k ∈ l
  · obtain ⟨es, ep, t⟩ := D
    have sz : es.size = l.length := F.sz
    obtain ⟨e, he, pe⟩ := (F.mem k).mp hk
    obtain ⟨j, hj⟩ : ∃ j, List.findIdx? (fun e => (PySem.strKind P w).is k e.2) es.toList = some j := by
      cases q : List.findIdx? (fun e => (PySem.strKind P w).is k e.2) es.toList with
      | some j => exact ⟨j, rfl⟩
      | none =>
        have := List.findIdx?_eq_none_iff.mp q e he
        rw [pe] at this
        cases this
    show wpAny (model P w) A (setAddHashed a (.str k u) ((PySem.strKind P w).hash k)) _ _ _
    unfold setAddHashed setAddHashedIn
    refine wpAny_holding (wpAny_bind (wpAny_setState_of (s := { s with toks := s.toks + 1 }) ho rfl F.fit ?_))
    dsimp only
    rw [byScan_of rfl (by show es.size < scanBound; omega) F.el]
    simp only [↓reduceIte]
    unfold setAddByScan
    refine wpAny_bind (wpAny_bind (wpAny_rule (wpAny_bind (wpAny_setScan_of (knd := PySem.strKind P w) (k := k) (s := { s with toks := s.toks + 1 }) ky ho rfl F.fit F.el ?_))))
    rw [hj]
    exact wpAny_pure (wpAny_pure (q1 hk))
  · exact Froz.add_x (s := { s with toks := s.toks + 1 }) ho F hk hb (q2 hk)
theorem setX_fresh {h : Heap} {a : Addr} (e : h.get? a = some (freshSet w)) : SetX P w h a [] :=
  ⟨⟨(#[], 0, .fresh 0 0 (!w.params.followText "set-order")), e, .nil rfl, List.Pairwise.nil, by
    show _ ∨ (!w.params.followText "set-order") = true
    cases w.params.followText "set-order"
    · exact .inr rfl
    · exact .inl rfl, .nil, fun e he => by cases he⟩, .nil⟩
theorem SetX.keep {h h' : Heap} {a : Addr} {ks : List Str} (R : SetX P w h a ks) (k : ∀ o, h.get? a = some o → h'.get? a = some o) : SetX P w h' a ks := by
  obtain ⟨⟨D, e, r⟩, n⟩ := R
  exact ⟨⟨D, k _ e, r⟩, n⟩
/-- set(xs), xs a list of texts -/
theorem call_set_tx {l : Addr} {items : Array Value} {xs : List Str} {Q : Value → Shared → Prop} (calm : A.handled = none) (isl : s.heap.IsList l items) (hx : StrsAre items.toList xs) (few : xs.length + 2 < scanBound)
    (out : ∀ (h' : Heap) (tk : Nat) ks, SetX P w h' s.heap.objs.size ks → (∀ x, x ∈ ks ↔ x ∈ xs) → ks.length ≤ xs.length → (∀ b o, s.heap.get? b = some o → h'.get? b = some o) → Q (.ref s.heap.objs.size) { s with heap := h', toks := tk }) :
    wpAny (model P w) A (call (.type "set") [.ref l]) Q E s := by
  have at_ : ∀ {vs : List Value} {ys : List Str}, StrsAre vs ys → ∀ {i : Nat} {v : Value}, vs[i]? = some v → ∃ y t, ys[i]? = some y ∧ v = .str y t := by
    intro vs ys h
    induction h with
    | nil => intro i v e; simp at e
    | cons y t _ ih =>
      intro i v e
      cases i with
      | zero => simp at e; exact ⟨y, t, rfl, e.symm⟩
      | succ i => simpa using ih (by simpa using e)
  have hlen : items.size = xs.length := by
    have : ∀ {vs : List Value} {ys : List Str}, StrsAre vs ys → vs.length = ys.length := fun h => by
      induction h with
      | nil => rfl
      | cons _ _ _ ih => simp [ih]
    rw [← Array.length_toList]
    exact this hx
  refine call_set_iv calm isl (fun i h => ∃ ks, SetX P w h s.heap.objs.size ks ∧ (∀ x, x ∈ ks ↔ x ∈ xs.take i) ∧ ks.length ≤ i) (fun h e _ => ⟨[], setX_fresh e, fun x => by simp, Nat.le_refl _⟩) (fun i h h' ⟨ks, R, m⟩ k _ => ⟨ks, R.keep k, m⟩) (fun A' i v s1 Q' E' _ _ hv _ ⟨ks, ⟨⟨D, e, F, r, ld, pm, els⟩, nd⟩, m, lk⟩ q => ?_) (fun h' tk ⟨ks, R, m, lk⟩ kp => ?_)
  · obtain ⟨y, t, hy, rfl⟩ := at_ hx (by rw [Array.getElem?_toList]; exact hv)
    have hi : i < xs.length := (List.getElem?_eq_some_iff.mp hy).1
    have tk1 : xs.take (i + 1) = xs.take i ++ [y] := by
      rw [List.take_add_one, hy]
      rfl
    refine add_tx e F (by omega) (fun hk => ?_) (fun hk => ?_)
    · refine q false s1.heap (s1.toks + 1) (Nat.le_succ _) (.refl _ _) ⟨ks, ⟨⟨D, e, F, r, ld, pm, els⟩, nd⟩, fun x => ?_, by omega⟩
      rw [tk1, List.mem_append, List.mem_singleton, ← m x]
      exact ⟨.inl, fun z => z.elim id fun z => by rw [z]; exact hk⟩
    · have pp := add_perm (D := D) (h := hashStr w y) (v := .str y t)
      refine q true _ (s1.toks + 1) (Nat.le_succ _) (Heap.SameBut.update _ _ _) ⟨y :: ks, ⟨⟨_, Froz.get_upd _ e rfl, Froz.add_ok t F, add_ris r, ?_, ?_, ?_⟩, List.nodup_cons.mpr ⟨hk, nd⟩⟩, fun x => ?_, by simp; omega⟩
      · rw [add_led]
        exact ld
      · exact (pp.map kx).trans (.cons y pm)
      · intro e' he'
        rcases List.mem_cons.mp (pp.mem_iff.mp he') with z | z
        · rw [z]
          exact ⟨y, t, rfl⟩
        · exact els e' z
      · rw [tk1, List.mem_append, List.mem_singleton, List.mem_cons, m x]
        exact Or.comm
  · rw [hlen] at m lk
    rw [List.take_length] at m
    exact out h' tk ks R m lk kp
theorem strs_of : ∀ (l : List Value), (∀ v ∈ l, ∃ x t, v = Value.str x t) → StrsAre l (l.map PyProof.Rows.strOf)
  | [], _ => .nil
  | v :: l, h => by
    obtain ⟨x, t, rfl⟩ := h v List.mem_cons_self
    exact .cons x t (strs_of l fun u hu => h u (List.mem_cons_of_mem _ hu))
/-- sorted(a set of texts) -/
theorem sorted_setX {a : Addr} {ks : List Str} {Q : Value → Shared → Prop} (R : SetX P w s.heap a ks) (calm : A.handled = none) (few : ks.length < 4000)
    (q : ∀ s' p (o : Array Value) (c : Nat) (ys : List Str), (∀ b u, s.heap.get? b = some u → s'.heap.get? b = some u) → s'.gens = s.gens → s'.os = s.os → s.heap.objs.size ≤ p →
      s'.heap.get? p = some (seqObj "list" o c) → StrsAre o.toList ys → ys.Perm ks → sortedS ys = true → Q (.ref p) s') :
    wpAny (model P w) A (call (.builtin "sorted") [.ref a]) Q E s := by
  obtain ⟨⟨⟨es, ep, t⟩, e, F, r, ld, pm, els⟩, nd⟩ := R
  have sz : es.size = ks.length := F.sz
  have fw : es.size < scanBound := Nat.lt_of_lt_of_le (by omega : es.size < 4000) (by decide)
  refine Calls.call_function_entry kind_sorted plain_sorted entry_sorted (args_sorted1 _) ?_
  unfold Builtin.«sorted»
  refine wpAny_bind (m := checkCount "sorted" 1 1 _) (wpAny_pure (wpAny_bind (collect_set (A := A.in1) calm ⟨_, e, rfl, rfl⟩ F.fit fw r ld fun s1 vs k1 z1 g1 o1 pv => ?_)))
  have vl : vs.length = ks.length := by rw [pv.length_eq, List.length_map, Array.length_toList]; exact sz
  have hS : StrsAre vs (vs.map PyProof.Rows.strOf) := strs_of vs fun v hv => by
    obtain ⟨e', he', rfl⟩ := List.mem_map.mp (pv.mem_iff.mp hv)
    exact els e' he'
  have pk : (vs.map PyProof.Rows.strOf).Perm ks := by
    have := pv.map PyProof.Rows.strOf
    rw [List.map_map] at this
    exact this.trans pm
  refine wpAny_bind (wpAny_newList ?_ (by rw [vl, sizeLine_eq]; omega))
  have hL : (s1.heap.push (seqObj "list" vs.toArray 0)).get? s1.heap.objs.size = some (seqObj "list" vs.toArray 0) := Heap.get?_push_size _ rfl
  refine wpAny_bind (wpAny_holding (wpAny_call_entry slot_list_sort ⟨_, hL, rfl⟩ entry_list_sort (list_sort_treeKAny strKind_oneLt hL hS.keysOf (fun v₁ v₂ rest z => keyKind_strs (by rw [← z]; exact hS)) (by rw [vl, sizeLine_eq]; omega) fun st' a1 a2 => ⟨_, rfl, ?_⟩) (args_list_sort _)))
  obtain ⟨ys, y1, y2, y3⟩ := sorted_out_str hS a1 a2
  obtain ⟨c, hc⟩ := sortedHeap_at (vs := vs) (out := (arrOf st').map (·.2)) hL
  refine wpAny_pure ⟨_, rfl, q _ s1.heap.objs.size _ c ys (fun b u eb => ?_) g1 o1 z1 hc y1 (y2.trans pk) y3⟩
  have eb1 := k1 b u eb
  have lt := Heap.lt_size eb1
  show (sortedHeap (s1.heap.push (seqObj "list" vs.toArray 0)) s1.heap.objs.size vs _).get? b = some u
  rw [sortedHeap_old (Nat.ne_of_lt lt) (by rw [size_push']; exact Nat.lt_succ_of_lt lt)]
  exact Heap.get?_push_of_some _ eb1
end
/-! ### over the layer -/
def SetXO (P : Program) (w : World) (a : Addr) (ks : List Str) : HO := .ext fun h => SetX P w h a ks
section
variable {X : Cx}
def rSetX (K : PySem.W.Frag) (P : Program) (w : World) : List V → Hp → VK → Prop := fun vs H Q => ∃ (l : Addr) (xs : List Str), vs = [V.ref l] ∧ SqL K H l (xs.map V.str) ∧ xs.length < 2000 ∧
  ∀ a ks, H a = none → ks.Nodup → (∀ x, x ∈ ks ↔ x ∈ xs) → ks.length ≤ xs.length → Q (.ref a) (upd H a (SetXO P w a ks))
theorem cr_setX (hc : X.calm = true) : CallR X (.type "set") (rSetX X.K X.prog X.w) := by
  intro pins s σ H xs us Q I r h
  obtain ⟨l, ys, rfl, hl, few, q⟩ := h
  rw [Vals.ref1 r]
  obtain ⟨its, rv, pl, hz⟩ := I.list hl
  refine call_set_tx (P := X.prog) (w := X.w) (I.ok.hd hc) pl.isList (by simpa using rv.strs) (Nat.lt_of_lt_of_le (by omega : ys.length + 2 < 2002) (by decide)) fun h' tk ks R m lk kp => ?_
  have okS : ObjOk X.prog X.w (upd H s.heap.objs.size (SetXO X.prog X.w s.heap.objs.size ks)) h' s.heap.objs.size (SetXO X.prog X.w s.heap.objs.size ks) := by
    obtain ⟨⟨D, e, _⟩, _⟩ := id R
    exact ⟨R, ⟨_, e⟩, fun g1 g2 R1 k => R1.keep k⟩
  exact ⟨.ref s.heap.objs.size, _, I.laid (t' := tk) kp (Nat.le_refl _) okS, rfl, q _ ks (I.hok.fresh (Nat.le_refl _)) R.nd m lk⟩
def rSortX (P : Program) (w : World) : List V → Hp → VK → Prop := fun vs H Q => ∃ (a : Addr) (ks : List Str), vs = [V.ref a] ∧ H a = some (SetXO P w a ks) ∧ ks.length < 2000 ∧
  ∀ ys p, ys.Perm ks → sortedS ys = true → H p = none → Q (.ref p) (upd H p (.lst (ys.map V.str)))
theorem cr_sortX (hc : X.calm = true) : CallR X (.builtin "sorted") (rSortX X.prog X.w) := by
  intro pins s σ H vs us Q I r h
  obtain ⟨a, ks, rfl, ha, few, q⟩ := h
  have R : SetX X.prog X.w s.heap a ks := (I.hok a _ ha).1
  rw [Vals.ref1 r]
  refine sorted_setX R (I.ok.hd hc) (by omega) fun s' p o c ys k g os hp hg hS pm srt => ?_
  have hlen : (ys.map V.str).length ≤ sizeLine := by rw [List.length_map, pm.length_eq, sizeLine_eq]; omega
  have hn : H p = none := I.hok.fresh hp
  have J : Inv X pins σ (upd H p (.lst (ys.map V.str))) { s with heap := s'.heap, gens := s'.gens, drawn := s'.drawn, toks := s'.toks } :=
    I.call (ch := []) (Un.laid k hp hn) (I.hok.laid k hp ⟨hlen, o.toList, c, vals_of_strs hS, hg⟩) (by rw [g]; exact I.bare) (fun _ z => nomatch z)
  have e : s' = { s with heap := s'.heap, gens := s'.gens, drawn := s'.drawn, toks := s'.toks } := by
    cases s'; cases s; cases os; rfl
  rw [e]
  exact ⟨.ref p, _, J, rfl, q ys p pm srt hn⟩
end
end LB

namespace LB
open PySem PySem.Spec PyProof.Rows L2
/-! ### list(text), text[::-1] -/
theorem vals_signs {l : List Nat} {acc : List Value} (hn : acc.length = l.length) (h : ∀ (j : Nat) v, acc[j]? = some v → ∃ c u, l[j]? = some c ∧ v = Value.str ⟨#[c]⟩ u) : Vals (l.map fun c => V.str (sg c)) acc := by
  induction l generalizing acc with
  | nil =>
    cases acc with
    | nil => exact .nil
    | cons _ _ => cases hn
  | cons c r ih =>
    cases acc with
    | nil => cases hn
    | cons v q =>
      obtain ⟨c', u, e1, e2⟩ := h 0 v rfl
      cases (Option.some.inj e1)
      refine .cons ⟨u, e2⟩ (ih (by simpa using hn) fun j w hj => ?_)
      simpa using h (j + 1) w (by simpa using hj)
section
variable {X : Cx}
theorem call_list_tx (hc : X.calm = true) : CallR X (.type "list") (fun xs H Q => ∃ l : List Nat, xs = [.str (tx l)] ∧ l.length < 100000 ∧ ∀ p, H p = none → Q (.ref p) (upd H p (.lst (l.map fun c => V.str (sg c))))) := by
  intro pins s σ H xs us Q I r h
  obtain ⟨l, rfl, hl, q⟩ := h
  rcases r with _ | ⟨r1, rr⟩
  cases rr
  obtain ⟨t, rfl⟩ := r1
  have hs : (tx l).cps.size = l.length := List.size_toArray ..
  refine call_list_str (I.ok.hd hc) (tx l) t (fun h' tk acc c kp e it => ?_) (by rw [hs]; exact Nat.le_trans (Nat.le_of_lt hl) (by decide))
  have rv : Vals (l.map fun c => V.str (sg c)) acc.toList := vals_signs (by rw [Array.length_toList, it.1, hs]) fun j v hj => by
    obtain ⟨d, u, e1, e2⟩ := it.2 j v (by rw [← Array.getElem?_toList]; exact hj)
    exact ⟨d, u, by rw [← Array.getElem?_toList] at e1; exact e1, e2⟩
  exact ⟨.ref s.heap.objs.size, _, I.laid (t' := tk) kp (Nat.le_refl _) (show ObjOk X.prog X.w _ h' _ (.lst _) from ⟨by rw [List.length_map]; exact Nat.le_trans (Nat.le_of_lt hl) (by decide), acc.toList, c, rv, by simpa using e⟩), rfl, q _ (I.hok.fresh (Nat.le_refl _))⟩
def tRevS (te : TE) : TE := fun σ H Q => te σ H fun x H1 => ∃ l : List Nat, x = .str (tx l) ∧ l.length < 100000 ∧ Q (.str (tx l.reverse)) H1
theorem rev_pick (l : List Nat) : (⟨((Builtin.Str.strSliceIndices none none (-1) (tx l).length).filterMap ((tx l).cps[·]?)).toArray⟩ : Str) = tx l.reverse := by
  have e : Builtin.Str.strSliceIndices none none (-1) (tx l).length = (List.range (tx l).cps.size).reverse := by
    rw [← PySem.W.krv_range, ← PySem.W.krv_sliceRange]
    rfl
  rw [e, List.filterMap_reverse, PySem.W.krv_all]
theorem pe_revS {e : Expr} {te : TE} {k : Nat} {p1 p2 p3 pos : Pos} (he : PE X e te) : PE X (.Subscript e (.Slice none none (some (.UnaryOp .USub (.Constant (.int 1) k p1) p2)) p3) pos) (tRevS te) := by
  refine ⟨fun pins s σ H Q I h => ?_⟩
  refine Subscript_ (thn (he.run pins s σ H _ I h) fun v s1 ⟨x, H1, I1, r1, l, ex, hl, q⟩ => ?_)
  subst ex
  obtain ⟨t, rfl⟩ := r1
  have hst : PO X (some (.UnaryOp .USub (.Constant (.int 1) k p1) p2)) (tPart (tUn (rU fun i => .int (-i)) (tC (.int 1)))) := po_some (pe_un un_neg pe_int)
  refine wpAny_Slice (thn (po_none.run pins s1 σ H1 (fun o G => o = none ∧ G = H1) I1 ⟨rfl, rfl⟩) fun vl s2 ⟨o2, H2, I2, pl, eo2, eh2⟩ => ?_)
  subst eo2 eh2
  refine thn (po_none.run pins s2 σ H2 (fun o G => o = none ∧ G = H2) I2 ⟨rfl, rfl⟩) fun vu s3 ⟨o3, H3, I3, pu, eo3, eh3⟩ => ?_
  subst eo3 eh3
  refine thn (hst.run pins s3 σ H3 (fun o G => o = some (-1) ∧ G = H3) I3 ⟨1, rfl, -1, rfl, rfl, rfl⟩) fun vs s4 ⟨o4, H4, I4, ps, eo4, eh4⟩ => ?_
  subst eo4 eh4
  obtain ⟨l1, rfl, el1⟩ := IsPart.raw pl
  obtain ⟨u1, rfl, eu1⟩ := IsPart.raw pu
  obtain ⟨w1, rfl, ew1⟩ := IsPart.raw ps
  have I5 : Inv X pins σ H4 { s4 with heap := s4.heap.push { cls := .type "slice", data := .fields #[partValue l1, partValue u1, partValue w1] } } := I4.kept (t' := s4.toks) fun b ob z => Heap.get?_push_of_some _ z
  refine tail_any (ops := [.ref s4.heap.objs.size, .str (tx l) t]) (typeIs_str _ _ _) F.slot_str_getitem.lookup ?_ (by with_unfolding_all rfl)
  refine wpAny_getItem_str_slice (l := l1) (u := u1) (st := w1) ⟨_, Heap.get?_push_size _ rfl, rfl, rfl⟩ (by rw [ew1]; rfl) ?_
  unfold sliceMade slicePicked
  rw [el1, eu1, ew1]
  have c0 : ¬ (((some (-1 : Int)).getD 1 == 1 && (Builtin.Str.strSliceIndices none none ((some (-1 : Int)).getD 1) (tx l).length).length == (tx l).length) = true) := by
    intro z
    rw [Bool.and_eq_true] at z
    exact absurd z.1 (by decide)
  rw [if_neg c0]
  show Made.post (Made.str ⟨((Builtin.Str.strSliceIndices none none (-1) (tx l).length).filterMap ((tx l).cps[·]?)).toArray⟩) _ _
  rw [rev_pick]
  refine ⟨?_, .str _, H4, I5.tok _, ⟨_, rfl⟩, q⟩
  rw [tx_len, List.length_reverse]
  exact Nat.le_trans (Nat.le_of_lt hl) (by decide)
end
end LB

namespace LB
open PySem PySem.Spec PyProof.Rows L2
/-! ### sets of nested tuples: what the search asks of a key -/
section
variable {P : Program} {w : World}
def NoCls (P : Program) (w : World) (n : Nat) (s : Shared) (v : Value) : Prop :=
  ∀ (A : Around) (E : Value → Shared → Prop) (Q : Bool → Shared → Prop), Q false s → wpAny (model P w) A (ofAClassStatement n v) Q E s
def AnyHb (P : Program) (w : World) (n : Nat) (s : Shared) (v : Value) : Prop :=
  ∀ (A : Around) (E : Value → Shared → Prop) (Q : Bool → Shared → Prop), (∀ b, Q b s) → wpAny (model P w) A (hashByValue n v) Q E s
theorem noCls_val {n : Nat} {s : Shared} {v : Value} (e : ofAClassStatement n v = pure false) : NoCls P w n s v := fun A E Q q => by
  rw [e]
  exact wpAny_pure q
theorem anyHb_val {n : Nat} {s : Shared} {v : Value} {b : Bool} (e : hashByValue n v = pure b) : AnyHb P w n s v := fun A E Q q => by
  rw [e]
  exact wpAny_pure (q b)
theorem noCls_tup {n : Nat} {s : Shared} {a : Addr} {o : Obj} {vs : Array Value} {m : Nat} (ho : s.heap.get? a = some o) (hc : o.cls = .type "tuple") (hd : o.data = .seq vs m) (all : ∀ v ∈ vs.toList, NoCls P w n s v) : NoCls P w (n + 1) s (.ref a) := fun A E Q q => by
  have ty : s.TypeIs (.ref a) "tuple" := ⟨o, ho, hc⟩
  unfold ofAClassStatement
  refine wpAny_bind (wpAny_typeOf ty ?_)
  dsimp only
  have e : (("tuple" : String) == "tuple") = true := by decide
  simp only [e, if_true, Bool.not_true, Bool.false_eq_true, if_false]
  refine wpAny_bind (wpAny_pure ?_)
  simp only [Bool.not_true, Bool.false_eq_true, if_false]
  refine wpAny_bind (wpAny_seqItems ho hd (wpAny_bind ?_))
  show wpAny _ _ (forIn vs _ _) _ _ s
  rw [← Array.forIn_toList]
  refine wpAny_forIn_list _ (fun left r z => r.1 = none ∧ z = s ∧ ∀ v ∈ left, NoCls P w n s v) _ (fun v left r z ⟨hr, ez, al⟩ => ?_) (fun r z ⟨hr, ez, _⟩ => ?_) _ _ ⟨rfl, rfl, all⟩
  · subst ez
    refine wpAny_bind (al v List.mem_cons_self _ _ _ ?_)
    rw [if_neg Bool.false_ne_true]
    exact wpAny_pure ⟨rfl, rfl, fun u hu => al u (List.mem_cons_of_mem _ hu)⟩
  · subst ez
    obtain ⟨r1, r2⟩ := r
    cases hr
    exact wpAny_pure q
theorem anyHb_tup {n : Nat} {s : Shared} {a : Addr} {o : Obj} {vs : Array Value} {m : Nat} (ho : s.heap.get? a = some o) (hc : o.cls = .type "tuple") (hd : o.data = .seq vs m) (all : ∀ v ∈ vs.toList, AnyHb P w n s v) : AnyHb P w (n + 1) s (.ref a) := fun A E Q q => by
  have ty : s.TypeIs (.ref a) "tuple" := ⟨o, ho, hc⟩
  unfold hashByValue
  refine wpAny_bind (wpAny_specialOf ty F.slot_tuple_hash.lookup ?_)
  show wpAny _ _ (seqItems? (.ref a) >>= _) _ _ s
  refine wpAny_bind (wpAny_seqItems ho hd (wpAny_bind ?_))
  show wpAny _ _ (forIn vs _ _) _ _ s
  rw [← Array.forIn_toList]
  refine wpAny_forIn_list _ (fun left r z => z = s ∧ (∀ v ∈ left, AnyHb P w n s v)) _ (fun v left r z ⟨ez, al⟩ => ?_) (fun r z ⟨ez, _⟩ => ?_) _ _ ⟨rfl, all⟩
  · subst ez
    refine wpAny_bind (al v List.mem_cons_self _ _ _ fun b => ?_)
    cases b
    · simp only [Bool.not_false, if_true]
      exact wpAny_pure (wpAny_pure (q false))
    · simp only [Bool.not_true, Bool.false_eq_true, if_false]
      exact wpAny_pure ⟨rfl, fun u hu => al u (List.mem_cons_of_mem _ hu)⟩
  · subst ez
    obtain ⟨r1, r2⟩ := r
    cases r1 with
    | none => exact wpAny_pure (q true)
    | some b => exact wpAny_pure (q b)
mutual
theorem noCls_key : ∀ (k : NestedKey) (v : Value) (n : Nat) (s : Shared), NestedIs s.heap k v → k.depth ≤ n → NoCls P w n s v
  | .none, _, n, s, x, _ => by cases x; exact noCls_val (by cases n <;> rfl)
  | .num i, _, n, s, x, _ => by cases x <;> exact noCls_val (by cases n <;> rfl)
  | .text y, _, n, s, x, _ => by cases x; exact noCls_val (by cases n <;> rfl)
  | .tup ks, _, n, s, x, hn => by
    cases x with
    | tup h1 h2 h3 h4 =>
      rw [NestedKey.depth] at hn
      obtain ⟨n, rfl⟩ : ∃ n', n = n' + 1 := ⟨n - 1, by omega⟩
      exact noCls_tup h1 h2 h3 (noCls_keys ks _ n s h4 (by omega))
theorem noCls_keys : ∀ (ks : List NestedKey) (vs : List Value) (n : Nat) (s : Shared), NestedAll s.heap ks vs → NestedKey.depthAll ks ≤ n → ∀ v ∈ vs, NoCls P w n s v
  | [], _, _, _, x, _, v, hv => by cases x; cases hv
  | k :: ks, _, n, s, x, hn, v, hv => by
    cases x with
    | cons x y =>
      rw [NestedKey.depthAll] at hn
      rcases List.mem_cons.mp hv with rfl | hv
      · exact noCls_key k _ n s x (by omega)
      · exact noCls_keys ks _ n s y (by omega) v hv
end
mutual
theorem anyHb_key : ∀ (k : NestedKey) (v : Value) (n : Nat) (s : Shared), NestedIs s.heap k v → k.depth ≤ n → AnyHb P w n s v
  | .none, _, n, s, x, _ => by cases x; exact anyHb_val (b := true) (by cases n <;> rfl)
  | .num i, _, n, s, x, _ => by cases x <;> exact anyHb_val (b := true) (by cases n <;> rfl)
  | .text y, _, n, s, x, _ => by cases x; exact anyHb_val (b := false) (by cases n <;> rfl)
  | .tup ks, _, n, s, x, hn => by
    cases x with
    | tup h1 h2 h3 h4 =>
      rw [NestedKey.depth] at hn
      obtain ⟨n, rfl⟩ : ∃ n', n = n' + 1 := ⟨n - 1, by omega⟩
      exact anyHb_tup h1 h2 h3 (anyHb_keys ks _ n s h4 (by omega))
theorem anyHb_keys : ∀ (ks : List NestedKey) (vs : List Value) (n : Nat) (s : Shared), NestedAll s.heap ks vs → NestedKey.depthAll ks ≤ n → ∀ v ∈ vs, AnyHb P w n s v
  | [], _, _, _, x, _, v, hv => by cases x; cases hv
  | k :: ks, _, n, s, x, hn, v, hv => by
    cases x with
    | cons x y =>
      rw [NestedKey.depthAll] at hn
      rcases List.mem_cons.mp hv with rfl | hv
      · exact anyHb_key k _ n s x (by omega)
      · exact anyHb_keys ks _ n s y (by omega) v hv
end
end
/-- the tuple at a is the key k -/
abbrev NIs (P : Program) (w : World) (h : Heap) (k : NestedKey) (a : Addr) : Prop := (nestedKind P w).is h k a
section
variable {P : Program} {w : World} {A : Around} {E : Value → Shared → Prop} {s : Shared}
theorem unseen {k : NestedKey} {b : Addr} {Q : Bool → Shared → Prop} (hb : NIs P w s.heap k b) {ys : List Value} (hy : ∀ y ∈ ys, ∃ k' c, y = Value.ref c ∧ NIs P w s.heap k' c) (q : Q false s) :
    wpAny (model P w) A (searchCouldBeSeen (.ref b) ys) Q E s := by
  unfold searchCouldBeSeen
  refine wpAny_bind (wpAny_forIn_list _ (fun left r z => r.1 = none ∧ z = s ∧ ∀ y ∈ left, ∃ k' c, y = Value.ref c ∧ NIs P w s.heap k' c) _ (fun v left r z ⟨hr, ez, al⟩ => ?_) (fun r z ⟨hr, ez, _⟩ => ?_) _ _ ⟨rfl, rfl, hy⟩)
  · subst ez
    obtain ⟨k', c, rfl, hc⟩ := al v List.mem_cons_self
    have al' := fun u (hu : u ∈ left) => al u (List.mem_cons_of_mem _ hu)
    dsimp only
    by_cases same : (b == c || (carriedByValue (.ref b) && carriedByValue (.ref c))) = true
    · exact wp_if_pos same (wpAny_pure ⟨rfl, rfl, al'⟩)
    refine wp_if_neg same (wpAny_bind ((nestedKind P w).quiet hb ?_))
    refine wp_if_neg Bool.false_ne_true (wpAny_bind ((nestedKind P w).quiet hc ?_))
    refine wp_if_neg Bool.false_ne_true (wpAny_bind (noCls_key _ _ _ _ hb.1 hb.2 _ _ _ ?_))
    refine wp_if_neg Bool.false_ne_true (wpAny_bind (noCls_key _ _ _ _ hc.1 hc.2 _ _ _ ?_))
    exact wp_if_neg Bool.false_ne_true (wpAny_pure ⟨rfl, rfl, al'⟩)
  · subst ez
    obtain ⟨r1, r2⟩ := r
    cases hr
    exact wpAny_pure q
end
/-! ### the table's way, step by step -/
abbrev stp (m : Nat) (g : Int) (c : Nat) : SetTable.Probe := nth m (runAt m (SetTable.bits g % (m + 1)) (SetTable.bits g)) c
theorem nth_clean (m : Nat) : ∀ (n : Nat) (p : SetTable.Probe), p.dummy = none → (nth m p n).dummy = none
  | 0, _, e => e
  | n + 1, p, e => nth_clean m n (adv m p) (by unfold adv; split <;> exact e)
theorem probe_from {t : SetTable} {hs : List Int} (T : TabOk t hs) (at_ : Nat → Int) (g : Int) {c K : Nat} (le : c ≤ K) (lt : K < 10 * SetTable.turns t.mask) (out : way t.mask g K ∉ t.place.toList) (ins : ∀ d, d < K → way t.mask g d ∈ t.place.toList) :
    (∃ d i, c ≤ d ∧ d < K ∧ t.place.toList[i]? = some (way t.mask g d) ∧ at_ i = g ∧ (∀ d' i', c ≤ d' → d' < d → t.place.toList[i']? = some (way t.mask g d') → at_ i' ≠ g) ∧
      t.probe at_ g (stp t.mask g c) = some (.candidate (way t.mask g d) i (stp t.mask g (d + 1)))) ∨
    ((∀ d' i', c ≤ d' → d' < K → t.place.toList[i']? = some (way t.mask g d') → at_ i' ≠ g) ∧ t.probe at_ g (stp t.mask g c) = some (.empty (way t.mask g K) none)) := by
  have sh : ∀ q, nth t.mask (stp t.mask g c) q = stp t.mask g (c + q) := fun q => (nth_add t.mask c _ q).symm
  have wy : ∀ q, (nth t.mask (stp t.mask g c) q).j = way t.mask g (c + q) := fun q => congrArg SetTable.Probe.j (sh q)
  have lastE : c + (K - c) = K := by omega
  rcases go_spec t T.ris T.dm at_ g (10 * SetTable.turns t.mask) (K - c) (stp t.mask g c) (nth_clean _ _ _ rfl) (by omega) (fun q hq => by rw [wy]; exact ins _ (by omega)) (by rw [wy, lastE]; exact out) with ⟨q, i, h1, h2, h3, h4, h5⟩ | ⟨h4, h5⟩
  · rw [wy] at h2
    rw [wy, sh] at h5
    refine .inl ⟨c + q, i, by omega, by omega, h2, h3, fun d' i' a1 a2 a3 => h4 (d' - c) i' (by omega) ?_, h5⟩
    rw [wy, show c + (d' - c) = d' by omega]
    exact a3
  · rw [wy, lastE] at h5
    refine .inr ⟨fun d' i' a1 a2 a3 => h4 (d' - c) i' (by omega) ?_, h5⟩
    rw [wy, show c + (d' - c) = d' by omega]
    exact a3
theorem tab_plain {t : SetTable} {hs : List Int} {b : Bool} (T : TabOk t hs) : TabOk { t with plain := b } hs := ⟨T.ris, T.dm, T.sz, T.mok, T.bd, T.reach⟩
/-! ### the set -/
def nrow (w : World) (p : Addr × NestedKey) : Int × Value := (p.2.hash w, .ref p.1)
structure NS (P : Program) (w : World) (h : Heap) (a : Addr) (L : List (Addr × NestedKey)) (es : Array (Int × Value)) (ep : Nat) (t : SetTable) : Prop where
  ob : ∃ o, h.get? a = some o ∧ o.ExactSet ∧ o.data = .set es ep t
  rows : es.toList = L.map (nrow w)
  tab : TabOk t (L.map fun p => p.2.hash w)
  nd : (L.map Prod.snd).Nodup
  led : w.params.followText "set-order" = true ∨ t.led = true
  free : L.length * 5 < t.mask * 3
  few : L.length < 64
def NKs (P : Program) (w : World) (h : Heap) (L : List (Addr × NestedKey)) : Prop := ∀ p ∈ L, NIs P w h p.2 p.1
section
variable {P : Program} {w : World} {A : Around} {E : Value → Shared → Prop} {s : Shared} {h h' : Heap} {a : Addr} {L : List (Addr × NestedKey)} {es : Array (Int × Value)} {ep : Nat} {t : SetTable}
theorem rows_size (e : es.toList = L.map (nrow w)) : es.size = L.length := by
  rw [← Array.length_toList, e, List.length_map]
theorem rows_at (e : es.toList = L.map (nrow w)) {i : Nat} {p : Addr × NestedKey} (q : L[i]? = some p) : es[i]? = some (p.2.hash w, .ref p.1) := by
  rw [← Array.getElem?_toList, e, List.getElem?_map, q]
  rfl
theorem fits_of {n : Nat} (hp : t.place.size = n) (hd : t.dummies = #[]) (hm : n ≤ t.mask) : t.fits n = true := by
  unfold SetTable.fits SetTable.fill
  rw [hd, Bool.and_eq_true, beq_iff_eq, decide_eq_true_eq]
  exact ⟨hp, by show t.place.size + 0 ≤ t.mask; omega⟩
theorem NS.pl (R : NS P w h a L es ep t) : t.place.size = es.size := by
  have := R.tab.sz
  rw [List.length_map] at this
  rw [this, rows_size R.rows]
theorem NS.fits (R : NS P w h a L es ep t) : t.fits es.size = true :=
  fits_of R.pl R.tab.dm (by have := R.free; rw [rows_size R.rows]; omega)
theorem NS.idx (R : NS P w h a L es ep t) {i j : Nat} (e : t.place.toList[i]? = some j) : ∃ p, L[i]? = some p := by
  have h1 := (List.getElem?_eq_some_iff.mp e).1
  rw [Array.length_toList, R.pl, rows_size R.rows] at h1
  exact ⟨_, List.getElem?_eq_getElem h1⟩
theorem mask_gw (T : MaskOk t.mask) : ¬ t.gaveWay = true := by
  unfold SetTable.gaveWay
  rw [mask_odd T]
  decide
/-- the search from step c on -/
theorem nfind (R : NS P w s.heap a L es ep t) (ks : NKs P w s.heap L) {x : Addr} {k : NestedKey} (hx : NIs P w s.heap k x) (hu : A.units + 8 < cLine) {K : Nat} (lt : K < 10 * SetTable.turns t.mask)
    (out : way t.mask (k.hash w) K ∉ t.place.toList) (ins : ∀ d, d < K → way t.mask (k.hash w) d ∈ t.place.toList) {Q : SetFound → Shared → Prop}
    (yes : k ∈ L.map Prod.snd → Q (.there none) s) (no : k ∉ L.map Prod.snd → Q (.free (way t.mask (k.hash w) K) false) s) :
    ∀ (f c : Nat) (stand : Option SetTable.Probe), stand.getD (t.probeStart (k.hash w)) = stp t.mask (k.hash w) c → c ≤ K → K < f + c →
      (∀ (i : Nat) (p : Addr × NestedKey), L[i]? = some p → p.2 = k → ∃ d, c ≤ d ∧ d < K ∧ t.place.toList[i]? = some (way t.mask (k.hash w) d)) →
      wpAny (model P w) A (setSearchFrom a (.ref x) (k.hash w) true f stand) Q E s := by
  intro f
  induction f with
  | zero => intro c _ _ h1 h2 _; omega
  | succ f ih =>
    intro c stand est le ltf sits
    obtain ⟨o, ho, hex, hd⟩ := R.ob
    have hv : ∀ {i : Nat} {p : Addr × NestedKey}, L[i]? = some p → (es[i]?.map (·.1)).getD 0 = p.2.hash w := fun q => by rw [rows_at R.rows q]; rfl
    rw [setSearchFrom_succ]
    refine wpAny_bind (wpAny_setState_of ho hd R.fits ?_)
    dsimp only
    refine wp_if_neg (mask_gw R.tab.mok) ?_
    try refine wpAny_bind (wpAny_pure ?_)
    rw [est]
    rcases probe_from R.tab (fun i => (es[i]?.map (·.1)).getD 0) (k.hash w) le lt out ins with ⟨d, i, d1, d2, d3, d4, d5, d6⟩ | ⟨d5, d6⟩
    · rw [d6]
      dsimp only
      obtain ⟨p, hp⟩ := R.idx d3
      have pm : p ∈ L := List.mem_of_getElem? hp
      have lv : t.slot (way t.mask (k.hash w) d) = .live i := slot_live R.tab.ris d3
      have body : wpAny (model P w) A (searchRest a (.ref x) (k.hash w) true f es t (way t.mask (k.hash w) d) i (stp t.mask (k.hash w) (d + 1))) Q E s := by
        unfold searchRest
        rw [rows_at R.rows hp]
        dsimp only
        refine wpAny_bind (wpAny_holding ((nestedKind P w).eqBool hu (ks p pm) hx ?_))
        refine wpAny_bind (wpAny_setState_of ho hd R.fits ?_)
        dsimp only
        by_cases ek : p.2 = k
        · refine wp_if_pos (by simp [ek]) (wpAny_pure (yes ?_))
          rw [← ek]
          exact List.mem_map_of_mem pm
        · refine wp_if_neg (by simp [ek]) ?_
          try refine wpAny_bind (wpAny_pure ?_)
          rw [sameMem]
          dsimp only
          simp only [if_true, lv, rows_at R.rows hp]
          refine wpAny_bind (wpAny_isSame_ref_self (wpAny_bind (wpAny_pure ?_)))
          simp only [if_true]
          refine wp_if_neg (by simp [ek]) (ih (d + 1) _ rfl (by omega) (by omega) fun i0 p0 z1 z2 => ?_)
          obtain ⟨d0, y1, y2, y3⟩ := sits i0 p0 z1 z2
          refine ⟨d0, ?_, y2, y3⟩
          refine Nat.lt_of_not_le fun le2 => ?_
          rcases Nat.lt_or_ge d0 d with q | q
          · exact d5 d0 i0 y1 q y3 ((hv z1).trans (by rw [z2]))
          · obtain rfl : d0 = d := Nat.le_antisymm le2 q
            have lv2 := slot_live R.tab.ris y3
            rw [lv] at lv2
            injection lv2 with e
            rw [← e, hp] at z1
            cases z1
            exact ek z2
      by_cases hl : t.led = true
      · refine wp_if_neg (by simp [hl]) ?_
        try refine wpAny_bind (wpAny_pure ?_)
        exact body
      · refine wp_if_pos (by simp [hl]) (wpAny_bind (unseen hx (fun y hy => ?_) ?_))
        · obtain ⟨e, he, rfl⟩ := List.mem_map.mp hy
          have me : e ∈ es.toList := by
            have : e ∈ es ∧ e.1 = k.hash w := by simpa using he
            simpa using this.1
          rw [R.rows] at me
          obtain ⟨p2, m2, rfl⟩ := List.mem_map.mp me
          exact ⟨p2.2, p2.1, rfl, ks p2 m2⟩
        · refine wp_if_neg Bool.false_ne_true ?_
          try refine wpAny_bind (wpAny_pure ?_)
          exact body
    · rw [d6]
      dsimp only
      refine wpAny_pure (no fun hm => ?_)
      obtain ⟨p0, m0, e0⟩ := List.mem_map.mp hm
      obtain ⟨i0, l0, q0⟩ := List.getElem_of_mem m0
      have z1 : L[i0]? = some p0 := by rw [List.getElem?_eq_getElem l0, q0]
      obtain ⟨d0, y1, y2, y3⟩ := sits i0 p0 z1 e0
      exact d5 d0 i0 y1 y2 y3 ((hv z1).trans (by rw [e0]))
theorem nsearch (R : NS P w s.heap a L es ep t) (ks : NKs P w s.heap L) {x : Addr} {k : NestedKey} (hx : NIs P w s.heap k x) (hu : A.units + 8 < cLine) {Q : SetFound → Shared → Prop}
    (yes : k ∈ L.map Prod.snd → Q (.there none) s)
    (no : ∀ K, k ∉ L.map Prod.snd → way t.mask (k.hash w) K ∉ t.place.toList → (∀ d, d < K → way t.mask (k.hash w) d ∈ t.place.toList) → Q (.free (way t.mask (k.hash w) K) false) s) :
    wpAny (model P w) A (setSearch a (.ref x) (k.hash w) true) Q E s := by
  have fr := R.free
  obtain ⟨K, k1, k2, k3⟩ := R.tab.first (by rw [List.length_map]; omega) (k.hash w)
  have small : SetTable.turns t.mask ≤ 142 := by
    unfold SetTable.turns
    rcases R.tab.mok with e | e | e <;> omega
  unfold setSearch
  refine nfind R ks hx hu k1 k2 k3 yes (fun z => no K z k2 k3) 100000 0 none rfl (Nat.zero_le _) (by omega) fun i p hp e => ?_
  have il : i < t.place.toList.length := by
    rw [Array.length_toList, R.pl, rows_size R.rows]
    exact (List.getElem?_eq_some_iff.mp hp).1
  obtain ⟨d, e1, e2⟩ := R.tab.before k2 (i := i) (h := k.hash w) (by rw [List.getElem?_map, hp, ← e]; rfl) (List.getElem?_eq_getElem il)
  exact ⟨d, Nat.zero_le _, e1, by rw [e2]; exact List.getElem?_eq_getElem il⟩
/-! ### adding -/
theorem range_pick {α : Type} : ∀ l : List α, (List.range l.length).filterMap (fun i => l[i]?) = l
  | [] => rfl
  | x :: l => by
    rw [List.length_cons, List.range_succ_eq_map]
    have := range_pick l
    simp only [List.filterMap_cons, List.getElem?_cons_zero, List.filterMap_map, Function.comp_def, Nat.succ_eq_add_one, List.getElem?_cons_succ, this]
theorem fm_congr {α β : Type} {f g : α → Option β} : ∀ {l : List α}, (∀ x ∈ l, f x = g x) → l.filterMap f = l.filterMap g
  | [], _ => rfl
  | x :: l, e => by
    rw [List.filterMap_cons, List.filterMap_cons, e x List.mem_cons_self, fm_congr fun y hy => e y (List.mem_cons_of_mem _ hy)]
theorem picked {ord : Array Nat} (e : es.toList = L.map (nrow w)) (pm : ord.toList.Perm (List.range L.length)) :
    ∃ M : List (Addr × NestedKey), (ord.filterMap (es[·]?)).toList = M.map (nrow w) ∧ M.Perm L ∧ (M.map fun p => p.2.hash w) = ord.toList.map fun i => (es.map (·.1)).getD i 0 := by
  have ee : ∀ i, es[i]? = (L[i]?).map (nrow w) := fun i => by rw [← Array.getElem?_toList, e, List.getElem?_map]
  refine ⟨ord.toList.filterMap fun i => L[i]?, ?_, ?_, ?_⟩
  · rw [Array.toList_filterMap, List.map_filterMap]
    exact fm_congr fun i _ => ee i
  · have := pm.filterMap fun i => L[i]?
    rwa [range_pick] at this
  · have some_ : ∀ i ∈ ord.toList, L[i]? = some (L.getD i (0, .none)) := fun i hi => by
      have lt := List.mem_range.mp (pm.mem_iff.mp hi)
      rw [List.getD_eq_getElem?_getD, List.getElem?_eq_getElem lt]
      rfl
    rw [fm_congr (g := fun i => some (L.getD i (0, .none))) some_, List.filterMap_eq_map', List.map_map]
    refine List.map_congr_left fun i hi => ?_
    show NestedKey.hash w (L.getD i (0, .none)).2 = _
    rw [Array.getD_eq_getD_getElem?, Array.getElem?_map, ee i, some_ i hi]
    rfl
theorem nis_but {k : NestedKey} {b : Addr} {o : Obj} (x : NIs P w h k b) (ho : h.get? a = some o) (hd : o.data = .set es ep t) (sb : Heap.SameBut a h h') : NIs P w h' k b :=
  nestedKind_stays.stays (fun c u vs n e1 e2 => (sb.2 c fun q => by
    subst q
    rw [ho] at e1
    cases e1
    rw [hd] at e2
    cases e2).trans e1) x
theorem nks_but {o : Obj} (x : NKs P w h L) (ho : h.get? a = some o) (hd : o.data = .set es ep t) (sb : Heap.SameBut a h h') : NKs P w h' L := fun p m => nis_but (x p m) ho hd sb
/-- the table laid anew -/
theorem nrelay {o : Obj} (ho : s.heap.get? a = some o) (hex : o.ExactSet) (hd : o.data = .set es ep t) (rows : es.toList = L.map (nrow w)) (T : TabOk t (L.map fun p => p.2.hash w)) (nd : (L.map Prod.snd).Nodup)
    (ld : w.params.followText "set-order" = true ∨ t.led = true) (few : L.length < 64) {want M : Nat} (hw : SetTable.sizeAbove want = M + 1) (ok : MaskOk M) (fr : L.length * 5 < M * 3) (le : L.length ≤ t.mask) {Q : Unit → Shared → Prop}
    (q : ∀ g L1 es1 ep1 t1, Heap.SameBut a s.heap g → NS P w g a L1 es1 ep1 t1 → L1.Perm L → Q () { s with heap := g }) : wpAny (model P w) A (setRelay a want) Q E s := by
  have sz := rows_size rows
  have pz : t.place.size = es.size := by rw [T.sz, List.length_map, sz]
  have m128 : M + 1 ≤ 128 := by rcases ok with e | e | e <;> omega
  obtain ⟨t1, ord, e, pm, T1, e1, e2, _, e4⟩ := relaid_ok t (hs := es.map (·.1)) (wanted := want) (M := M) (by omega) ok (by rw [Array.size_map, sz]; omega)
  rw [Array.size_map, sz] at pm
  obtain ⟨L1, r1, r2, r3⟩ := picked rows pm
  rw [← r3] at T1
  have sz1 : (ord.filterMap (es[·]?)).size = es.size := (rows_size r1).trans (r2.length_eq.trans sz.symm)
  rw [setRelay_eq]
  refine wpAny_bind (wpAny_setState_of ho hd (fits_of pz T.dm (by omega)) ?_)
  dsimp only
  refine wp_if_neg (by rw [hw, sizeLine_eq]; omega) ?_
  try refine wpAny_bind (wpAny_pure ?_)
  rw [e]
  dsimp only
  refine wpAny_bind (wp_if_neg (by rw [sz1]; simp) ?_)
  try refine wpAny_bind (wpAny_pure ?_)
  refine wpAny_pure ?_
  dsimp only
  refine wpAny_storeSet_of ho hd (q _ L1 _ _ t1 (Heap.SameBut.update ..) ⟨⟨_, store_at ho hd, ⟨hex.1, hex.2.1, hex.2.2⟩, rfl⟩, r1, T1, (r2.map _).nodup_iff.mpr nd, by rw [e2]; exact ld, by rw [r2.length_eq, e1]; exact fr, by rw [r2.length_eq]; exact few⟩ r2) (by rw [sz1, sz, sizeLine_eq]; omega)
theorem take_put {α : Type} (l : List α) (n : Nat) (x : α) : (l.take n ++ x :: l.drop n).Perm (x :: l) := by
  have := List.perm_middle (a := x) (l₁ := l.take n) (l₂ := l.drop n)
  rwa [List.take_append_drop] at this
theorem nadd (R : NS P w s.heap a L es ep t) (ks : NKs P w s.heap L) {x : Addr} {k : NestedKey} (hx : NIs P w s.heap k x) (hu : A.units + 8 < cLine) (few : L.length + 1 < 64) {Q : Bool → Shared → Prop}
    (q0 : k ∈ L.map Prod.snd → Q false s)
    (q1 : k ∉ L.map Prod.snd → ∀ g L1 es1 ep1 t1, Heap.SameBut a s.heap g → NS P w g a L1 es1 ep1 t1 → L1.Perm ((x, k) :: L) → Q true { s with heap := g }) :
    wpAny (model P w) A (setAddHashed a (.ref x) (k.hash w)) Q E s := by
  obtain ⟨o, ho, hex, hd⟩ := R.ob
  have sz := rows_size R.rows
  have fr := R.free
  unfold setAddHashed
  refine wpAny_holding ?_
  rw [show (100000 : Nat) = 99999 + 1 from rfl, setAddHashedIn_succ]
  refine wpAny_bind (wpAny_setState_of ho hd R.fits ?_)
  dsimp only
  refine wp_if_neg (by simp [byScan, Value.scannable]) ?_
  try refine wpAny_bind (wpAny_pure ?_)
  refine wpAny_bind (nsearch R ks hx hu (fun hm => wpAny_pure (q0 hm)) fun K hm hK hb => ?_)
  refine wpAny_bind (wpAny_setState_of ho hd R.fits ?_)
  dsimp only
  obtain ⟨p1, p2, p3, p4, p5, p6, p7, p8, p9⟩ := R.tab.put hK hb
  generalize t.put (way t.mask (k.hash w) K) = pt at p1 p3 p4 p5 p6 p7 p8 p9 ⊢
  obtain ⟨t1, n⟩ := pt
  dsimp only at p1 p3 p4 p5 p6 p7 p8 p9 ⊢
  subst p1
  have go : ∀ bv : Bool, wpAny (model P w) A (do
      storeSet a (SetTable.insertAt es (SetTable.below t.place (way t.mask (k.hash w) K)) (k.hash w, .ref x)) (if bv = true then t1 else { t1 with plain := false })
      if (!false && (if bv = true then t1 else { t1 with plain := false }).tooFull) = true then setRelay a (SetTable.grown (es.size + 1))
      return true) Q E s := fun bv => by
    have T1 : TabOk (if bv = true then t1 else { t1 with plain := false }) ((L.map fun p => p.2.hash w).take (SetTable.below t.place (way t.mask (k.hash w) K)) ++ k.hash w :: (L.map fun p => p.2.hash w).drop (SetTable.below t.place (way t.mask (k.hash w) K))) := by
      cases bv
      · exact tab_plain p3
      · exact p3
    have m1 : (if bv = true then t1 else { t1 with plain := false }).mask = t.mask := by cases bv <;> exact p4
    have l1 : (if bv = true then t1 else { t1 with plain := false }).led = t.led := by cases bv <;> exact p5
    have f1 : (if bv = true then t1 else { t1 with plain := false }).fill = L.length + 1 := by
      rw [List.length_map] at p9
      cases bv <;> exact p9
    generalize (if bv = true then t1 else { t1 with plain := false }) = t2 at T1 m1 l1 f1 ⊢
    generalize SetTable.below t.place (way t.mask (k.hash w) K) = n at T1 ⊢
    have pm := take_put L n (x, k)
    have rows : (SetTable.insertAt es n (k.hash w, Value.ref x)).toList = (L.take n ++ (x, k) :: L.drop n).map (nrow w) := by
      rw [SetTable.toList_insertAt, R.rows, List.map_append, List.map_cons, List.map_take, List.map_drop]
      rfl
    have hh : (L.map fun p => p.2.hash w).take n ++ k.hash w :: (L.map fun p => p.2.hash w).drop n = (L.take n ++ (x, k) :: L.drop n).map fun p => p.2.hash w := by
      rw [List.map_append, List.map_cons, List.map_take, List.map_drop]
    rw [hh] at T1
    have nd1 : ((L.take n ++ (x, k) :: L.drop n).map Prod.snd).Nodup := (pm.map _).nodup_iff.mpr (List.nodup_cons.mpr ⟨hm, R.nd⟩)
    have len : (L.take n ++ (x, k) :: L.drop n).length = L.length + 1 := pm.length_eq
    generalize SetTable.insertAt es n (k.hash w, Value.ref x) = es1 at rows ⊢
    generalize L.take n ++ (x, k) :: L.drop n = L1 at pm rows T1 nd1 len
    have sz1 := rows_size rows
    have sb : Heap.SameBut a s.heap (s.heap.update a (Obj.putSet es1 t2)) := Heap.SameBut.update ..
    refine wpAny_bind (wpAny_storeSet_of ho hd ?_ (by rw [sz1, len, sizeLine_eq]; omega))
    have ho1 := store_at (es' := es1) (t' := t2) ho hd
    generalize s.heap.update a (Obj.putSet es1 t2) = g at sb ho1 ⊢
    have ld1 : w.params.followText "set-order" = true ∨ t2.led = true := by rw [l1]; exact R.led
    have tf : t2.tooFull = decide ((L.length + 1) * 5 ≥ t2.mask * 3) := by
      unfold SetTable.tooFull
      rw [f1]
    by_cases full : (L.length + 1) * 5 ≥ t2.mask * 3
    · have cs : (t.mask = 7 ∧ L.length = 4) ∨ (t.mask = 31 ∧ L.length = 18) := by
        rw [m1] at full
        rcases R.tab.mok with e | e | e <;> rw [e] at full fr
        · exact .inl ⟨e, by omega⟩
        · exact .inr ⟨e, by omega⟩
        · omega
      have on : ∀ M, SetTable.sizeAbove (SetTable.grown (L.length + 1)) = M + 1 → MaskOk M → (L.length + 1) * 5 < M * 3 →
          wpAny (model P w) A (setRelay a (SetTable.grown (es.size + 1))) (fun _ s' => wpAny (model P w) A (pure true) Q E s') E { s with heap := g } := fun M y1 y2 y3 => by
        rw [sz]
        refine nrelay (s := { s with heap := g }) ho1 ⟨hex.1, hex.2.1, hex.2.2⟩ rfl rows T1 nd1 ld1 (by omega) y1 y2 (by rw [len]; exact y3) (by rw [len, m1]; rcases cs with ⟨e, e'⟩ | ⟨e, e'⟩ <;> omega) fun g2 L2 es2 ep2 t3 sb2 R2 pm2 => ?_
        exact wpAny_pure (q1 hm g2 L2 es2 ep2 t3 (sb.trans sb2) R2 (pm2.trans pm))
      refine wp_if_pos (by rw [tf]; simpa using full) (wpAny_bind ?_)
      rcases cs with ⟨_, e⟩ | ⟨_, e⟩
      · exact on 31 (by rw [e, size_20]) (.inr (.inl rfl)) (by omega)
      · exact on 127 (by rw [e, size_76]) (.inr (.inr rfl)) (by omega)
    · refine wp_if_neg (by rw [tf]; simpa using full) (wpAny_pure (q1 hm g L1 es1 _ t2 sb ⟨⟨_, ho1, ⟨hex.1, hex.2.1, hex.2.2⟩, rfl⟩, rows, T1, nd1, ld1, by rw [len]; omega, by omega⟩ pm))
  cases hp : t1.plain with
  | true =>
    simp only [if_true]
    refine wpAny_bind (anyHb_key _ _ _ _ hx.1 hx.2 _ _ _ fun bv => ?_)
    exact go bv
  | false =>
    simp only [Bool.false_eq_true, if_false]
    refine wpAny_bind (wpAny_pure ?_)
    exact go true
theorem nset_new {w : World} {h : Heap} {a : Addr} (e : h.get? a = some (freshSet w)) : NS P w h a [] #[] 0 (.fresh 0 0 (!w.params.followText "set-order")) where
  ob := ⟨_, e, ⟨rfl, rfl, rfl⟩, rfl⟩
  rows := rfl
  tab := ⟨List.Pairwise.nil, rfl, rfl, .inl rfl, (fun _ z => nomatch z), fun i h j z => nomatch z⟩
  nd := List.nodup_nil
  led := by
    show _ ∨ (!w.params.followText "set-order") = true
    cases w.params.followText "set-order"
    · exact .inr rfl
    · exact .inl rfl
  free := by show 0 * 5 < 7 * 3; decide
  few := by show 0 < 64; decide
theorem NS.keep (R : NS P w h a L es ep t) (k : ∀ o, h.get? a = some o → h'.get? a = some o) : NS P w h' a L es ep t := by
  obtain ⟨o, ho, r⟩ := R.ob
  exact ⟨⟨o, k o ho, r⟩, R.rows, R.tab, R.nd, R.led, R.free, R.few⟩
end
end LB

namespace LB
open PySem PySem.Spec PyProof.Rows L2
/-! ### an order of nested keys -/
def rk : NestedKey → Nat
  | .none => 0
  | .num _ => 1
  | .text _ => 2
  | .tup _ => 3
mutual
def klt : NestedKey → NestedKey → Bool
  | .num a, .num b => decide (a < b)
  | .text a, .text b => decide (a.cps.toList < b.cps.toList)
  | .tup a, .tup b => kltL a b
  | .none, b => decide (0 < rk b)
  | .num _, b => decide (1 < rk b)
  | .text _, b => decide (2 < rk b)
  | .tup _, b => decide (3 < rk b)
def kltL : List NestedKey → List NestedKey → Bool
  | [], b => !b.isEmpty
  | _ :: _, [] => false
  | a :: as, b :: bs => if NestedKey.beq a b = true then kltL as bs else klt a b
end
theorem str_tri {a b : Str} (h1 : ¬ a.cps.toList < b.cps.toList) (h2 : ¬ b.cps.toList < a.cps.toList) : a = b := by
  have e : a.cps.toList = b.cps.toList := strKind.total a.cps.toList b.cps.toList (decide_eq_false h1) (decide_eq_false h2)
  obtain ⟨⟨l⟩⟩ := a
  obtain ⟨⟨m⟩⟩ := b
  exact congrArg Str.mk (congrArg Array.mk e)
theorem str_trans {a b c : Str} (h1 : a.cps.toList < b.cps.toList) (h2 : b.cps.toList < c.cps.toList) : a.cps.toList < c.cps.toList :=
  of_decide_eq_true (strKind.trans a.cps.toList b.cps.toList c.cps.toList (decide_eq_true h1) (decide_eq_true h2))
theorem str_irr {a : Str} : ¬ a.cps.toList < a.cps.toList := of_decide_eq_false (strKind.irrefl a.cps.toList)
mutual
theorem klt_irr : ∀ x : NestedKey, klt x x = false
  | .none => by simp [klt, rk]
  | .num a => by simp [klt]
  | .text a => by rw [klt]; exact decide_eq_false str_irr
  | .tup a => by rw [klt]; exact kltL_irr a
theorem kltL_irr : ∀ x : List NestedKey, kltL x x = false
  | [] => by simp [kltL]
  | a :: as => by rw [kltL, if_pos (NestedKey.beq_self a)]; exact kltL_irr as
end
mutual
theorem klt_tri : ∀ x y : NestedKey, klt x y = false → klt y x = false → x = y
  | .tup a, .tup b, h1, h2 => by rw [klt] at h1 h2; rw [kltL_tri a b h1 h2]
  | .none, y, h1, h2 => by cases y <;> simp_all [klt, rk]
  | .num a, y, h1, h2 => by
    cases y with
    | num b =>
      simp only [klt, decide_eq_false_iff_not] at h1 h2
      rw [show a = b by omega]
    | _ => simp_all [klt, rk]
  | .text a, y, h1, h2 => by
    cases y with
    | text b =>
      simp only [klt, decide_eq_false_iff_not] at h1 h2
      rw [str_tri h1 h2]
    | _ => simp_all [klt, rk]
  | .tup a, .none, h1, h2 => by simp_all [klt, rk]
  | .tup a, .num b, h1, h2 => by simp_all [klt, rk]
  | .tup a, .text b, h1, h2 => by simp_all [klt, rk]
theorem kltL_tri : ∀ x y : List NestedKey, kltL x y = false → kltL y x = false → x = y
  | [], [], _, _ => rfl
  | [], _ :: _, h1, _ => by simp [kltL] at h1
  | _ :: _, [], _, h2 => by simp [kltL] at h2
  | a :: as, b :: bs, h1, h2 => by
    rw [kltL] at h1 h2
    by_cases e : NestedKey.beq a b = true
    · have e' := NestedKey.eq_of_beq a b e
      subst e'
      rw [if_pos e] at h1 h2
      rw [kltL_tri as bs h1 h2]
    · have e2 : ¬ NestedKey.beq b a = true := fun z => e (by rw [NestedKey.eq_of_beq b a z]; exact NestedKey.beq_self a)
      rw [if_neg e] at h1
      rw [if_neg e2] at h2
      exact absurd (by rw [klt_tri a b h1 h2]; exact NestedKey.beq_self b) e
end
theorem klt_rk {x y : NestedKey} (h : klt x y = true) : rk x ≤ rk y := by
  cases x <;> cases y <;> simp_all [klt, rk]
theorem klt_of_rk {x y : NestedKey} (h : rk x < rk y) : klt x y = true := by
  cases x <;> cases y <;> simp_all [klt, rk]
mutual
theorem klt_trans : ∀ x y z : NestedKey, klt x y = true → klt y z = true → klt x z = true
  | .tup a, .tup b, .tup c, h1, h2 => by rw [klt] at h1 h2 ⊢; exact kltL_trans a b c h1 h2
  | x, y, z, h1, h2 => by
    have r1 := klt_rk h1
    have r2 := klt_rk h2
    rcases Nat.lt_or_ge (rk x) (rk z) with l | l
    · exact klt_of_rk l
    have ez : rk z = rk x := by omega
    have ey : rk y = rk x := by omega
    cases x with
    | none => cases y <;> simp_all [klt, rk]
    | num a =>
      cases y <;> first | (simp [rk] at ey) | skip
      cases z <;> first | (simp [rk] at ez) | skip
      simp only [klt, decide_eq_true_eq] at h1 h2 ⊢
      omega
    | text a =>
      cases y <;> first | (simp [rk] at ey) | skip
      cases z <;> first | (simp [rk] at ez) | skip
      simp only [klt, decide_eq_true_eq] at h1 h2 ⊢
      exact str_trans h1 h2
    | tup a =>
      cases y <;> first | (simp [rk] at ey) | skip
      cases z <;> first | (simp [rk] at ez) | skip
      rw [klt] at h1 h2 ⊢
      exact kltL_trans _ _ _ h1 h2
theorem kltL_trans : ∀ x y z : List NestedKey, kltL x y = true → kltL y z = true → kltL x z = true
  | [], _, [], h1, h2 => by
    rename_i y
    cases y with
    | nil => simp [kltL] at h1
    | cons a b => simp [kltL] at h2
  | [], _, _ :: _, _, _ => by simp [kltL]
  | _ :: _, [], _, h1, _ => by simp [kltL] at h1
  | _ :: _, _ :: _, [], _, h2 => by simp [kltL] at h2
  | a :: as, b :: bs, c :: cs, h1, h2 => by
    rw [kltL] at h1 h2 ⊢
    by_cases e1 : NestedKey.beq a b = true
    · rw [if_pos e1] at h1
      have e1' := NestedKey.eq_of_beq a b e1
      by_cases e2 : NestedKey.beq b c = true
      · rw [if_pos e2] at h2
        have e2' := NestedKey.eq_of_beq b c e2
        rw [if_pos (by rw [e1', e2']; exact NestedKey.beq_self c)]
        exact kltL_trans as bs cs h1 h2
      · rw [if_neg e2] at h2
        rw [if_neg (by rw [e1']; exact e2), e1']
        exact h2
    · rw [if_neg e1] at h1
      by_cases e2 : NestedKey.beq b c = true
      · have e2' := NestedKey.eq_of_beq b c e2
        rw [if_neg (by rw [← e2']; exact e1), ← e2']
        exact h1
      · rw [if_neg e2] at h2
        have t := klt_trans a b c h1 h2
        rw [if_neg (fun z => by
          have z' := NestedKey.eq_of_beq a c z
          rw [z', klt_irr] at t
          cases t)]
        exact t
end
theorem swo_klt {α : Type} (k : α → NestedKey) : SrtO.Swo (fun v u : α => klt (k v) (k u)) := by
  refine ⟨fun x y h => ?_, fun x y z h1 h2 => ?_⟩
  · cases e : klt (k y) (k x) with
    | false => rfl
    | true =>
      have := klt_trans _ _ _ h e
      rw [klt_irr] at this
      cases this
  · cases e : klt (k z) (k x) with
    | false => rfl
    | true =>
      cases e1 : klt (k x) (k y) with
      | true =>
        have := klt_trans _ _ _ e e1
        rw [h2] at this
        cases this
      | false =>
        have : k x = k y := klt_tri _ _ e1 h1
        rw [this, h2] at e
        cases e
/-! ### < as the program asks it -/
mutual
/-- two keys whose first unlike places are of one kind -/
def alike : NestedKey → NestedKey → Bool
  | .text _, .text _ => true
  | .tup a, .tup b => alikeL a b
  | .none, _ => false
  | .num _, _ => false
  | .text _, _ => false
  | .tup _, _ => false
def alikeL : List NestedKey → List NestedKey → Bool
  | [], _ => true
  | _ :: _, [] => true
  | a :: as, b :: bs => alike a b && alikeL as bs
end
open PySem.SeqAt in
theorem lexAt_keys : ∀ (xs ys : List NestedKey) (e r : Nat → Bool) (i : Nat), (∀ j, j < min xs.length ys.length → e (i + j) = NestedKey.beq (xs.getD j .none) (ys.getD j .none)) → (∀ j, j < min xs.length ys.length → r (i + j) = klt (xs.getD j .none) (ys.getD j .none)) →
    Ob.lexAt e r (decide (xs.length < ys.length)) i (min xs.length ys.length) = kltL xs ys
  | [], ys, e, r, i, _, _ => by
    cases ys <;> simp [Ob.lexAt, kltL]
  | x :: xs, [], e, r, i, _, _ => by simp [Ob.lexAt, kltL]
  | x :: xs, y :: ys, e, r, i, he, hr => by
    have m : min (x :: xs).length (y :: ys).length = min xs.length ys.length + 1 := by simp only [List.length_cons]; omega
    have d : decide ((x :: xs).length < (y :: ys).length) = decide (xs.length < ys.length) := by simp
    rw [m] at he hr
    rw [m, d, Ob.lexAt_succ, kltL]
    have e0 : e i = NestedKey.beq x y := by simpa using he 0 (by omega)
    have r0 : r i = klt x y := by simpa using hr 0 (by omega)
    rw [e0, r0]
    rw [lexAt_keys xs ys e r (i + 1) (fun j hj => by
      have := he (j + 1) (by omega)
      simpa [Nat.add_assoc, Nat.add_comm 1 j] using this) (fun j hj => by
      have := hr (j + 1) (by omega)
      simpa [Nat.add_assoc, Nat.add_comm 1 j] using this)]
open PySem.SeqAt in
mutual
theorem rcLt_key : ∀ (x y : NestedKey) (A : Around) (s : Shared) (a b : Value), NestedIs s.heap x a → NestedIs s.heap y b → alike x y = true → A.units + min x.depth y.depth < cLine → Ob.RcOp .Lt A s a b (klt x y)
  | .num i, y, A, s, _, _, ra, rb, al, hu => by simp [alike] at al
  | .text x, y, A, s, _, _, ra, rb, al, hu => by
    cases y <;> first | (simp [alike] at al; done) | skip
    cases ra
    cases rb
    rw [klt]
    exact fun prog w E Q h => PyProof.Rows.lt_str (A := A) h
  | .none, y, A, s, _, _, ra, rb, al, hu => by simp [alike] at al
  | .tup xs, y, A, s, _, _, ra, rb, al, hu => by
    cases y <;> first | (simp [alike] at al; done) | skip
    rename_i ys
    cases ra with
    | @tup l o vs n _ h1 h2 h3 h4 =>
      cases rb with
      | @tup l' o' vs' n' _ k1 k2 k3 k4 =>
        have n1 : vs.size = xs.length := by simpa using NestedAll.length _ _ h4
        have n2 : vs'.size = ys.length := by simpa using NestedAll.length _ _ k4
        rw [alike] at al
        rw [klt, ← lexAt_keys xs ys (keyEqAt xs ys) (fun j => klt (xs.getD j .none) (ys.getD j .none)) 0 (fun j _ => by rw [Nat.zero_add]) (fun j _ => by rw [Nat.zero_add]), ← n1, ← n2]
        refine Ob.RcOp.tuples_lt ⟨_, h1, h2, _, h3⟩ ⟨_, k1, k2, _, k3⟩ (room_here hu) (fun j j1 j2 => ?_) (fun j j1 j2 _ => ?_)
        · have := eqAt_keys xs ys A.in1 s vs.toList vs'.toList h4 k4 (room_in hu) j (by simpa using j1) (by simpa using j2)
          simpa using this
        · have := rcLt_keys xs ys A.in1 s vs.toList vs'.toList h4 k4 al (room_in hu) j (by simpa using j1) (by simpa using j2)
          simpa using this
theorem rcLt_keys : ∀ (xs ys : List NestedKey) (A : Around) (s : Shared) (vs ws : List Value), NestedAll s.heap xs vs → NestedAll s.heap ys ws → alikeL xs ys = true →
    A.units + min (NestedKey.depthAll xs) (NestedKey.depthAll ys) < cLine → ∀ j (h1 : j < vs.length) (h2 : j < ws.length), Ob.RcOp .Lt A s vs[j] ws[j] (klt (xs.getD j .none) (ys.getD j .none))
  | [], _, _, _, _, _, ra, _, _, _, j, h1, _ => by cases ra; exact absurd h1 (Nat.not_lt_zero _)
  | _ :: _, [], _, _, _, _, _, rb, _, _, j, _, h2 => by cases rb; exact absurd h2 (Nat.not_lt_zero _)
  | x :: xs, y :: ys, A, s, _, _, ra, rb, al, hu, j, h1, h2 => by
    rw [alikeL, Bool.and_eq_true] at al
    cases ra with
    | cons r rs =>
      cases rb with
      | cons r' rs' =>
        cases j with
        | zero => exact rcLt_key x y A s _ _ r r' al.1 (room_head hu)
        | succ j => exact rcLt_keys xs ys A s _ _ rs rs' al.2 (room_tail hu) j (Nat.lt_of_succ_lt_succ h1) (Nat.lt_of_succ_lt_succ h2)
end
/-! ### sorting them -/
mutual
theorem nis_tups {h h' : Heap} (hk : ∀ a o, h.get? a = some o → o.cls = .type "tuple" → h'.get? a = some o) : ∀ (x : NestedKey) (v : Value), NestedIs h x v → NestedIs h' x v
  | .none, _, r => by cases r; exact .none
  | .num i, _, r => by
    cases r with
    | bool e => exact .bool e
    | int _ t => exact .int _ t
  | .text x, _, r => by cases r; exact .text _ _
  | .tup ks, _, r => by
    cases r with
    | tup h1 h2 h3 h4 => exact .tup (hk _ _ h1 h2) h2 h3 (nall_tups hk ks _ h4)
theorem nall_tups {h h' : Heap} (hk : ∀ a o, h.get? a = some o → o.cls = .type "tuple" → h'.get? a = some o) : ∀ (xs : List NestedKey) (vs : List Value), NestedAll h xs vs → NestedAll h' xs vs
  | [], _, r => by cases r; exact .nil
  | x :: xs, _, r => by
    cases r with
    | cons h1 h2 => exact .cons (nis_tups hk x _ h1) (nall_tups hk xs _ h2)
end
def adV : Value → Addr
  | .ref a => a
  | _ => 0
def keyV (L : List (Addr × NestedKey)) (v : Value) : NestedKey := ((L.find? fun p => decide (p.1 = adV v)).map Prod.snd).getD .none
def backN (L : List (Addr × NestedKey)) (v : Value) : Addr × NestedKey := (adV v, keyV L v)
def refsN (L : List (Addr × NestedKey)) : List Value := L.map fun p => .ref p.1
section
variable {P : Program} {w : World} {A : Around} {E : Value → Shared → Prop} {s : Shared} {h : Heap} {L : List (Addr × NestedKey)}
theorem keyV_mem (ks : NKs P w h L) {p : Addr × NestedKey} (m : p ∈ L) : keyV L (.ref p.1) = p.2 := by
  unfold keyV
  cases e : L.find? fun q => decide (q.1 = adV (.ref p.1)) with
  | none =>
    have := List.find?_eq_none.mp e p m
    simp [adV] at this
  | some q =>
    have m2 := List.mem_of_find?_eq_some e
    have e3 := List.find?_some e
    have e2 : q.1 = p.1 := of_decide_eq_true e3
    have k1 := ks q m2
    rw [e2] at k1
    exact (nestedKind P w).inj k1 (ks p m)
theorem back_refs (ks : NKs P w h L) : (refsN L).map (backN L) = L := by
  unfold refsN
  rw [List.map_map]
  have : ∀ p ∈ L, (backN L ∘ fun p : Addr × NestedKey => Value.ref p.1) p = p := fun p m => by
    show (p.1, keyV L (.ref p.1)) = p
    rw [keyV_mem ks m]
  exact (List.map_congr_left this).trans (List.map_id L)
theorem refs_backN (ks : NKs P w h L) {out : List Value} (sub : ∀ v ∈ out, v ∈ refsN L) : refsN (out.map (backN L)) = out := by
  unfold refsN
  rw [List.map_map]
  have : ∀ v ∈ out, ((fun p : Addr × NestedKey => Value.ref p.1) ∘ backN L) v = v := fun v m => by
    obtain ⟨p, _, rfl⟩ := List.mem_map.mp (sub v m)
    rfl
  exact (List.map_congr_left this).trans (List.map_id out)
open PySem.W in
theorem kat_nest {prog : Program} {Q : Bool → Shared → Prop} (hu : A.units + 8 < cLine) : ∀ (xs ys : List NestedKey) (vs ws : List Value) (i : Nat), NestedAll s.heap xs vs → NestedAll s.heap ys ws → alikeL xs ys = true → NestedKey.depthAll xs ≤ 8 → Q (kltL xs ys) s →
    KatLex prog w A false (decide (xs.length < ys.length)) Q (vs.zip ws) i s
  | [], ys, _, _, i, ra, rb, _, _, q => by
    cases ra
    rw [List.zip_nil_left]
    refine kat_nil ?_
    cases ys
    · simpa [kltL] using q
    · simpa [kltL] using q
  | x :: xs, [], _, _, i, ra, rb, _, _, q => by
    cases rb
    rw [List.zip_nil_right]
    refine kat_nil ?_
    simpa [kltL] using q
  | x :: xs, y :: ys, _, _, i, ra, rb, al, dp, q => by
    rw [alikeL, Bool.and_eq_true] at al
    rw [NestedKey.depthAll] at dp
    cases ra with
    | cons r rs =>
      cases rb with
      | cons r' rs' =>
        rw [List.zip_cons_cons, show decide ((x :: xs).length < (y :: ys).length) = decide (xs.length < ys.length) from by simp]
        rw [kltL] at q
        refine kat_cons (eqAt_key x y A s _ _ r r' (by omega) prog w _ _ ?_)
        refine kat_go (fun e => kat_yes ?_) (fun e => kat_no ?_)
        · rw [if_pos e] at q
          exact kat_nest hu xs ys _ _ (i + 1) rs rs' al.2 (by omega) q
        · rw [if_neg (by rw [e]; exact Bool.false_ne_true)] at q
          refine kat_one _ _ ?_
          exact rcLt_key x y A s _ _ r r' al.1 (by omega) prog w _ (PySem.W.BoolBack Q) q
/-- what is asked of keys that are sorted: each begins with a tuple, any two are alike -/
structure Sortable (L : List (Addr × NestedKey)) : Prop where
  fst : ∀ p ∈ L, ∃ f r, p.2 = .tup (.tup f :: r)
  al : ∀ p ∈ L, ∀ q ∈ L, alike p.2 q.2 = true
theorem nest_sortable {a : Addr} (ks : NKs P w s.heap L) (S : Sortable L) (ne : 0 < L.length) (hu : A.units + 8 < cLine) (na : ∀ o, s.heap.get? a = some o → o.cls ≠ .type "tuple") :
    SrtO.SortableO P w A s a (refsN L) fun v u => klt (keyV L v) (keyV L u) := by
  intro h' keep
  have ks' : NKs P w h' L := fun p m => ⟨nis_tups (fun b o e c => keep b o (fun z => na o (by rw [← z]; exact e) c) e) _ _ (ks p m).1, (ks p m).2⟩
  have firsts : ∀ M : List (Addr × NestedKey), (∀ p ∈ M, p ∈ L) → ∃ fs : List Value, PySem.W.KatTups h' (refsN M) fs ∧ fs.length = M.length ∧ ∀ f ∈ fs, ∃ b o, f = .ref b ∧ h'.get? b = some o ∧ o.cls = .type "tuple" := by
    intro M
    induction M with
    | nil => exact fun _ => ⟨[], PySem.W.KatTups.nil, rfl, fun _ z => nomatch z⟩
    | cons p M ih =>
      intro sub
      obtain ⟨fs, t1, t2, t3⟩ := ih fun q m => sub q (List.mem_cons_of_mem _ m)
      have mp := sub p List.mem_cons_self
      obtain ⟨f, r, e⟩ := S.fst p mp
      have k := (ks' p mp).1
      rw [e] at k
      cases k with
      | @tup _ o vs n _ g1 g2 g3 g4 =>
        cases hvs : vs.toList with
        | nil => rw [hvs] at g4; cases g4
        | cons v rest =>
          rw [hvs] at g4
          cases g4 with
          | cons q1 q2 =>
            cases q1 with
            | @tup b o2 vs2 n2 _ y1 y2 y3 y4 =>
              refine ⟨.ref b :: fs, PySem.W.KatTups.cons g1 g2 g3 (by rw [← Array.getElem?_toList, hvs]; rfl) t1, by rw [List.length_cons, List.length_cons, t2], fun u hu' => ?_⟩
              rcases List.mem_cons.mp hu' with rfl | z
              · exact ⟨b, o2, rfl, y1, y2⟩
              · exact t3 u z
  obtain ⟨fs, t1, t2, t3⟩ := firsts L fun _ m => m
  refine ⟨tuples' false, fun Q E hq => ?_, fun p q mp mq => ?_⟩
  · refine PySem.W.kat_kind (s := { s with heap := h' }) (T := .type "tuple") t1 (by omega) (fun f hf => ?_) (by rfl) ?_
    · obtain ⟨b, o, rfl, hb, hc⟩ := t3 f hf
      rw [← hc]
      exact (PySem.W.Looks.ld hb).andThen .now
    · rw [show (Value.type "tuple" != Value.type "tuple") = false from by first | rfl | decide]
      exact hq
  · obtain ⟨p1, m1, e1⟩ := List.mem_map.mp mp
    obtain ⟨q1, m2, e2⟩ := List.mem_map.mp mq
    have k1 := ks' p1 m1
    have k2 := ks' q1 m2
    have al := S.al p1 m1 q1 m2
    have v1 : keyV L p.1 = p1.2 := by rw [← e1]; exact keyV_mem ks m1
    have v2 : keyV L q.1 = q1.2 := by rw [← e2]; exact keyV_mem ks m2
    show wpAny (model P w) A (keyLt' (tuples' false) p.1 q.1) (fun r s' => s' = { s with heap := h' } ∧ r = klt (keyV L p.1) (keyV L q.1)) (fun _ _ => False) { s with heap := h' }
    rw [v1, v2, ← e1, ← e2]
    obtain ⟨f1, r1, z1⟩ := S.fst p1 m1
    obtain ⟨f2, r2, z2⟩ := S.fst q1 m2
    rw [z1] at k1 al ⊢
    rw [z2] at k2 al ⊢
    obtain ⟨i1, d1⟩ := k1
    obtain ⟨i2, d2⟩ := k2
    rw [alike] at al
    rw [NestedKey.depth] at d1
    cases i1 with
    | @tup _ o1 vs1 n1 _ g1 g2 g3 g4 =>
      cases i2 with
      | @tup _ o2 vs2 n2 _ y1 y2 y3 y4 =>
        have l1 : vs1.size = (NestedKey.tup f1 :: r1).length := by rw [← Array.length_toList]; exact NestedAll.length _ _ g4
        have l2 : vs2.size = (NestedKey.tup f2 :: r2).length := by rw [← Array.length_toList]; exact NestedAll.length _ _ y4
        refine PySem.W.kat_lt (s := { s with heap := h' }) g1 g3 y1 y3 ?_
        rw [l1, l2]
        exact kat_nest (s := { s with heap := h' }) hu _ _ _ _ 0 g4 y4 al (by omega) ⟨rfl, by rw [klt]⟩
abbrev RisN (L : List (Addr × NestedKey)) : Prop := L.Pairwise fun p q => klt q.2 p.2 = false
theorem ris_out (ks : NKs P w h L) {out : List Value} (h1 : SrtO.Srtd (fun v u => klt (keyV L v) (keyV L u)) out) : RisN (out.map (backN L)) := List.pairwise_map.mpr (h1.imp fun z => z)
theorem out_perm (ks : NKs P w h L) {out : List Value} (pm : out.Perm (refsN L)) : (out.map (backN L)).Perm L := by
  have := pm.map (backN L)
  rwa [back_refs ks] at this
/-- sorted(a list of nested tuples) -/
theorem sorted_listN {l : Addr} {Q : Value → Shared → Prop} (ks : NKs P w s.heap L) (S : Sortable L) (hu : A.units + 16 < cLine) (hl : s.heap.IsList l (refsN L).toArray) (few : L.length ≤ sizeLine)
    (q : ∀ (L' : List (Addr × NestedKey)), L'.Perm L → RisN L' → Q (.ref (s.heap.objs.size + 1)) { s with heap := sortedAll s.heap (refsN L) (refsN L').toArray }) :
    wpAny (model P w) A (call (.builtin "sorted") [.ref l]) Q E s := by
  have ln : (refsN L).length = L.length := List.length_map _
  refine SrtO.sorted_ord (ltv := fun v u => klt (keyV L v) (keyV L u)) (swo_klt _) hl (by rw [ln]; exact few) (fun h2 h₁ a ha kk => ?_) fun out h1 h2 => ?_
  · refine nest_sortable (s := { s with heap := h₁ }) (fun p m => nestedKind_stays.stays (fun b o _ _ e _ => (kk b o e).2) (ks p m)) S (by omega) (by simp; omega) fun o e => ?_
    have e' : some o = some (seqObj "list" (refsN L).toArray 0) := e.symm.trans ha
    cases e'
    exact PyProof.Rows.G.not_tuple_list
  · have pm := h2.perm
    have e := refs_backN ks (out := out) fun v hv => pm.mem_iff.mp hv
    have := q (out.map (backN L)) (out_perm ks pm) (ris_out ks h1)
    rwa [e] at this
end
end LB

namespace LB
open PySem PySem.Spec PyProof.Rows L2
/-! ### nested tuples of texts as the layer has them -/
mutual
inductive NV (H : Hp) : NestedKey → V → Prop
  | text (x : Str) : NV H (.text x) (.str x)
  | tup {a : Addr} {vs : List V} {ks : List NestedKey} : H a = some (.tup vs) → NVs H ks vs → NV H (.tup ks) (.ref a)
inductive NVs (H : Hp) : List NestedKey → List V → Prop
  | nil : NVs H [] []
  | cons {k : NestedKey} {v : V} {ks : List NestedKey} {vs : List V} : NV H k v → NVs H ks vs → NVs H (k :: ks) (v :: vs)
end
section
variable {P : Program} {w : World} {H : Hp} {h : Heap}
mutual
theorem NV.is (ok : HOk P w H h) : ∀ (k : NestedKey) (v : V) (u : Value), NV H k v → RelV v u → NestedIs h k u
  | .none, _, _, r, _ => by cases r
  | .num _, _, _, r, _ => by cases r
  | .text x, _, u, r, q => by
    cases r
    obtain ⟨t, rfl⟩ := q
    exact .text x t
  | .tup ks, _, u, r, q => by
    cases r with
    | @tup a vs _ ha hs =>
      cases q
      obtain ⟨_, its, rv, o, ho, hc, n, hd⟩ := ok a _ ha
      exact .tup ho hc hd (by simpa using NVs.are ok ks vs its hs rv)
theorem NVs.are (ok : HOk P w H h) : ∀ (ks : List NestedKey) (vs : List V) (us : List Value), NVs H ks vs → Vals vs us → NestedAll h ks us
  | [], _, _, r, q => by
    cases r
    cases q
    exact .nil
  | k :: ks, _, _, r, q => by
    cases r with
    | cons r1 r2 =>
      cases q with
      | cons q1 q2 => exact .cons (NV.is ok k _ _ r1 q1) (NVs.are ok ks _ _ r2 q2)
end
end
def refsV (L : List (Addr × NestedKey)) : List V := L.map fun p => .ref p.1
theorem vals_refsV : ∀ {L : List (Addr × NestedKey)} {us : List Value}, Vals (refsV L) us → us = refsN L
  | [], _, .nil => rfl
  | p :: L, _, .cons r t => by
    cases r
    rw [vals_refsV t]
    rfl
theorem refsV_vals : ∀ L : List (Addr × NestedKey), Vals (refsV L) (refsN L)
  | [] => .nil
  | p :: L => .cons rfl (refsV_vals L)
/-- the keys of L stand at their addresses -/
def KeysIn (H : Hp) (L : List (Addr × NestedKey)) : Prop := ∀ p ∈ L, NV H p.2 (.ref p.1) ∧ p.2.depth ≤ 8
theorem KeysIn.nks {P : Program} {w : World} {H : Hp} {h : Heap} {L : List (Addr × NestedKey)} (x : KeysIn H L) (ok : HOk P w H h) : NKs P w h L := fun p m => ⟨NV.is ok _ _ _ (x p m).1 rfl, (x p m).2⟩
/-- what a set has of the items of ks: each once -/
structure Uniq (ks L : List (Addr × NestedKey)) : Prop where
  sub : ∀ p ∈ L, p ∈ ks
  all : ∀ p ∈ ks, p.2 ∈ L.map Prod.snd
  nd : (L.map Prod.snd).Nodup
section
variable {P : Program} {w : World} {A : Around} {E : Value → Shared → Prop} {s : Shared}
theorem call_set_n {l : Addr} {ks : List (Addr × NestedKey)} {Q : Value → Shared → Prop} (calm : A.handled = none) (hu : A.units + 16 < cLine) (isl : s.heap.IsList l (refsN ks).toArray) (nk : NKs P w s.heap ks) (few : ks.length < 63)
    (out : ∀ (g : Heap) (tk : Nat) (L : List (Addr × NestedKey)), (∃ es ep t, NS P w g s.heap.objs.size L es ep t) → Uniq ks L → (∀ b o, s.heap.get? b = some o → g.get? b = some o) → Q (.ref s.heap.objs.size) { s with heap := g, toks := tk }) :
    wpAny (model P w) A (call (.type "set") [.ref l]) Q E s := by
  have sz : (refsN ks).toArray.size = ks.length := by rw [List.size_toArray]; exact List.length_map _
  refine call_set_iv calm isl (fun i h => ∃ L es ep t, NS P w h s.heap.objs.size L es ep t ∧ (∀ p ∈ L, p ∈ ks.take i) ∧ (∀ p ∈ ks.take i, p.2 ∈ L.map Prod.snd) ∧ L.length ≤ i) (fun h e _ => ⟨[], _, _, _, nset_new e, (fun _ z => nomatch z), (fun p z => by simp at z), Nat.le_refl _⟩)
    (fun i h h' ⟨L, es, ep, t, R, m⟩ k _ => ⟨L, es, ep, t, R.keep k, m⟩) (fun A' i v s1 Q' E' _ un hv kp ⟨L, es, ep, t, R, m1, m2, ll⟩ q => ?_) (fun h' tk ⟨L, es, ep, t, R, m1, m2, ll⟩ kp => ?_)
  · have il : i < ks.length := by
      have := (Array.getElem?_eq_some_iff.mp hv).1
      omega
    have ev : v = .ref ks[i].1 := by
      rw [← Array.getElem?_toList] at hv
      have : (refsN ks)[i]? = some v := hv
      unfold refsN at this
      rw [List.getElem?_map, List.getElem?_eq_getElem il] at this
      exact (Option.some.inj this).symm
    subst ev
    have nk1 : NKs P w s1.heap ks := fun p m => nestedKind_stays.stays (fun b o _ _ e _ => kp b o e) (nk p m)
    have hx := nk1 _ (List.getElem_mem il)
    have tk1 : ks.take (i + 1) = ks.take i ++ [ks[i]] := by
      rw [List.take_add_one, List.getElem?_eq_getElem il]
      rfl
    have nkL : NKs P w s1.heap L := fun p m => nk1 p (List.mem_of_mem_take (m1 p m))
    unfold setAdd
    refine wpAny_holding (wpAny_bind ((nestedKind P w).pyHash (show A'.units + 8 < cLine by omega) hx ?_))
    show wpAny (model P w) A' (setAddHashed s.heap.objs.size (.ref ks[i].1) (ks[i].2.hash w)) _ _ { s1 with toks := s1.toks + _ }
    refine nadd (s := { s1 with toks := s1.toks + _ }) R nkL hx (by omega) (by omega) (fun hm => ?_) (fun hm g L1 es1 ep1 t1 sb R1 pm => ?_)
    · refine q false s1.heap _ (Nat.le_add_right _ _) (.refl _ _) ⟨L, es, ep, t, R, fun p hp => ?_, fun p hp => ?_, by omega⟩
      · rw [tk1]; exact List.mem_append_left _ (m1 p hp)
      · rw [tk1] at hp
        rcases List.mem_append.mp hp with z | z
        · exact m2 p z
        · rw [List.mem_singleton.mp z]; exact hm
    · refine q true g _ (Nat.le_add_right _ _) sb ⟨L1, es1, ep1, t1, R1, fun p hp => ?_, fun p hp => ?_, ?_⟩
      · rw [tk1]
        rcases List.mem_cons.mp (pm.mem_iff.mp hp) with z | z
        · rw [z]; exact List.mem_append_right _ (List.mem_singleton.mpr rfl)
        · exact List.mem_append_left _ (m1 p z)
      · rw [(pm.map Prod.snd).mem_iff, List.map_cons]
        rw [tk1] at hp
        rcases List.mem_append.mp hp with z | z
        · exact List.mem_cons_of_mem _ (m2 p z)
        · rw [List.mem_singleton.mp z]; exact List.mem_cons_self
      · rw [pm.length_eq, List.length_cons]; omega
  · rw [sz] at m1 m2
    rw [List.take_length] at m1 m2
    exact out h' tk L ⟨es, ep, t, R⟩ ⟨m1, m2, R.nd⟩ kp
/-- sorted(a set of nested tuples) -/
theorem sorted_setN {a : Addr} {L : List (Addr × NestedKey)} {es : Array (Int × Value)} {ep : Nat} {t : SetTable} {Q : Value → Shared → Prop} (R : NS P w s.heap a L es ep t) (nk : NKs P w s.heap L) (S : Sortable L) (calm : A.handled = none) (hu : A.units + 16 < cLine)
    (q : ∀ s' p (c : Nat) (L' : List (Addr × NestedKey)), (∀ b u, s.heap.get? b = some u → s'.heap.get? b = some u) → s'.gens = s.gens → s'.os = s.os → s.heap.objs.size ≤ p →
      s'.heap.get? p = some (seqObj "list" (refsN L').toArray c) → L'.Perm L → RisN L' → Q (.ref p) s') :
    wpAny (model P w) A (call (.builtin "sorted") [.ref a]) Q E s := by
  obtain ⟨o, ho, hex, hd⟩ := R.ob
  have few := R.few
  have sz := rows_size R.rows
  refine Calls.call_function_entry kind_sorted plain_sorted entry_sorted (args_sorted1 _) ?_
  unfold Builtin.«sorted»
  refine wpAny_bind (m := checkCount "sorted" 1 1 _) (wpAny_pure (wpAny_bind (collect_set (A := A.in1) calm ⟨o, ho, hex.1, hd⟩ R.fits (by unfold scanBound; omega) R.tab.ris R.led fun s1 vs k1 z1 g1 o1 pv => ?_)))
  have er : es.toList.map (·.2) = refsN L := by
    rw [R.rows, List.map_map]
    rfl
  rw [er] at pv
  -- the set's items as they are walked
  have nk1 : NKs P w s1.heap L := fun p m => nestedKind_stays.stays (fun b o _ _ e _ => k1 b o e) (nk p m)
  have eM := refs_backN nk1 (out := vs) fun v hv => pv.mem_iff.mp hv
  have pM := out_perm nk1 pv
  generalize vs.map (backN L) = M at eM pM
  subst eM
  have lM : (refsN M).length = L.length := by
    unfold refsN
    rw [List.length_map, pM.length_eq]
  have nkM : NKs P w s1.heap M := fun p m => nk1 p (pM.mem_iff.mp m)
  have SM : Sortable M := ⟨fun p m => S.fst p (pM.mem_iff.mp m), fun p m p' m' => S.al p (pM.mem_iff.mp m) p' (pM.mem_iff.mp m')⟩
  refine wpAny_bind (wpAny_newList ?_ (by rw [lM, sizeLine_eq]; omega))
  have hL : (s1.heap.push (seqObj "list" (refsN M).toArray 0)).get? s1.heap.objs.size = some (seqObj "list" (refsN M).toArray 0) := Heap.get?_push_size _ rfl
  have nkP : NKs P w (s1.heap.push (seqObj "list" (refsN M).toArray 0)) M := fun p m => nestedKind_stays.stays (fun b o _ _ e _ => Heap.get?_push_of_some _ e) (nkM p m)
  refine wpAny_bind (wpAny_holding (wpAny_call_entry slot_list_sort ⟨_, hL, rfl⟩ entry_list_sort (SrtO.list_sort_ord (s := { s1 with heap := s1.heap.push (seqObj "list" (refsN M).toArray 0) }) (ltv := fun v u => klt (keyV M v) (keyV M u)) (swo_klt _) hL (by rw [lM, sizeLine_eq]; omega)
    (fun h2 => nest_sortable (s := { s1 with heap := s1.heap.push (seqObj "list" (refsN M).toArray 0) }) nkP SM (by rw [← List.length_map (f := fun p : Addr × NestedKey => Value.ref p.1)]; exact Nat.lt_of_lt_of_le (by decide : 0 < 2) h2) (by simp; omega) fun o e => ?_) fun out h1 h2 => ⟨_, rfl, ?_⟩) (args_list_sort _)))
  · have e' : some o = some (seqObj "list" (refsN M).toArray 0) := e.symm.trans hL
    cases e'
    exact PyProof.Rows.G.not_tuple_list
  · have pm := h2.perm
    have e := refs_backN nkP (out := out) fun v hv => pm.mem_iff.mp hv
    obtain ⟨c, hc⟩ := sortedHeap_at (vs := refsN M) (out := out.toArray) hL
    refine wpAny_pure ⟨_, rfl, q _ s1.heap.objs.size c (out.map (backN M)) (fun b u eb => ?_) g1 o1 z1 (by rw [e]; exact hc) ((out_perm nkP pm).trans pM) (ris_out nkP h1)⟩
    have eb1 := k1 b u eb
    have lt := Heap.lt_size eb1
    show (sortedHeap (s1.heap.push (seqObj "list" (refsN M).toArray 0)) s1.heap.objs.size (refsN M) _).get? b = some u
    rw [sortedHeap_old (Nat.ne_of_lt lt) (by rw [size_push']; exact Nat.lt_succ_of_lt lt)]
    exact Heap.get?_push_of_some _ eb1
end
/-! ### the rules -/
def NSetO (P : Program) (w : World) (a : Addr) (L : List (Addr × NestedKey)) : HO := .ext fun h => ∃ es ep t, NS P w h a L es ep t
section
variable {X : Cx}
def rSetN (K : PySem.W.Frag) (P : Program) (w : World) : List V → Hp → VK → Prop := fun vs H Q => ∃ (l : Addr) (ks : List (Addr × NestedKey)), vs = [V.ref l] ∧ SqL K H l (refsV ks) ∧ KeysIn H ks ∧ ks.length < 63 ∧
  ∀ a L, H a = none → Uniq ks L → Q (.ref a) (upd H a (NSetO P w a L))
theorem cr_setN (hc : X.calm = true) (hu : X.A.units + 64 < cLine) : CallR X (.type "set") (rSetN X.K X.prog X.w) := by
  intro pins s σ H vs us Q I r h
  obtain ⟨l, ks, rfl, hl, hk, few, q⟩ := h
  rw [Vals.ref1 r]
  obtain ⟨its, rv, pl, hz⟩ := I.list hl
  have e := vals_refsV rv
  subst e
  refine call_set_n (P := X.prog) (w := X.w) (I.ok.hd hc) (by omega) pl.isList (hk.nks I.hok) few fun g tk L R u kp => ?_
  have ok : ObjOk X.prog X.w (upd H s.heap.objs.size (NSetO X.prog X.w s.heap.objs.size L)) g s.heap.objs.size (NSetO X.prog X.w s.heap.objs.size L) := by
    obtain ⟨es, ep, t, R⟩ := R
    obtain ⟨o, ho, _⟩ := id R.ob
    exact ⟨⟨es, ep, t, R⟩, ⟨o, ho⟩, fun g1 g2 ⟨es1, ep1, t1, R1⟩ k => ⟨es1, ep1, t1, R1.keep k⟩⟩
  exact ⟨.ref s.heap.objs.size, _, I.laid (t' := tk) kp (Nat.le_refl _) ok, rfl, q _ L (I.hok.fresh (Nat.le_refl _)) u⟩
def rSortNS (P : Program) (w : World) : List V → Hp → VK → Prop := fun vs H Q => ∃ (a : Addr) (L : List (Addr × NestedKey)), vs = [V.ref a] ∧ H a = some (NSetO P w a L) ∧ KeysIn H L ∧ Sortable L ∧
  ∀ L' p, L'.Perm L → RisN L' → H p = none → Q (.ref p) (upd H p (.lst (refsV L')))
theorem cr_sortNS (hc : X.calm = true) (hu : X.A.units + 64 < cLine) : CallR X (.builtin "sorted") (rSortNS X.prog X.w) := by
  intro pins s σ H vs us Q I r h
  obtain ⟨a, L, rfl, ha, hk, S, q⟩ := h
  obtain ⟨es, ep, t, R⟩ : ∃ es ep t, NS X.prog X.w s.heap a L es ep t := (I.hok a _ ha).1
  rw [Vals.ref1 r]
  refine sorted_setN R (hk.nks I.hok) S (I.ok.hd hc) (by omega) fun s' p c L' k g os hp hg pm ris => ?_
  have few := R.few
  have hlen : (refsV L').length ≤ sizeLine := by
    unfold refsV
    rw [List.length_map, pm.length_eq, sizeLine_eq]
    omega
  have hn : H p = none := I.hok.fresh hp
  have J : Inv X pins σ (upd H p (.lst (refsV L'))) { s with heap := s'.heap, gens := s'.gens, drawn := s'.drawn, toks := s'.toks } :=
    I.call (ch := []) (Un.laid k hp hn) (I.hok.laid k hp ⟨hlen, refsN L', c, refsV_vals L', hg⟩) (by rw [g]; exact I.bare) (fun _ z => nomatch z)
  have e : s' = { s with heap := s'.heap, gens := s'.gens, drawn := s'.drawn, toks := s'.toks } := by
    cases s'; cases s; cases os; rfl
  rw [e]
  exact ⟨.ref p, _, J, rfl, q L' p pm ris hn⟩
def rSortNL (K : PySem.W.Frag) : List V → Hp → VK → Prop := fun vs H Q => ∃ (l : Addr) (L : List (Addr × NestedKey)), vs = [V.ref l] ∧ SqL K H l (refsV L) ∧ KeysIn H L ∧ Sortable L ∧
  ∀ L' p, L'.Perm L → RisN L' → H p = none → Q (.ref p) (upd H p (.lst (refsV L')))
theorem cr_sortNL (hu : X.A.units + 64 < cLine) : CallR X (.builtin "sorted") (rSortNL X.K) := by
  intro pins s σ H vs us Q I r h
  obtain ⟨l, L, rfl, hl, hk, S, q⟩ := h
  rw [Vals.ref1 r]
  obtain ⟨its, rv, pl, hz⟩ := I.list hl
  have e := vals_refsV rv
  subst e
  have lz : (refsV L).length = L.length := List.length_map _
  rw [lz] at hz
  refine sorted_listN (P := X.prog) (w := X.w) (hk.nks I.hok) S (by omega) pl.isList hz fun L' pm ris => ?_
  obtain ⟨c, hc⟩ := sortedAll_at s.heap (refsN L) (refsN L').toArray
  have hlen : (refsV L').length ≤ sizeLine := by
    unfold refsV
    rw [List.length_map, pm.length_eq]
    exact hz
  exact ⟨.ref _, upd H (s.heap.objs.size + 1) (.lst (refsV L')), I.laid (t' := s.toks) (fun _ _ => sortedAll_old) (Nat.le_succ _) ⟨hlen, refsN L', c, refsV_vals L', hc⟩, rfl, q L' _ pm ris (I.hok.fresh (Nat.le_succ _))⟩
end
/-! ### rising lists of the same keys are the same -/
theorem ris_eq : ∀ {A B : List (Addr × NestedKey)}, RisN A → RisN B → (A.map Prod.snd).Nodup → (A.map Prod.snd).Perm (B.map Prod.snd) → A.map Prod.snd = B.map Prod.snd
  | [], B, _, _, _, p => by rw [List.map_nil] at p ⊢; exact (List.Perm.nil_eq p)
  | a :: A, [], _, _, _, p => by rw [List.map_nil] at p; exact absurd (List.Perm.length_eq p) (by simp)
  | a :: A, b :: B, ra, rb, nd, p => by
    have hab : a.2 = b.2 := by
      have m1 : a.2 ∈ (b :: B).map Prod.snd := p.mem_iff.mp (by simp)
      have m2 : b.2 ∈ (a :: A).map Prod.snd := p.mem_iff.mpr (by simp)
      rcases List.mem_cons.mp m1 with e | m1
      · exact e
      rcases List.mem_cons.mp m2 with e | m2
      · exact e.symm
      obtain ⟨x, hx, ex⟩ := List.mem_map.mp m1
      obtain ⟨y, hy, ey⟩ := List.mem_map.mp m2
      have l1 := (List.pairwise_cons.mp rb).1 x hx
      have l2 := (List.pairwise_cons.mp ra).1 y hy
      rw [ex] at l1
      rw [ey] at l2
      exact klt_tri _ _ l1 l2
    rw [List.map_cons, List.map_cons, hab] at p ⊢
    rw [List.map_cons] at nd
    rw [ris_eq (List.pairwise_cons.mp ra).2 (List.pairwise_cons.mp rb).2 (List.nodup_cons.mp nd).2 (List.Perm.cons_inv p)]
end LB

namespace LB
open PySem PySem.Spec PyProof.Rows L2
def insD (a g : List Nat) : Bool := (gs a g 0).isSome
theorem gs_some (a g : List Nat) (j k : Nat) : (gs a g j).isSome = (gs a g k).isSome := by
  induction g generalizing a j k with
  | nil => cases a <;> rfl
  | cons x r ih =>
    cases a with
    | nil => rfl
    | cons s ss =>
      unfold gs
      by_cases e : x = s
      · rw [if_pos e, if_pos e, Option.isSome_map, Option.isSome_map]
        exact ih ss (j + 1) (k + 1)
      · rw [if_neg e, if_neg e]
        exact ih (s :: ss) (j + 1) (k + 1)
def abvW : List (List Nat) → List (List Nat) → Bool
  | a :: r, g :: q => insD a g && abvW r q
  | _, _ => true
def abv (s1 w1 s2 w2 : List (List Nat)) : Bool := decide (s1 = s2) && abvW w2 w1
theorem abvW_take : ∀ (lo hi : List (List Nat)) (i : Nat), lo.length = hi.length → (hi' : i < lo.length) → (hj : i < hi.length) → abvW (lo.take (i + 1)) (hi.take (i + 1)) = (abvW (lo.take i) (hi.take i) && insD lo[i] hi[i])
  | a :: r, g :: q, 0, hl, h1, h2 => by
    show (insD a g && true) = (true && insD a g)
    rw [Bool.and_true, Bool.true_and]
  | a :: r, g :: q, i + 1, hl, h1, h2 => by
    have i1 : i < r.length := by simpa using h1
    have i2 : i < q.length := by simpa using h2
    show (insD a g && abvW (r.take (i + 1)) (q.take (i + 1))) = ((insD a g && abvW (r.take i) (q.take i)) && insD r[i] q[i])
    rw [abvW_take r q i (by simpa using hl) (by simpa using h1) (by simpa using h2), Bool.and_assoc]
/-! ### within: as lists -/
theorem ins_iff : ∀ (g a : List Nat), insD a g = true ↔ a.Sublist g := by
  intro g
  induction g with
  | nil =>
    intro a
    cases a with
    | nil => exact ⟨fun _ => .slnil, fun _ => rfl⟩
    | cons x r => exact ⟨(fun h => nomatch h), (fun h => nomatch h)⟩
  | cons x r ih =>
    intro a
    cases a with
    | nil => exact ⟨fun _ => List.nil_sublist _, fun _ => rfl⟩
    | cons y q =>
      unfold insD gs
      by_cases e : x = y
      · rw [if_pos e, Option.isSome_map, gs_some q r 1 0, e, List.cons_sublist_cons]
        exact ih q
      · rw [if_neg e, gs_some (y :: q) r 1 0]
        constructor
        · intro h
          exact List.Sublist.cons _ ((ih (y :: q)).mp h)
        · intro h
          refine (ih (y :: q)).mpr ?_
          cases h with
          | cons _ h => exact h
          | cons_cons _ h => exact absurd rfl e
/-! ### scenes above one another -/
abbrev Scn := List (List Nat) × List (List Nat)
def up (p q : Scn) : Bool := abv p.1 p.2 q.1 q.2
def lcs (p : Scn) : Nat := (p.2.map List.length).sum
theorem abvW_trans : ∀ {a b c : List (List Nat)}, a.length = b.length → b.length = c.length → abvW a b = true → abvW b c = true → abvW a c = true
  | [], [], [], _, _, _, _ => rfl
  | x :: a, y :: b, z :: c, h1, h2, e1, e2 => by
    have e1' : (insD x y && abvW a b) = true := e1
    have e2' : (insD y z && abvW b c) = true := e2
    rw [Bool.and_eq_true] at e1' e2'
    show (insD x z && abvW a c) = true
    rw [abvW_trans (by simpa using h1) (by simpa using h2) e1'.2 e2'.2, Bool.and_true]
    exact (ins_iff _ _).mpr (((ins_iff _ _).mp e1'.1).trans ((ins_iff _ _).mp e2'.1))
  | [], [], _ :: _, _, h, _, _ => by simp at h
  | _ :: _, _ :: _, [], _, h, _, _ => by simp at h
  | [], _ :: _, _, h, _, _, _ => by simp at h
  | _ :: _, [], _, h, _, _, _ => by simp at h
theorem abvW_self : ∀ a : List (List Nat), abvW a a = true
  | [] => rfl
  | x :: a => by
    show (insD x x && abvW a a) = true
    rw [abvW_self a, Bool.and_true]
    exact (ins_iff _ _).mpr (List.Sublist.refl _)
theorem abvW_len : ∀ {a b : List (List Nat)}, a.length = b.length → abvW a b = true → (a.map List.length).sum ≤ (b.map List.length).sum ∧ ((b.map List.length).sum ≤ (a.map List.length).sum → a = b)
  | [], [], _, _ => ⟨Nat.le_refl _, fun _ => rfl⟩
  | x :: a, y :: b, h, e => by
    have e' : (insD x y && abvW a b) = true := e
    rw [Bool.and_eq_true] at e'
    have sl := (ins_iff _ _).mp e'.1
    have l1 := sl.length_le
    obtain ⟨l2, l3⟩ := abvW_len (by simpa using h) e'.2
    simp only [List.map_cons, List.sum_cons]
    refine ⟨by omega, fun z => ?_⟩
    rw [sl.eq_of_length_le (by omega), l3 (by omega)]
  | [], _ :: _, h, _ => by simp at h
  | _ :: _, [], h, _ => by simp at h
theorem up_self (p : Scn) : up p p = true := by
  unfold up abv
  rw [decide_eq_true rfl, abvW_self]
  rfl
theorem up_trans {p q r : Scn} (l1 : p.2.length = q.2.length) (l2 : q.2.length = r.2.length) (h1 : up p q = true) (h2 : up q r = true) : up p r = true := by
  unfold up abv at *
  rw [Bool.and_eq_true, decide_eq_true_eq] at *
  exact ⟨h1.1.trans h2.1, abvW_trans l2.symm l1.symm h2.2 h1.2⟩
theorem up_st {p q : Scn} (h : up p q = true) : p.1 = q.1 := by
  unfold up abv at h
  rw [Bool.and_eq_true, decide_eq_true_eq] at h
  exact h.1
theorem up_eq {p q : Scn} (l : p.2.length = q.2.length) (h : up p q = true) (le : lcs p ≤ lcs q) : p = q := by
  have s := up_st h
  unfold up abv at h
  rw [Bool.and_eq_true] at h
  have := (abvW_len l.symm h.2).2 le
  exact Prod.ext s this.symm
theorem up_lcs {p q : Scn} (l : p.2.length = q.2.length) (h : up p q = true) : lcs q ≤ lcs p := by
  unfold up abv at h
  rw [Bool.and_eq_true] at h
  exact (abvW_len l.symm h.2).1
/-! ### the least of them -/
/-- x is one of S that lies above no other one -/
def Least (S : List Scn) (x : Scn) : Prop := x ∈ S ∧ ∀ y ∈ S, y ≠ x → up x y = false
theorem least_iff {S T : List Scn} (h : ∀ x, x ∈ S ↔ x ∈ T) (x : Scn) : Least S x ↔ Least T x :=
  ⟨fun ⟨a, b⟩ => ⟨(h x).mp a, fun y m => b y ((h y).mpr m)⟩, fun ⟨a, b⟩ => ⟨(h x).mpr a, fun y m => b y ((h y).mp m)⟩⟩
abbrev Apart (p q : Addr × Scn) : Prop := up p.2 q.2 = false ∧ up q.2 p.2 = false
/-- what is kept of the scenes looked at -/
structure Kept (P K : List (Addr × Scn)) : Prop where
  sub : ∀ k ∈ K, k ∈ P
  cov : ∀ p ∈ P, ∃ k ∈ K, up p.2 k.2 = true
  anti : K.Pairwise Apart
theorem Kept.nil : Kept [] [] := ⟨(fun _ z => nomatch z), (fun _ z => nomatch z), .nil⟩
theorem Kept.perm {P K K' : List (Addr × Scn)} (x : Kept P K) (p : K'.Perm K) : Kept P K' :=
  ⟨fun k m => x.sub k (p.mem_iff.mp m), fun q m => let ⟨k, a, b⟩ := x.cov q m; ⟨k, p.mem_iff.mpr a, b⟩, (p.pairwise_iff fun {a b} h => ⟨h.2, h.1⟩).mpr x.anti⟩
theorem Kept.over {P K : List (Addr × Scn)} {x k : Addr × Scn} (h : Kept P K) (m : k ∈ K) (u : up x.2 k.2 = true) : Kept (P ++ [x]) K := by
  refine ⟨fun k m => List.mem_append_left _ (h.sub k m), fun p hp => ?_, h.anti⟩
  rcases List.mem_append.mp hp with z | z
  · exact h.cov p z
  · rw [List.mem_singleton.mp z]
    exact ⟨k, m, u⟩
theorem Kept.put {P K : List (Addr × Scn)} {x : Addr × Scn} (h : Kept P K) (n : ∀ k ∈ K, up x.2 k.2 = false) (ln : ∀ p ∈ P, p.2.2.length = x.2.2.length) (le : ∀ p ∈ P, lcs p.2 ≤ lcs x.2) : Kept (P ++ [x]) (K ++ [x]) := by
  refine ⟨fun k m => ?_, fun p hp => ?_, ?_⟩
  · rcases List.mem_append.mp m with z | z
    · exact List.mem_append_left _ (h.sub k z)
    · exact List.mem_append_right _ z
  · rcases List.mem_append.mp hp with z | z
    · obtain ⟨k, a, b⟩ := h.cov p z
      exact ⟨k, List.mem_append_left _ a, b⟩
    · rw [List.mem_singleton.mp z]
      exact ⟨x, List.mem_append_right _ (List.mem_singleton.mpr rfl), up_self _⟩
  · refine List.pairwise_append.mpr ⟨h.anti, List.pairwise_singleton _ _, fun k m y my => ?_⟩
    rw [List.mem_singleton.mp my]
    refine ⟨?_, n k m⟩
    cases e : up k.2 x.2 with
    | false => rfl
    | true =>
      have := up_eq (ln k (h.sub k m)) e (le k (h.sub k m))
      have z := n k m
      rw [this, up_self] at z
      cases z
theorem Kept.mem {P K : List (Addr × Scn)} (h : Kept P K) {n : Nat} (ln : ∀ p ∈ P, p.2.2.length = n) (x : Scn) : x ∈ K.map Prod.snd ↔ Least (P.map Prod.snd) x := by
  constructor
  · intro m
    obtain ⟨k, mk, rfl⟩ := List.mem_map.mp m
    refine ⟨List.mem_map_of_mem (h.sub k mk), fun y my ne => ?_⟩
    obtain ⟨p, mp, rfl⟩ := List.mem_map.mp my
    cases e : up k.2 p.2 with
    | false => rfl
    | true =>
      obtain ⟨k2, m2, u2⟩ := h.cov p mp
      have lk := ln k (h.sub k mk)
      have lp := ln p mp
      have lk2 := ln k2 (h.sub k2 m2)
      have t := up_trans (by omega) (by omega) e u2
      have same : k2 = k := by
        by_cases z : k = k2
        · exact z.symm
        · exfalso
          obtain ⟨i, hi, ei⟩ := List.getElem_of_mem mk
          obtain ⟨j, hj, ej⟩ := List.getElem_of_mem m2
          have ij : i ≠ j := fun q => z (by subst q; exact ei.symm.trans ej)
          have an := List.pairwise_iff_getElem.mp h.anti
          rcases Nat.lt_or_gt_of_ne ij with q | q
          · have := (an i j hi hj q).1
            rw [ei, ej, t] at this
            cases this
          · have := (an j i hj hi q).2
            rw [ei, ej, t] at this
            cases this
      rw [same] at u2
      exact absurd (up_eq (by omega) u2 (up_lcs (by omega) e)) ne
  · intro ⟨m, mn⟩
    obtain ⟨p, mp, rfl⟩ := List.mem_map.mp m
    obtain ⟨k, mk, u⟩ := h.cov p mp
    by_cases z : k.2 = p.2
    · rw [← z]
      exact List.mem_map_of_mem mk
    · have := mn k.2 (List.mem_map_of_mem (h.sub k mk)) z
      rw [u] at this
      cases this
theorem Kept.nodup {P K : List (Addr × Scn)} (h : Kept P K) : (K.map Prod.snd).Nodup := List.pairwise_map.mpr (h.anti.imp fun {a b} z e => by
  have := z.1
  rw [e, up_self] at this
  cases this)
/-! ### scenes as keys -/
def kx1 (l : List Nat) : NestedKey := .text (tx l)
def sceneK (p : Scn) : NestedKey := .tup [.tup (p.1.map kx1), .tup (p.2.map kx1)]
theorem tx_inj {a b : List Nat} (h : tx a = tx b) : a = b := by
  have := congrArg (fun z : Str => z.cps.toList) h
  simpa [tx] using this
theorem kx_inj : ∀ {a b : List (List Nat)}, a.map kx1 = b.map kx1 → a = b
  | [], [], _ => rfl
  | x :: a, y :: b, h => by
    rw [List.map_cons, List.map_cons] at h
    injection h with h1 h2
    injection h1 with h1
    rw [tx_inj h1, kx_inj h2]
  | [], _ :: _, h => by simp at h
  | _ :: _, [], h => by simp at h
theorem sceneK_inj {p q : Scn} (h : sceneK p = sceneK q) : p = q := by
  unfold sceneK at h
  injection h with h
  injection h with h1 h2
  injection h2 with h2 _
  injection h1 with h1
  injection h2 with h2
  exact Prod.ext (kx_inj h1) (kx_inj h2)
theorem kx_depth : ∀ a : List (List Nat), NestedKey.depthAll (a.map kx1) = 0
  | [] => rfl
  | x :: a => by
    rw [List.map_cons, NestedKey.depthAll, kx_depth a]
    rfl
theorem sceneK_depth (p : Scn) : (sceneK p).depth ≤ 8 := by
  unfold sceneK
  rw [NestedKey.depth, NestedKey.depthAll, NestedKey.depthAll, NestedKey.depthAll, NestedKey.depth, NestedKey.depth, kx_depth, kx_depth]
  decide
theorem kx_alike : ∀ a b : List (List Nat), alikeL (a.map kx1) (b.map kx1) = true
  | [], _ => rfl
  | _ :: _, [] => rfl
  | x :: a, y :: b => by
    rw [List.map_cons, List.map_cons, alikeL, kx_alike a b]
    rfl
theorem sceneK_alike (p q : Scn) : alike (sceneK p) (sceneK q) = true := by
  unfold sceneK
  rw [alike, alikeL, alikeL, alike, alike, kx_alike, kx_alike]
  rfl
def keyed (L : List (Addr × Scn)) : List (Addr × NestedKey) := L.map fun p => (p.1, sceneK p.2)
theorem keyed_sortable (L : List (Addr × Scn)) : Sortable (keyed L) := by
  refine ⟨fun p m => ?_, fun p m q m' => ?_⟩
  · obtain ⟨x, _, rfl⟩ := List.mem_map.mp m
    exact ⟨_, _, rfl⟩
  · obtain ⟨x, _, rfl⟩ := List.mem_map.mp m
    obtain ⟨y, _, rfl⟩ := List.mem_map.mp m'
    exact sceneK_alike _ _
theorem keyed_refs (L : List (Addr × Scn)) : refsV (keyed L) = L.map fun p => V.ref p.1 := by
  unfold refsV keyed
  rw [List.map_map]
  rfl
/-- what is left of keyed ones is keyed -/
theorem keyed_back {L : List (Addr × Scn)} : ∀ {M : List (Addr × NestedKey)}, (∀ p ∈ M, p ∈ keyed L) → ∃ N : List (Addr × Scn), M = keyed N ∧ ∀ p ∈ N, p ∈ L
  | [], _ => ⟨[], rfl, fun _ z => nomatch z⟩
  | p :: M, h => by
    obtain ⟨N, e, s⟩ := keyed_back (M := M) fun q m => h q (List.mem_cons_of_mem _ m)
    obtain ⟨x, mx, ex⟩ := List.mem_map.mp (h p List.mem_cons_self)
    refine ⟨x :: N, ?_, fun q m => ?_⟩
    · rw [e, ← ex]
      rfl
    · rcases List.mem_cons.mp m with z | z
      · rw [z]; exact mx
      · exact s q z
theorem keyed_keys (L : List (Addr × Scn)) : (keyed L).map Prod.snd = (L.map Prod.snd).map sceneK := by
  unfold keyed
  rw [List.map_map, List.map_map]
  rfl
theorem map_inj {α β : Type} {f : α → β} (inj : ∀ a b, f a = f b → a = b) : ∀ {l m : List α}, l.map f = m.map f → l = m
  | [], [], _ => rfl
  | x :: l, y :: m, h => by
    rw [List.map_cons, List.map_cons] at h
    injection h with h1 h2
    rw [inj _ _ h1, map_inj inj h2]
  | [], _ :: _, h => by simp at h
  | _ :: _, [], h => by simp at h
theorem nodup_le {α : Type} : ∀ {l m : List α}, l.Nodup → (∀ x ∈ l, x ∈ m) → l.length ≤ m.length := by
  intro l
  induction l with
  | nil => intro m _ _; exact Nat.zero_le _
  | cons x l ih =>
    intro m nd sub
    obtain ⟨p, q, rfl⟩ := List.append_of_mem (sub x List.mem_cons_self)
    have := ih (m := p ++ q) (List.nodup_cons.mp nd).2 fun y my => by
      rcases List.mem_append.mp (sub y (List.mem_cons_of_mem _ my)) with z | z
      · exact List.mem_append_left _ z
      · rcases List.mem_cons.mp z with z | z
        · rw [z] at my
          exact absurd my (List.nodup_cons.mp nd).1
        · exact List.mem_append_right _ z
    simp only [List.length_append, List.length_cons] at this ⊢
    omega
theorem nodup_of_map' {α β : Type} {f : α → β} {l : List α} (h : (l.map f).Nodup) : l.Nodup := List.Pairwise.of_map f (fun _ _ n e => n (congrArg f e)) h
/-- the least of S, rising, each once -/
structure LeastOf (S : List Scn) (M : List (Addr × Scn)) : Prop where
  mem : ∀ x, x ∈ M.map Prod.snd ↔ Least S x
  nd : (M.map Prod.snd).Nodup
  ris : RisN (keyed M)
theorem nodup_map {α β : Type} {f : α → β} (inj : ∀ a b, f a = f b → a = b) {l : List α} (h : l.Nodup) : (l.map f).Nodup := List.pairwise_map.mpr (h.imp fun n e => n (inj _ _ e))
theorem LeastOf.same {S T : List Scn} {M N : List (Addr × Scn)} (x : LeastOf S M) (y : LeastOf T N) (h : ∀ z, z ∈ S ↔ z ∈ T) : M.map Prod.snd = N.map Prod.snd := by
  refine map_inj (f := sceneK) (fun _ _ => sceneK_inj) ?_
  rw [← keyed_keys, ← keyed_keys]
  refine ris_eq x.ris y.ris ?_ ?_
  · rw [keyed_keys]
    exact nodup_map (fun _ _ => sceneK_inj) x.nd
  · rw [keyed_keys, keyed_keys]
    refine List.Perm.map _ ((List.perm_ext_iff_of_nodup x.nd y.nd).mpr fun z => ?_)
    rw [x.mem, y.mem]
    exact least_iff h z
end LB

namespace LB
open PySem PySem.Spec PyProof.Rows L2
/-! ### sorted(xs, key=f), f a def whose answers are ints, xs objects, fewer than 64 -/
section
variable {prog : Program} {w : World} {A : Around} {E : Value → Shared → Prop} {s : Shared} {a kS : Addr} {vs : List Value} {kz : List Int} {keys : Array Value} {e e1 : Nat} {P : PySem.Fin → Shared → Prop}
theorem key_tail {st : SortSt} (ga : s.heap.get? a = some (seqObj "list" #[] e1)) (gk : s.heap.get? kS = some (seqObj "list" keys e)) (ne : kS ≠ a) (hk : IntsAre keys.toList kz) (hl : kz.length = vs.length) (few : vs.length < 64)
    (hp : (arrOf st).Perm (keys.zip vs.toArray)) (hs : SortedTo (arrOf st) (arrOf st).size) (hf : failedOf st = none)
    (q : ∀ (g1 g : Heap) out c, (∀ b o, b ≠ kS → s.heap.get? b = some o → g1.get? b = some o) → (∀ b o, b ≠ a → g1.get? b = some o → g.get? b = some o) → g.get? a = some (seqObj "list" out c) → KskOut false kz vs out.toList → P (.done (.ret .none)) { s with heap := g }) :
    wpAny (model prog w) A (ksk_tail a false e1 (.ref kS) st) P E s := by
  have kz' : keys.size = vs.length := by
    have := hk.length
    rw [Array.length_toList] at this
    omega
  have sz : ((arrOf st).map (·.2)).size = vs.length := by
    rw [Array.size_map, hp.size_eq, Array.size_zip, kz', List.size_toArray, Nat.min_self]
  have ga1 : (s.heap.update kS (Obj.mapSeq fun _ => (#[] : Array Value))).get? a = some (seqObj "list" #[] e1) := (Heap.get?_update_ne _ _ _ _ ne.symm).trans ga
  unfold ksk_tail
  try dsimp only
  refine wpAny_bind (listUpdate_at gk rfl ?_ (by rw [kz', sizeLine_eq]; omega) (Nat.zero_le _))
  refine wpAny_bind (wpAny_letGo (wpAny_bind (seqEpoch_at ga1 rfl ?_)))
  refine wpAny_bind (listUpdate_at ga1 rfl ?_ (Nat.zero_le _) (by simp only [Bool.false_eq_true, if_false]; rw [sz, sizeLine_eq]; omega))
  rw [hf]
  simp only [bne_self_eq_false, Bool.false_eq_true, if_false]
  refine wpAny_pure (q _ _ ((arrOf st).map (·.2)) _ (fun b o n z => (Heap.get?_update_ne _ _ _ _ n).trans z) (fun b o n z => (Heap.get?_update_ne _ _ _ _ n).trans z) (get?_update_seq ga1 _) ?_)
  · have := ksk_out (b := false) (vs := vs) hk hp hs
    simpa using this
theorem key_end (ga : s.heap.get? a = some (seqObj "list" #[] e1)) (gk : s.heap.get? kS = some (seqObj "list" keys e)) (ne : kS ≠ a) (hk : IntsAre keys.toList kz) (hl : kz.length = vs.length) (few : vs.length < 64)
    (q : ∀ (g1 g : Heap) out c, (∀ b o, b ≠ kS → s.heap.get? b = some o → g1.get? b = some o) → (∀ b o, b ≠ a → g1.get? b = some o → g.get? b = some o) → g.get? a = some (seqObj "list" out c) → KskOut false kz vs out.toList → P (.done (.ret .none)) { s with heap := g }) :
    wpAny (model prog w) A (ksk_end a false vs.toArray e1 (.ref kS) keys) P E s := by
  have kz' : keys.size = vs.length := by
    have := hk.length
    rw [Array.length_toList] at this
    omega
  have sz : (keys.zip vs.toArray).size = vs.length := by rw [Array.size_zip, kz', List.size_toArray, Nat.min_self]
  have sv : vs.toArray.size = vs.length := List.size_toArray
  unfold ksk_end
  try dsimp only
  simp only [Bool.false_eq_true, if_false]
  by_cases h2 : vs.toArray.size < 2
  · rw [if_pos h2, if_pos h2]
    refine wpAny_bind (wpAny_pure ?_)
    rw [StateT.run_pure]
    refine wpAny_bind (wpAny_pure ?_)
    try dsimp only
    refine key_tail (st := SortSt.mk' general' (keys.zip vs.toArray) #[] 7 none) ga gk ne hk hl few (Array.Perm.refl _) (fun i j ij jl => ?_) rfl q
    have : j < (keys.zip vs.toArray).size := jl
    obtain rfl : i = j := by omega
    exact Int.le_refl _
  · rw [if_neg h2, if_neg h2, ksk_kind hk (by omega)]
    refine wpAny_bind (wpAny_pure ?_)
    refine wpAny_bind (wpAny_mono (wpS_sortRuns (a₀ := keys.zip vs.toArray) (st := SortSt.mk' oneType' (keys.zip vs.toArray) #[] 7 none)
      (Q := fun _ st' => (arrOf st').Perm (keys.zip vs.toArray) ∧ failedOf st' = none ∧ SortedTo (arrOf st') (keys.zip vs.toArray).size) (ksk_intKeys hk) ⟨Array.Perm.refl _, rfl, rfl, rfl⟩ (by omega) (by omega) fun st' x1 x2 x3 => ⟨x1, x2, x3⟩) ?_ fun _ _ z => z)
    rintro ⟨⟨⟩, st'⟩ s' ⟨rfl, p1, p2, p3⟩
    try dsimp only
    exact key_tail ga gk ne hk hl few p1 (by rw [p1.size_eq]; exact p3) p2 q
end
/-- an address that is ours alone -/
structure Own1 (X : Cx) (pins : List (Addr × Obj)) (a : Addr) : Prop where
  loc : a ≠ X.env.locals
  fs : a ∉ X.fs
  new : X.s_0.heap.objs.size ≤ a
  cel : ∀ x c, X.env.cells.lookup x = some c → c ≠ a
  pin : ∀ p ∈ X.pn ++ pins, p.1 ≠ a
section
variable {X : Cx} {pins : List (Addr × Obj)} {σ : L2.St} {H : Hp} {s : Shared} {a : Addr}
theorem own1 (I : Inv X pins σ H s) (h : s.heap.objs.size ≤ a) : Own1 X pins a := by
  have far : ∀ {b : Addr} {o : Obj}, s.heap.get? b = some o → b ≠ a := fun e => Nat.ne_of_lt (Nat.lt_of_lt_of_le (Heap.lt_size e) h)
  refine ⟨?_, I.nofs h, Nat.le_trans I.sz h, fun x c e => ?_, fun p hp => far (I.pin p hp).1⟩
  · obtain ⟨m, ⟨o, es, ep, ho, _⟩, _⟩ := I.loc
    exact (far ho).symm
  · obtain ⟨v, o, ho, _⟩ := I.cell x c e
    exact far ho
def KeyOut (kz : List Int) (xs ys : List V) : Prop := ∃ ps : List (Int × V), ps.Perm (kz.zip xs) ∧ ys = ps.map Prod.snd ∧ ps.Pairwise fun p q => p.1 ≤ q.1
def rSortKey (K : PySem.W.Frag) (f : Addr) (sp : Sp) : List V → List V → Hp → VK → Prop := fun vs zs H Q => ∃ (l : Addr) (xs : List V) (kz : List Int) (W : Nat → Hp → Prop) (E : XK), vs = [.ref l] ∧ zs = [.ref f] ∧ SqL K H l xs ∧ (∀ x ∈ xs, ∃ b, x = V.ref b) ∧ xs.length < 64 ∧ kz.length = xs.length ∧ W 0 H ∧
  (∀ i x k G, xs[i]? = some x → kz[i]? = some k → W i G → sp [x] G (fun v G' => v = .int k ∧ W (i + 1) G') E) ∧
  ∀ G p ys, W xs.length G → G p = none → KeyOut kz xs ys → Q (.ref p) (upd G p (.lst ys))
theorem keyOut_back {kz : List Int} {xs : List V} {its out : List Value} (e : xs = its.map backV) (h : KskOut false kz its out) : KeyOut kz xs (out.map backV) := by
  obtain ⟨ps, h1, h2, h3⟩ := h
  refine ⟨ps.map fun p => (p.1, backV p.2), ?_, ?_, ?_⟩
  · have := h1.map fun p : Int × Value => (p.1, backV p.2)
    rw [e, List.zip_map_right]
    exact this
  · rw [h2, List.map_map, List.map_map]
    rfl
  · exact List.pairwise_map.mpr (h3.imp fun z => by simpa using z)
theorem cr_sortKey {k : Nat} {f : Addr} {fd : FuncData} {ps : List Str} {sp : Sp} (F : FnOk X.prog X.w X.K X.mg X.base (fun _ _ _ _ _ _ => False) k f fd ps sp) (hr : Room (k + 2) X.A) (hb : Binds X.K fd ps []) :
    CallRK X (.builtin "sorted") [Str.ofString "key"] (rSortKey X.K f sp) := by
  intro pins s σ H vs zs us ws Q I r rz h
  obtain ⟨l, xs, kz, W, E0, rfl, rfl, hl, href, few, hkz, w0, turn, q⟩ := h
  rw [Vals.ref1 r, Vals.ref1 rz]
  obtain ⟨its, rv, pl, hz⟩ := I.list hl
  obtain ⟨e1, e2⟩ := refs_back rv href
  have il : its.length = xs.length := rv.length.symm
  have zl : its.length ≤ sizeLine := by rw [sizeLine_eq]; omega
  show wpAny (model X.prog X.w) X.A (call (.builtin "sorted") [.ref l] [(Str.ofString "key", .ref f)]) _ _ _
  refine call_function_entry_kw kind_sorted plain_sorted entry_sorted (ksk_s1 _ _) ?_
  unfold Builtin.«sorted»
  refine wpAny_bind (m := checkCount "sorted" 1 1 _) (wpAny_pure ?_)
  refine wpAny_bind (collect_list pl.isList ?_ zl)
  refine wpAny_bind (wpAny_newList ?_ zl)
  have keep : ∀ b o, s.heap.get? b = some o → (((s.heap.push (seqObj "list" #[] 0)).update s.heap.objs.size (Obj.mapSeq (· ++ its.toArray))).push (seqObj "list" its.toArray 0)).get? b = some o := fun b o z => by
    refine Heap.get?_push_of_some _ ?_
    rw [Heap.get?_update_ne _ _ _ _ (Nat.ne_of_lt (Heap.lt_size z))]
    exact Heap.get?_push_of_some _ z
  have ga : (((s.heap.push (seqObj "list" #[] 0)).update s.heap.objs.size (Obj.mapSeq (· ++ its.toArray))).push (seqObj "list" its.toArray 0)).get? (((s.heap.push (seqObj "list" #[] 0)).update s.heap.objs.size (Obj.mapSeq (· ++ its.toArray)))).objs.size = some (seqObj "list" its.toArray 0) := Heap.get?_push_size _ rfl
  have ia : s.heap.objs.size ≤ ((s.heap.push (seqObj "list" #[] 0)).update s.heap.objs.size (Obj.mapSeq (· ++ its.toArray))).objs.size := by
    rw [Heap.size_update, size_push']
    exact Nat.le_succ _
  show wpAny _ _ _ _ _ { s with heap := ((s.heap.push (seqObj "list" #[] 0)).update s.heap.objs.size (Obj.mapSeq (· ++ its.toArray))).push (seqObj "list" its.toArray 0) }
  generalize ((s.heap.push (seqObj "list" #[] 0)).update s.heap.objs.size (Obj.mapSeq (· ++ its.toArray))).objs.size = a at ga ia ⊢
  generalize ((s.heap.push (seqObj "list" #[] 0)).update s.heap.objs.size (Obj.mapSeq (· ++ its.toArray))).push (seqObj "list" its.toArray 0) = h1 at keep ga ⊢
  refine wpAny_bind (wpAny_holding (wpAny_call_entry_kw slot_list_sort ⟨_, ga, rfl⟩ entry_list_sort ?_ (ksk_l1 _ _)))
  rw [ksk_t1]
  unfold ksk_tree
  obtain ⟨ep, ga1⟩ : ∃ ep, (h1.update a (Obj.mapSeq fun _ => (#[] : Array Value))).get? a = some (seqObj "list" #[] ep) := ⟨_, get?_update_seq ga fun _ => #[]⟩
  refine wpAny_bind (listItems_at ga rfl ?_)
  refine wpAny_bind (listUpdate_at ga rfl ?_ (by rw [List.size_toArray]; exact zl) (Nat.zero_le _))
  refine wpAny_bind (seqEpoch_at ga1 rfl ?_)
  refine wpAny_bind (wpAny_newTuple ?_ (by show its.length ≤ _; exact zl))
  refine wpAny_bind (wpAny_newList ?_ (Nat.zero_le _))
  refine wpAny_holding ?_
  have keep2 : ∀ b o, s.heap.get? b = some o → (((h1.update a (Obj.mapSeq fun _ => (#[] : Array Value))).push (seqObj "tuple" its.toArray 0)).push (seqObj "list" #[] 0)).get? b = some o := fun b o z => by
    refine Heap.get?_push_of_some _ (Heap.get?_push_of_some _ ?_)
    rw [Heap.get?_update_ne _ _ _ _ (Nat.ne_of_lt (Nat.lt_of_lt_of_le (Heap.lt_size z) ia))]
    exact keep b o z
  have ga2 : (((h1.update a (Obj.mapSeq fun _ => (#[] : Array Value))).push (seqObj "tuple" its.toArray 0)).push (seqObj "list" #[] 0)).get? a = some (seqObj "list" #[] ep) := Heap.get?_push_of_some _ (Heap.get?_push_of_some _ ga1)
  have gk2 : (((h1.update a (Obj.mapSeq fun _ => (#[] : Array Value))).push (seqObj "tuple" its.toArray 0)).push (seqObj "list" #[] 0)).get? ((h1.update a (Obj.mapSeq fun _ => (#[] : Array Value))).push (seqObj "tuple" its.toArray 0)).objs.size = some (seqObj "list" #[] 0) := Heap.get?_push_size _ rfl
  have al : a < ((h1.update a (Obj.mapSeq fun _ => (#[] : Array Value))).push (seqObj "tuple" its.toArray 0)).objs.size := Heap.lt_size (Heap.get?_push_of_some _ ga1)
  show wpAny _ _ (ksk_rest a (.ref f) false its.toArray ep (.ref ((h1.update a (Obj.mapSeq fun _ => (#[] : Array Value))).push (seqObj "tuple" its.toArray 0)).objs.size)) _ _ { s with heap := ((h1.update a (Obj.mapSeq fun _ => (#[] : Array Value))).push (seqObj "tuple" its.toArray 0)).push (seqObj "list" #[] 0) }
  generalize ((h1.update a (Obj.mapSeq fun _ => (#[] : Array Value))).push (seqObj "tuple" its.toArray 0)).objs.size = kS at gk2 al ⊢
  generalize ((h1.update a (Obj.mapSeq fun _ => (#[] : Array Value))).push (seqObj "tuple" its.toArray 0)).push (seqObj "list" #[] 0) = h2 at keep2 ga2 gk2 ⊢
  have I2 : Inv X pins σ H { s with heap := h2 } := I.kept (t' := s.toks) keep2
  have oa := own1 I ia
  have ok := own1 I (Nat.le_trans ia (Nat.le_of_lt al))
  have ne : kS ≠ a := Nat.ne_of_gt al
  -- one round
  have pinIt : ∀ {G : Hp} {s' : Shared} {kA : Array Value} {c : Nat}, Inv X pins σ G s' → s'.heap.get? a = some (seqObj "list" #[] ep) → s'.heap.get? kS = some (seqObj "list" kA c) → G a = none → G kS = none →
      Inv X (pins ++ [(a, seqObj "list" #[] ep), (kS, seqObj "list" kA c)]) σ G s' := fun I' g1 g2 n1 n2 => I'.pins_of fun p hp => by
    rcases List.mem_append.mp hp with z | z
    · exact I'.pin p (List.mem_append_right _ z)
    · rcases List.mem_cons.mp z with rfl | z
      · exact ⟨g1, n1, oa.loc, oa.fs, fun v z => nomatch z⟩
      · rw [List.mem_singleton.mp z]
        exact ⟨g2, n2, ok.loc, ok.fs, fun v z => nomatch z⟩
  unfold ksk_rest
  refine wpAny_bind (wpAny_rule ?_)
  rw [← Array.forIn_toList]
  show wpAny _ _ ((forIn its _ _) >>= _) _ _ _
  refine wpAny_bind (ksk_fold (fun i s' => ∃ G kA c, Inv X (pins ++ [(a, seqObj "list" #[] ep), (kS, seqObj "list" kA c)]) σ G s' ∧ W i G ∧ IntsAre kA.toList (kz.take i)) its 0 _ ⟨H, #[], 0, pinIt I2 ga2 gk2 (I.hok.fresh ia) (I.hok.fresh (Nat.le_trans ia (Nat.le_of_lt al))), w0, by simpa using IntsAre.nil⟩ (fun j x s' hx hI => ?_) (fun s' hI => ?_))
  · obtain ⟨G, kA, c, I', wj, hk⟩ := hI
    rw [Nat.zero_add] at wj hk ⊢
    have jl : j < its.length := (List.getElem?_eq_some_iff.mp hx).1
    obtain ⟨kk, hkk⟩ : ∃ kk, kz[j]? = some kk := ⟨_, List.getElem?_eq_getElem (by omega)⟩
    obtain ⟨b, rfl⟩ := e2 x (List.mem_of_getElem? hx)
    have hxv : xs[j]? = some (.ref b) := by rw [e1, List.getElem?_map, hx]; rfl
    have kAs : kA.size ≤ its.length := by
      have := hk.length
      rw [Array.length_toList, List.length_take] at this
      omega
    have t := turn j _ kk G hxv hkk wj
    have hlen : ([Value.ref b] ++ ([] : List Value)).length = ps.length := by rw [← F.len _ _ _ _ t]; rfl
    have run : wpAny (model X.prog X.w) X.A.in1.in1 (call (.ref f) [.ref b]) (EP X (pins ++ [(a, seqObj "list" #[] ep), (kS, seqObj "list" kA c)]) σ fun v G' => v = .int kk ∧ W (j + 1) G') (fun _ _ => False) s' := by
      refine wpAny_call (codeAny_mono (F.run X.A.in1.in1 X.stack s' G ⟨[.ref b], []⟩ ([Value.ref b] ++ []) [.ref b] _ E0 (Room.in1 (Room.in1 hr)) I'.env0.in1.in1 (hb s' [.ref b] I'.kIn hlen) (show Vals [V.ref b] [Value.ref b] from .cons rfl .nil) t) fun r s2 hq => ?_)
      cases r with
      | error e => exact hq
      | ok fl =>
        cases fl with
        | ret u => exact I'.after hq
        | next => exact hq.elim
        | brk => exact hq.elim
        | cont => exact hq.elim
    refine wpAny_bind (wpAny_attempt (wpAny_mono run (fun v s2 he => ?_) fun _ _ z => z.elim))
    obtain ⟨y, G', I3, ry, rfl, w3⟩ := he
    obtain ⟨tk, rfl⟩ := ry
    try dsimp only
    have pa := I3.pin (a, seqObj "list" #[] ep) (List.mem_append_right _ (List.mem_append_right _ List.mem_cons_self))
    have pk := I3.pin (kS, seqObj "list" kA c) (List.mem_append_right _ (List.mem_append_right _ (List.mem_cons_of_mem _ List.mem_cons_self)))
    refine wpAny_bind (listUpdate_at pk.1 rfl ?_ (by rw [sizeLine_eq]; omega) (Nat.le_trans (Nat.le_of_eq (Array.size_push ..)) (by rw [sizeLine_eq]; omega)))
    obtain ⟨c2, gk3⟩ : ∃ c2, (s2.heap.update kS (Obj.mapSeq (·.push (.int kk tk)))).get? kS = some (seqObj "list" (kA.push (.int kk tk)) c2) := ⟨_, get?_update_seq pk.1 (·.push (.int kk tk))⟩
    have I4 : Inv X pins σ G' { s2 with heap := s2.heap.update kS (Obj.mapSeq (·.push (.int kk tk))) } :=
      I3.unpinned.turned (t' := s2.toks) (it := kS) (fun b' o nb z => (Heap.get?_update_ne _ _ _ _ nb).trans z) pk.2.1 ok.loc (.inr ok.new) ok.cel ok.pin
    refine wpAny_pure ⟨rfl, G', kA.push (.int kk tk), c2, pinIt I4 ((Heap.get?_update_ne _ _ _ _ ne.symm).trans pa.1) gk3 pa.2.1 pk.2.1, w3, ?_⟩
    rw [Array.toList_push, List.take_add_one, hkk]
    exact ksk_snoc hk
  · obtain ⟨G, kA, c, I', wn, hk⟩ := hI
    rw [Nat.zero_add] at wn hk
    rw [List.take_of_length_le (by omega)] at hk
    rw [il] at wn
    have pa := I'.pin (a, seqObj "list" #[] ep) (List.mem_append_right _ (List.mem_append_right _ List.mem_cons_self))
    have pk := I'.pin (kS, seqObj "list" kA c) (List.mem_append_right _ (List.mem_append_right _ (List.mem_cons_of_mem _ List.mem_cons_self)))
    refine wpAny_bind (listItems_at pk.1 rfl ?_)
    refine key_end pa.1 pk.1 ne hk (by omega) (by omega) fun g1 g out cc kp1 kp2 go ko => ⟨_, rfl, wpAny_pure ⟨_, rfl, ?_⟩⟩
    have I5 : Inv X pins σ G { s' with heap := g1 } := I'.unpinned.turned (t' := s'.toks) (it := kS) (fun b' o nb z => kp1 b' o nb z) pk.2.1 ok.loc (.inr ok.new) ok.cel ok.pin
    have kpo := keyOut_back e1 ko
    have hout : ∀ u ∈ out.toList, ∃ b, u = Value.ref b := fun u hu => by
      obtain ⟨pp, k1, k2, _⟩ := ko
      rw [k2] at hu
      obtain ⟨p, hp, rfl⟩ := List.mem_map.mp hu
      have := k1.mem_iff.mp hp
      exact e2 _ (List.of_mem_zip this).2
    have hlen : (out.toList.map backV).length ≤ sizeLine := by
      obtain ⟨pp, k1, k2, _⟩ := ko
      rw [List.length_map, k2, List.length_map, k1.length_eq, List.length_zip, sizeLine_eq]
      omega
    refine ⟨.ref a, upd G a (.lst (out.toList.map backV)), ?_, rfl, q G a _ wn pa.2.1 kpo⟩
    exact I5.take (h' := g) (t' := s'.toks) (fun b' o nb z => kp2 b' o nb z) (I.fpOk ia pa.2.1) ⟨hlen, out.toList, cc, vals_back hout, go⟩
end
end LB

namespace LB
open PySem PySem.Spec PyProof.Rows L2
/-! ### dicts whose keys are tuples: setdefault, values -/
def rSetdT : V → List V → Hp → VK → Prop := fun x xs H Q => ∃ (a : Addr) (kvs : List (List L2.Key × V)) (k : List L2.Key) (b : Addr) (d : V), x = .ref a ∧ xs = [.ref b, d] ∧ H a = some (.dT kvs) ∧ H b = some (.tup (k.map kV)) ∧ kvs.length < sizeLine ∧
  (∀ v, valV kvs k = some v → Q v H) ∧ (valV kvs k = none → Q d (upd H a (.dT (putK kvs k d))))
section
variable {X : Cx}
theorem putK_len {kvs : List (List L2.Key × V)} {k : List L2.Key} {v : V} : (putK kvs k v).length ≤ kvs.length + 1 := by
  unfold putK
  split
  · rw [List.length_map]; exact Nat.le_succ _
  · rw [List.length_append]; exact Nat.le_refl _
theorem mt_setdT (hu : X.A.units + 1 < cLine) : MtR X "dict.setdefault" rSetdT := by
  intro pins s σ H x xs v us Q I rx rxs h
  obtain ⟨a, kvs, k, b, d, rfl, rfl, ha, hb, hl, q1, q2⟩ := h
  cases rx
  obtain ⟨u1, u2, rfl, r1, r2⟩ := vals2 rxs
  cases r1
  obtain ⟨z, hd, ys, rel, dd⟩ := dt_of I.hok ha
  have rv := rel.val k
  refine call_setdefault_heap (knd := tupleKind (mixKind X.prog X.w)) (k := k) (tupleKind_room_in1 hu) (key_of I.hok hb) hd dd (fun p hp => ?_) (fun hn h' dd' sb => ?_) (by rw [← Paired.length rel]; exact z)
  · rw [hp] at rv
    cases ev : valV kvs k with
    | none => rw [ev] at rv; exact (show False from rv).elim
    | some v0 =>
      rw [ev] at rv
      exact ⟨v0, H, I.tok _, rv, q1 v0 ev⟩
  · rw [hn] at rv
    have ev : valV kvs k = none := by
      cases ev : valV kvs k with
      | none => rfl
      | some v0 => rw [ev] at rv; exact (show False from rv).elim
    obtain ⟨o, es, ep, g1, g2, g3, g4, _, g5⟩ := dd'
    have nb : ∀ c ys, H c = some (.tup ys) → c ≠ a := fun c ys e => ne_of e ha (fun z => nomatch z)
    exact ⟨d, upd H a (.dT (putK kvs k d)), d_write I (by rw [ha]; exact True.intro) sb ⟨o, g1⟩ ⟨Nat.le_trans putK_len hl, hd, _, (rel.put k hb r2).keeps (fun c ys ec => (by rw [upd_ne (nb c ys ec)]; exact ec)), o, es, ep, g1, g2, g3, g4, g5⟩, r2, q2 ev⟩
end
/-- the values of the locked dict at d -/
def ItdT (d : Addr) (o : Obj) (kvs : List (List L2.Key × V)) : It :=
  ⟨fun i H => H d = some (.frz o (.dT kvs)) ∧ i < kvs.length, fun i H x H' => H' = H ∧ ∃ k, kvs[i]? = some (k, x), fun i H => H d = some (.frz o (.dT kvs)) ∧ kvs.length ≤ i⟩
theorem walk_valuesT {d : Addr} {o : Obj} {kvs : List (List L2.Key × V)} : Walk (ItdT d o kvs) kvs.length (fun H => H d = some (.frz o (.dT kvs))) (fun i H x H' => H' = H ∧ ∃ k, kvs[i]? = some (k, x)) :=
  ⟨fun _ _ hi q => ⟨q, hi⟩, fun _ q => ⟨q, Nat.le_refl _⟩, fun _ _ _ _ _ _ y => y⟩
section
variable {X : Cx} {pins : List (Addr × Obj)} {σ : L2.St} {H : Hp} {s : Shared} {d : Addr} {o : Obj}
theorem frzV {kvs : List (List L2.Key × V)} (I : Inv X pins σ H s) (h : H d = some (.frz o (.dT kvs))) :
    (d == sysModules) = false ∧ ∃ (es : Array DictEntry) (ep : Nat), o.data = .dict es ep ∧ s.heap.DictRaw d es ep ∧ es.size = kvs.length ∧
      ∀ (i : Nat) (k : List L2.Key) (v : V), kvs[i]? = some (k, v) → ∃ hi : i < es.size, RelV v es[i].val := by
  obtain ⟨hd, z, hs, xs, pr, o', es, ep, ho, hx, hdt, he, _⟩ := I.hok d _ h
  rw [hd] at ho
  cases ho
  have l2 : kvs.length = xs.length := Paired.length pr
  have l1 : es.size = xs.length := by rw [← Array.length_toList, he, List.length_map]
  refine ⟨hs, es, ep, hdt, ⟨o, hd, hx, hdt⟩, by omega, fun i k v e => ?_⟩
  obtain ⟨b, hb, e1, e2, e3⟩ := L2.paired_get pr e
  have il : i < es.size := by
    rw [l1]
    exact (List.getElem?_eq_some_iff.mp hb).1
  refine ⟨il, ?_⟩
  have q : es[i]? = some (entryOfKey (tupleKind (mixKind X.prog X.w)) b) := by rw [← Array.getElem?_toList, he, List.getElem?_map, hb]; rfl
  rw [Array.getElem?_eq_getElem il] at q
  rw [Option.some.inj q]
  exact e3
end
section
variable {P : Program} {w : World} {K : PySem.W.Frag} {tg : Expr} {d : Addr} {o : Obj} {es : Array DictEntry} {ep : Nat}
theorem turn_valsT {kvs : List (List L2.Key × V)} (it : Addr) (hod : o.data = .dict es ep) : Turn P w K tg (ItdT d o kvs) [it] it (fun i h => h.IsValIter it d i kvs.length ep) where
  mem := by simp
  obj := fun i h st b hb => by
    rw [List.mem_singleton.mp hb]
    obtain ⟨oi, e, c, dd⟩ := st
    exact ⟨oi, e, fun v z => by rw [dd] at z; cases z⟩
  keep := fun i h h' st k => st.at fun oi e => k it (by simp) oi e
  item := by
    intro X hP hw hK hc i pins s σ H E I hf st hg
    subst hP hw hK
    obtain ⟨f0, f1, f2, f3, f4, f5⟩ := hf it (by simp)
    obtain ⟨hs, es', ep', hdt, raw, sz, vals⟩ := frzV I hg.1
    obtain ⟨rfl, rfl⟩ := dict_ep hod hdt
    obtain ⟨⟨k, v⟩, hkv⟩ : ∃ p, kvs[i]? = some p := ⟨_, List.getElem?_eq_getElem hg.2⟩
    obtain ⟨il, rv⟩ := vals i k v hkv
    rw [← sz] at st
    refine wpAny_pyNext_values_item_raw st raw il fun h' st' sb => ?_
    have I1 : Inv X pins σ H { s with heap := h' } := I.turned (t' := s.toks) (fun b ob hb e => (sb.2 b hb).trans e) f0 f1 f3 f4 f5
    obtain ⟨oi, e, c, dd⟩ := id st'
    refine ⟨_, rfl, go_of (s := { s with heap := h' }) e c dd (by decide) ⟨v, H, I1, rv, ⟨rfl, k, hkv⟩, ?_, fun b hb => (hf b hb).1⟩⟩
    show h'.IsValIter it d (i + 1) kvs.length _
    rw [← sz]
    exact st'
  done := by
    intro X hP hw hK hc i pins s σ H E I hf st hg
    subst hP hw hK
    obtain ⟨f0, f1, f2, f3, f4, f5⟩ := hf it (by simp)
    obtain ⟨hs, es', ep', hdt, raw, sz, vals⟩ := frzV I hg.1
    obtain ⟨rfl, rfl⟩ := dict_ep hod hdt
    rw [← sz] at st
    exact wpAny_pyNext_values_end_raw (I.ok.hd hc) st raw (by rw [sz]; exact hg.2) fun h' eb => ⟨rfl, I.turned (t' := s.toks) (fun b ob hb e => eb b ob hb e) f0 f1 f3 f4 f5⟩
  self := fun A i s Q E st h => wpAny_pyIter_valiter st h
end
def iValsT (td : TE) : TI := fun σ H R => td σ H fun x H1 => ∃ d o kvs, x = .ref d ∧ H1 d = some (.frz o (.dT kvs)) ∧ R (ItdT d o kvs) H1
section
variable {X : Cx} {tg e : Expr} {td : TE} {apos cpos : Pos}
theorem pi_valuesT (he : PE X e td) (hbase : attributeBase e "values" X.env (eval e X.env) = eval e X.env := by rfl) (hline : (apos.endLine == cpos.line) = true := by rfl) : PI X tg (.Call (.Attribute e "values" apos) [] [] cpos) (iValsT td) := by
  refine ⟨fun pins s σ H R I h => ?_⟩
  refine wpAny_Call_method (T := "dict") (id := "dict.values") hbase rfl hline PySem.F.plainAttrs_dict PySem.F.slot_dict_values PySem.F.type_dict_values (thn (he.run pins s σ H _ I h) fun u s1 ⟨x, H1, I1, rx, d, o, kvs, ex, hd, q⟩ => ?_)
  subst ex
  obtain rfl : u = Value.ref d := rx
  obtain ⟨hs, es, ep, hdt, raw, sz, _⟩ := frzV I1 hd
  obtain ⟨o', g1, g2, g3⟩ := id raw
  refine ⟨raw.typeIs, ?_, ?_⟩
  · intro c z
    cases z
    exact ⟨o', g1, g2.2.1⟩
  have I2 : Inv X pins σ H1 { s1 with heap := s1.heap.push { cls := .type "dict_values", data := .fields #[.ref d] } } := I1.kept (t' := s1.toks) fun b ob z => Heap.get?_push_of_some _ z
  have fin : wpAny (model X.prog X.w) X.A (pyIter (.ref s1.heap.objs.size)) (PIE X pins σ tg R) X.xe { s1 with heap := s1.heap.push { cls := .type "dict_values", data := .fields #[.ref d] } } := by
    refine wpAny_pyIter_values_raw (s := { s1 with heap := s1.heap.push { cls := .type "dict_values", data := .fields #[.ref d] } }) (d := d) ⟨_, Heap.get?_push_size _ rfl, rfl, rfl⟩ (raw.at fun o z => Heap.get?_push_of_some _ z) (pi_one (tk := s1.toks) I2 _ (turn_valsT _ hdt) ⟨_, Heap.get?_push_size _ rfl, rfl, ?_⟩ q)
    rw [sz]
    rfl
  show wpAny _ _ (callWith cpos (.builtin "dict.values") [.ref d] [] []) _ X.xe s1
  exact method_meetsIn PySem.F.slot_dict_values PySem.F.entry_dict_values rfl (PySem.evalArgs_none ⟨rfl, raw.typeIs, PySem.F.args_dict_values_1 _, _, meets_dict_values_raw d hs, ⟨es, ep, raw⟩, fin⟩)
end
/-! ### two fors in a list: the inner one, the outer one -/
section
variable {J : It} {n : Nat} {G : Hp → Prop} {Y : Nat → Hp → V → Hp → Prop}
theorem lc2_in (w : Walk J n G Y) {g : TG} {tt : TT} {te : TE} {vs : List Nat} {σ : L2.St} {H1 : Hp} {D : Addr} {Nx : Hp → Prop} (Pv : Nat → Hp → Prop) (h0 : Pv 0 H1) (hG : ∀ j H, j ≤ n → Pv j H → G H)
    (hs : ∀ j x H H', j < n → Pv j H → Y j H x H' → g x (wipe σ vs) H' fun σ2 H2 => wipe σ2 vs = wipe σ vs ∧ tt σ2 H2 fun b H3 =>
      if b = true then te σ2 H3 fun y H4 => ∃ acc, H4 D = some (.lst acc) ∧ acc.length < sizeLine ∧ Pv (j + 1) (upd H4 D (.lst (acc ++ [y]))) else Pv (j + 1) H3) (hd : ∀ H, Pv n H → Nx H) :
    ∃ W : Nat → Nat → Hp → Prop, (∃ m, W 0 m H1) ∧ ∀ j k H, W j k H → (J.stop j H ∧ Nx H) ∨ (J.go j H ∧ ∃ Nx1 : Hp → Prop, (∀ H', Nx1 H' → ∃ k', k' < k ∧ W (j + 1) k' H') ∧ ∀ x H', J.yld j H x H' → g x (wipe σ vs) H' fun σ2 H2 => wipe σ2 vs = wipe σ vs ∧ tt σ2 H2 fun b H3 =>
      if b = true then te σ2 H3 fun y H4 => ∃ acc, H4 D = some (.lst acc) ∧ acc.length < sizeLine ∧ Nx1 (upd H4 D (.lst (acc ++ [y]))) else Nx1 H3) := by
  refine ⟨fun j m H => m = n - j ∧ j ≤ n ∧ Pv j H, ⟨n, by simp, Nat.zero_le _, h0⟩, ?_⟩
  rintro j m H ⟨rfl, le, p⟩
  rcases Nat.lt_or_ge j n with lt | ge
  · exact .inr ⟨w.goes j H lt (hG j H le p), Pv (j + 1), fun H' p' => ⟨n - (j + 1), by omega, rfl, lt, p'⟩, fun x H' y => hs j x H H' lt p (w.yields j H x H' lt (hG j H le p) y)⟩
  · obtain rfl : j = n := Nat.le_antisymm le ge
    exact .inl ⟨w.stops H (hG _ H le p), hd H p⟩
theorem lc2_it (w : Walk J n G Y) {g : TG} {tt : TT} {vs : List Nat} {σ : L2.St} {H1 : Hp} {D : Addr} {Qd : Hp → Prop} {Inn : L2.St → Hp → (Hp → Prop) → Prop} (Pv : Nat → Hp → Prop) (h0 : Pv 0 (upd H1 D (.lst []))) (hG : ∀ i H, i ≤ n → Pv i H → G H)
    (hs : ∀ i x H H', i < n → Pv i H → Y i H x H' → g x (wipe σ vs) H' fun σ2 H2 => wipe σ2 vs = wipe σ vs ∧ tt σ2 H2 fun b H3 => if b = true then Inn σ2 H3 (Pv (i + 1)) else Pv (i + 1) H3) (hd : ∀ H, Pv n H → Qd H) :
    ∃ W : Nat → Nat → Hp → Prop, (∃ m, W 0 m (upd H1 D (.lst []))) ∧ ∀ i m H, W i m H → (J.stop i H ∧ Qd H) ∨ (J.go i H ∧ ∃ Nx : Hp → Prop, (∀ H', Nx H' → ∃ m', m' < m ∧ W (i + 1) m' H') ∧ ∀ x H', J.yld i H x H' → g x (wipe σ vs) H' fun σ2 H2 => wipe σ2 vs = wipe σ vs ∧ tt σ2 H2 fun b H3 =>
      if b = true then Inn σ2 H3 Nx else Nx H3) := by
  refine ⟨fun i m H => m = n - i ∧ i ≤ n ∧ Pv i H, ⟨n, by simp, Nat.zero_le _, h0⟩, ?_⟩
  rintro i m H ⟨rfl, le, p⟩
  rcases Nat.lt_or_ge i n with lt | ge
  · exact .inr ⟨w.goes i H lt (hG i H le p), Pv (i + 1), fun H' p' => ⟨n - (i + 1), by omega, rfl, lt, p'⟩, fun x H' y => hs i x H H' lt p (w.yields i H x H' lt (hG i H le p) y)⟩
  · obtain rfl : i = n := Nat.le_antisymm le ge
    exact .inl ⟨w.stops H (hG _ H le p), hd H p⟩
end
end LB

namespace K05
open PySem PySem.Spec PyProof.Rows L2 LB
def topS (i : Nat) : Stmt := PySem.Challenge.pw_leakpost_k05_least_scenes.main.body.getD i (.Pass ⟨0, 0, 0, 0⟩)
abbrev s_p_within : Stmt := topS 1
abbrev N_p_within : List Str := ["small", "great", "at", "letter"]
abbrev P_p_within : List Str := ["small", "great"]
theorem sc_p_within : FnScope N_p_within P_p_within (defScope s_p_within) := ⟨rfl, rfl, rfl, by decide +kernel, rfl, by decide +kernel, by decide +kernel⟩
abbrev s_p_above : Stmt := topS 3
abbrev N_p_above : List Str := ["one", "other", "stands", "words", "low_stands", "low_words", "small", "great"]
abbrev P_p_above : List Str := ["one", "other"]
theorem sc_p_above : FnScope N_p_above P_p_above (defScope s_p_above) := ⟨rfl, rfl, rfl, by decide +kernel, rfl, by decide +kernel, by decide +kernel⟩
abbrev s_p_above_any : Stmt := topS 4
abbrev N_p_above_any : List Str := ["scene", "lows", "low"]
abbrev P_p_above_any : List Str := ["scene", "lows"]
theorem sc_p_above_any : FnScope N_p_above_any P_p_above_any (defScope s_p_above_any) := ⟨rfl, rfl, rfl, by decide +kernel, rfl, by decide +kernel, by decide +kernel⟩
abbrev s_p_letters_in : Stmt := topS 5
abbrev N_p_letters_in : List Str := ["scene", "word"]
abbrev P_p_letters_in : List Str := ["scene"]
theorem sc_p_letters_in : FnScope N_p_letters_in P_p_letters_in (defScope s_p_letters_in) := ⟨rfl, rfl, rfl, by decide +kernel, rfl, by decide +kernel, by decide +kernel⟩
abbrev s_p_least_up_to : Stmt := topS 6
abbrev N_p_least_up_to : List Str := ["scenes", "most", "kept", "many", "scene", "alike", "lows", "low"]
abbrev P_p_least_up_to : List Str := ["scenes", "most"]
theorem sc_p_least_up_to : FnScope N_p_least_up_to P_p_least_up_to (defScope s_p_least_up_to) := ⟨rfl, rfl, rfl, by decide +kernel, rfl, by decide +kernel, by decide +kernel⟩
abbrev s_p_least : Stmt := topS 7
abbrev N_p_least : List Str := ["scenes"]
abbrev P_p_least : List Str := ["scenes"]
theorem sc_p_least : FnScope N_p_least P_p_least (defScope s_p_least) := ⟨rfl, rfl, rfl, by decide +kernel, rfl, by decide +kernel, by decide +kernel⟩
abbrev s_bag : Stmt := topS 9
abbrev N_bag : List Str := ["_law_script", "_law_seed", "_law_cell"]
abbrev P_bag : List Str := ["_law_script"]
theorem sc_bag : FnScope N_bag P_bag (defScope s_bag) := ⟨rfl, rfl, rfl, by decide +kernel, rfl, by decide +kernel, by decide +kernel⟩
abbrev s_pull : Stmt := topS 10
abbrev N_pull : List Str := ["_law_bag_here", "_law_many", "_law_rest", "_law_cell", "_law_one", "_law_two"]
abbrev P_pull : List Str := ["_law_bag_here", "_law_many"]
theorem sc_pull : FnScope N_pull P_pull (defScope s_pull) := ⟨rfl, rfl, rfl, by decide +kernel, rfl, by decide +kernel, by decide +kernel⟩
abbrev s_of : Stmt := topS 11
abbrev N_of : List Str := ["_law_bag_here", "_law_some"]
abbrev P_of : List Str := ["_law_bag_here", "_law_some"]
theorem sc_of : FnScope N_of P_of (defScope s_of) := ⟨rfl, rfl, rfl, by decide +kernel, rfl, by decide +kernel, by decide +kernel⟩
abbrev s_same : Stmt := topS 12
abbrev N_same : List Str := ["_law_found", "_law_due", "_law_a", "_law_b"]
abbrev P_same : List Str := ["_law_found", "_law_due"]
theorem sc_same : FnScope N_same P_same (defScope s_same) := ⟨rfl, rfl, rfl, by decide +kernel, rfl, by decide +kernel, by decide +kernel⟩
abbrev s_letters : Stmt := topS 13
abbrev N_letters : List Str := ["_law_bag_here", "_law_alphabet", "_law_first", "_law_by", "_law_k"]
abbrev P_letters : List Str := ["_law_bag_here"]
theorem sc_letters : FnScope N_letters P_letters (defScope s_letters) := ⟨rfl, rfl, rfl, by decide +kernel, rfl, by decide +kernel, by decide +kernel⟩
abbrev s_names : Stmt := topS 14
abbrev N_names : List Str := ["_law_bag_here", "_law_many", "_law_alphabet", "_law_tail", "_law_at", "_law_first", "_law_by", "_law_k"]
abbrev P_names : List Str := ["_law_bag_here", "_law_many"]
theorem sc_names : FnScope N_names P_names (defScope s_names) := ⟨rfl, rfl, rfl, by decide +kernel, rfl, by decide +kernel, by decide +kernel⟩
abbrev s_word : Stmt := topS 15
abbrev N_word : List Str := ["_law_bag_here", "_law_letters_here", "_law_top", "_law_k"]
abbrev P_word : List Str := ["_law_bag_here", "_law_letters_here", "_law_top"]
theorem sc_word : FnScope N_word P_word (defScope s_word) := ⟨rfl, rfl, rfl, by decide +kernel, rfl, by decide +kernel, by decide +kernel⟩
abbrev s_plan : Stmt := topS 16
abbrev N_plan : List Str := ["_law_bag_here", "_law_machines", "_law_stands", "_law_rows", "_law_moves", "_law_names_here", "_law_letters_here", "_law_plan_here", "_law_k", "_law_some"]
abbrev P_plan : List Str := ["_law_bag_here", "_law_machines", "_law_stands", "_law_rows", "_law_moves"]
theorem sc_plan : FnScope N_plan P_plan (defScope s_plan) := ⟨rfl, rfl, rfl, by decide +kernel, rfl, by decide +kernel, by decide +kernel⟩
abbrev s_act : Stmt := topS 17
abbrev N_act : List Str := ["_law_bag_here", "_law_plan_here", "_law_kind", "_law_row"]
abbrev P_act : List Str := ["_law_bag_here", "_law_plan_here"]
theorem sc_act : FnScope N_act P_act (defScope s_act) := ⟨rfl, rfl, rfl, by decide +kernel, rfl, by decide +kernel, by decide +kernel⟩
abbrev s_move : Stmt := topS 18
abbrev N_move : List Str := ["_law_bag_here", "_law_plan_here", "_law_at", "_law_some"]
abbrev P_move : List Str := ["_law_bag_here", "_law_plan_here"]
theorem sc_move : FnScope N_move P_move (defScope s_move) := ⟨rfl, rfl, rfl, by decide +kernel, rfl, by decide +kernel, by decide +kernel⟩
abbrev s_held : Stmt := topS 19
abbrev N_held : List Str := ["_law_plan_here", "_law_at", "_law_name", "_law_first", "_law_found", "_law_machine", "_law_start", "_law_act_here", "_law_end"]
abbrev P_held : List Str := ["_law_plan_here", "_law_at"]
theorem sc_held : FnScope N_held P_held (defScope s_held) := ⟨rfl, rfl, rfl, by decide +kernel, rfl, by decide +kernel, by decide +kernel⟩
abbrev s_scene : Stmt := topS 20
abbrev N_scene : List Str := ["_law_bag_here", "_law_plan_here", "_law_top", "_law_stands", "_law_at", "_law_row"]
abbrev P_scene : List Str := ["_law_bag_here", "_law_plan_here", "_law_top"]
theorem sc_scene : FnScope N_scene P_scene (defScope s_scene) := ⟨rfl, rfl, rfl, by decide +kernel, rfl, by decide +kernel, by decide +kernel⟩
abbrev s_within : Stmt := topS 21
abbrev N_within : List Str := ["_law_small", "_law_great", "_law_left", "_law_letter"]
abbrev P_within : List Str := ["_law_small", "_law_great"]
theorem sc_within : FnScope N_within P_within (defScope s_within) := ⟨rfl, rfl, rfl, by decide +kernel, rfl, by decide +kernel, by decide +kernel⟩
abbrev s_above : Stmt := topS 22
abbrev N_above : List Str := ["_law_one", "_law_other", "_law_k"]
abbrev P_above : List Str := ["_law_one", "_law_other"]
theorem sc_above : FnScope N_above P_above (defScope s_above) := ⟨rfl, rfl, rfl, by decide +kernel, rfl, by decide +kernel, by decide +kernel⟩
abbrev s_least : Stmt := topS 23
abbrev N_least : List Str := ["_law_scenes", "_law_found", "_law_one", "_law_other"]
abbrev P_least : List Str := ["_law_scenes"]
theorem sc_least : FnScope N_least P_least (defScope s_least) := ⟨rfl, rfl, rfl, by decide +kernel, rfl, by decide +kernel, by decide +kernel⟩
abbrev s_law : Stmt := topS 24
abbrev N_law : List Str := ["_law_script", "_law_bag_here", "_law_turn", "_law_plan_here", "_law_k", "_law_some", "_law_handed", "_law_due", "_law_found"]
abbrev P_law : List Str := ["_law_script"]
theorem sc_law : FnScope N_law P_law (defScope s_law) := ⟨rfl, rfl, rfl, by decide +kernel, rfl, by decide +kernel, by decide +kernel⟩
set_option maxHeartbeats 0 in
structure Tx (K : PySem.W.Frag) (mg : Str → Option Value) where
  f_p_within : Addr
  fd_p_within : FuncData
  F_p_within : Fun K "within" "within" s_p_within f_p_within fd_p_within
  b_p_within : L2.Binds K fd_p_within P_p_within []
  g_p_within : mg "within" = some (.ref f_p_within)
  f_p_above : Addr
  fd_p_above : FuncData
  F_p_above : Fun K "above" "above" s_p_above f_p_above fd_p_above
  b_p_above : L2.Binds K fd_p_above P_p_above []
  g_p_above : mg "above" = some (.ref f_p_above)
  f_p_above_any : Addr
  fd_p_above_any : FuncData
  F_p_above_any : Fun K "above_any" "above_any" s_p_above_any f_p_above_any fd_p_above_any
  b_p_above_any : L2.Binds K fd_p_above_any P_p_above_any []
  g_p_above_any : mg "above_any" = some (.ref f_p_above_any)
  f_p_letters_in : Addr
  fd_p_letters_in : FuncData
  F_p_letters_in : Fun K "letters_in" "letters_in" s_p_letters_in f_p_letters_in fd_p_letters_in
  b_p_letters_in : L2.Binds K fd_p_letters_in P_p_letters_in []
  g_p_letters_in : mg "letters_in" = some (.ref f_p_letters_in)
  f_p_least_up_to : Addr
  fd_p_least_up_to : FuncData
  F_p_least_up_to : Fun K "least_up_to" "least_up_to" s_p_least_up_to f_p_least_up_to fd_p_least_up_to
  b_p_least_up_to : L2.Binds K fd_p_least_up_to P_p_least_up_to []
  g_p_least_up_to : mg "least_up_to" = some (.ref f_p_least_up_to)
  f_p_least : Addr
  fd_p_least : FuncData
  F_p_least : Fun K "least" "least" s_p_least f_p_least fd_p_least
  b_p_least : L2.Binds K fd_p_least P_p_least []
  g_p_least : mg "least" = some (.ref f_p_least)
  f_bag : Addr
  fd_bag : FuncData
  F_bag : Fun K "_law_bag" "_law_bag" s_bag f_bag fd_bag
  b_bag : L2.Binds K fd_bag P_bag []
  g_bag : mg "_law_bag" = some (.ref f_bag)
  f_pull : Addr
  fd_pull : FuncData
  F_pull : Fun K "_law_pull" "_law_pull" s_pull f_pull fd_pull
  b_pull : L2.Binds K fd_pull P_pull []
  g_pull : mg "_law_pull" = some (.ref f_pull)
  f_of : Addr
  fd_of : FuncData
  F_of : Fun K "_law_of" "_law_of" s_of f_of fd_of
  b_of : L2.Binds K fd_of P_of []
  g_of : mg "_law_of" = some (.ref f_of)
  f_same : Addr
  fd_same : FuncData
  F_same : Fun K "_law_same" "_law_same" s_same f_same fd_same
  b_same : L2.Binds K fd_same P_same []
  g_same : mg "_law_same" = some (.ref f_same)
  f_letters : Addr
  fd_letters : FuncData
  F_letters : Fun K "_law_letters" "_law_letters" s_letters f_letters fd_letters
  b_letters : L2.Binds K fd_letters P_letters []
  g_letters : mg "_law_letters" = some (.ref f_letters)
  f_names : Addr
  fd_names : FuncData
  F_names : Fun K "_law_names" "_law_names" s_names f_names fd_names
  b_names : L2.Binds K fd_names P_names []
  g_names : mg "_law_names" = some (.ref f_names)
  f_word : Addr
  fd_word : FuncData
  F_word : Fun K "_law_word" "_law_word" s_word f_word fd_word
  b_word : L2.Binds K fd_word P_word []
  g_word : mg "_law_word" = some (.ref f_word)
  f_plan : Addr
  fd_plan : FuncData
  F_plan : Fun K "_law_plan" "_law_plan" s_plan f_plan fd_plan
  b_plan : L2.Binds K fd_plan P_plan []
  g_plan : mg "_law_plan" = some (.ref f_plan)
  f_act : Addr
  fd_act : FuncData
  F_act : Fun K "_law_act" "_law_act" s_act f_act fd_act
  b_act : L2.Binds K fd_act P_act []
  g_act : mg "_law_act" = some (.ref f_act)
  f_move : Addr
  fd_move : FuncData
  F_move : Fun K "_law_move" "_law_move" s_move f_move fd_move
  b_move : L2.Binds K fd_move P_move []
  g_move : mg "_law_move" = some (.ref f_move)
  f_held : Addr
  fd_held : FuncData
  F_held : Fun K "_law_held" "_law_held" s_held f_held fd_held
  b_held : L2.Binds K fd_held P_held []
  g_held : mg "_law_held" = some (.ref f_held)
  f_scene : Addr
  fd_scene : FuncData
  F_scene : Fun K "_law_scene" "_law_scene" s_scene f_scene fd_scene
  b_scene : L2.Binds K fd_scene P_scene []
  g_scene : mg "_law_scene" = some (.ref f_scene)
  f_within : Addr
  fd_within : FuncData
  F_within : Fun K "_law_within" "_law_within" s_within f_within fd_within
  b_within : L2.Binds K fd_within P_within []
  g_within : mg "_law_within" = some (.ref f_within)
  f_above : Addr
  fd_above : FuncData
  F_above : Fun K "_law_above" "_law_above" s_above f_above fd_above
  b_above : L2.Binds K fd_above P_above []
  g_above : mg "_law_above" = some (.ref f_above)
  f_least : Addr
  fd_least : FuncData
  F_least : Fun K "_law_least" "_law_least" s_least f_least fd_least
  b_least : L2.Binds K fd_least P_least []
  g_least : mg "_law_least" = some (.ref f_least)
  f_law : Addr
  fd_law : FuncData
  F_law : Fun K "law" "law" s_law f_law fd_law
  b_law : L2.Binds K fd_law P_law []
  g_law : mg "law" = some (.ref f_law)
  m_all : mg "all" = none
  m_any : mg "any" = none
  m_bool : mg "bool" = none
  m_int : mg "int" = none
  m_isinstance : mg "isinstance" = none
  m_len : mg "len" = none
  m_list : mg "list" = none
  m_range : mg "range" = none
  m_set : mg "set" = none
  m_sorted : mg "sorted" = none
  m_str : mg "str" = none
  m_sum : mg "sum" = none
  m_tuple : mg "tuple" = none
  m_zip : mg "zip" = none
section
variable {P : Program} {w : World} {K : PySem.W.Frag} {mg : Str → Option Value} {base : Heap}
/-! ### the bag: made, drawn from -/
def sp_bag (K : PySem.W.Frag) : Sp := fun vs H Q _ => ∃ (a : Addr) (ns : List Int), vs = [.ref a] ∧ SqL K H a (ns.map V.int) ∧ ns.length ≤ 63 ∧ ∀ H' b s, Same H H' → Bag b s H' → H b = none → Q (.ref b) H'
theorem ok_bag (T : Tx K mg) : FnOk P w K mg base CX0 1 T.f_bag T.fd_bag P_bag (sp_bag K) := by
  refine T.F_bag.ok sc_bag (fun vs H Q E h => ?_) (fun cdv A outer s H vs Q E hr h => ?_)
  · obtain ⟨a, ns, rfl, _⟩ := h
    rfl
  · obtain ⟨a, ns, rfl, hS, hlen, q⟩ := h
    refine ⟨_, 
      (pss_cons (ps_set (i := 1) sc_bag.nd rfl (.inl rfl) pe_int)
      (pss_cons (ps_for PassesOwn.never rfl (pi_list (pe_slice sl_list (L2.pv 0) po_none (po_some pe_int))) (pg_name (i := 2) sc_bag.nd rfl (.inl rfl))
        (pss_one (ps_set (i := 1) sc_bag.nd rfl (.inl rfl) (pe_op op_mod (pe_op op_add (pe_op op_add (pe_op op_mul (L2.pv 1) pe_int) (L2.pv 2)) pe_int) pe_int))))
      (pss_one (ps_ret (pe_lst (pa_cons (pe_callTy call_list_of (by rfl) T.m_list (by decide +kernel) (pa_cons (pe_slice sl_list (L2.pv 0) po_none (po_some pe_int)) pa_nil)) (pa_cons pe_int (pa_cons pe_int (pa_cons (L2.pv 1) (pa_cons pe_int pa_nil)))))))))), ?_⟩
    refine ⟨.ref a, rfl, 63, rfl, a, ns.map V.int, rfl, hS, fun c nc => ?_⟩
    have ec : cutV (ns.map V.int) none (some 63) = ns.map V.int := by
      rw [show (63 : Int) = ((63 : Nat) : Int) from rfl, LB.cut_take, List.take_of_length_le (by rw [List.length_map]; exact hlen)]
    rw [ec]
    have s1 : Same H (upd H c (.lst (ns.map V.int))) := LB.same_new nc
    refine ⟨c, rfl, ⟨_, .of upd_same⟩, for_list (xs := ns.map V.int) (fun _ σ H' => ∃ (sd : Int) (y : Option V), σ = [some (.ref a), some (.int sd), y] ∧ H' = upd H c (.lst (ns.map V.int))) ⟨_, _, rfl, rfl⟩ (fun i σ H' _ h => ?_) (fun i x σ H' hx h => ?_) (fun σ H' h => ?_)⟩
    · obtain ⟨sd, y, _, rfl⟩ := h
      exact .of upd_same
    · obtain ⟨sd, y, rfl, rfl⟩ := h
      obtain ⟨n, _, rfl⟩ : ∃ n, ns[i]? = some n ∧ V.int n = x := by
        rw [List.getElem?_map] at hx
        cases e : ns[i]? with
        | none => rw [e] at hx; cases hx
        | some n => rw [e] at hx; exact ⟨n, rfl, Option.some.inj hx⟩
      refine ⟨.int sd, rfl, sd, 65539, rfl, rfl, .inr ⟨by decide, by decide⟩, .int n, rfl, _, n, rfl, rfl, _, 7, rfl, rfl, _, 2147483629, rfl, rfl, (by show (0 : Int) < 2147483629; decide), _, _, rfl, rfl⟩
    · obtain ⟨sd, y, rfl, rfl⟩ := h
      refine ⟨.ref a, rfl, 63, rfl, a, ns.map V.int, rfl, s1.seq hS, fun d nd => ?_⟩
      rw [ec]
      have s2 := LB.same_new (o := .lst (ns.map V.int)) nd
      refine ⟨d, _, rfl, .inl (.of upd_same), fun l nl => ?_⟩
      have s3 := LB.same_new (o := .lst (ns.map V.int)) nl
      refine ⟨.int sd, rfl, (by show 5 ≤ sizeLine; decide), fun b nb => ?_⟩
      have s4 := LB.same_new (o := .lst [.ref l, .int 0, .int 0, .int sd, .int 0]) nb
      have nlb : l ≠ b := ne_of_none upd_same nb
      refine q _ b l (s1.trans (s2.trans (s3.trans s4))) ⟨nlb, ns, 0, 0, sd, 0, upd_same, ?_, hlen, Int.le_refl _⟩ ((s1.trans (s2.trans s3)).free nb)
      rw [upd_ne nlb, upd_same]
def sp_pull : Sp := fun vs H Q _ => ∃ (b s : Addr) (m : Int), vs = [.ref b, .int m] ∧ Bag b s H ∧ 0 < m ∧ m < 1000000 ∧ ∀ H' v, BX b s H H' → 0 ≤ v → v < m → Q (.int v) H'
theorem ok_pull (T : Tx K mg) : FnOk P w K mg base CX0 1 T.f_pull T.fd_pull P_pull sp_pull := by
  refine T.F_pull.ok sc_pull (fun vs H Q E h => ?_) (fun cdv A outer s H vs Q E hr h => ?_)
  · obtain ⟨b, s, m, rfl, _⟩ := h
    rfl
  · obtain ⟨b, cs, m, rfl, ⟨nsb, ns, i, r, sd, c, e1, e2, hl, i0⟩, m0, m1, q⟩ := h
    have fin : ∀ i' r' sd' c', 0 ≤ i' → BX b cs H (upd H b (bagL cs i' r' sd' c')) := fun i' r' sd' c' h0 =>
      ⟨⟨nsb, ns, i', r', sd', c', upd_same, (upd_ne nsb).trans e2, hl, h0⟩, fun a o na e => (upd_ne na).trans e⟩
    refine ⟨_, 
      (pss_cons (ps_augS (L2.pv 0) pe_int LB.get_list pe_int ip_add set_list)
      (pss_cons (ps_if (pt_cmpR op_gt (pe_ix ix_list (L2.pv 0) pe_int (fun _ _ => rfl)) pe_int (nomark _))
        (pss_cons (ps_set (i := 2) sc_pull.nd rfl (.inl rfl) (pe_ix ix_list (L2.pv 0) pe_int (fun _ _ => rfl)))
        (pss_cons (ps_asg (pe_op op_fdiv (L2.pv 2) (L2.pv 1)) (pg_sub (L2.pv 0) pe_int set_list))
        (pss_one (ps_ret (pe_op op_mod (L2.pv 2) (L2.pv 1))))))
        pss_nil)
      (pss_cons (ps_set (i := 3) sc_pull.nd rfl (.inl rfl) (pe_ix ix_list (L2.pv 0) pe_int (fun _ _ => rfl)))
      (Evl.pss_cut (ps_if (pt_cmpR op_lt (pe_ix ix_list (L2.pv 0) pe_int (fun _ _ => rfl)) (pe_callB call_len_seq (by rfl) T.m_len PySem.boot_len (pa_cons (pe_ix ix_list (L2.pv 0) pe_int (fun _ _ => rfl)) pa_nil)) (nomark _))
        (pss_cons (ps_set (i := 3) sc_pull.nd rfl (.inl rfl) (pe_ix ix_list (pe_ix ix_list (L2.pv 0) pe_int (fun _ _ => rfl)) (pe_ix ix_list (L2.pv 0) pe_int (fun _ _ => rfl)) (fun _ _ => rfl)))
        (pss_one (ps_augS (L2.pv 0) pe_int LB.get_list pe_int ip_add set_list)))
        pss_nil)
      (pss_cons (ps_if (pt_cmpR op_ge (L2.pv 3) (pe_op op_pow pe_int pe_int) (nomark _))
        (pss_cons (ps_asg (pe_op op_fdiv (L2.pv 3) (L2.pv 1)) (pg_sub (L2.pv 0) pe_int set_list))
        (pss_one (ps_ret (pe_op op_mod (L2.pv 3) (L2.pv 1)))))
        pss_nil)
      (pss_cons (ps_set (i := 4) sc_pull.nd rfl (.inl rfl) (pe_op op_mod (pe_op op_add (pe_op op_add (pe_op op_add (pe_op op_mul (L2.pv 3) pe_int) (pe_op op_mul (pe_ix ix_list (L2.pv 0) pe_int (fun _ _ => rfl)) pe_int)) (pe_op op_mul (pe_ix ix_list (L2.pv 0) pe_int (fun _ _ => rfl)) pe_int)) pe_int) pe_int))
      (pss_cons (ps_set (i := 5) sc_pull.nd rfl (.inl rfl) (pe_op op_mod (pe_op op_add (pe_op op_add (pe_op op_mul (L2.pv 4) (pe_op op_add (pe_op op_mod (L2.pv 4) pe_int) pe_int)) (pe_op op_mul (pe_ix ix_list (L2.pv 0) pe_int (fun _ _ => rfl)) pe_int)) (pe_op op_mod (pe_ix ix_list (L2.pv 0) pe_int (fun _ _ => rfl)) pe_int)) pe_int))
      (pss_cons (ps_asg (pe_op op_mod (pe_op op_add (pe_op op_mul (pe_ix ix_list (L2.pv 0) pe_int (fun _ _ => rfl)) pe_int) (L2.pv 5)) pe_int) (pg_sub (L2.pv 0) pe_int set_list))
      (pss_one (ps_ret (pe_op op_mod (pe_op op_fdiv (L2.pv 5) pe_int) (L2.pv 1)))))))))))), ?_⟩
    -- the count
    refine ⟨.ref b, rfl, b, _, 4, .int c, rfl, rfl, .of e1, rfl, c, 1, rfl, rfl, b, _, 4, 4, rfl, rfl, e1, rfl, ?_⟩
    show _
    have f1 : (upd H b (bagL cs i r sd (c + 1))) b = some (bagL cs i r sd (c + 1)) := upd_same
    refine ⟨.ref b, rfl, b, _, 2, .int r, rfl, rfl, .of f1, rfl, r, 0, rfl, rfl, _, rfl, ite2 (fun e => ?_) (fun e => ?_)⟩
    · -- what is left of a great number
      refine ⟨.ref b, rfl, b, _, 2, .int r, rfl, rfl, .of f1, rfl, ?_⟩
      refine ⟨.int r, rfl, .int m, rfl, r, m, rfl, rfl, ⟨m0, by omega⟩, .ref b, rfl, b, _, 2, 2, rfl, rfl, f1, rfl, ?_⟩
      refine ⟨.int r, rfl, .int m, rfl, r, m, rfl, rfl, m0, ?_⟩
      rw [upd_upd]
      exact q _ _ (fin i (r / m) sd (c + 1) i0) (Int.emod_nonneg _ (by omega)) (Int.emod_lt_of_pos _ m0)
    · refine ⟨.ref b, rfl, b, _, 3, .int sd, rfl, rfl, .of f1, rfl, ?_⟩
      -- a cell, where one is left
      have f2 : (upd H b (bagL cs i r sd (c + 1))) cs = some (.lst (ns.map V.int)) := (upd_ne nsb).trans e2
      refine ⟨fun σ G => ∃ i' cell, 0 ≤ i' ∧ σ = [some (.ref b), some (.int m), none, some (.int cell), none, none] ∧ G = upd H b (bagL cs i' r sd (c + 1)), ⟨.ref b, rfl, b, _, 1, .int i, rfl, rfl, .of f1, rfl, .ref b, rfl, b, _, 0, .ref cs, rfl, rfl, .of f1, rfl, cs, _, rfl, .inl (.of f2), i, _, rfl, rfl, _, rfl, ite2 (fun e' => ?_) (fun _ => ⟨i, sd, i0, rfl, rfl⟩)⟩, fun σ G h => ?_⟩
      · have hi : i < ns.length := by
          have := of_decide_eq_true e'
          rw [List.length_map] at this
          exact this
        have gi : (ns.map V.int)[i.toNat]? = some (.int (ns[i.toNat]'(by omega))) := by
          rw [List.getElem?_map, List.getElem?_eq_getElem (by omega)]
          rfl
        have ga : atI (ns.map V.int) i = some (.int (ns[i.toNat]'(by omega))) := by
          have := atI_nat gi
          rw [Int.toNat_of_nonneg i0] at this
          exact this
        refine ⟨.ref b, rfl, b, _, 0, .ref cs, rfl, rfl, .of f1, rfl, .ref b, rfl, b, _, 1, .int i, rfl, rfl, .of f1, rfl, cs, _, i, _, rfl, rfl, .of f2, ga, ?_⟩
        refine ⟨.ref b, rfl, b, _, 1, .int i, rfl, rfl, .of f1, rfl, i, 1, rfl, rfl, b, _, 1, 1, rfl, rfl, f1, rfl, ?_⟩
        exact ⟨i + 1, _, by omega, rfl, upd_upd⟩
      · obtain ⟨i', cell, h0, rfl, rfl⟩ := h
        have g1 : (upd H b (bagL cs i' r sd (c + 1))) b = some (bagL cs i' r sd (c + 1)) := upd_same
        refine ⟨.int cell, rfl, 10, 18, rfl, rfl, ⟨by decide, by decide, by decide⟩, cell, _, rfl, rfl, _, rfl, ite2 (fun _ => ?_) (fun _ => ?_)⟩
        · refine ⟨.int cell, rfl, .int m, rfl, cell, m, rfl, rfl, ⟨m0, by omega⟩, .ref b, rfl, b, _, 2, 2, rfl, rfl, g1, rfl, ?_⟩
          refine ⟨.int cell, rfl, .int m, rfl, cell, m, rfl, rfl, m0, ?_⟩
          rw [upd_upd]
          exact q _ _ (fin i' (cell / m) sd (c + 1) h0) (Int.emod_nonneg _ (by omega)) (Int.emod_lt_of_pos _ m0)
        · -- a number by mixing
          refine ⟨.int cell, rfl, cell, 48271, rfl, rfl, .inr ⟨by decide, by decide⟩, .ref b, rfl, b, _, 3, .int sd, rfl, rfl, .of g1, rfl, sd, 40503, rfl, rfl, .inr ⟨by decide, by decide⟩, _, _, rfl, rfl,
            .ref b, rfl, b, _, 4, .int (c + 1), rfl, rfl, .of g1, rfl, c + 1, 69621, rfl, rfl, .inr ⟨by decide, by decide⟩, _, _, rfl, rfl, _, 12345, rfl, rfl, _, 2147483629, rfl, rfl, (by show (0 : Int) < 2147483629; decide), ?_⟩
          refine ⟨_, rfl, _, rfl, _, 65521, rfl, rfl, (by show (0 : Int) < 65521; decide), _, 11, rfl, rfl, _, _, rfl, rfl, .inl ⟨by omega, by omega⟩,
            .ref b, rfl, b, _, 4, .int (c + 1), rfl, rfl, .of g1, rfl, c + 1, 40692, rfl, rfl, .inr ⟨by decide, by decide⟩, _, _, rfl, rfl,
            .ref b, rfl, b, _, 3, .int sd, rfl, rfl, .of g1, rfl, sd, 104729, rfl, rfl, (by show (0 : Int) < 104729; decide), _, _, rfl, rfl, _, 998244353, rfl, rfl, (by show (0 : Int) < 998244353; decide), ?_⟩
          refine ⟨.ref b, rfl, b, _, 3, .int sd, rfl, rfl, .of g1, rfl, sd, 16807, rfl, rfl, .inr ⟨by decide, by decide⟩, _, rfl, _, _, rfl, rfl, _, 2147483563, rfl, rfl, (by show (0 : Int) < 2147483563; decide), .ref b, rfl, b, _, 3, 3, rfl, rfl, g1, rfl, ?_⟩
          refine ⟨_, rfl, _, 7, rfl, rfl, ⟨by decide, by decide⟩, .int m, rfl, _, m, rfl, rfl, m0, ?_⟩
          rw [upd_upd]
          exact q _ _ (fin i' r _ (c + 1) h0) (Int.emod_nonneg _ (by omega)) (Int.emod_lt_of_pos _ m0)

/-! ### one of a list, one of a text's signs -/
def sp_of : Sp := fun vs H Q _ => ∃ (b s : Addr), Bag b s H ∧
  ((∃ (a : Addr) (xs : List V), vs = [.ref b, .ref a] ∧ At b H a (.lst xs) ∧ 0 < xs.length ∧ xs.length < 1000000 ∧ ∀ H' v, BX b s H H' → v ∈ xs → Q v H') ∨
   (∃ z : Str, vs = [.ref b, .str z] ∧ 0 < z.length ∧ z.length < 1000000 ∧ ∀ H' c, BX b s H H' → c ∈ z.cps.toList → Q (.str (sg c)) H'))
theorem ok_of (T : Tx K mg) : FnOk P w K mg base CX0 2 T.f_of T.fd_of P_of sp_of := by
  have G_pull : FnOk P w K mg base CX0 1 T.f_pull T.fd_pull P_pull sp_pull := ok_pull T
  refine T.F_of.ok sc_of (fun vs H Q E h => ?_) (fun cdv A outer s H vs Q E hr h => ?_)
  · obtain ⟨b, s, _, ⟨a, xs, rfl, _⟩ | ⟨z, rfl, _⟩⟩ := h
    · rfl
    · rfl
  · obtain ⟨b, cs, hB, ⟨a, xs, rfl, hA, l0, l1, q⟩ | ⟨z, rfl, l0, l1, q⟩⟩ := h
    · refine ⟨_, 
      (pss_one (ps_ret (pe_ix ix_list (L2.pv 1) (pe_call G_pull (hr.mono (by decide)) (by rfl) T.g_pull T.F_pull.kp T.b_pull .nil pass0 (pa_cons (L2.pv 0) (pa_cons (pe_callB call_len_seq (by rfl) T.m_len PySem.boot_len (pa_cons (L2.pv 1) pa_nil)) pa_nil))) (fun _ _ => rfl)))), ?_⟩
      refine ⟨.ref a, rfl, .ref b, rfl, .ref a, rfl, a, xs, rfl, .inl hA.l, b, cs, xs.length, rfl, hB, by omega, by omega, fun H1 v x v0 v1 => ?_⟩
      obtain ⟨y, hy, ay⟩ := mem_get (xs := xs) rfl v0 v1
      exact ⟨a, xs, v, y, rfl, rfl, (hA.mv x).l, ay, q _ _ x hy⟩
    · refine ⟨_, 
      (pss_one (ps_ret (pe_ix ix_str (L2.pv 1) (pe_call G_pull (hr.mono (by decide)) (by rfl) T.g_pull T.F_pull.kp T.b_pull .nil pass0 (pa_cons (L2.pv 0) (pa_cons (pe_callB call_len_str (by rfl) T.m_len PySem.boot_len (pa_cons (L2.pv 1) pa_nil)) pa_nil))) (fun _ _ => rfl)))), ?_⟩
      refine ⟨.str z, rfl, .ref b, rfl, .str z, rfl, z, rfl, Nat.le_trans (Nat.le_of_lt l1) (by decide), b, cs, z.length, rfl, hB, by omega, by omega, fun H1 v x v0 v1 => ?_⟩
      obtain ⟨y, hy, ay⟩ := mem_get (xs := z.cps.toList) (n := z.length) (by simp [Str.length]) v0 v1
      exact ⟨z, v, y, rfl, rfl, Nat.le_trans (Nat.le_of_lt l1) (by decide), ay, q _ _ x hy⟩

/-! ### the same data -/
def sp_same (K : PySem.W.Frag) (n : Nat) : Sp := fun vs H Q _ => ∃ v w, vs = [v, w] ∧ Sam K H n v w ∧ ∀ H', Same H H' → Q (.bl true) H'
theorem same_flat (T : Tx K mg) {k n : Nat} {cdv : Value} {A : Around} {outer : List Env} {s : Shared} {H : Hp} {Q : VK} {E : XK} {v : V} (hv : flat1 v = true) (q : ∀ H', Same H H' → Q (.bl true) H') :
    ∃ t, PSs (cxOf CX0 P w K mg base N_same "_law_same" (defScope s_same) T.f_same cdv A outer s H E).nox (defBody s_same) t ∧ t { nx := fun _ H' => Q .non H', rt := Q } (start N_same [v, v]) H := by
  refine ⟨_, 
      (pss_cons (ps_if (pt_val (pe_callB call_isiT (by rfl) T.m_isinstance (by decide +kernel) (pa_cons (L2.pv 1) (pa_cons (pe_tup (pa_cons (pe_bltn (v := .ty "list") (by rfl) T.m_list (by decide +kernel) rfl) (pa_cons (pe_bltn (v := .ty "tuple") (by rfl) T.m_tuple (by decide +kernel) rfl) pa_nil))) pa_nil))))
        pss_never
        pss_nil)
      (pss_cons (ps_if (PW.pt (pw_or (pt_cmpR op_isN (L2.pv 1) pe_non (nomark _)) (pw_or1 (pt_cmpR op_isN (L2.pv 0) pe_non (nomark _)))))
        (pss_one (ps_ret (pe_and (pe_cmpR op_isN (L2.pv 0) pe_non (nomark _)) (pe_one (pe_cmpR op_isN (L2.pv 1) pe_non (nomark _))))))
        pss_nil)
      (pss_cons (ps_if (PW.pt (pw_or (pt_cmpR op_ne (pe_callB call_isi (by rfl) T.m_isinstance (by decide +kernel) (pa_cons (L2.pv 0) (pa_cons (pe_bltn (v := .ty "bool") (by rfl) T.m_bool (by decide +kernel) rfl) pa_nil))) (pe_callB call_isi (by rfl) T.m_isinstance (by decide +kernel) (pa_cons (L2.pv 1) (pa_cons (pe_bltn (v := .ty "bool") (by rfl) T.m_bool (by decide +kernel) rfl) pa_nil))) (nomark _)) (pw_or1 (pt_cmpR op_ne (pe_callB call_isi (by rfl) T.m_isinstance (by decide +kernel) (pa_cons (L2.pv 0) (pa_cons (pe_bltn (v := .ty "int") (by rfl) T.m_int (by decide +kernel) rfl) pa_nil))) (pe_callB call_isi (by rfl) T.m_isinstance (by decide +kernel) (pa_cons (L2.pv 1) (pa_cons (pe_bltn (v := .ty "int") (by rfl) T.m_int (by decide +kernel) rfl) pa_nil))) (nomark _)))))
        (pss_one (ps_ret pe_bl))
        pss_nil)
      (pss_one (ps_ret (pe_and (pe_cmpR op_eq (pe_callB call_isi (by rfl) T.m_isinstance (by decide +kernel) (pa_cons (L2.pv 0) (pa_cons (pe_bltn (v := .ty "str") (by rfl) T.m_str (by decide +kernel) rfl) pa_nil))) (pe_callB call_isi (by rfl) T.m_isinstance (by decide +kernel) (pa_cons (L2.pv 1) (pa_cons (pe_bltn (v := .ty "str") (by rfl) T.m_str (by decide +kernel) rfl) pa_nil))) (nomark _)) (pe_one (pe_cmpR op_eq (L2.pv 0) (L2.pv 1) (nomark _))))))))), ?_⟩
  cases v with
  | byt _ => cases hv
  | flt _ => cases hv
  | ref _ => cases hv
  | ty _ => cases hv
  | non =>
    refine ⟨.non, rfl, (by show 2 ≤ sizeLine; decide), fun p np => ?_⟩
    refine ⟨.non, p, _, _, _, false, rfl, upd_same, .cons (.ty "list") (.cons (.ty "tuple") .nil), .base .non, kit_seq (by decide +kernel) (by decide +kernel), false, rfl, iteF ?_⟩
    refine ⟨.non, rfl, rfl, _, rfl, iteT (iteT ?_)⟩
    refine ⟨.non, rfl, rfl, _, rfl, iteT ?_⟩
    exact ⟨.non, rfl, rfl, q _ (same_new np)⟩
  | bl y =>
    refine ⟨.bl y, rfl, (by show 2 ≤ sizeLine; decide), fun p np => ?_⟩
    refine ⟨.bl y, p, _, _, _, false, rfl, upd_same, .cons (.ty "list") (.cons (.ty "tuple") .nil), .base (.bl y), kit_seq (by decide +kernel) (by decide +kernel), false, rfl, iteF ?_⟩
    refine ⟨.bl y, rfl, rfl, _, rfl, iteF ⟨.bl y, rfl, rfl, _, rfl, iteF ?_⟩⟩
    refine ⟨.bl y, rfl, .bl y, .ty "bool", _, _, true, rfl, .ty _, .base (.bl y), kit_ty (by decide +kernel), .bl y, rfl, .bl y, .ty "bool", _, _, true, rfl, .ty _, .base (.bl y), kit_ty (by decide +kernel), rfl, _, rfl, iteF ⟨.bl y, rfl, .bl y, .ty "int", _, _, true, rfl, .ty _, .base (.bl y), kit_ty (by decide +kernel), .bl y, rfl, .bl y, .ty "int", _, _, true, rfl, .ty _, .base (.bl y), kit_ty (by decide +kernel), rfl, _, rfl, iteF ?_⟩⟩
    refine ⟨.bl y, rfl, .bl y, .ty "str", _, _, false, rfl, .ty _, .base (.bl y), kit_ty (by decide +kernel), .bl y, rfl, .bl y, .ty "str", _, _, false, rfl, .ty _, .base (.bl y), kit_ty (by decide +kernel), rfl, _, rfl, iteT ⟨.bl y, rfl, .bl y, rfl, rfl, ?_⟩⟩
    rw [decide_eq_true rfl]
    exact q _ (same_new np)
  | int y =>
    refine ⟨.int y, rfl, (by show 2 ≤ sizeLine; decide), fun p np => ?_⟩
    refine ⟨.int y, p, _, _, _, false, rfl, upd_same, .cons (.ty "list") (.cons (.ty "tuple") .nil), .base (.int y), kit_seq (by decide +kernel) (by decide +kernel), false, rfl, iteF ?_⟩
    refine ⟨.int y, rfl, rfl, _, rfl, iteF ⟨.int y, rfl, rfl, _, rfl, iteF ?_⟩⟩
    refine ⟨.int y, rfl, .int y, .ty "bool", _, _, false, rfl, .ty _, .base (.int y), kit_ty (by decide +kernel), .int y, rfl, .int y, .ty "bool", _, _, false, rfl, .ty _, .base (.int y), kit_ty (by decide +kernel), rfl, _, rfl, iteF ⟨.int y, rfl, .int y, .ty "int", _, _, true, rfl, .ty _, .base (.int y), kit_ty (by decide +kernel), .int y, rfl, .int y, .ty "int", _, _, true, rfl, .ty _, .base (.int y), kit_ty (by decide +kernel), rfl, _, rfl, iteF ?_⟩⟩
    refine ⟨.int y, rfl, .int y, .ty "str", _, _, false, rfl, .ty _, .base (.int y), kit_ty (by decide +kernel), .int y, rfl, .int y, .ty "str", _, _, false, rfl, .ty _, .base (.int y), kit_ty (by decide +kernel), rfl, _, rfl, iteT ⟨.int y, rfl, .int y, rfl, rfl, ?_⟩⟩
    rw [decide_eq_true rfl]
    exact q _ (same_new np)
  | str y =>
    refine ⟨.str y, rfl, (by show 2 ≤ sizeLine; decide), fun p np => ?_⟩
    refine ⟨.str y, p, _, _, _, false, rfl, upd_same, .cons (.ty "list") (.cons (.ty "tuple") .nil), .base (.str y), kit_seq (by decide +kernel) (by decide +kernel), false, rfl, iteF ?_⟩
    refine ⟨.str y, rfl, rfl, _, rfl, iteF ⟨.str y, rfl, rfl, _, rfl, iteF ?_⟩⟩
    refine ⟨.str y, rfl, .str y, .ty "bool", _, _, false, rfl, .ty _, .base (.str y), kit_ty (by decide +kernel), .str y, rfl, .str y, .ty "bool", _, _, false, rfl, .ty _, .base (.str y), kit_ty (by decide +kernel), rfl, _, rfl, iteF ⟨.str y, rfl, .str y, .ty "int", _, _, false, rfl, .ty _, .base (.str y), kit_ty (by decide +kernel), .str y, rfl, .str y, .ty "int", _, _, false, rfl, .ty _, .base (.str y), kit_ty (by decide +kernel), rfl, _, rfl, iteF ?_⟩⟩
    refine ⟨.str y, rfl, .str y, .ty "str", _, _, true, rfl, .ty _, .base (.str y), kit_ty (by decide +kernel), .str y, rfl, .str y, .ty "str", _, _, true, rfl, .ty _, .base (.str y), kit_ty (by decide +kernel), rfl, _, rfl, iteT ⟨.str y, rfl, .str y, rfl, rfl, ?_⟩⟩
    rw [decide_eq_true rfl]
    exact q _ (same_new np)
theorem ok_same (T : Tx K mg) : ∀ n : Nat, FnOk P w K mg base CX0 (n + 1) T.f_same T.fd_same P_same (sp_same K n)
  | 0 => by
    refine T.F_same.ok sc_same (fun vs H Q E h => ?_) (fun cdv A outer s H vs Q E hr h => ?_)
    · obtain ⟨v, w, rfl, _⟩ := h
      rfl
    · obtain ⟨v, w, rfl, ⟨hf, rfl⟩, q⟩ := h
      exact same_flat T (k := 0) (n := 0) hf q
  | n + 1 => by
    have G_same : FnOk P w K mg base CX0 (n + 1) T.f_same T.fd_same P_same (sp_same K n) := ok_same T n
    refine T.F_same.ok sc_same (fun vs H Q E h => ?_) (fun cdv A outer s H vs Q E hr h => ?_)
    · obtain ⟨v, w, rfl, _⟩ := h
      rfl
    · obtain ⟨v, w, rfl, ⟨hf, rfl⟩ | ⟨a, c, xs, ys, rfl, rfl, h, hz, p'⟩, q⟩ := h
      · exact same_flat T (k := 0) (n := 0) hf q
      have pl : xs.length = ys.length := Paired.length p'
      rcases h with ⟨h1, h2⟩ | ⟨h1, h2⟩
      · -- two lists
        refine ⟨_, 
      (pss_cons (ps_if (pt_val (pe_callB call_isiT (by rfl) T.m_isinstance (by decide +kernel) (pa_cons (L2.pv 1) (pa_cons (pe_tup (pa_cons (pe_bltn (v := .ty "list") (by rfl) T.m_list (by decide +kernel) rfl) (pa_cons (pe_bltn (v := .ty "tuple") (by rfl) T.m_tuple (by decide +kernel) rfl) pa_nil))) pa_nil))))
        (pss_cons (ps_if (PW.pt (pw_or (pt_cmpR op_ne (pe_callB call_isi (by rfl) T.m_isinstance (by decide +kernel) (pa_cons (L2.pv 0) (pa_cons (pe_bltn (v := .ty "list") (by rfl) T.m_list (by decide +kernel) rfl) pa_nil))) (pe_callB call_isi (by rfl) T.m_isinstance (by decide +kernel) (pa_cons (L2.pv 1) (pa_cons (pe_bltn (v := .ty "list") (by rfl) T.m_list (by decide +kernel) rfl) pa_nil))) (nomark _)) (pw_or1 (pt_cmpR op_ne (pe_callB call_isi (by rfl) T.m_isinstance (by decide +kernel) (pa_cons (L2.pv 0) (pa_cons (pe_bltn (v := .ty "tuple") (by rfl) T.m_tuple (by decide +kernel) rfl) pa_nil))) (pe_callB call_isi (by rfl) T.m_isinstance (by decide +kernel) (pa_cons (L2.pv 1) (pa_cons (pe_bltn (v := .ty "tuple") (by rfl) T.m_tuple (by decide +kernel) rfl) pa_nil))) (nomark _)))))
          (pss_one (ps_ret pe_bl))
          pss_nil)
        (pss_one (ps_ret (pe_and (pe_cmpR op_eq (pe_callB call_len_seq (by rfl) T.m_len PySem.boot_len (pa_cons (L2.pv 0) pa_nil)) (pe_callB call_len_seq (by rfl) T.m_len PySem.boot_len (pa_cons (L2.pv 1) pa_nil)) (nomark _)) (pe_one (pe_callB (cr_all rfl) (by rfl) T.m_all (by decide +kernel) (pa_cons (pe_lc (own := [("_law_a", 2), ("_law_b", 3)]) (g := (gTup K 2 (gCons (gName 2) (gCons (gName 3) gNil)))) (tt := tYes) (by rfl) sc_same.nd (RZ.pi_zipA (by rfl) T.m_zip (pa_cons (L2.pv 0) (pa_cons (L2.pv 1) pa_nil))) (blkOk_by (own := [("_law_a", 2), ("_law_b", 3)]) (N := N_same) (sc := defScope s_same) (by decide +kernel)) (fun _ _ _ _ _ => (pg_tup (by rfl) (pgs_cons (pg_name (i := 2) sc_same.nd rfl (.inl rfl)) (pgs_cons (pg_name (i := 3) sc_same.nd rfl (.inl rfl)) pgs_nil)))) (fun _ _ _ _ _ => pts_nil) (fun _ _ _ _ _ => (pe_call G_same hr (by rfl) T.g_same T.F_same.kp T.b_same .nil pass0 (pa_cons (L2.pv 2) (pa_cons (L2.pv 3) pa_nil))))) pa_nil)))))))
        pss_nil)
      pss_never), ?_⟩
        refine ⟨.ref c, rfl, (by show 2 ≤ sizeLine; decide), fun p np => ?_⟩
        have s1 : Same H (upd H p (.tup [.ty "list", .ty "tuple"])) := same_new np
        have k1 := s1 _ _ h1
        have k2 := s1 _ _ h2
        refine ⟨.ref c, p, _, _, _, true, rfl, upd_same, .cons (.ty "list") (.cons (.ty "tuple") .nil), .base (.lst k2), kit_lst, true, rfl, iteT ?_⟩
        refine ⟨.ref a, rfl, .ref a, .ty "list", _, _, true, rfl, .ty _, .base (.lst k1), kit_ty (by decide +kernel), .ref c, rfl, .ref c, .ty "list", _, _, true, rfl, .ty _, .base (.lst k2), kit_ty (by decide +kernel), rfl, _, rfl, iteF ?_⟩
        refine ⟨.ref a, rfl, .ref a, .ty "tuple", _, _, false, rfl, .ty _, .base (.lst k1), kit_ty (by decide +kernel), .ref c, rfl, .ref c, .ty "tuple", _, _, false, rfl, .ty _, .base (.lst k2), kit_ty (by decide +kernel), rfl, _, rfl, iteF ?_⟩
        refine ⟨.ref a, rfl, a, xs, rfl, .inl (.of k1), .ref c, rfl, c, ys, rfl, .inl (.of k2), rfl, _, rfl, ?_⟩
        rw [← pl, decide_eq_true rfl]
        refine iteT ?_
        refine ⟨.ref a, rfl, .ref c, rfl, a, c, xs, ys, rfl, .inl ⟨.of k1, .of k2, fun D nD => ?_⟩⟩
        have nD0 : H D = none := s1.free nD
        refine lc_it (walk_zip (n := xs.length) (by rw [← pl, Nat.min_self])) (fun i H' => Same H H' ∧ H' D = some (.lst ((List.replicate i true).map V.bl)))
          ⟨same_mut s1 nD0, upd_same⟩ (fun i H' _ h => ⟨.of (h.1 _ _ h1), .of (h.1 _ _ h2)⟩) (fun i x H1 H' hi h y => ?_) (fun H' h => ?_)
        · obtain ⟨sm, eD⟩ := h
          obtain ⟨U, u, v, rfl, nU, rfl, gu, gv⟩ := y
          have sU : Same H (upd H1 U (.tup [u, v])) := sm.trans (same_new nU)
          refine ⟨U, [u, v], rfl, .of upd_same, rfl, u, [v], rfl, v, [], rfl, rfl, ?_⟩
          refine ⟨rfl, u, rfl, v, rfl, u, v, rfl, (paired_get p' gu gv).mono sU, fun H3 s3 => ?_⟩
          have eD3 : H3 D = some (.lst ((List.replicate i true).map V.bl)) := s3 _ _ (by rw [upd_ne (ne_of_none eD nU)]; exact eD)
          refine ⟨_, eD3, ?_, same_mut (sU.trans s3) nD0, ?_⟩
          · rw [List.length_map, List.length_replicate]
            exact Nat.lt_trans hi (Nat.lt_of_lt_of_le hz (by decide))
          · rw [upd_same, List.replicate_succ', List.map_append]
            rfl
        · obtain ⟨sm, eD⟩ := h
          refine ⟨D, _, rfl, .of eD, ?_⟩
          rw [show (List.replicate xs.length true).all id = true from by rw [List.all_replicate]; simp]
          exact q _ sm
      · -- two tuples
        refine ⟨_, 
      (pss_cons (ps_if (pt_val (pe_callB call_isiT (by rfl) T.m_isinstance (by decide +kernel) (pa_cons (L2.pv 1) (pa_cons (pe_tup (pa_cons (pe_bltn (v := .ty "list") (by rfl) T.m_list (by decide +kernel) rfl) (pa_cons (pe_bltn (v := .ty "tuple") (by rfl) T.m_tuple (by decide +kernel) rfl) pa_nil))) pa_nil))))
        (pss_cons (ps_if (PW.pt (pw_or (pt_cmpR op_ne (pe_callB call_isi (by rfl) T.m_isinstance (by decide +kernel) (pa_cons (L2.pv 0) (pa_cons (pe_bltn (v := .ty "list") (by rfl) T.m_list (by decide +kernel) rfl) pa_nil))) (pe_callB call_isi (by rfl) T.m_isinstance (by decide +kernel) (pa_cons (L2.pv 1) (pa_cons (pe_bltn (v := .ty "list") (by rfl) T.m_list (by decide +kernel) rfl) pa_nil))) (nomark _)) (pw_or1 (pt_cmpR op_ne (pe_callB call_isi (by rfl) T.m_isinstance (by decide +kernel) (pa_cons (L2.pv 0) (pa_cons (pe_bltn (v := .ty "tuple") (by rfl) T.m_tuple (by decide +kernel) rfl) pa_nil))) (pe_callB call_isi (by rfl) T.m_isinstance (by decide +kernel) (pa_cons (L2.pv 1) (pa_cons (pe_bltn (v := .ty "tuple") (by rfl) T.m_tuple (by decide +kernel) rfl) pa_nil))) (nomark _)))))
          (pss_one (ps_ret pe_bl))
          pss_nil)
        (pss_one (ps_ret (pe_and (pe_cmpR op_eq (pe_callB call_len_seq (by rfl) T.m_len PySem.boot_len (pa_cons (L2.pv 0) pa_nil)) (pe_callB call_len_seq (by rfl) T.m_len PySem.boot_len (pa_cons (L2.pv 1) pa_nil)) (nomark _)) (pe_one (pe_callB (cr_all rfl) (by rfl) T.m_all (by decide +kernel) (pa_cons (pe_lc (own := [("_law_a", 2), ("_law_b", 3)]) (g := (gTup K 2 (gCons (gName 2) (gCons (gName 3) gNil)))) (tt := tYes) (by rfl) sc_same.nd (RZ.pi_zipA (by rfl) T.m_zip (pa_cons (L2.pv 0) (pa_cons (L2.pv 1) pa_nil))) (blkOk_by (own := [("_law_a", 2), ("_law_b", 3)]) (N := N_same) (sc := defScope s_same) (by decide +kernel)) (fun _ _ _ _ _ => (pg_tup (by rfl) (pgs_cons (pg_name (i := 2) sc_same.nd rfl (.inl rfl)) (pgs_cons (pg_name (i := 3) sc_same.nd rfl (.inl rfl)) pgs_nil)))) (fun _ _ _ _ _ => pts_nil) (fun _ _ _ _ _ => (pe_call G_same hr (by rfl) T.g_same T.F_same.kp T.b_same .nil pass0 (pa_cons (L2.pv 2) (pa_cons (L2.pv 3) pa_nil))))) pa_nil)))))))
        pss_nil)
      pss_never), ?_⟩
        refine ⟨.ref c, rfl, (by show 2 ≤ sizeLine; decide), fun p np => ?_⟩
        have s1 : Same H (upd H p (.tup [.ty "list", .ty "tuple"])) := same_new np
        have k1 := s1 _ _ h1
        have k2 := s1 _ _ h2
        refine ⟨.ref c, p, _, _, _, true, rfl, upd_same, .cons (.ty "list") (.cons (.ty "tuple") .nil), .base (.tup k2), kit_tup, true, rfl, iteT ?_⟩
        refine ⟨.ref a, rfl, .ref a, .ty "list", _, _, false, rfl, .ty _, .base (.tup k1), kit_ty (by decide +kernel), .ref c, rfl, .ref c, .ty "list", _, _, false, rfl, .ty _, .base (.tup k2), kit_ty (by decide +kernel), rfl, _, rfl, iteF ?_⟩
        refine ⟨.ref a, rfl, .ref a, .ty "tuple", _, _, true, rfl, .ty _, .base (.tup k1), kit_ty (by decide +kernel), .ref c, rfl, .ref c, .ty "tuple", _, _, true, rfl, .ty _, .base (.tup k2), kit_ty (by decide +kernel), rfl, _, rfl, iteF ?_⟩
        refine ⟨.ref a, rfl, a, xs, rfl, .inr (.of k1), .ref c, rfl, c, ys, rfl, .inr (.of k2), rfl, _, rfl, ?_⟩
        rw [← pl, decide_eq_true rfl]
        refine iteT ?_
        refine ⟨.ref a, rfl, .ref c, rfl, a, c, xs, ys, rfl, .inr ⟨.of k1, .of k2, fun D nD => ?_⟩⟩
        have nD0 : H D = none := s1.free nD
        refine lc_it (walk_zipT (n := xs.length) (by rw [← pl, Nat.min_self])) (fun i H' => Same H H' ∧ H' D = some (.lst ((List.replicate i true).map V.bl)))
          ⟨same_mut s1 nD0, upd_same⟩ (fun i H' _ h => ⟨.of (h.1 _ _ h1), .of (h.1 _ _ h2)⟩) (fun i x H1 H' hi h y => ?_) (fun H' h => ?_)
        · obtain ⟨sm, eD⟩ := h
          obtain ⟨U, u, v, rfl, nU, rfl, gu, gv⟩ := y
          have sU : Same H (upd H1 U (.tup [u, v])) := sm.trans (same_new nU)
          refine ⟨U, [u, v], rfl, .of upd_same, rfl, u, [v], rfl, v, [], rfl, rfl, ?_⟩
          refine ⟨rfl, u, rfl, v, rfl, u, v, rfl, (paired_get p' gu gv).mono sU, fun H3 s3 => ?_⟩
          have eD3 : H3 D = some (.lst ((List.replicate i true).map V.bl)) := s3 _ _ (by rw [upd_ne (ne_of_none eD nU)]; exact eD)
          refine ⟨_, eD3, ?_, same_mut (sU.trans s3) nD0, ?_⟩
          · rw [List.length_map, List.length_replicate]
            exact Nat.lt_trans hi (Nat.lt_of_lt_of_le hz (by decide))
          · rw [upd_same, List.replicate_succ', List.map_append]
            rfl
        · obtain ⟨sm, eD⟩ := h
          refine ⟨D, _, rfl, .of eD, ?_⟩
          rw [show (List.replicate xs.length true).all id = true from by rw [List.all_replicate]; simp]
          exact q _ sm

/-! ### three letters, a word of letters -/
def lets (cs : List Nat) : List V := cs.map fun c => V.str (sg c)
def sp_letters : Sp := fun vs H Q _ => ∃ b s, vs = [.ref b] ∧ Bag b s H ∧ ∀ H' p f y, BX b s H H' → H p = none → 0 ≤ f → f < 26 → y ∈ [(1 : Int), 3, 5, 7, 9, 11] →
  H' p = some (.lst (lets [lett f y 0, lett f y 1, lett f y 2])) → Q (.ref p) H'
theorem ok_letters (T : Tx K mg) : FnOk P w K mg base CX0 3 T.f_letters T.fd_letters P_letters sp_letters := by
  have G_pull : FnOk P w K mg base CX0 1 T.f_pull T.fd_pull P_pull sp_pull := ok_pull T
  have G_of : FnOk P w K mg base CX0 2 T.f_of T.fd_of P_of sp_of := ok_of T
  refine T.F_letters.ok sc_letters (fun vs H Q E h => ?_) (fun cdv A outer s H vs Q E hr h => ?_)
  · obtain ⟨b, s, rfl, _⟩ := h
    rfl
  · obtain ⟨b, cs, rfl, hB, q⟩ := h
    refine ⟨_, 
      (pss_cons (ps_set (i := 1) sc_letters.nd rfl (.inr rfl) pe_str)
      (pss_cons (ps_set (i := 2) sc_letters.nd rfl (.inr rfl) (pe_call G_pull (hr.mono (by decide)) (by rfl) T.g_pull T.F_pull.kp T.b_pull .nil pass0 (pa_cons (L2.pv 0) (pa_cons pe_int pa_nil))))
      (pss_cons (ps_set (i := 3) sc_letters.nd rfl (.inr rfl) (pe_call G_of (hr.mono (by decide)) (by rfl) T.g_of T.F_of.kp T.b_of .nil pass0 (pa_cons (L2.pv 0) (pa_cons (pe_lst (pa_cons pe_int (pa_cons pe_int (pa_cons pe_int (pa_cons pe_int (pa_cons pe_int (pa_cons pe_int pa_nil))))))) pa_nil))))
      (pss_one (ps_ret (pe_lc (own := [("_law_k", 4)]) (g := (gName 4)) (tt := tYes) (by rfl) sc_letters.nd (pi_range1 (by rfl) T.m_range (pa_cons pe_int pa_nil)) (blkOk_by (own := [("_law_k", 4)]) (N := N_letters) (sc := defScope s_letters) (by decide +kernel)) (fun _ _ _ _ _ => (pg_name (i := 4) sc_letters.nd rfl (.inl rfl))) (fun _ _ _ _ _ => pts_nil) (fun _ _ _ _ _ => (pe_ix ix_str (L2.pv 1) (pe_op op_mod (pe_op op_add (L2.pv 2) (pe_op op_mul (L2.pv 3) (L2.pv 4))) pe_int) (fun _ _ => rfl))))))))), ?_⟩
    refine ⟨.ref b, rfl, b, cs, 26, rfl, hB, by decide, by decide, fun H1 f x1 f0 f1 => ?_⟩
    refine ⟨.ref b, rfl, (by show 6 ≤ sizeLine; decide), fun l nl => ?_⟩
    have x2 : BX b cs H1 (upd H1 l (.lst [.int 1, .int 3, .int 5, .int 7, .int 9, .int 11])) := .new x1.bag nl
    refine ⟨b, cs, x2.bag, .inl ⟨l, _, rfl, .new x1.bag nl, by decide, by decide, fun H2 v x3 hv => ?_⟩⟩
    obtain ⟨y, hy, rfl⟩ : ∃ y : Int, y ∈ [(1 : Int), 3, 5, 7, 9, 11] ∧ v = .int y := by
      simp only [List.mem_cons, List.not_mem_nil, or_false] at hv
      rcases hv with rfl | rfl | rfl | rfl | rfl | rfl
      all_goals exact ⟨_, by decide, rfl⟩
    have x4 : BX b cs H H2 := x1.trans (x2.trans x3)
    have hy1 : 0 < y ∧ y < 12 := by
      simp only [List.mem_cons, List.not_mem_nil, or_false] at hy
      omega
    refine ⟨3, rfl, by decide, by decide, fun D nD => ?_⟩
    have nD0 : H D = none := x4.back nD
    refine lc_range (lo := 0) (n := 3) (fun i H' => BX b cs H H' ∧ H' D = some (.lst (lets ((List.range i).map (lett f y))))) ⟨x4.mut hB nD0, upd_same⟩ (fun i H' hi h => ?_) (fun H' h => ?_)
    · obtain ⟨x, eD⟩ := h
      refine ⟨rfl, .str alphabet, rfl, .int f, rfl, .int y, rfl, .int (0 + i), rfl, y, 0 + i, rfl, rfl, .inl ⟨by omega, by omega⟩, f, _, rfl, rfl, _, 26, rfl, rfl, (by show (0 : Int) < 26; decide), alphabet, _, _, rfl, rfl, by decide +kernel, alpha_at (Int.emod_nonneg _ (by decide)) (Int.emod_lt_of_pos _ (by decide)), _, eD, ?_, x.mut hB nD0, ?_⟩
      · simp only [lets, List.length_map, List.length_range]
        exact small1000 (by omega)
      · rw [upd_same, List.range_succ]
        simp only [lets, List.map_append, List.map_cons, List.map_nil, lett, Int.zero_add]
    · obtain ⟨x, eD⟩ := h
      exact q _ D f y x nD0 f0 f1 hy eD
def sp_word : Sp := fun vs H Q _ => ∃ (b s a : Addr) (cs : List Nat) (top : Int), vs = [.ref b, .ref a, .int top] ∧ Bag b s H ∧ At b H a (.lst (lets cs)) ∧ 0 < cs.length ∧ cs.length < 1000 ∧ 0 ≤ top ∧ top < 1000 ∧
  ∀ H' zs, BX b s H H' → (zs.length : Int) ≤ top → (∀ c ∈ zs, c ∈ cs) → Q (.str (tx zs)) H'
theorem ok_word (T : Tx K mg) : FnOk P w K mg base CX0 3 T.f_word T.fd_word P_word sp_word := by
  have G_pull : FnOk P w K mg base CX0 1 T.f_pull T.fd_pull P_pull sp_pull := ok_pull T
  have G_of : FnOk P w K mg base CX0 2 T.f_of T.fd_of P_of sp_of := ok_of T
  refine T.F_word.ok sc_word (fun vs H Q E h => ?_) (fun cdv A outer s H vs Q E hr h => ?_)
  · obtain ⟨b, s, a, cs, top, rfl, _⟩ := h
    rfl
  · obtain ⟨b, cl, a, cs, top, rfl, hB, hA, l0, l1, t0, t1, q⟩ := h
    refine ⟨_, 
      (pss_one (ps_ret (pe_join pe_str (pe_lc (own := [("_law_k", 3)]) (g := (gName 3)) (tt := tYes) (by rfl) sc_word.nd (pi_range1 (by rfl) T.m_range (pa_cons (pe_call G_pull (hr.mono (by decide)) (by rfl) T.g_pull T.F_pull.kp T.b_pull .nil pass0 (pa_cons (L2.pv 0) (pa_cons (pe_op op_add (L2.pv 2) pe_int) pa_nil))) pa_nil)) (blkOk_by (own := [("_law_k", 3)]) (N := N_word) (sc := defScope s_word) (by decide +kernel)) (fun _ _ _ _ _ => (pg_name (i := 3) sc_word.nd rfl (.inl rfl))) (fun _ _ _ _ _ => pts_nil) (fun _ _ _ _ _ => (pe_call G_of (hr.mono (by decide)) (by rfl) T.g_of T.F_of.kp T.b_of .nil pass0 (pa_cons (L2.pv 0) (pa_cons (L2.pv 1) pa_nil)))))))), ?_⟩
    refine ⟨⟨_, rfl⟩, .ref b, rfl, .int top, rfl, top, 1, rfl, rfl, b, cl, top + 1, rfl, hB, by omega, by omega, fun H1 n x1 n0 n1 => ⟨n, rfl, by omega, by omega, fun D nD => ?_⟩⟩
    have nD0 : H D = none := x1.back nD
    refine lc_range (lo := 0) (n := n.toNat) (fun i H' => BX b cl H H' ∧ ∃ zs : List Nat, zs.length = i ∧ (∀ c ∈ zs, c ∈ cs) ∧ H' D = some (.lst (lets zs))) ⟨x1.mut hB nD0, [], rfl, (fun _ h => nomatch h), upd_same⟩ (fun i H' hi h => ?_) (fun H' h => ?_)
    · obtain ⟨x, zs, hz, hc, eD⟩ := h
      refine ⟨rfl, .ref b, rfl, .ref a, rfl, b, cl, x.bag, .inl ⟨a, _, rfl, hA.mv x, by simpa [lets] using l0, by simpa [lets] using Nat.lt_trans l1 (by decide), fun H2 v x2 hv => ?_⟩⟩
      obtain ⟨c, hcc, rfl⟩ := List.mem_map.mp hv
      refine ⟨_, x2.keep D _ (hB.nb nD0) eD, ?_, (x.trans x2).mut hB nD0, zs ++ [c], ?_, ?_, ?_⟩
      · simp only [lets, List.length_map]
        exact small1000 (by omega)
      · simp [hz]
      · intro d hd
        rcases List.mem_append.mp hd with h | h
        · exact hc d h
        · rw [List.mem_singleton.mp h]
          exact hcc
      · rw [upd_same]
        simp [lets]
    · obtain ⟨x, zs, hz, hc, eD⟩ := h
      refine ⟨_, D, zs.map sg, rfl, rfl, .inl (.of ?_), ?_, ?_⟩
      · rw [eD]
        simp [lets]
      · rw [ones_sum, List.length_map]
        show zs.length + zs.length * 0 ≤ _
        omega
      · rw [join_sg]
        exact q _ _ x (by omega) hc

/-! ### within -/
def sp_p_within : Sp := fun vs H Q _ => ∃ (a g : List Nat), vs = [.str (tx a), .str (tx g)] ∧ a.length < 1000 ∧ g.length < 1000 ∧ ∀ H', Same H H' → Q (.bl (gs a g 0).isSome) H'
theorem ok_p_within (T : Tx K mg) : FnOk P w K mg base CX0 2 T.f_p_within T.fd_p_within P_p_within sp_p_within := by
  refine T.F_p_within.ok sc_p_within (fun vs H Q E h => ?_) (fun cdv A outer s H vs Q E hr h => ?_)
  · obtain ⟨a, g, rfl, _⟩ := h
    rfl
  · obtain ⟨a, g, rfl, la, lg, q⟩ := h
    have za : (tx a).length ≤ sizeLine := by rw [tx_len]; exact Nat.le_of_lt (small1000 (by omega))
    have zg : (tx g).length ≤ sizeLine := by rw [tx_len]; exact Nat.le_of_lt (small1000 (by omega))
    refine ⟨_, 
      (pss_cons (ps_if (pt_cmpR op_gt (pe_callB call_len_str (by rfl) T.m_len PySem.boot_len (pa_cons (L2.pv 0) pa_nil)) (pe_callB call_len_str (by rfl) T.m_len PySem.boot_len (pa_cons (L2.pv 1) pa_nil)) (nomark _))
        (pss_one (ps_ret pe_bl))
        pss_nil)
      (pss_cons (ps_set (i := 2) sc_p_within.nd rfl (.inl rfl) pe_int)
      (pss_cons (ps_for PassesOwn.never rfl (pi_str (L2.pv 0)) (pg_name (i := 3) sc_p_within.nd rfl (.inl rfl))
        (pss_cons (ps_set (i := 2) sc_p_within.nd rfl (.inl rfl) (pe_op op_add (pe_bm PySem.F.plainAttrs_str PySem.F.slot_str_find PySem.F.type_str_find mt_find3 (L2.pv 1) (pa_cons (L2.pv 3) (pa_cons (L2.pv 2) pa_nil))) pe_int))
        (pss_one (ps_if (pt_cmpR op_eq (L2.pv 2) pe_int (nomark _))
          (pss_one (ps_ret pe_bl))
          pss_nil))))
      (pss_one (ps_ret pe_bl))))), ?_⟩
    refine ⟨.str (tx a), rfl, tx a, rfl, za, .str (tx g), rfl, tx g, rfl, zg, _, _, rfl, rfl, _, rfl, ite2 (fun e => ?_) (fun e => ?_)⟩
    · have hlt := of_decide_eq_true e
      rw [tx_len, tx_len] at hlt
      have := q H (.refl H)
      rw [gs_longer a g 0 (by omega)] at this
      exact this
    · refine ⟨.str (tx a), rfl, tx a, rfl, for_it walk_str (fun i σ H' => ∃ (k : Nat) (y : Option V), σ = [some (.str (tx a)), some (.str (tx g)), some (.int (k : Nat)), y] ∧ H' = H ∧ k ≤ g.length ∧ (gs a g 0).isSome = (gs (a.drop i) (g.drop k) k).isSome) ⟨0, none, rfl, rfl, Nat.zero_le _, rfl⟩ (fun _ _ _ _ _ => trivial) (fun i x σ H1 H' hi h y => ?_) (fun σ H' h => ?_)⟩
      · obtain ⟨k, z, rfl, rfl, hk, hg⟩ := h
        obtain ⟨rfl, c, hc, rfl⟩ := y
        have hc' : a[i]? = some c := by
          rw [← Array.getElem?_toList] at hc
          exact hc
        obtain ⟨hia, ea⟩ := List.getElem?_eq_some_iff.mp hc'
        have hgd := gs_fnd c (a.drop (i + 1)) (g.drop k) k
        rw [show c :: a.drop (i + 1) = a.drop i by rw [List.drop_eq_getElem_cons hia, ea]] at hgd
        refine ⟨.str (tx g), rfl, rfl, .str (sg c), rfl, .int (k : Nat), rfl, tx g, sg c, _, rfl, rfl, _, 1, rfl, rfl, ?_⟩
        refine ⟨_, rfl, rfl, _, rfl, ?_⟩
        rw [find3_one g c k hk]
        cases hf : fnd c (g.drop k) k with
        | none =>
          rw [hf] at hgd
          rw [hgd] at hg
          refine iteT ?_
          have := q H' (.refl H')
          rw [hg] at this
          exact this
        | some j =>
          rw [hf] at hgd
          obtain ⟨j1, j2, j3⟩ := fnd_spec hf
          rw [List.length_drop] at j2
          rw [show decide (V.int ((j : Int) + 1) = V.int 0) = false from decide_eq_false fun z => by
            injection z with z
            omega]
          refine iteF ⟨j + 1, some (.str (sg c)), rfl, rfl, by omega, ?_⟩
          rw [hg, hgd]
          show ((gs (a.drop (i + 1)) ((g.drop k).drop (j + 1 - k)) (j + 1)).map (j :: ·)).isSome = _
          rw [List.drop_drop, show k + (j + 1 - k) = j + 1 by omega, Option.isSome_map]
      · obtain ⟨k, z, rfl, rfl, hk, hg⟩ := h
        have e0 : a.drop (tx a).cps.size = [] := List.drop_of_length_le (by show a.length ≤ a.toArray.size; simp)
        rw [e0, gs_nil] at hg
        have := q H' (.refl H')
        rw [hg] at this
        exact this

/-! ### names -/
def txV (l : List Nat) : V := .str (tx l)
def sp_names : Sp := fun vs H Q _ => ∃ (b s : Addr) (m : Int), vs = [.ref b, .int m] ∧ Bag b s H ∧ 0 ≤ m ∧ m ≤ 26 ∧ ∀ H' p ns, BX b s H H' → H p = none → (ns.length : Int) = m → NameL ns → H' p = some (.lst (ns.map txV)) → Q (.ref p) H'
theorem ok_names (T : Tx K mg) : FnOk P w K mg base CX0 3 T.f_names T.fd_names P_names sp_names := by
  have G_pull : FnOk P w K mg base CX0 1 T.f_pull T.fd_pull P_pull sp_pull := ok_pull T
  have G_of : FnOk P w K mg base CX0 2 T.f_of T.fd_of P_of sp_of := ok_of T
  refine T.F_names.ok sc_names (fun vs H Q E h => ?_) (fun cdv A outer s H vs Q E hr h => ?_)
  · obtain ⟨b, s, m, rfl, _⟩ := h
    rfl
  · obtain ⟨b, cl, m, rfl, hB, m0, m1, q⟩ := h
    refine ⟨_, 
      (pss_cons (ps_set (i := 2) sc_names.nd rfl (.inr rfl) pe_str)
      (pss_cons (ps_set (i := 3) sc_names.nd rfl (.inr rfl) (pe_join pe_str (pe_lc (own := [("_law_k", 7)]) (g := (gName 7)) (tt := tYes) (by rfl) sc_names.nd (pi_range1 (by rfl) T.m_range (pa_cons (pe_call G_pull (hr.mono (by decide)) (by rfl) T.g_pull T.F_pull.kp T.b_pull .nil pass0 (pa_cons (L2.pv 0) (pa_cons pe_int pa_nil))) pa_nil)) (blkOk_by (own := [("_law_k", 7)]) (N := N_names) (sc := defScope s_names) (by decide +kernel)) (fun _ _ _ _ _ => (pg_name (i := 7) sc_names.nd rfl (.inl rfl))) (fun _ _ _ _ _ => pts_nil) (fun _ _ _ _ _ => (pe_call G_of (hr.mono (by decide)) (by rfl) T.g_of T.F_of.kp T.b_of .nil pass0 (pa_cons (L2.pv 0) (pa_cons (L2.pv 2) pa_nil)))))))
      (pss_cons (ps_set (i := 4) sc_names.nd rfl (.inr rfl) (pe_call G_pull (hr.mono (by decide)) (by rfl) T.g_pull T.F_pull.kp T.b_pull .nil pass0 (pa_cons (L2.pv 0) (pa_cons (pe_op op_add (pe_callB call_len_str (by rfl) T.m_len PySem.boot_len (pa_cons (L2.pv 3) pa_nil)) pe_int) pa_nil))))
      (pss_cons (ps_set (i := 5) sc_names.nd rfl (.inr rfl) (pe_call G_pull (hr.mono (by decide)) (by rfl) T.g_pull T.F_pull.kp T.b_pull .nil pass0 (pa_cons (L2.pv 0) (pa_cons pe_int pa_nil))))
      (pss_cons (ps_set (i := 6) sc_names.nd rfl (.inr rfl) (pe_call G_of (hr.mono (by decide)) (by rfl) T.g_of T.F_of.kp T.b_of .nil pass0 (pa_cons (L2.pv 0) (pa_cons (pe_lst (pa_cons pe_int (pa_cons pe_int (pa_cons pe_int (pa_cons pe_int (pa_cons pe_int (pa_cons pe_int pa_nil))))))) pa_nil))))
      (pss_one (ps_ret (pe_lc (own := [("_law_k", 7)]) (g := (gName 7)) (tt := tYes) (by rfl) sc_names.nd (pi_range1 (by rfl) T.m_range (pa_cons (L2.pv 1) pa_nil)) (blkOk_by (own := [("_law_k", 7)]) (N := N_names) (sc := defScope s_names) (by decide +kernel)) (fun _ _ _ _ _ => (pg_name (i := 7) sc_names.nd rfl (.inl rfl))) (fun _ _ _ _ _ => pts_nil) (fun _ _ _ _ _ => (pe_op op_add_str (pe_op op_add_str (pe_slice sl_str (L2.pv 3) po_none (po_some (L2.pv 4))) (pe_ix ix_str (L2.pv 2) (pe_op op_mod (pe_op op_add (L2.pv 5) (pe_op op_mul (L2.pv 6) (L2.pv 7))) pe_int) (fun _ _ => rfl))) (pe_slice sl_str (L2.pv 3) (po_some (L2.pv 4)) po_none))))))))))), ?_⟩
    -- the tail
    refine ⟨⟨_, rfl⟩, .ref b, rfl, b, cl, 8, rfl, hB, by decide, by decide, fun H1 n x1 n0 n1 => ⟨n, rfl, by omega, by omega, fun D nD => ?_⟩⟩
    have nD0 : H D = none := x1.back nD
    refine lc_range (lo := 0) (n := n.toNat) (fun i H' => BX b cl H H' ∧ ∃ zs : List Nat, zs.length = i ∧ (∀ c ∈ zs, 97 ≤ c ∧ c < 123) ∧ H' D = some (.lst (lets zs))) ⟨x1.mut hB nD0, [], rfl, (fun _ h => nomatch h), upd_same⟩ (fun i H' hi h => ?_) (fun H2 h => ?_)
    · obtain ⟨x, zs, hz, hc, eD⟩ := h
      refine ⟨rfl, .ref b, rfl, .str alphabet, rfl, b, cl, x.bag, .inr ⟨_, rfl, by decide +kernel, by decide +kernel, fun H3 c x3 hcc => ?_⟩⟩
      refine ⟨_, x3.keep D _ (hB.nb nD0) eD, ?_, (x.trans x3).mut hB nD0, zs ++ [c], by simp [hz], ?_, ?_⟩
      · simp only [lets, List.length_map]
        exact small1000 (by omega)
      · intro d hd
        rcases List.mem_append.mp hd with h | h
        · exact hc d h
        · rw [List.mem_singleton.mp h]
          exact alpha_mem hcc
      · rw [upd_same]
        simp [lets]
    · obtain ⟨x2, tl, hz, htl, eD⟩ := h
      refine ⟨_, D, tl.map sg, rfl, rfl, .inl (.of ?_), ?_, ?_⟩
      · rw [eD]
        simp [lets]
      · rw [ones_sum, List.length_map]
        show tl.length + tl.length * 0 ≤ _
        omega
      rw [join_sg]
      have lt : tl.length ≤ 7 := by omega
      have zl : (tx tl).length ≤ sizeLine := by rw [tx_len]; exact Nat.le_of_lt (small1000 (by omega))
      -- at, first, by
      refine ⟨.ref b, rfl, .str (tx tl), rfl, tx tl, rfl, zl, _, 1, rfl, rfl, b, cl, _, rfl, x2.bag, by omega, by rw [tx_len]; omega, fun H3 a x3 a0 a1 => ?_⟩
      rw [tx_len] at a1
      refine ⟨.ref b, rfl, b, cl, 26, rfl, x3.bag, by decide, by decide, fun H4 f x4 f0 f1 => ?_⟩
      refine ⟨.ref b, rfl, (by show 6 ≤ sizeLine; decide), fun l nl => ?_⟩
      have x5 : BX b cl H4 (upd H4 l (.lst [.int 1, .int 3, .int 5, .int 7, .int 9, .int 11])) := .new x4.bag nl
      refine ⟨b, cl, x5.bag, .inl ⟨l, _, rfl, .new x4.bag nl, by decide, by decide, fun H6 v x6 hv => ?_⟩⟩
      obtain ⟨y, hy, rfl⟩ : ∃ y : Int, y ∈ [(1 : Int), 3, 5, 7, 9, 11] ∧ v = .int y := by
        simp only [List.mem_cons, List.not_mem_nil, or_false] at hv
        rcases hv with rfl | rfl | rfl | rfl | rfl | rfl
        all_goals exact ⟨_, by decide, rfl⟩
      have x26 : BX b cl H H6 := x2.trans (x3.trans (x4.trans (x5.trans x6)))
      have hy1 : 0 < y ∧ y < 12 := by
        simp only [List.mem_cons, List.not_mem_nil, or_false] at hy
        omega
      refine ⟨.int m, rfl, m, rfl, by omega, by omega, fun D2 nD2 => ?_⟩
      have nD20 : H D2 = none := x26.back nD2
      obtain ⟨i0, rfl⟩ := Int.eq_ofNat_of_zero_le a0
      refine lc_range (lo := 0) (n := m.toNat) (fun i H' => BX b cl H H' ∧ H' D2 = some (.lst (((List.range i).map fun k => nmAt tl i0 (lett f y k)).map txV))) ⟨x26.mut hB nD20, upd_same⟩ (fun i H' hi h => ?_) (fun H7 h => ?_)
      · obtain ⟨x, eD⟩ := h
        refine ⟨rfl, .str (tx tl), rfl, .int i0, rfl, _, rfl, tx tl, rfl, zl, .str alphabet, rfl, .int f, rfl, .int y, rfl, .int (0 + i), rfl, y, 0 + i, rfl, rfl, .inl ⟨by omega, by omega⟩, f, _, rfl, rfl, _, 26, rfl, rfl, (by show (0 : Int) < 26; decide), alphabet, _, _, rfl, rfl, by decide +kernel, alpha_at (Int.emod_nonneg _ (by decide)) (Int.emod_lt_of_pos _ (by decide)), _, _, rfl, rfl, ?_, .str (tx tl), rfl, .int i0, rfl, _, rfl, tx tl, rfl, zl, _, _, rfl, rfl, ?_, _, eD, ?_, x.mut hB nD20, ?_⟩
        · rw [cutS_take, tx_len]
          show (tl.take i0).length + 1 ≤ sizeLine
          rw [List.length_take]
          exact Nat.le_of_lt (small1000 (by omega))
        · rw [cutS_take, cutS_drop]
          show (tx (tl.take i0) ++ tx [((f + y * (0 + (i : Int))) % 26).toNat + 97]).length + (tx (tl.drop i0)).length ≤ _
          rw [tx_app, tx_len, tx_len]
          simp only [List.length_append, List.length_take, List.length_drop, List.length_singleton]
          exact Nat.le_of_lt (small1000 (by omega))
        · simp only [List.length_map, List.length_range]
          exact small1000 (by omega)
        · rw [upd_same, cutS_take, cutS_drop, List.range_succ, List.map_append, List.map_append]
          have e2 : tx (tl.take i0) ++ tx [((f + y * (0 + (i : Int))) % 26).toNat + 97] ++ tx (tl.drop i0) = tx (nmAt tl i0 (lett f y i)) := by
            rw [tx_app, tx_app, Int.zero_add]
            rfl
          exact congrArg (fun z => some (HO.lst (_ ++ [V.str z]))) e2
      · obtain ⟨x, eD⟩ := h
        exact q _ D2 _ x nD20 (by simp; omega) (names_ok hy lt htl (by omega)) eD

/-! ### acts and moves of a plan -/
theorem bEq {b a : Addr} : (fun a => a = b) b := rfl
def sp_act : Sp := fun vs H Q _ => ∃ (b s d : Addr) (p : PD), vs = [.ref b, .ref d] ∧ Bag b s H ∧ Plan (· = b) H d p ∧ 0 < p.letters.length ∧ p.letters.length < 1000 ∧ p.rows.length < 1000 ∧
  ∀ H' x a, BX b s H H' → Rp (Old H) H' 1 x (tupS a) → ActOk p a → Q x H'
theorem ok_act (T : Tx K mg) : FnOk P w K mg base CX0 3 T.f_act T.fd_act P_act sp_act := by
  have G_pull : FnOk P w K mg base CX0 1 T.f_pull T.fd_pull P_pull sp_pull := ok_pull T
  have G_of : FnOk P w K mg base CX0 2 T.f_of T.fd_of P_of sp_of := ok_of T
  refine T.F_act.ok sc_act (fun vs H Q E h => ?_) (fun cdv A outer s H vs Q E hr h => ?_)
  · obtain ⟨b, s, d, p, rfl, _⟩ := h
    rfl
  · obtain ⟨b, cl, d, p, rfl, hB, ⟨l, m, r, v, t, hP⟩, l0, l1, r1, q⟩ := h
    refine ⟨_, 
      (pss_cons (ps_set (i := 2) sc_act.nd rfl (.inl rfl) (pe_call G_pull (hr.mono (by decide)) (by rfl) T.g_pull T.F_pull.kp T.b_pull .nil pass0 (pa_cons (L2.pv 0) (pa_cons pe_int pa_nil))))
      (pss_cons (ps_if (PW.pt (pw_or (pt_cmpR op_eq (L2.pv 2) pe_int (nomark _)) (pw_or1 (pt_cmpR (op_eqD hr.units) (pe_dget (hu_of hr) (L2.pv 1) pe_str (fun _ _ => rfl)) (pe_lst pa_nil) (nomark _)))))
        (pss_one (ps_ret (pe_tup (pa_cons pe_str pa_nil))))
        pss_nil)
      (pss_cons (ps_set (i := 3) sc_act.nd rfl (.inl rfl) (pe_ix ix_tup (pe_call G_of (hr.mono (by decide)) (by rfl) T.g_of T.F_of.kp T.b_of .nil pass0 (pa_cons (L2.pv 0) (pa_cons (pe_dget (hu_of hr) (L2.pv 1) pe_str (fun _ _ => rfl)) pa_nil))) pe_int (fun _ _ => rfl)))
      (pss_cons (ps_if (pt_cmpR op_eq (L2.pv 2) pe_int (nomark _))
        (pss_one (ps_ret (pe_tup (pa_cons pe_str (pa_cons (L2.pv 3) pa_nil)))))
        pss_nil)
      (pss_one (ps_ret (pe_tup (pa_cons (pe_ix ix_list (pe_lst (pa_cons pe_str (pa_cons pe_str pa_nil))) (pe_op op_mod (L2.pv 2) pe_int) (fun _ _ => rfl)) (pa_cons (L2.pv 3) (pa_cons (pe_call G_of (hr.mono (by decide)) (by rfl) T.g_of T.F_of.kp T.b_of .nil pass0 (pa_cons (L2.pv 0) (pa_cons (pe_dget (hu_of hr) (L2.pv 1) pe_str (fun _ _ => rfl)) pa_nil))) pa_nil)))))))))), ?_⟩
    refine ⟨.ref b, rfl, b, cl, 9, rfl, hB, by decide, by decide, fun H1 k x1 k0 k1 => ?_⟩
    have hP1 := hP.mv (x1.kp rfl)
    obtain ⟨r', xr, e, nr, hr1, lr, pr⟩ := hP1.r.lst
    cases e
    have rl : xr.length = p.rows.length := by rw [paired_len pr, List.length_map]
    refine ⟨.int k, rfl, rfl, _, rfl, ite2 (fun _ => ?_) (fun _ => ?_)⟩
    · -- idle
      refine iteT ⟨(by show 1 ≤ sizeLine; decide), fun a na => q _ _ [wIdle] (x1.trans (.new x1.bag na)) ?_ .idle⟩
      exact rp_tup (Old.new (x1.back na)) upd_same (by show 1 < 100000; decide) (.cons (rp_str (l := wIdle) (by decide)) .nil)
    · refine ⟨.ref d, rfl, d, _, rfl, hP1.gr, Nat.zero_le _, fun z nz => ?_⟩
      have x2 : BX b cl H1 (upd H1 z (.lst [])) := .new x1.bag nz
      have hP2 := hP1.mv (x2.kp rfl)
      have hr2 := x2.keep r _ nr hr1
      obtain ⟨qs, dq, sq, lq⟩ := rp_dpL (K := K) (av := (· = b)) (H := upd H1 z (.lst [])) (n := 1) (Paired.mapP pr fun _ _ w => w.mv (x2.kp (av := (· = b)) rfl)) (by decide)
      refine ⟨.list qs, .list [], .lst (.of hr2) dq, .lst (.of upd_same) .nil, sq, rfl, _, rfl, ?_⟩
      rw [eqv_nil]
      rw [List.length_map] at lq
      by_cases h0 : p.rows.length = 0
      · rw [decide_eq_true (by omega)]
        refine iteT ⟨(by show 1 ≤ sizeLine; decide), fun a na => q _ _ [wIdle] ((x1.trans x2).trans (.new x2.bag na)) ?_ .idle⟩
        exact rp_tup (Old.new ((x1.trans x2).back na)) upd_same (by show 1 < 100000; decide) (.cons (rp_str (l := wIdle) (by decide)) .nil)
      · rw [decide_eq_false (by omega)]
        refine iteF ?_
        -- the row
        refine ⟨.ref b, rfl, .ref d, rfl, d, _, rfl, hP2.gr, b, cl, x2.bag, .inl ⟨r, xr, rfl, ⟨nr, hr2⟩, by omega, by omega, fun H3 rv x3 hrv => ?_⟩⟩
        have x13 := x1.trans (x2.trans x3)
        obtain ⟨dd, hdd, rrv⟩ := paired_mem pr hrv
        obtain ⟨row, hrow, rfl⟩ := List.mem_map.mp hdd
        have rrv3 := rrv.mv ((x2.trans x3).kp (av := (· = b)) rfl)
        obtain ⟨ra, xs, rfl, nra, hra, _, pp⟩ := rrv3.tup
        obtain ⟨u1, u2, rfl, e1, e2⟩ : ∃ u1 u2, xs = [u1, u2] ∧ Rp (· = b) H3 0 u1 (.str row.1) ∧ Rp (· = b) H3 0 u2 (.str row.2) := by
          rcases pp with _ | ⟨a1, pp⟩
          rcases pp with _ | ⟨a2, pp⟩
          cases pp
          exact ⟨_, _, rfl, a1, a2⟩
        obtain ⟨rfl, as1⟩ := e1.str
        refine ⟨ra, _, 0, .str (tx row.1), rfl, rfl, .of hra, rfl, ?_⟩
        refine ⟨.int k, rfl, rfl, _, rfl, ite2 (fun _ => ?_) (fun _ => ?_)⟩
        · refine ⟨.str (tx row.1), rfl, (by show 2 ≤ sizeLine; decide), fun a na => q _ _ [wBare, row.1] (x13.trans (.new x13.bag na)) ?_ (.bare hrow)⟩
          exact rp_tup (Old.new (x13.back na)) upd_same (by show 2 < 100000; decide) (.cons (rp_str (l := wBare) (by decide)) (.cons (rp_str as1) .nil))
        · refine ⟨(by show 2 ≤ sizeLine; decide), fun y ny => ?_⟩
          have x4 : BX b cl H3 (upd H3 y (.lst [.str (Str.ofString "send"), .str (Str.ofString "take")])) := .new x3.bag ny
          have hk2 : k % 2 = 0 ∨ k % 2 = 1 := by omega
          obtain ⟨wd, hwd, hat⟩ : ∃ wd, (wd = wSend ∨ wd = wTake) ∧ atI [V.str (Str.ofString "send"), V.str (Str.ofString "take")] (k % 2) = some (.str (tx wd)) := by
            rcases hk2 with h | h
            · rw [h]
              exact ⟨wSend, .inl rfl, by rfl⟩
            · rw [h]
              exact ⟨wTake, .inr rfl, by rfl⟩
          refine ⟨.int k, rfl, k, 2, rfl, rfl, (by show (0 : Int) < 2; decide), y, _, _, _, rfl, rfl, .of upd_same, hat, ?_⟩
          have hP4 := hP2.mv ((x3.trans x4).kp rfl)
          obtain ⟨l', xl, el, nl, hl4, ll, pl⟩ := hP4.l.lst
          cases el
          have ql : xl.length = p.letters.length := by rw [paired_len pl, List.length_map]
          refine ⟨.str (tx row.1), rfl, .ref b, rfl, .ref d, rfl, d, _, rfl, hP4.gl, b, cl, x4.bag, .inl ⟨l, xl, rfl, ⟨nl, hl4⟩, by omega, by omega, fun H5 lv x5 hlv => ?_⟩⟩
          have x15 := x13.trans (x4.trans x5)
          obtain ⟨dl, hdl, rlv⟩ := paired_mem pl hlv
          obtain ⟨c, hc, rfl⟩ := List.mem_map.mp hdl
          obtain ⟨rfl, asc⟩ := rlv.str
          have aw : ascii wd := by
            rcases hwd with rfl | rfl
            · decide
            · decide
          refine ⟨(by show 3 ≤ sizeLine; decide), fun a na => q _ _ [wd, row.1, [c]] (x15.trans (.new x15.bag na)) ?_ ?_⟩
          · exact rp_tup (Old.new (x15.back na)) upd_same (by show 3 < 100000; decide) (.cons (rp_str aw) (.cons (rp_str as1) (.cons (rp_str asc) .nil)))
          · rcases hwd with rfl | rfl
            · exact .send hrow hc
            · exact .take hrow hc
def sp_move : Sp := fun vs H Q _ => ∃ (b s d : Addr) (p : PD), vs = [.ref b, .ref d] ∧ Bag b s H ∧ Plan (· = b) H d p ∧ 0 < p.letters.length ∧ p.letters.length < 1000 ∧ p.rows.length < 1000 ∧ 0 < p.machines.length ∧ p.machines.length < 1000 ∧ p.stands.length = p.machines.length ∧
  (∀ ss ∈ p.stands, 0 < ss.length ∧ ss.length < 1000) ∧ ∀ H' x mv, BX b s H H' → Rp (Old H) H' 2 x (mvD mv) → MvOk p mv → Q x H'
theorem ok_move (T : Tx K mg) : FnOk P w K mg base CX0 4 T.f_move T.fd_move P_move sp_move := by
  have G_pull : FnOk P w K mg base CX0 1 T.f_pull T.fd_pull P_pull sp_pull := ok_pull T
  have G_of : FnOk P w K mg base CX0 2 T.f_of T.fd_of P_of sp_of := ok_of T
  have G_act : FnOk P w K mg base CX0 3 T.f_act T.fd_act P_act sp_act := ok_act T
  refine T.F_move.ok sc_move (fun vs H Q E h => ?_) (fun cdv A outer s H vs Q E hr h => ?_)
  · obtain ⟨b, s, d, p, rfl, _⟩ := h
    rfl
  · obtain ⟨b, cl, d, p, rfl, hB, ⟨l, m, r, v, t, hP⟩, l0, l1, r1, m0, m1, em, hs, q⟩ := h
    obtain ⟨m', xm, e, nm, hm, lm, pm⟩ := hP.m.lst
    cases e
    have ql : xm.length = p.machines.length := by rw [paired_len pm, List.length_map]
    refine ⟨_, 
      (pss_cons (ps_set (i := 2) sc_move.nd rfl (.inl rfl) (pe_call G_pull (hr.mono (by decide)) (by rfl) T.g_pull T.F_pull.kp T.b_pull .nil pass0 (pa_cons (L2.pv 0) (pa_cons (pe_callB call_len_seq (by rfl) T.m_len PySem.boot_len (pa_cons (pe_dget (hu_of hr) (L2.pv 1) pe_str (fun _ _ => rfl)) pa_nil)) pa_nil))))
      (pss_cons (ps_set (i := 3) sc_move.nd rfl (.inl rfl) (pe_ix ix_list (pe_dget (hu_of hr) (L2.pv 1) pe_str (fun _ _ => rfl)) (L2.pv 2) (fun _ _ => rfl)))
      (pss_one (ps_ret (pe_tup (pa_cons (pe_ix ix_tup (pe_ix ix_list (pe_dget (hu_of hr) (L2.pv 1) pe_str (fun _ _ => rfl)) (L2.pv 2) (fun _ _ => rfl)) pe_int (fun _ _ => rfl)) (pa_cons (pe_call G_of (hr.mono (by decide)) (by rfl) T.g_of T.F_of.kp T.b_of .nil pass0 (pa_cons (L2.pv 0) (pa_cons (L2.pv 3) pa_nil))) (pa_cons (pe_call G_act (hr.mono (by decide)) (by rfl) T.g_act T.F_act.kp T.b_act .nil pass0 (pa_cons (L2.pv 0) (pa_cons (L2.pv 1) pa_nil))) (pa_cons (pe_call G_of (hr.mono (by decide)) (by rfl) T.g_of T.F_of.kp T.b_of .nil pass0 (pa_cons (L2.pv 0) (pa_cons (L2.pv 3) pa_nil))) pa_nil))))))))), ?_⟩
    refine ⟨.ref b, rfl, .ref d, rfl, d, _, rfl, hP.gm, m, _, rfl, .inl (.of hm), b, cl, _, rfl, hB, by omega, by omega, fun H1 k x1 k0 k1 => ?_⟩
    obtain ⟨i, rfl⟩ := Int.eq_ofNat_of_zero_le k0
    have hi : i < p.machines.length := by omega
    have hi2 : i < p.stands.length := by omega
    have hP1 := hP.mv (x1.kp rfl)
    -- some
    obtain ⟨t', xt, e, nt, ht, lt, pt⟩ := hP1.t.lst
    cases e
    obtain ⟨sv, hsv, rsv⟩ := paired_rget (i := i) pt (by rw [List.getElem?_map, List.getElem?_eq_getElem hi2]; rfl)
    obtain ⟨sa, xs, rfl, nsa, hsa, lsa, psa⟩ := rsv.lst
    obtain ⟨rfl, asS⟩ := strs_rp psa
    refine ⟨.ref d, rfl, d, _, rfl, hP1.gt, .int i, rfl, t, _, _, _, rfl, rfl, .of ht, atI_nat hsv, ?_⟩
    obtain ⟨hs0, hs1⟩ := hs _ (List.getElem_mem hi2)
    -- the machine
    obtain ⟨m', xm', e, nm', hm1, lm', pm1⟩ := hP1.m.lst
    cases e
    obtain ⟨mv, hmv, rmv⟩ := paired_rget (i := i) pm1 (by rw [List.getElem?_map, List.getElem?_eq_getElem hi]; rfl)
    obtain ⟨ma, ys, rfl, nma, hma, _, pp⟩ := rmv.tup
    obtain ⟨u1, u2, rfl, e1, e2⟩ : ∃ u1 u2, ys = [u1, u2] ∧ Rp (· = b) H1 0 u1 (.str p.machines[i].1) ∧ Rp (· = b) H1 0 u2 (.str p.machines[i].2) := by
      rcases pp with _ | ⟨a1, pp⟩
      rcases pp with _ | ⟨a2, pp⟩
      cases pp
      exact ⟨_, _, rfl, a1, a2⟩
    obtain ⟨rfl, as1⟩ := e1.str
    refine ⟨.ref d, rfl, d, _, rfl, hP1.gm, .int i, rfl, m, _, _, _, rfl, rfl, .of hm1, atI_nat hmv, ma, _, 0, .str (tx p.machines[i].1), rfl, rfl, .of hma, rfl, ?_⟩
    -- start
    have l2 : (p.stands[i].map fun l => V.str (tx l)).length = p.stands[i].length := List.length_map ..
    refine ⟨.ref b, rfl, .ref sa, rfl, b, cl, x1.bag, .inl ⟨sa, _, rfl, ⟨nsa, hsa⟩, by omega, by omega, fun H2 sv1 x2 hs1 => ?_⟩⟩
    obtain ⟨st, hst, rfl⟩ := List.mem_map.mp hs1
    -- act
    have x12 := x1.trans x2
    refine ⟨.ref b, rfl, .ref d, rfl, b, cl, d, p, rfl, x12.bag, ⟨l, m, r, v, t, hP.mv (x12.kp rfl)⟩, l0, l1, r1, fun H3 av a x3 ra oa => ?_⟩
    have x13 := x12.trans x3
    refine ⟨.ref b, rfl, .ref sa, rfl, b, cl, x13.bag, .inl ⟨sa, _, rfl, ⟨nsa, (x2.trans x3).keep sa _ nsa hsa⟩, by omega, by omega, fun H4 sv2 x4 hs2 => ?_⟩⟩
    obtain ⟨en, hen, rfl⟩ := List.mem_map.mp hs2
    have x14 := x13.trans x4
    refine ⟨(by show 4 ≤ sizeLine; decide), fun z nz => q _ _ (p.machines[i].1, st, a, en) (x14.trans (.new x14.bag nz)) ?_ ⟨i, p.machines[i], p.stands[i], List.getElem?_eq_getElem hi, List.getElem?_eq_getElem hi2, rfl, hst, oa, hen⟩⟩
    have ra2 : Rp (Old H) (upd H4 z (.tup [.str (tx p.machines[i].1), .str (tx st), av, .str (tx en)])) 1 av (tupS a) :=
      ((ra.mv ((x4.trans (.new x14.bag nz)).kp (Bag.old x12.bag))).weak fun c hc => x12.old hc)
    exact rp_tup (Old.new (x14.back nz)) upd_same (by show 4 < 100000; decide) (.cons (rp_str as1) (.cons (rp_str (asS st hst)) (.cons ra2 (.cons (rp_str (asS en hen)) .nil))))

/-! ### a plan -/
theorem Paired.get1 {α β : Type} {F : α → β → Prop} {xs : List α} {ys : List β} (p : Paired F xs ys) : xs.length = ys.length := Paired.length p
def sp_plan : Sp := fun vs H Q _ => ∃ (b s : Addr) (ma st ro mo : Nat), vs = [.ref b, .int ma, .int st, .int ro, .int mo] ∧ Bag b s H ∧ ma ≤ 5 ∧ 0 < st ∧ st ≤ 6 ∧ ro ≤ 7 ∧ mo ≤ 100 ∧
  ∀ H' d p, BX b s H H' → Plan (Old H) H' d p → PlanOk p ma st ro mo → Q (.ref d) H'
theorem ok_plan (T : Tx K mg) : FnOk P w K mg base CX0 5 T.f_plan T.fd_plan P_plan sp_plan := by
  have G_pull : FnOk P w K mg base CX0 1 T.f_pull T.fd_pull P_pull sp_pull := ok_pull T
  have G_of : FnOk P w K mg base CX0 2 T.f_of T.fd_of P_of sp_of := ok_of T
  have G_letters : FnOk P w K mg base CX0 3 T.f_letters T.fd_letters P_letters sp_letters := ok_letters T
  have G_names : FnOk P w K mg base CX0 3 T.f_names T.fd_names P_names sp_names := ok_names T
  have G_word : FnOk P w K mg base CX0 3 T.f_word T.fd_word P_word sp_word := ok_word T
  have G_move : FnOk P w K mg base CX0 4 T.f_move T.fd_move P_move sp_move := ok_move T
  refine T.F_plan.ok sc_plan (fun vs H Q E h => ?_) (fun cdv A outer s H vs Q E hr h => ?_)
  · obtain ⟨b, s, ma, st, ro, mo, rfl, _⟩ := h
    rfl
  · obtain ⟨b, cl, ma, st, ro, mo, rfl, hB, ma1, st0, st1, ro1, mo1, q⟩ := h
    refine ⟨_, 
      (pss_cons (ps_set (i := 5) sc_plan.nd rfl (.inl rfl) (pe_call G_names (hr.mono (by decide)) (by rfl) T.g_names T.F_names.kp T.b_names .nil pass0 (pa_cons (L2.pv 0) (pa_cons pe_int pa_nil))))
      (pss_cons (ps_set (i := 6) sc_plan.nd rfl (.inl rfl) (pe_slice sl_list (pe_call G_letters (hr.mono (by decide)) (by rfl) T.g_letters T.F_letters.kp T.b_letters .nil pass0 (pa_cons (L2.pv 0) pa_nil)) po_none (po_some (pe_op op_add pe_int (pe_call G_pull (hr.mono (by decide)) (by rfl) T.g_pull T.F_pull.kp T.b_pull .nil pass0 (pa_cons (L2.pv 0) (pa_cons pe_int pa_nil)))))))
      (pss_cons (ps_set (i := 7) sc_plan.nd rfl (.inl rfl) (pe_disp (pps_cons pe_str (L2.pv 6) (pps_cons pe_str (pe_lst pa_nil) (pps_cons pe_str (pe_lst pa_nil) (pps_cons pe_str (pe_lst pa_nil) (pps_cons pe_str (pe_lst pa_nil) pps_nil))))) (by rfl) (by rfl) (fun z => by cases z) (by decide)))
      (pss_cons (ps_for PassesOwn.never rfl (pi_range1 (by rfl) T.m_range (pa_cons (L2.pv 1) pa_nil)) (pg_name (i := 8) sc_plan.nd rfl (.inl rfl))
        (pss_cons (ps_set (i := 9) sc_plan.nd rfl (.inl rfl) (pe_slice sl_list (pe_call G_names (hr.mono (by decide)) (by rfl) T.g_names T.F_names.kp T.b_names .nil pass0 (pa_cons (L2.pv 0) (pa_cons pe_int pa_nil))) po_none (po_some (pe_op op_add pe_int (pe_call G_pull (hr.mono (by decide)) (by rfl) T.g_pull T.F_pull.kp T.b_pull .nil pass0 (pa_cons (L2.pv 0) (pa_cons (L2.pv 2) pa_nil)))))))
        (pss_cons (ps_expr (pe_bm PySem.F.plainAttrs_list PySem.F.slot_list_append PySem.F.type_list_append mt_append (pe_dget (hu_of hr) (L2.pv 7) pe_str (fun _ _ => rfl)) (pa_cons (L2.pv 9) pa_nil)))
        (pss_one (ps_expr (pe_bm PySem.F.plainAttrs_list PySem.F.slot_list_append PySem.F.type_list_append mt_append (pe_dget (hu_of hr) (L2.pv 7) pe_str (fun _ _ => rfl)) (pa_cons (pe_tup (pa_cons (pe_ix ix_list (L2.pv 5) (L2.pv 8) (fun _ _ => rfl)) (pa_cons (pe_call G_of (hr.mono (by decide)) (by rfl) T.g_of T.F_of.kp T.b_of .nil pass0 (pa_cons (L2.pv 0) (pa_cons (L2.pv 9) pa_nil))) pa_nil))) pa_nil)))))))
      (pss_cons (ps_for PassesOwn.never rfl (pi_range1 (by rfl) T.m_range (pa_cons (L2.pv 3) pa_nil)) (pg_name (i := 8) sc_plan.nd rfl (.inl rfl))
        (pss_one (ps_expr (pe_bm PySem.F.plainAttrs_list PySem.F.slot_list_append PySem.F.type_list_append mt_append (pe_dget (hu_of hr) (L2.pv 7) pe_str (fun _ _ => rfl)) (pa_cons (pe_tup (pa_cons (pe_ix ix_list (L2.pv 5) (pe_op op_add pe_int (L2.pv 8)) (fun _ _ => rfl)) (pa_cons (pe_call G_word (hr.mono (by decide)) (by rfl) T.g_word T.F_word.kp T.b_word .nil pass0 (pa_cons (L2.pv 0) (pa_cons (L2.pv 6) (pa_cons pe_int pa_nil)))) pa_nil))) pa_nil)))))
      (pss_cons (ps_for PassesOwn.never rfl (pi_range1 (by rfl) T.m_range (pa_cons (pe_op op_mul (L2.pv 4) (pe_callTy call_int1 (by rfl) T.m_int (by decide +kernel) (pa_cons (pe_cmpR op_gt (L2.pv 1) pe_int (nomark _)) pa_nil))) pa_nil)) (pg_name (i := 8) sc_plan.nd rfl (.inl rfl))
        (pss_one (ps_expr (pe_bm PySem.F.plainAttrs_list PySem.F.slot_list_append PySem.F.type_list_append mt_append (pe_dget (hu_of hr) (L2.pv 7) pe_str (fun _ _ => rfl)) (pa_cons (pe_call G_move (hr.mono (by decide)) (by rfl) T.g_move T.F_move.kp T.b_move .nil pass0 (pa_cons (L2.pv 0) (pa_cons (L2.pv 7) pa_nil))) pa_nil)))))
      (pss_one (ps_ret (L2.pv 7))))))))), ?_⟩
    -- names, letters
    refine ⟨.ref b, rfl, b, cl, 12, rfl, hB, by decide, by decide, fun H1 nm ns x1 fn ln nL enm => ?_⟩
    refine ⟨.ref b, rfl, b, cl, rfl, x1.bag, fun H2 p0 f y x2 np0 f0 f1 hy ep0 => ?_⟩
    refine ⟨.ref b, rfl, b, cl, 3, rfl, x2.bag, by decide, by decide, fun H3 u x3 u0 u1 => ?_⟩
    have hP0 : At b H3 p0 (.lst (lets [lett f y 0, lett f y 1, lett f y 2])) := (show At b H2 p0 _ from ⟨x1.bag.nb np0, ep0⟩).mv x3
    refine ⟨1, u, rfl, rfl, _, rfl, p0, _, rfl, hP0.l, fun l nl => ?_⟩
    have x13 := x1.trans (x2.trans x3)
    rw [cut_takeI _ (by omega)]
    -- the letters
    obtain ⟨cs, ecs, c0, c1, clow, cnd⟩ : ∃ cs, (lets [lett f y 0, lett f y 1, lett f y 2]).take (1 + u).toNat = lets cs ∧ 0 < cs.length ∧ cs.length ≤ 3 ∧ (∀ c ∈ cs, 97 ≤ c ∧ c < 123) ∧ cs.Nodup := by
      refine ⟨((List.range 3).map (lett f y)).take (1 + u).toNat, ?_, ?_, ?_, ?_, ?_⟩
      · show _ = ((((List.range 3).map (lett f y)).take (1 + u).toNat).map fun c => V.str (sg c))
        rw [List.map_take]
        rfl
      · simp
        omega
      · simp
        omega
      · intro c hc
        obtain ⟨k, _, rfl⟩ := List.mem_map.mp (List.mem_of_mem_take hc)
        exact lett_bd f y k
      · refine List.Nodup.sublist (List.take_sublist _ _) (List.pairwise_map.mpr (List.Pairwise.imp_of_mem ?_ (List.nodup_range (n := 3))))
        intro j k hj hk ne e
        exact ne (lett_inj hy (by have := List.mem_range.mp hj; omega) (by have := List.mem_range.mp hk; omega) e)
    rw [ecs]
    have x4 : BX b cl H3 (upd H3 l (.lst (lets cs))) := .new x3.bag nl
    -- the dict
    intro d nd
    have nd0 : H d = none := (x13.trans x4).back nd
    refine ⟨.ref l, rfl, Nat.zero_le _, fun m nmm => ⟨Nat.zero_le _, fun r nr => ⟨Nat.zero_le _, fun v nv => ⟨Nat.zero_le _, fun t nt => ?_⟩⟩⟩⟩
    have enm3 : H3 nm = some (.lst (ns.map txV)) := (x2.trans x3).keep nm _ (hB.nb fn) enm
    have q_nm_l : nm ≠ l := ne_of_none enm3 nl
    have e0_nm := (upd_ne (o := .lst (lets cs)) q_nm_l).trans enm3
    have e0_l := @upd_same H3 l (.lst (lets cs))
    have q_nm_d : nm ≠ d := ne_of_none e0_nm nd
    have e1_nm := (upd_ne (o := .dK []) q_nm_d).trans e0_nm
    have q_l_d : l ≠ d := ne_of_none e0_l nd
    have e1_l := (upd_ne (o := .dK []) q_l_d).trans e0_l
    have e1_d := @upd_same (upd H3 l (.lst (lets cs))) d (.dK [])
    have q_nm_m : nm ≠ m := ne_of_none e1_nm nmm
    have e2_nm := (upd_ne (o := .lst []) q_nm_m).trans e1_nm
    have q_l_m : l ≠ m := ne_of_none e1_l nmm
    have e2_l := (upd_ne (o := .lst []) q_l_m).trans e1_l
    have q_d_m : d ≠ m := ne_of_none e1_d nmm
    have e2_d := (upd_ne (o := .lst []) q_d_m).trans e1_d
    have e2_m := @upd_same (upd (upd H3 l (.lst (lets cs))) d (.dK [])) m (.lst [])
    have q_nm_r : nm ≠ r := ne_of_none e2_nm nr
    have e3_nm := (upd_ne (o := .lst []) q_nm_r).trans e2_nm
    have q_l_r : l ≠ r := ne_of_none e2_l nr
    have e3_l := (upd_ne (o := .lst []) q_l_r).trans e2_l
    have q_d_r : d ≠ r := ne_of_none e2_d nr
    have e3_d := (upd_ne (o := .lst []) q_d_r).trans e2_d
    have q_m_r : m ≠ r := ne_of_none e2_m nr
    have e3_m := (upd_ne (o := .lst []) q_m_r).trans e2_m
    have e3_r := @upd_same (upd (upd (upd H3 l (.lst (lets cs))) d (.dK [])) m (.lst [])) r (.lst [])
    have q_nm_v : nm ≠ v := ne_of_none e3_nm nv
    have e4_nm := (upd_ne (o := .lst []) q_nm_v).trans e3_nm
    have q_l_v : l ≠ v := ne_of_none e3_l nv
    have e4_l := (upd_ne (o := .lst []) q_l_v).trans e3_l
    have q_d_v : d ≠ v := ne_of_none e3_d nv
    have e4_d := (upd_ne (o := .lst []) q_d_v).trans e3_d
    have q_m_v : m ≠ v := ne_of_none e3_m nv
    have e4_m := (upd_ne (o := .lst []) q_m_v).trans e3_m
    have q_r_v : r ≠ v := ne_of_none e3_r nv
    have e4_r := (upd_ne (o := .lst []) q_r_v).trans e3_r
    have e4_v := @upd_same (upd (upd (upd (upd H3 l (.lst (lets cs))) d (.dK [])) m (.lst [])) r (.lst [])) v (.lst [])
    have q_nm_t : nm ≠ t := ne_of_none e4_nm nt
    have e5_nm := (upd_ne (o := .lst []) q_nm_t).trans e4_nm
    have q_l_t : l ≠ t := ne_of_none e4_l nt
    have e5_l := (upd_ne (o := .lst []) q_l_t).trans e4_l
    have q_d_t : d ≠ t := ne_of_none e4_d nt
    have e5_d := (upd_ne (o := .lst []) q_d_t).trans e4_d
    have q_m_t : m ≠ t := ne_of_none e4_m nt
    have e5_m := (upd_ne (o := .lst []) q_m_t).trans e4_m
    have q_r_t : r ≠ t := ne_of_none e4_r nt
    have e5_r := (upd_ne (o := .lst []) q_r_t).trans e4_r
    have q_v_t : v ≠ t := ne_of_none e4_v nt
    have e5_v := (upd_ne (o := .lst []) q_v_t).trans e4_v
    have e5_t := @upd_same (upd (upd (upd (upd (upd H3 l (.lst (lets cs))) d (.dK [])) m (.lst [])) r (.lst [])) v (.lst [])) t (.lst [])
    refine ⟨e5_d, planK l m r v t, rfl, (by show 5 ≤ 15; decide), ?_⟩
    rw [planK_merge]
    have fl : H l = none := x13.back nl
    have x4b : BX b cl H (upd H3 l (.lst (lets cs))) := x13.trans x4
    have x5 : BX b cl H (upd (upd H3 l (.lst (lets cs))) d (.dK [])) := x4b.mut hB nd0
    have fm : H m = none := x5.back nmm
    have x6 : BX b cl H (upd (upd (upd H3 l (.lst (lets cs))) d (.dK [])) m (.lst [])) := x5.mut hB fm
    have fr : H r = none := x6.back nr
    have x7 : BX b cl H (upd (upd (upd (upd H3 l (.lst (lets cs))) d (.dK [])) m (.lst [])) r (.lst [])) := x6.mut hB fr
    have fv : H v = none := x7.back nv
    have x8 : BX b cl H (upd (upd (upd (upd (upd H3 l (.lst (lets cs))) d (.dK [])) m (.lst [])) r (.lst [])) v (.lst [])) := x7.mut hB fv
    have ft : H t = none := x8.back nt
    have x9 : BX b cl H (upd (upd (upd (upd (upd (upd H3 l (.lst (lets cs))) d (.dK [])) m (.lst [])) r (.lst [])) v (.lst [])) t (.lst [])) := x8.mut hB ft
    have x10 : BX b cl H (upd (upd (upd (upd (upd (upd (upd H3 l (.lst (lets cs))) d (.dK [])) m (.lst [])) r (.lst [])) v (.lst [])) t (.lst [])) d (.dK (planK l m r v t))) := x9.mut hB nd0
    have Ad : PAd H d l nm m r v t := ⟨nd0, fl, fn, fm, fr, fv, ft, q_d_m, q_d_r, q_d_v, q_d_t, q_l_m, q_l_r, q_l_v, q_l_t, q_nm_m, q_nm_r, q_nm_v, q_nm_t, q_m_r, q_m_v, q_m_t, q_r_v, q_r_t, q_v_t⟩
    have B0 : PB b cl H (upd (upd (upd (upd (upd (upd (upd H3 l (.lst (lets cs))) d (.dK [])) m (.lst [])) r (.lst [])) v (.lst [])) t (.lst [])) d (.dK (planK l m r v t))) d l nm m r v t cs ns [] [] [] [] :=
      ⟨x10, upd_same, (upd_ne q_l_d).trans e5_l, (upd_ne q_nm_d).trans e5_nm, (upd_ne q_d_m.symm).trans e5_m, (upd_ne q_d_r.symm).trans e5_r, (upd_ne q_d_v.symm).trans e5_v, (upd_ne q_d_t.symm).trans e5_t⟩
    clear e0_nm e1_nm e2_nm e3_nm e4_nm e5_nm e0_l e1_l e2_l e3_l e4_l e5_l e1_d e2_d e3_d e4_d e5_d e2_m e3_m e4_m e5_m e3_r e4_r e5_r e4_v e5_v e5_t x5 x6 x7 x8 x9 x10 x4b
    generalize (upd (upd (upd (upd (upd (upd (upd H3 l (.lst (lets cs))) d (.dK [])) m (.lst [])) r (.lst [])) v (.lst [])) t (.lst [])) d (.dK (planK l m r v t))) = H4 at B0 ⊢
    have avb : avP H m r v t b := .inl (Bag.old hB)
    -- the machines
    refine ⟨.int ma, rfl, ma, rfl, by omega, by omega, for_range (lo := 0) (n := (ma : Int).toNat) (fun k σ G => ∃ xm xt ms ss y8 y9, σ = [some (.ref b), some (.int ma), some (.int st), some (.int ro), some (.int mo), some (.ref nm), some (.ref l), some (.ref d), y8, y9] ∧
      PB b cl H G d l nm m r v t cs ns xm [] [] xt ∧ Paired (Rp (avP H m r v t) G 1) xm (ms.map pairD) ∧ Paired (Rp (avP H m r v t) G 1) xt (ss.map standD) ∧ ms.length = k ∧ ss.length = k ∧ ms.map (·.1) = ns.take k ∧
      (∀ (i : Nat) (x : List Nat × List Nat) (s : List (List Nat)), ms[i]? = some x → ss[i]? = some s → x.2 ∈ s) ∧ (∀ s ∈ ss, NameL s ∧ 0 < s.length ∧ s.length ≤ st)) ⟨[], [], [], [], none, none, rfl, B0, .nil, .nil, rfl, rfl, rfl, (fun i x s h => by simp at h), (fun s h => by cases h)⟩ (fun k σ G hk h => ?_) (fun σ G h => ?_)⟩
    · obtain ⟨xm, xt, ms, ss, y8, y9, rfl, B, pm, pt, lm, ls, em, hms, hss⟩ := h
      have hk' : k < ma := by omega
      have lns : ns.length = 12 := by omega
      -- some
      refine ⟨.ref b, rfl, b, cl, 6, rfl, B.bx.bag, by decide, by decide, fun G1 q1 nn y1 fq lnn nnL eq => ?_⟩
      refine ⟨.ref b, rfl, .int st, rfl, b, cl, st, rfl, y1.bag, by omega, by omega, fun G2 u y2 u0 u1 => ⟨1, u, rfl, rfl, _, rfl, q1, _, rfl, .of (y2.keep q1 _ (B.bx.bag.nb fq) eq), fun z nz => ?_⟩⟩
      rw [cut_takeI _ (by omega), ← List.map_take]
      have y12 := y1.trans y2
      have Bz := B.mv Ad hB y12
      have n0 : 0 < (nn.take (1 + u).toNat).length := by
        rw [List.length_take]
        omega
      have n1 : (nn.take (1 + u).toNat).length ≤ st := by
        rw [List.length_take]
        omega
      generalize ess : nn.take (1 + u).toNat = sk at n0 n1
      have skL : NameL sk := by rw [← ess]; exact nnL.take _
      have zav : ¬ avP H m r v t z := fun w => Bz.old w nz
      have zt : z ≠ t := (ne_of_none Bz.t nz).symm
      have zm : z ≠ m := (ne_of_none Bz.m nz).symm
      have zb : z ≠ b := y12.bag.nb nz
      have y3 : BX b cl G2 (upd G2 z (.lst (sk.map txV))) := .new y12.bag nz
      have B1 := Bz.mv Ad hB y3
      -- stands
      refine ⟨.ref d, rfl, d, _, rfl, B1.gt, .inl ⟨rfl, _, .of B1.t⟩, .ref z, rfl, t, _, _, rfl, rfl, B1.t, ?_, ?_⟩
      · rw [paired_len pt, List.length_map]
        exact small1000 (by omega)
      have B2 := B1.appT Ad hB (.ref z)
      have ez2 : (upd (upd G2 z (.lst (sk.map txV))) t (.lst (xt ++ [.ref z]))) z = some (.lst (sk.map txV)) := (upd_ne zt).trans upd_same
      have gk : atI (ns.map fun l => V.str (tx l)) (0 + (k : Int)) = some (txV (ns[k]'(by omega))) := by
        rw [Int.zero_add]
        refine atI_nat ?_
        rw [List.getElem?_map, List.getElem?_eq_getElem (by omega)]
        rfl
      -- machines
      refine ⟨.ref d, rfl, d, _, rfl, B2.gm, .inl ⟨rfl, _, .of B2.m⟩, .ref nm, rfl, .int (0 + k), rfl, nm, _, _, _, rfl, rfl, .of B2.nm, gk, .ref b, rfl, .ref z, rfl, b, cl, B2.bx.bag, .inl ⟨z, _, rfl, ⟨zb, ez2⟩, by rw [List.length_map]; exact n0, by rw [List.length_map]; omega, fun G5 fv y5 hfv => ⟨(by show 2 ≤ sizeLine; decide), fun tp ntp => ?_⟩⟩⟩
      obtain ⟨fs, hfs, rfl⟩ := List.mem_map.mp hfv
      have B5 := B2.mv Ad hB y5
      have y6 : BX b cl G5 (upd G5 tp (.tup [txV (ns[k]'(by omega)), txV fs])) := .new y5.bag ntp
      have B6 := B5.mv Ad hB y6
      have tpav : ¬ avP H m r v t tp := fun w => B5.old w ntp
      refine ⟨m, _, _, rfl, rfl, B6.m, ?_, ?_⟩
      · rw [paired_len pm, List.length_map]
        exact small1000 (by omega)
      have B7 := B6.appM Ad hB (.ref tp)
      have kp : Kp (avP H m r v t) G (upd (upd G5 tp (.tup [txV (ns[k]'(by omega)), txV fs])) m (.lst (xm ++ [.ref tp]))) :=
        ((y12.trans y3).kp avb).trans ((Kp.mut (.inr (.inr (.inr (.inr rfl))))).trans (((y5.trans y6).kp avb).trans (Kp.mut (.inr (.inl rfl)))))
      have ez7 : (upd (upd G5 tp (.tup [txV (ns[k]'(by omega)), txV fs])) m (.lst (xm ++ [.ref tp]))) z = some (.lst (sk.map txV)) :=
        (upd_ne zm).trans ((y5.trans y6).keep z _ zb ez2)
      have tpm : tp ≠ m := fun e => tpav (.inr (.inl e))
      refine ⟨xm ++ [.ref tp], xt ++ [.ref z], ms ++ [(ns[k]'(by omega), fs)], ss ++ [sk], _, _, rfl, B7, ?_, ?_, by simp [lm], by simp [ls], ?_, ?_, ?_⟩
      · rw [List.map_append]
        refine paired_app (Paired.mapP pm fun _ _ w => w.mv kp) (rp_tup tpav ((upd_ne tpm).trans upd_same) (by show 2 < 100000; decide) (.cons (rp_str (nL.ok _ (List.getElem_mem _)).ascii) (.cons (rp_str (skL.ok _ hfs).ascii) .nil)))
      · rw [List.map_append]
        refine paired_app (Paired.mapP pt fun _ _ w => w.mv kp) (rp_lst zav ez7 (by rw [List.length_map]; omega) (rp_strs fun x hx => (skL.ok x hx).ascii))
      · rw [List.map_append, em, List.take_add_one, List.getElem?_eq_getElem (by omega)]
        rfl
      · intro i x s2 hx hs2
        by_cases hi : i < k
        · rw [List.getElem?_append_left (by omega)] at hx hs2
          exact hms i x s2 hx hs2
        · rw [List.getElem?_append_right (by omega)] at hx hs2
          rw [lm] at hx
          rw [ls] at hs2
          have hi0 : i - k = 0 := by
            have := (List.getElem?_eq_some_iff.mp hx).1
            simp at this
            omega
          rw [hi0] at hx hs2
          cases (Option.some.inj hx)
          cases (Option.some.inj hs2)
          exact hfs
      · intro s2 hs2
        rcases List.mem_append.mp hs2 with h | h
        · exact hss s2 h
        · rw [List.mem_singleton.mp h]
          exact ⟨skL, n0, n1⟩
    · obtain ⟨xm, xt, ms, ss, y8, y9, rfl, B, pm, pt, lm, ls, em, hms, hss⟩ := h
      have lm' : ms.length = ma := by omega
      have ls' : ss.length = ma := by omega
      have lxm : xm.length < 1000 := by rw [paired_len pm, List.length_map]; omega
      have lxt : xt.length < 1000 := by rw [paired_len pt, List.length_map]; omega
      have lns : ns.length = 12 := by omega
      -- the rows
      refine ⟨.int ro, rfl, ro, rfl, by omega, by omega, for_range (lo := 0) (n := (ro : Int).toNat) (fun k σ G' => ∃ xr rs y8 y9, σ = [some (.ref b), some (.int ma), some (.int st), some (.int ro), some (.int mo), some (.ref nm), some (.ref l), some (.ref d), y8, y9] ∧
        PB b cl H G' d l nm m r v t cs ns xm xr [] xt ∧ Kp (avP H m r v t) G G' ∧ Paired (Rp (avP H m r v t) G' 1) xr (rs.map pairD) ∧ rs.length = k ∧ rs.map (·.1) = (ns.drop 5).take k ∧ (∀ x ∈ rs, x.2.length ≤ 2 ∧ ∀ c ∈ x.2, c ∈ cs))
        ⟨[], [], y8, y9, rfl, B, .refl, .nil, rfl, rfl, (fun s h => by cases h)⟩ (fun k σ G1 hk h => ?_) (fun σ G1 h => ?_)⟩
      · obtain ⟨xr, rs, z8, z9, rfl, B1, kp1, pr, lr, er, hrs⟩ := h
        have hk' : k < ro := by omega
        have gk : atI (ns.map fun l => V.str (tx l)) (5 + (0 + (k : Int))) = some (txV (ns[5 + k]'(by omega))) := by
          rw [show (5 : Int) + (0 + (k : Int)) = ((5 + k : Nat) : Int) by omega]
          refine atI_nat ?_
          rw [List.getElem?_map, List.getElem?_eq_getElem (by omega)]
          rfl
        refine ⟨.ref d, rfl, d, _, rfl, B1.gr, .inl ⟨rfl, _, .of B1.r⟩, .ref nm, rfl, .int (0 + k), rfl, 5, 0 + k, rfl, rfl, nm, _, _, _, rfl, rfl, .of B1.nm, gk, .ref b, rfl, .ref l, rfl, b, cl, l, cs, 2, rfl, B1.bx.bag, ⟨hB.nb Ad.fl, B1.l⟩, c0, by omega, by decide, by decide, fun G2 zs y2 hz hzc => ⟨(by show 2 ≤ sizeLine; decide), fun tp ntp => ?_⟩⟩
        have B2 := B1.mv Ad hB y2
        have y3 : BX b cl G2 (upd G2 tp (.tup [txV (ns[5 + k]'(by omega)), .str (tx zs)])) := .new y2.bag ntp
        have B3 := B2.mv Ad hB y3
        have tpav : ¬ avP H m r v t tp := fun w => B2.old w ntp
        refine ⟨r, _, _, rfl, rfl, B3.r, ?_, ?_⟩
        · rw [paired_len pr, List.length_map]
          exact small1000 (by omega)
        have B4 := B3.appR Ad hB (.ref tp)
        have kp : Kp (avP H m r v t) G1 (upd (upd G2 tp (.tup [txV (ns[5 + k]'(by omega)), .str (tx zs)])) r (.lst (xr ++ [.ref tp]))) :=
          ((y2.trans y3).kp avb).trans (Kp.mut (.inr (.inr (.inl rfl))))
        have tpr : tp ≠ r := fun e => tpav (.inr (.inr (.inl e)))
        refine ⟨xr ++ [.ref tp], rs ++ [(ns[5 + k]'(by omega), zs)], _, _, rfl, B4, kp1.trans kp, ?_, by simp [lr], ?_, ?_⟩
        · rw [List.map_append]
          refine paired_app (Paired.mapP pr fun _ _ w => w.mv kp) (rp_tup tpav ((upd_ne tpr).trans upd_same) (by show 2 < 100000; decide) (.cons (rp_str (nL.ok _ (List.getElem_mem _)).ascii) (.cons (rp_str fun c hc => ?_) .nil)))
          have := clow c (hzc c hc)
          omega
        · rw [List.map_append, er, List.take_add_one, List.getElem?_drop, List.getElem?_eq_getElem (by omega)]
          rfl
        · intro x hx
          rcases List.mem_append.mp hx with h | h
          · exact hrs x h
          · rw [List.mem_singleton.mp h]
            exact ⟨by show zs.length ≤ 2; omega, hzc⟩
      · obtain ⟨xr, rs, z8, z9, rfl, B1, kp1, pr, lr, er, hrs⟩ := h
        have lr' : rs.length = ro := by omega
        have lxr : xr.length < 1000 := by rw [paired_len pr, List.length_map]; omega
        have pm1 := Paired.mapP pm fun _ _ w => w.mv kp1
        have pt1 := Paired.mapP pt fun _ _ w => w.mv kp1
        -- the moves
        have hN : ∃ N : Nat, (mo : Int) * (if decide ((0 : Int) < (ma : Int)) = true then 1 else 0) = (N : Int) ∧ N = if 0 < ma then mo else 0 := by
          by_cases h : 0 < ma
          · refine ⟨mo, ?_, by rw [if_pos h]⟩
            rw [decide_eq_true (by omega)]
            simp
          · refine ⟨0, ?_, by rw [if_neg h]⟩
            rw [decide_eq_false (by omega)]
            simp
        obtain ⟨N, eN, hN⟩ := hN
        refine ⟨.int mo, rfl, .int ma, rfl, ma, 0, rfl, rfl, .inr ⟨_, rfl, mo, _, rfl, rfl, .inl ⟨by omega, by omega⟩, N, ?_, by omega, ?_, ?_⟩⟩
        · exact congrArg (fun z => [V.int z]) eN
        · have : N ≤ 100 := by rw [hN]; split <;> omega
          omega
        refine for_range (lo := 0) (n := (N : Int).toNat) (fun k σ G' => ∃ xv vs y8 y9, σ = [some (.ref b), some (.int ma), some (.int st), some (.int ro), some (.int mo), some (.ref nm), some (.ref l), some (.ref d), y8, y9] ∧
          PB b cl H G' d l nm m r v t cs ns xm xr xv xt ∧ Kp (avP H m r v t) G1 G' ∧ Paired (Rp (avP H m r v t) G' 2) xv (vs.map mvD) ∧ vs.length = k ∧ (∀ x ∈ vs, MvOk ⟨cs, ms, rs, [], ss⟩ x))
          ⟨[], [], z8, z9, rfl, B1, .refl, .nil, rfl, (fun s h => by cases h)⟩ (fun k σ G2 hk h => ?_) (fun σ G2 h => ?_)
        · obtain ⟨xv, vs, w8, w9, rfl, B2, kp2, pv, lv, hvs⟩ := h
          have hma : 0 < ma := by
            by_cases h : 0 < ma
            · exact h
            · rw [if_neg h] at hN
              omega
          have hN100 : N ≤ 100 := by rw [hN]; split <;> omega
          have lxv : xv.length < 1000 := by rw [paired_len pv, List.length_map]; omega
          have PL := B2.plan Ad (p := ⟨cs, ms, rs, vs, ss⟩) rfl (fun c hc => by have := clow c hc; omega) (by omega) (Paired.mapP pm1 fun _ _ w => w.mv kp2) (Paired.mapP pr fun _ _ w => w.mv kp2) pv (Paired.mapP pt1 fun _ _ w => w.mv kp2) lxm lxr lxv lxt (av := (· = b)) (fun a e => by rw [e]; exact Bag.old hB)
          refine ⟨.ref d, rfl, d, _, rfl, B2.gv, .inl ⟨rfl, _, .of B2.v⟩, .ref b, rfl, .ref d, rfl, b, cl, d, ⟨cs, ms, rs, vs, ss⟩, rfl, B2.bx.bag, ⟨l, m, r, v, t, PL⟩, c0, (by show cs.length < 1000; omega), (by show rs.length < 1000; omega), (by show 0 < ms.length; omega), (by show ms.length < 1000; omega), (by show ss.length = ms.length; omega), (fun s hs => by have := hss s hs; exact ⟨this.2.1, by omega⟩), fun G3 x mv y3 rx ox => ?_⟩
          have B3 := B2.mv Ad hB y3
          refine ⟨v, _, _, rfl, rfl, B3.v, ?_, ?_⟩
          · exact small1000 (by omega)
          have B4 := B3.appV Ad hB x
          have kp : Kp (avP H m r v t) G2 (upd G3 v (.lst (xv ++ [x]))) := (y3.kp avb).trans (Kp.mut (.inr (.inr (.inr (.inl rfl)))))
          refine ⟨xv ++ [x], vs ++ [mv], _, _, rfl, B4, kp2.trans kp, ?_, by simp [lv], ?_⟩
          · rw [List.map_append]
            refine paired_app (Paired.mapP pv fun _ _ w => w.mv kp) ?_
            exact (rx.weak fun a za => B2.old za).mv (Kp.mut (.inr (.inr (.inr (.inl rfl)))))
          · intro x2 hx2
            rcases List.mem_append.mp hx2 with h | h
            · exact hvs x2 h
            · rw [List.mem_singleton.mp h]
              obtain ⟨i, m2, s2, h1, h2, h3, h4, h5, h6⟩ := ox
              exact ⟨i, m2, s2, h1, h2, h3, h4, ActOk.of (p := ⟨cs, ms, rs, vs, ss⟩) (q := ⟨cs, ms, rs, [], ss⟩) rfl rfl h5, h6⟩
        · obtain ⟨xv, vs, w8, w9, rfl, B2, kp2, pv, lv, hvs⟩ := h
          have hN100 : N ≤ 100 := by rw [hN]; split <;> omega
          have lxv : xv.length < 1000 := by rw [paired_len pv, List.length_map]; omega
          have PL := B2.plan Ad (p := ⟨cs, ms, rs, vs, ss⟩) rfl (fun c hc => by have := clow c hc; omega) (by omega) (Paired.mapP pm1 fun _ _ w => w.mv kp2) (Paired.mapP pr fun _ _ w => w.mv kp2) pv (Paired.mapP pt1 fun _ _ w => w.mv kp2) lxm lxr lxv lxt (av := Old H) (fun a e => e)
          refine ⟨.ref d, rfl, q _ d ⟨cs, ms, rs, vs, ss⟩ B2.bx ⟨l, m, r, v, t, PL⟩ ⟨lm', ls', lr', ?_, ⟨c0, c1⟩, clow, cnd, ⟨ns, nL, lns, ?_, ?_⟩, hms, hss, hrs, ?_⟩⟩
          · show vs.length = _
            omega
          · show ms.map (·.1) = _
            rw [em]
            congr 1
          · show rs.map (·.1) = _
            rw [er]
            congr 1
          · intro x hx
            obtain ⟨i, m2, s2, h1, h2, h3, h4, h5, h6⟩ := hvs x hx
            exact ⟨i, m2, s2, h1, h2, h3, h4, ActOk.of (p := ⟨cs, ms, rs, [], ss⟩) (q := ⟨cs, ms, rs, vs, ss⟩) rfl rfl h5, h6⟩

/-! ### the stands of a machine, a scene -/
def sp_held : Sp := fun vs H Q _ => ∃ (d : Addr) (av : Addr → Prop) (p : PD) (i : Nat) (x : List Nat × List Nat), vs = [.ref d, .int i] ∧ Plan av H d p ∧ p.machines[i]? = some x ∧ p.moves.length ≤ 400 ∧
  ∀ H' q ys, Same H H' → H q = none → H' q = some (.lst (ys.map txV)) → HeldOk p x ys → Q (.ref q) H'
theorem ok_held (T : Tx K mg) : FnOk P w K mg base CX0 1 T.f_held T.fd_held P_held sp_held := by
  refine T.F_held.ok sc_held (fun vs H Q E h => ?_) (fun cdv A outer s H vs Q E hr h => ?_)
  · obtain ⟨d, av, p, i, x, rfl, _⟩ := h
    rfl
  · obtain ⟨d, av, p, i, x, rfl, ⟨l, m, r, v, t, hP⟩, hx, lv, q⟩ := h
    obtain ⟨m', xm, e, nm, hm, lm, pm⟩ := hP.m.lst
    cases e
    obtain ⟨v', xv, e, nv, hv, lxv, pv⟩ := hP.v.lst
    cases e
    obtain ⟨mv, hmv, rmv⟩ := paired_rget (i := i) pm (by rw [List.getElem?_map, hx]; rfl)
    obtain ⟨ma, ys, rfl, nma, hma, _, pp⟩ := rmv.tup
    obtain ⟨u1, u2, rfl, e1, e2⟩ : ∃ u1 u2, ys = [u1, u2] ∧ Rp av H 0 u1 (.str x.1) ∧ Rp av H 0 u2 (.str x.2) := by
      rcases pp with _ | ⟨a1, pp⟩
      rcases pp with _ | ⟨a2, pp⟩
      cases pp
      exact ⟨_, _, rfl, a1, a2⟩
    obtain ⟨rfl, as1⟩ := e1.str
    obtain ⟨rfl, as2⟩ := e2.str
    refine ⟨_, 
      (pss_cons (ps_asg (pe_ix ix_list (pe_dget (hu_of hr) (L2.pv 0) pe_str (fun _ _ => rfl)) (L2.pv 1) (fun _ _ => rfl)) (pg_tup (by rfl) (pgs_cons (pg_name (i := 2) sc_held.nd rfl (.inl rfl)) (pgs_cons (pg_name (i := 3) sc_held.nd rfl (.inl rfl)) pgs_nil))))
      (pss_cons (ps_set (i := 4) sc_held.nd rfl (.inl rfl) (pe_lst (pa_cons (L2.pv 3) pa_nil)))
      (pss_cons (ps_for PassesOwn.never rfl (pi_list (pe_dget (hu_of hr) (L2.pv 0) pe_str (fun _ _ => rfl))) (pg_tup (by rfl) (pgs_cons (pg_name (i := 5) sc_held.nd rfl (.inl rfl)) (pgs_cons (pg_name (i := 6) sc_held.nd rfl (.inl rfl)) (pgs_cons (pg_name (i := 7) sc_held.nd rfl (.inl rfl)) (pgs_cons (pg_name (i := 8) sc_held.nd rfl (.inl rfl)) pgs_nil)))))
        (pss_one (ps_if (pt_cmpR op_eq (L2.pv 5) (L2.pv 2) (nomark _))
          (pss_one (ps_set (i := 4) sc_held.nd rfl (.inl rfl) (pe_op op_cat (L2.pv 4) (pe_lst (pa_cons (L2.pv 6) (pa_cons (L2.pv 8) pa_nil))))))
          pss_nil)))
      (pss_one (ps_ret (pe_callB (LB.cr_sortX (by rfl)) (by rfl) T.m_sorted (by decide +kernel) (pa_cons (pe_callTy (LB.cr_setX (by rfl)) (by rfl) T.m_set (by decide +kernel) (pa_cons (L2.pv 4) pa_nil)) pa_nil))))))), ?_⟩
    refine ⟨.ref d, rfl, d, _, rfl, hP.gm, .int i, rfl, m, _, _, _, rfl, rfl, .of hm, atI_nat hmv, ma, _, rfl, .of hma, rfl, _, _, rfl, _, _, rfl, rfl, ?_⟩
    refine ⟨_, rfl, (by show 1 ≤ sizeLine; decide), fun f0 nf0 => ?_⟩
    have s1 : Same H (upd H f0 (.lst [.str (tx x.2)])) := same_new nf0
    have hv1 := s1 _ _ hv
    refine ⟨.ref d, rfl, d, _, rfl, (hP.mv (Same.kp s1)).gv, v, rfl, ⟨_, .of hv1⟩, for_list (xs := xv) (fun k σ G => ∃ f y5 y6 y7 y8, σ = [some (.ref d), some (.int i), some (.str (tx x.1)), some (.str (tx x.2)), some (.ref f), y5, y6, y7, y8] ∧ Same H G ∧ H f = none ∧
      G f = some (.lst ((x.2 :: foundIn x.1 (p.moves.take k)).map txV)) ∧ ∀ y ∈ foundIn x.1 (p.moves.take k), ascii y) ⟨f0, none, none, none, none, rfl, s1, nf0, upd_same, (fun y h => by cases h)⟩ (fun k σ G _ h => ?_) (fun k y σ G hy h => ?_) (fun σ G h => ?_)⟩
    · obtain ⟨_, _, _, _, _, _, sm, _⟩ := h
      exact .of (sm _ _ hv)
    · obtain ⟨f, y5, y6, y7, y8, rfl, sm, nf, ef, asf⟩ := h
      have hk : k < p.moves.length := by
        have := (List.getElem?_eq_some_iff.mp hy).1
        rw [paired_len pv, List.length_map] at this
        exact this
      have ryv := paired_get pv hy (by rw [List.getElem?_map, List.getElem?_eq_getElem hk]; rfl)
      obtain ⟨ya, zs, rfl, nya, hya, _, pz⟩ := (ryv.mv (Same.kp sm)).tup
      obtain ⟨w1, w2, w3, w4, rfl, g1, g2, g3, g4⟩ : ∃ w1 w2 w3 w4, zs = [w1, w2, w3, w4] ∧ Rp av G 1 w1 (.str p.moves[k].1) ∧ Rp av G 1 w2 (.str p.moves[k].2.1) ∧ Rp av G 1 w3 (tupS p.moves[k].2.2.1) ∧ Rp av G 1 w4 (.str p.moves[k].2.2.2) := by
        rcases pz with _ | ⟨a1, pz⟩
        rcases pz with _ | ⟨a2, pz⟩
        rcases pz with _ | ⟨a3, pz⟩
        rcases pz with _ | ⟨a4, pz⟩
        cases pz
        exact ⟨_, _, _, _, rfl, a1, a2, a3, a4⟩
      obtain ⟨rfl, _⟩ := g1.str
      obtain ⟨rfl, as3⟩ := g2.str
      obtain ⟨rfl, as4⟩ := g4.str
      have tk : foundIn x.1 (p.moves.take (k + 1)) = foundIn x.1 (p.moves.take k) ++ (if p.moves[k].1 = x.1 then [p.moves[k].2.1, p.moves[k].2.2.2] else []) := by
        unfold foundIn
        rw [List.take_add_one, List.getElem?_eq_getElem hk, List.flatMap_append]
        simp
      have fl : (x.2 :: foundIn x.1 (p.moves.take k)).length ≤ 900 := by
        have := foundIn_len x.1 (p.moves.take k)
        rw [List.length_take] at this
        simp
        omega
      refine ⟨ya, _, rfl, .of hya, rfl, _, _, rfl, _, _, rfl, _, _, rfl, _, _, rfl, rfl, ?_⟩
      refine ⟨_, rfl, _, rfl, rfl, _, rfl, ite2 (fun e => ?_) (fun e => ?_)⟩
      · have e1 : p.moves[k].1 = x.1 := by
          have := of_decide_eq_true e
          injection this with t1
          exact by simpa using congrArg (fun z => z.cps.toList) t1
        rw [if_pos e1] at tk
        refine ⟨.ref f, rfl, _, rfl, _, rfl, (by show 2 ≤ sizeLine; decide), fun g ng => ⟨f, g, _, _, rfl, rfl, (upd_ne (ne_of_none ef ng)).trans ef, upd_same, ?_, fun z nz => ?_⟩⟩
        · rw [List.length_map]
          show _ + 2 ≤ sizeLine
          exact Nat.le_of_lt (small1000 (by omega))
        · refine ⟨z, _, _, _, _, rfl, sm.trans ((same_new ng).trans (same_new nz)), ?_, ?_, ?_⟩
          · exact sm.free ((same_new (o := .lst [.str (tx p.moves[k].2.1), .str (tx p.moves[k].2.2.2)]) ng).free nz)
          · rw [upd_same, tk]
            simp [txV]
          · intro y hy
            rw [tk] at hy
            rcases List.mem_append.mp hy with h | h
            · exact asf y h
            · rcases List.mem_cons.mp h with rfl | h
              · exact as3
              · rw [List.mem_singleton.mp h]
                exact as4
      · have e1 : p.moves[k].1 ≠ x.1 := fun z => e (by rw [z]; exact decide_eq_true rfl)
        rw [if_neg e1, List.append_nil] at tk
        exact ⟨f, _, _, _, _, rfl, sm, nf, by rw [tk]; exact ef, by rw [tk]; exact asf⟩
    · obtain ⟨f, y5, y6, y7, y8, rfl, sm, nf, ef, asf⟩ := h
      rw [show p.moves.take xv.length = p.moves from List.take_of_length_le (by rw [paired_len pv, List.length_map]; exact Nat.le_refl _)] at ef asf
      have fl : (foundOf p x).length ≤ 900 := by
        have := foundIn_len x.1 p.moves
        show (foundIn x.1 p.moves).length + 1 ≤ _
        omega
      refine ⟨.ref f, rfl, f, (foundOf p x).map tx, rfl, .of ?_, by rw [List.length_map]; omega, fun a ks na nd mem lk => ?_⟩
      · rw [ef, List.map_map]
        rfl
      rw [List.length_map] at lk
      refine ⟨a, ks, rfl, upd_same, by omega, fun ys z pm srt nz => ?_⟩
      have e1 : ys.map V.str = (ys.map (·.cps.toList)).map txV := by
        rw [List.map_map]
        rfl
      have e2 : (ys.map (·.cps.toList)).map tx = ys := by
        rw [List.map_map]
        exact List.map_id ys
      have smz : Same H (upd (upd G a (SetXO P w a ks)) z (.lst (ys.map V.str))) := sm.trans ((same_new na).trans (same_new nz))
      refine q _ z (ys.map (·.cps.toList)) smz (sm.free ((same_new (o := SetXO P w a ks) na).free nz)) (by rw [upd_same, e1]) ⟨fun y => ?_, ?_, by rw [e2]; exact srt, fun y hy => ?_, by rw [List.length_map, pm.length_eq]; omega⟩
      · rw [List.mem_map]
        constructor
        · rintro ⟨z, hz, rfl⟩
          obtain ⟨y', hy', e⟩ := List.mem_map.mp ((mem z).mp (pm.mem_iff.mp hz))
          rw [← e]
          exact hy'
        · intro hy
          exact ⟨tx y, pm.mem_iff.mpr ((mem (tx y)).mpr (List.mem_map.mpr ⟨y, hy, rfl⟩)), rfl⟩
      · refine List.pairwise_map.mpr ((pm.nodup_iff.mpr nd).imp fun ne e => ne ?_)
        rename_i y1 y2
        cases y1
        cases y2
        exact congrArg Str.mk (Array.toList_inj.mp e)
      · obtain ⟨z, hz, rfl⟩ := List.mem_map.mp hy
        obtain ⟨y', hy', e⟩ := List.mem_map.mp ((mem z).mp (pm.mem_iff.mp hz))
        rw [← e]
        rcases List.mem_cons.mp hy' with rfl | h
        · exact as2
        · exact asf y' h
def sp_scene : Sp := fun vs H Q _ => ∃ (b s d : Addr) (p : PD) (top : Int), vs = [.ref b, .ref d, .int top] ∧ Bag b s H ∧ Plan (· = b) H d p ∧ 0 < p.letters.length ∧ p.letters.length < 1000 ∧ p.machines.length < 900 ∧ p.rows.length < 900 ∧ p.moves.length ≤ 400 ∧ 0 ≤ top ∧ top < 1000 ∧
  ∀ H' x ss ws, BX b s H H' → Rp (Old H) H' 2 x (sceneD ss ws) → SceneOk p top ss ws → Q x H'
theorem ok_scene (T : Tx K mg) : FnOk P w K mg base CX0 4 T.f_scene T.fd_scene P_scene sp_scene := by
  have G_of : FnOk P w K mg base CX0 2 T.f_of T.fd_of P_of sp_of := ok_of T
  have G_word : FnOk P w K mg base CX0 3 T.f_word T.fd_word P_word sp_word := ok_word T
  have G_held : FnOk P w K mg base CX0 1 T.f_held T.fd_held P_held sp_held := ok_held T
  refine T.F_scene.ok sc_scene (fun vs H Q E h => ?_) (fun cdv A outer s H vs Q E hr h => ?_)
  · obtain ⟨b, s, d, p, top, rfl, _⟩ := h
    rfl
  · obtain ⟨b, cl, d, p, top, rfl, hB, ⟨l, m, r, v, t, hP⟩, l0, l1, m1, r1, v1, t0, t1, q⟩ := h
    obtain ⟨m', xm, e, nm, hm, lm, pm⟩ := hP.m.lst
    cases e
    have ql : xm.length = p.machines.length := by rw [paired_len pm, List.length_map]
    refine ⟨_, 
      (pss_cons (ps_set (i := 3) sc_scene.nd rfl (.inl rfl) (pe_callTy call_tuple_of (by rfl) T.m_tuple (by decide +kernel) (pa_cons (pe_lc (own := [("_law_at", 4)]) (g := (gName 4)) (tt := tYes) (by rfl) sc_scene.nd (pi_range1 (by rfl) T.m_range (pa_cons (pe_callB call_len_seq (by rfl) T.m_len PySem.boot_len (pa_cons (pe_dget (hu_of hr) (L2.pv 1) pe_str (fun _ _ => rfl)) pa_nil)) pa_nil)) (blkOk_by (own := [("_law_at", 4)]) (N := N_scene) (sc := defScope s_scene) (by decide +kernel)) (fun _ _ _ _ _ => (pg_name (i := 4) sc_scene.nd rfl (.inl rfl))) (fun _ _ _ _ _ => pts_nil) (fun _ _ _ _ _ => (pe_call G_of (hr.mono (by decide)) (by rfl) T.g_of T.F_of.kp T.b_of .nil pass0 (pa_cons (L2.pv 0) (pa_cons (pe_call G_held (hr.mono (by decide)) (by rfl) T.g_held T.F_held.kp T.b_held .nil pass0 (pa_cons (L2.pv 1) (pa_cons (L2.pv 4) pa_nil))) pa_nil))))) pa_nil)))
      (pss_one (ps_ret (pe_tup (pa_cons (L2.pv 3) (pa_cons (pe_callTy call_tuple_of (by rfl) T.m_tuple (by decide +kernel) (pa_cons (pe_lc (own := [("_law_row", 5)]) (g := (gName 5)) (tt := tYes) (by rfl) sc_scene.nd (pi_list (pe_dget (hu_of hr) (L2.pv 1) pe_str (fun _ _ => rfl))) (blkOk_by (own := [("_law_row", 5)]) (N := N_scene) (sc := defScope s_scene) (by decide +kernel)) (fun _ _ _ _ _ => (pg_name (i := 5) sc_scene.nd rfl (.inl rfl))) (fun _ _ _ _ _ => pts_nil) (fun _ _ _ _ _ => (pe_call G_word (hr.mono (by decide)) (by rfl) T.g_word T.F_word.kp T.b_word .nil pass0 (pa_cons (L2.pv 0) (pa_cons (pe_dget (hu_of hr) (L2.pv 1) pe_str (fun _ _ => rfl)) (pa_cons (L2.pv 2) pa_nil)))))) pa_nil)) pa_nil)))))), ?_⟩
    -- the stands
    refine ⟨.ref d, rfl, d, _, rfl, hP.gm, m, _, rfl, .inl (.of hm), _, rfl, by omega, by omega, fun D nD => ?_⟩
    refine lc_range (lo := 0) (n := ((xm.length : Nat) : Int).toNat) (fun i G => BX b cl H G ∧ ∃ ss : List (List Nat), ss.length = i ∧ (∀ (i : Nat) (s : List Nat) (x : List Nat × List Nat), ss[i]? = some s → p.machines[i]? = some x → s ∈ foundOf p x) ∧ (∀ s ∈ ss, ascii s) ∧ G D = some (.lst (ss.map txV))) ⟨.new hB nD, [], rfl, (fun i s x h => by simp at h), (fun s h => by cases h), upd_same⟩ (fun i G hi h => ?_) (fun G h => ?_)
    · obtain ⟨x, ss, lss, hss, as, eD⟩ := h
      have hi' : i < p.machines.length := by omega
      have hPG := hP.mv (x.kp rfl)
      refine ⟨rfl, .ref b, rfl, .ref d, rfl, .int (0 + i), rfl, d, (· = b), p, i, p.machines[i], ?_, ⟨l, m, r, v, t, hPG⟩, List.getElem?_eq_getElem hi', v1, fun G1 q1 ys s1 nq1 eq1 hO => ?_⟩
      · rw [Int.zero_add]
        rfl
      have x1 : BX b cl G G1 := .same x.bag s1
      have ne : 0 < (ys.map txV).length := by
        rw [List.length_map]
        have : p.machines[i].2 ∈ ys := (hO.mem _).mpr (List.mem_cons_self ..)
        exact List.length_pos_of_mem this
      have asf : ∀ y ∈ ys, ascii y := hO.asc
      refine ⟨b, cl, x1.bag, .inl ⟨q1, _, rfl, ⟨x.bag.nb nq1, eq1⟩, ne, ?_, fun G2 sv x2 hsv => ?_⟩⟩
      · rw [List.length_map]
        have := hO.len
        omega
      obtain ⟨s2, hs2, rfl⟩ := List.mem_map.mp hsv
      refine ⟨_, (x1.trans x2).keep D _ (hB.nb nD) eD, ?_, (x.trans (x1.trans x2)).mut hB nD, ss ++ [s2], by simp [lss], ?_, ?_, ?_⟩
      · rw [List.length_map]
        exact small1000 (by omega)
      · intro j s3 x3 hj hx3
        by_cases hlt : j < i
        · rw [List.getElem?_append_left (by omega)] at hj
          exact hss j s3 x3 hj hx3
        · have : j = i := by
            have := (List.getElem?_eq_some_iff.mp hj).1
            simp at this
            omega
          subst this
          rw [List.getElem?_append_right (by omega), lss, Nat.sub_self] at hj
          cases (Option.some.inj hj)
          rw [List.getElem?_eq_getElem hi'] at hx3
          cases (Option.some.inj hx3)
          exact (hO.mem _).mp hs2
      · intro s3 hs3
        rcases List.mem_append.mp hs3 with h | h
        · exact as s3 h
        · rw [List.mem_singleton.mp h]
          exact asf s2 hs2
      · rw [upd_same]
        simp
    · obtain ⟨x, ss, lss, hss, as, eD⟩ := h
      have lss' : ss.length = p.machines.length := by omega
      refine ⟨D, _, rfl, .inl ⟨.of eD, fun S nS => ?_⟩⟩
      have x1 : BX b cl H (upd G S (.tup (ss.map txV))) := x.trans (.new x.bag nS)
      have nS0 : H S = none := x.back nS
      have hP1 := hP.mv (x1.kp rfl)
      obtain ⟨r', xr, e, nr, hr1, lr, pr⟩ := hP1.r.lst
      cases e
      obtain ⟨l', xl, e, nl, hl1, ll, pl⟩ := hP1.l.lst
      cases e
      have qr : xr.length = p.rows.length := by rw [paired_len pr, List.length_map]
      -- the words
      refine ⟨.ref S, rfl, .ref d, rfl, d, _, rfl, hP1.gr, r, rfl, ⟨_, .of hr1⟩, fun D2 nD2 => ?_⟩
      have nD20 : H D2 = none := x1.back nD2
      refine lc_list (K := K) (a := r) (xs := xr) (fun i G => BX b cl H G ∧ Kp (· = b) (upd (upd H S (.tup (ss.map txV))) D2 (.lst [])) (upd (upd H S (.tup (ss.map txV))) D2 (.lst [])) ∧ G S = some (.tup (ss.map txV)) ∧ G r = some (.lst xr) ∧ ∃ ws : List (List Nat), ws.length = i ∧ (∀ w ∈ ws, (w.length : Int) ≤ top ∧ ∀ c ∈ w, c ∈ p.letters) ∧ G D2 = some (.lst (ws.map txV))) ⟨x1.mut hB nD20, .refl, ?_, ?_, [], rfl, (fun s h => by cases h), upd_same⟩ (fun i G _ h => .of h.2.2.2.1) (fun i y G hy h => ?_) (fun G h => ?_)
      · rw [upd_ne (ne_of_none upd_same nD2)]
        exact upd_same
      · rw [upd_ne (ne_of_none hr1 nD2)]
        exact hr1
      · obtain ⟨x2, _, eS, er, ws, lws, hws, eD2⟩ := h
        have hP2 := hP.mv (x2.kp rfl)
        obtain ⟨l', xl2, e, nl2, hl2, ll2, pl2⟩ := hP2.l.lst
        cases e
        have exl : xl2 = lets p.letters := by
          have : ∀ {xs : List V} {cs : List Nat}, Paired (Rp (· = b) G 0) xs (cs.map letD) → xs = lets cs := by
            intro xs cs
            induction cs generalizing xs with
            | nil =>
              intro h
              cases h
              rfl
            | cons c r ih =>
              intro h
              cases h with
              | cons a b =>
                rw [(Rp.str a).1, ih b]
                rfl
          exact this pl2
        subst exl
        refine ⟨rfl, .ref b, rfl, .ref d, rfl, d, _, rfl, hP2.gl, .int top, rfl, b, cl, l, p.letters, top, rfl, x2.bag, ⟨nl2, hl2⟩, l0, l1, t0, t1, fun G3 zs x3 hz hzc => ?_⟩
        have hi : i < 900 := by
          have := (List.getElem?_eq_some_iff.mp hy).1
          omega
        have SD : S ≠ D2 := ne_of_none upd_same nD2
        have rD : r ≠ D2 := ne_of_none hr1 nD2
        refine ⟨_, x3.keep D2 _ (hB.nb nD20) eD2, ?_, (x2.trans x3).mut hB nD20, .refl, (upd_ne SD).trans (x3.keep S _ (hB.nb nS0) eS), (upd_ne rD).trans (x3.keep r _ nr er), ws ++ [zs], by simp [lws], ?_, ?_⟩
        · rw [List.length_map]
          exact small1000 (by omega)
        · intro w hw
          rcases List.mem_append.mp hw with h | h
          · exact hws w h
          · rw [List.mem_singleton.mp h]
            exact ⟨hz, hzc⟩
        · rw [upd_same]
          simp [txV]
      · obtain ⟨x2, _, eS, er, ws, lws, hws, eD2⟩ := h
        have lws' : ws.length = p.rows.length := by omega
        refine ⟨D2, _, rfl, .inl ⟨.of eD2, fun W nW => ?_⟩⟩
        have x3 : BX b cl H (upd G W (.tup (ws.map txV))) := x2.trans (.new x2.bag nW)
        refine ⟨(by show 2 ≤ sizeLine; decide), fun Z nZ => q _ _ ss ws (x3.trans (.new x3.bag nZ)) ?_ ⟨lss', hss, lws', hws⟩⟩
        have eS3 : (upd G W (.tup (ws.map txV))) S = some (.tup (ss.map txV)) := (upd_ne (ne_of_none eS nW)).trans eS
        have awl : ∀ w ∈ ws, ascii w := fun w hw c hc => by
          have h1 := (hws w hw).2 c hc
          obtain ⟨l', xl2, e, nl2, hl2, ll2, pl2⟩ := hP1.l.lst
          obtain ⟨j, hj⟩ := List.getElem?_of_mem h1
          obtain ⟨z, _, rz⟩ := paired_rget (i := j) pl2 (by rw [List.getElem?_map, hj]; rfl)
          exact rz.str.2 c (by simp)
        refine rp_tup (Old.new (x3.back nZ)) upd_same (by show 2 < 100000; decide) (.cons ?_ (.cons ?_ .nil))
        · exact rp_tup (Old.new nS0) ((upd_ne (ne_of_none eS3 nZ)).trans eS3) (by rw [List.length_map]; omega) (rp_strs as)
        · exact rp_tup (Old.new (x2.back nW)) ((upd_ne (ne_of_none upd_same nZ)).trans upd_same) (by rw [List.length_map]; omega) (rp_strs awl)

/-! ### one scene above another one -/
def sp_within : Sp := fun vs H Q _ => ∃ (a g : List Nat), vs = [.str (tx a), .str (tx g)] ∧ a.length < 1000 ∧ g.length < 1000 ∧ ascii a ∧ ∀ H', Same H H' → Q (.bl (insD a g)) H'
theorem ok_within (T : Tx K mg) : FnOk P w K mg base CX0 1 T.f_within T.fd_within P_within sp_within := by
  refine T.F_within.ok sc_within (fun vs H Q E h => ?_) (fun cdv A outer s H vs Q E hr h => ?_)
  · obtain ⟨a, g, rfl, _⟩ := h
    rfl
  · obtain ⟨a, g, rfl, la, lg, as, q⟩ := h
    refine ⟨_, 
      (pss_cons (ps_set (i := 2) sc_within.nd rfl (.inl rfl) (pe_callTy (LB.call_list_tx (by rfl)) (by rfl) T.m_list (by decide +kernel) (pa_cons (L2.pv 0) pa_nil)))
      (pss_cons (ps_for PassesOwn.never rfl (pi_str (L2.pv 1)) (pg_name (i := 3) sc_within.nd rfl (.inl rfl))
        (pss_one (ps_if (PW.pt (pw_and (pt_cmpR (op_neD hr.units) (L2.pv 2) (pe_lst pa_nil) (nomark _)) (pw_and1 (pt_cmpR op_eq (pe_ix ix_list (L2.pv 2) pe_int (fun _ _ => rfl)) (L2.pv 3) (nomark _)))))
          (pss_one (ps_expr (pe_bm PySem.F.plainAttrs_list PySem.F.slot_list_pop PySem.F.type_list_pop mt_popAt (L2.pv 2) (pa_cons pe_int pa_nil))))
          pss_nil)))
      (pss_one (ps_ret (pe_cmpR (op_eqD hr.units) (L2.pv 2) (pe_lst pa_nil) (nomark _)))))), ?_⟩
    refine ⟨_, rfl, a, rfl, by omega, fun p np => ?_⟩
    have ne : ∀ (G : Hp) (left : List Nat), left <+: left → (∀ c ∈ left, c < 128) → G p = some (.lst (lets left)) → ∀ z, G z = none → ∃ d e, Dp K (upd G z (.lst [])) (.ref p) d ∧ Dp K (upd G z (.lst [])) (.ref z) e ∧ SeqAt.shaped d = true ∧ SeqAt.shaped e = true ∧ PyData.eqv d e = decide (left = []) := by
      intro G left _ hl ep z nz
      refine ⟨.list (txsD (left.map fun c => [c])), .list [], .lst (.of ?_) (txs_dp _), .lst (.of upd_same) .nil, txs_shaped ?_, rfl, ?_⟩
      · rw [upd_ne (ne_of_none ep nz), ep, List.map_map]
        rfl
      · intro l hl2 c hc
        obtain ⟨e, he, rfl⟩ := List.mem_map.mp hl2
        rw [List.mem_singleton.mp hc]
        exact hl e he
      · rw [txs_nil]
        cases left <;> rfl
    refine ⟨_, rfl, tx g, rfl, for_it walk_str (fun i σ G => ∃ y left, σ = [some (.str (tx a)), some (.str (tx g)), some (.ref p), y] ∧ Same H G ∧ G p = some (.lst (lets left)) ∧ (∀ c ∈ left, c < 128) ∧ left.length < 1000 ∧ insD a g = insD left (g.drop i)) ⟨none, a, rfl, same_new np, upd_same, as, la, rfl⟩ (fun _ _ _ _ _ => trivial) (fun i x σ G1 G hi h y => ?_) (fun σ G h => ?_)⟩
    · obtain ⟨y0, left, rfl, sm, ep, hl, ll, hg⟩ := h
      obtain ⟨rfl, c, hc, rfl⟩ := y
      have hi' : i < g.length := by simpa using hi
      have hc' : g[i] = c := by
        rw [← Array.getElem?_toList] at hc
        exact (List.getElem?_eq_some_iff.mp hc).2
      have hd : g.drop i = c :: g.drop (i + 1) := by rw [List.drop_eq_getElem_cons hi', hc']
      refine ⟨.ref p, rfl, Nat.zero_le _, fun z nz => ?_⟩
      obtain ⟨d, e, h1, h2, h3, h4, h5⟩ := ne G left (List.prefix_refl _) hl ep z nz
      refine ⟨d, e, h1, h2, h3, h4, _, rfl, ?_⟩
      rw [h5]
      have ep2 : (upd G z (.lst [])) p = some (.lst (lets left)) := (upd_ne (ne_of_none ep nz)).trans ep
      have sm2 : Same H (upd G z (.lst [])) := sm.trans (same_new nz)
      cases left with
      | nil =>
        refine iteF (iteF ⟨_, [], rfl, sm2, ep2, hl, ll, ?_⟩)
        rw [hg]
        show (gs [] _ 0).isSome = (gs [] _ 0).isSome
        rw [gs_nil, gs_nil]
      | cons x0 r =>
        refine iteT ⟨.ref p, rfl, p, _, 0, .str (sg x0), rfl, rfl, .of ep2, atI_nat (j := 0) (show (lets (x0 :: r))[0]? = some _ from rfl), _, rfl, rfl, _, rfl, ite2 (fun e1 => ?_) (fun e1 => ?_)⟩
        · have e2 : x0 = c := by
            have := of_decide_eq_true e1
            injection this with t1
            injection t1 with t2
            simpa using t2
          refine ⟨.ref p, rfl, .inl ⟨rfl, _, .of ep2⟩, p, _, 0, 0, _, rfl, rfl, ep2, by decide, by decide, ?_, rfl, ?_⟩
          · exact (seqIndex_of (k := 0) (Int.le_refl _) (by show (0 : Int) < (((x0 :: r).map fun c => V.str (sg c)).length : Nat); rw [List.length_map, List.length_cons]; omega)).trans rfl
          · refine ⟨_, r, rfl, same_mut sm2 np, ?_, fun c hc => hl c (by simp [hc]), by simp at ll; omega, ?_⟩
            · rw [upd_same]
              rfl
            · rw [hg, hd]
              show (if c = x0 then (gs r (g.drop (i + 1)) 1).map (0 :: ·) else gs (x0 :: r) (g.drop (i + 1)) 1).isSome = (gs r (g.drop (i + 1)) 0).isSome
              rw [if_pos e2.symm, Option.isSome_map]
              exact gs_some _ _ _ _
        · have e2 : c ≠ x0 := fun z => e1 (by rw [z]; exact decide_eq_true rfl)
          refine ⟨_, x0 :: r, rfl, sm2, ep2, hl, ll, ?_⟩
          rw [hg, hd]
          show (if c = x0 then (gs r (g.drop (i + 1)) 1).map (0 :: ·) else gs (x0 :: r) (g.drop (i + 1)) 1).isSome = (gs (x0 :: r) (g.drop (i + 1)) 0).isSome
          rw [if_neg e2]
          exact gs_some _ _ _ _
    · obtain ⟨y0, left, rfl, sm, ep, hl, ll, hg⟩ := h
      rw [show g.drop (tx g).cps.size = [] from List.drop_of_length_le (by simp)] at hg
      refine ⟨.ref p, rfl, Nat.zero_le _, fun z nz => ?_⟩
      obtain ⟨d, e, h1, h2, h3, h4, h5⟩ := ne G left (List.prefix_refl _) hl ep z nz
      refine ⟨d, e, h1, h2, h3, h4, ?_⟩
      rw [h5]
      have := q _ (sm.trans (same_new (o := .lst []) nz))
      rw [hg] at this
      cases left with
      | nil => exact this
      | cons x0 r => exact this
def lawAbove (w1 w2 : List (List Nat)) : Bool := abvW w2 w1
def sp_above (K : PySem.W.Frag) : Sp := fun vs H Q _ => ∃ (av av' : Addr → Prop) (x y : V) (s1 w1 s2 w2 : List (List Nat)), vs = [x, y] ∧ Rp av H 2 x (sceneD s1 w1) ∧ Rp av' H 2 y (sceneD s2 w2) ∧ w1.length = w2.length ∧ w1.length < 1000 ∧ s1.length < 1000 ∧
  (∀ w ∈ w1, w.length < 1000) ∧ (∀ w ∈ w2, w.length < 1000) ∧ ∀ H', Same H H' → Q (.bl (abv s1 w1 s2 w2)) H'
theorem scene_at {av : Addr → Prop} {H : Hp} {x : V} {s1 w1 : List (List Nat)} (h : Rp av H 2 x (sceneD s1 w1)) : ∃ a s w, x = .ref a ∧ ¬ av a ∧ ¬ av s ∧ ¬ av w ∧ H a = some (.tup [.ref s, .ref w]) ∧ H s = some (.tup (s1.map txV)) ∧ H w = some (.tup (w1.map txV)) ∧ (∀ l ∈ s1, ascii l) ∧ (∀ l ∈ w1, ascii l) := by
  obtain ⟨a, xs, rfl, na, ha, _, pp⟩ := h.tup
  rcases pp with _ | ⟨a1, pp⟩
  rcases pp with _ | ⟨a2, pp⟩
  cases pp
  obtain ⟨s, rfl, ns, hs, _, as⟩ := Rp.tupS a1
  obtain ⟨w, rfl, nw, hw, _, aw⟩ := Rp.tupS a2
  exact ⟨a, s, w, rfl, na, ns, nw, ha, hs, hw, as, aw⟩
theorem ne_tup {H : Hp} {K : PySem.W.Frag} {s t : Addr} {s1 s2 : List (List Nat)} (h1 : H s = some (.tup (s1.map txV))) (h2 : H t = some (.tup (s2.map txV))) (a1 : ∀ l ∈ s1, ascii l) (a2 : ∀ l ∈ s2, ascii l) :
    Dp K H (.ref s) (.tuple (txsD s1)) ∧ Dp K H (.ref t) (.tuple (txsD s2)) ∧ SeqAt.shaped (.tuple (txsD s1)) = true ∧ SeqAt.shaped (.tuple (txsD s2)) = true :=
  ⟨.tup (.of h1) (txs_dp s1), .tup (.of h2) (txs_dp s2), tup_shaped a1, tup_shaped a2⟩
theorem ok_above (T : Tx K mg) : FnOk P w K mg base CX0 2 T.f_above T.fd_above P_above (sp_above K) := by
  have G_within : FnOk P w K mg base CX0 1 T.f_within T.fd_within P_within sp_within := ok_within T
  refine T.F_above.ok sc_above (fun vs H Q E h => ?_) (fun cdv A outer s H vs Q E hr h => ?_)
  · obtain ⟨av, av', x, y, s1, w1, s2, w2, rfl, _⟩ := h
    rfl
  · obtain ⟨av, av', x, y, s1, w1, s2, w2, rfl, hx, hy, lw, l1, ls, b1, b2, q⟩ := h
    obtain ⟨a, sa, wa, rfl, na, nsa, nwa, ha, hsa, hwa, as1, aw1⟩ := scene_at hx
    obtain ⟨c, sc, wc, rfl, nc, nsc, nwc, hcc, hsc, hwc, as2, aw2⟩ := scene_at hy
    obtain ⟨d1, d2, d3, d4⟩ := ne_tup (K := K) hsa hsc as1 as2
    refine ⟨_, 
      (pss_cons (ps_if (pt_cmpR (op_neD hr.units) (pe_ix ix_tup (L2.pv 0) pe_int (fun _ _ => rfl)) (pe_ix ix_tup (L2.pv 1) pe_int (fun _ _ => rfl)) (nomark _))
        (pss_one (ps_ret pe_bl))
        pss_nil)
      (pss_one (ps_ret (pe_callB (cr_all rfl) (by rfl) T.m_all (by decide +kernel) (pa_cons (pe_lc (own := [("_law_k", 2)]) (g := (gName 2)) (tt := tYes) (by rfl) sc_above.nd (pi_range1 (by rfl) T.m_range (pa_cons (pe_callB call_len_seq (by rfl) T.m_len PySem.boot_len (pa_cons (pe_ix ix_tup (L2.pv 0) pe_int (fun _ _ => rfl)) pa_nil)) pa_nil)) (blkOk_by (own := [("_law_k", 2)]) (N := N_above) (sc := defScope s_above) (by decide +kernel)) (fun _ _ _ _ _ => (pg_name (i := 2) sc_above.nd rfl (.inl rfl))) (fun _ _ _ _ _ => pts_nil) (fun _ _ _ _ _ => (pe_call G_within (hr.mono (by decide)) (by rfl) T.g_within T.F_within.kp T.b_within .nil pass0 (pa_cons (pe_ix (r := rIxT K) ix_tup (pe_ix (r := rIxT K) ix_tup (L2.pv 1) pe_int (fun _ _ => rfl)) (L2.pv 2) (fun _ _ => rfl)) (pa_cons (pe_ix (r := rIxT K) ix_tup (pe_ix (r := rIxT K) ix_tup (L2.pv 0) pe_int (fun _ _ => rfl)) (L2.pv 2) (fun _ _ => rfl)) pa_nil))))) pa_nil))))), ?_⟩
    refine ⟨.ref a, rfl, a, _, 0, .ref sa, rfl, rfl, .of ha, rfl, .ref c, rfl, c, _, 0, .ref sc, rfl, rfl, .of hcc, rfl, _, _, d1, d2, d3, d4, _, rfl, ?_⟩
    rw [show PyData.eqv (.tuple (txsD s1)) (.tuple (txsD s2)) = decide (s1 = s2) from tup_eqv s1 s2]
    by_cases es : s1 = s2
    · rw [decide_eq_true es]
      refine iteF ?_
      have lw1 : (w1.map txV).length = w1.length := List.length_map ..
      refine ⟨.ref a, rfl, a, _, 1, .ref wa, rfl, rfl, .of ha, rfl, wa, _, rfl, .inr (.of hwa), _, rfl, by omega, by omega, fun D nD => ?_⟩
      refine lc_range (lo := 0) (n := (((w1.map txV).length : Nat) : Int).toNat) (fun i G => Same H G ∧ ∃ bs : List Bool, bs.length = i ∧ bs.all id = abvW (w2.take i) (w1.take i) ∧ G D = some (.lst (bs.map V.bl))) ⟨same_new nD, [], rfl, rfl, upd_same⟩ (fun i G hi h => ?_) (fun G h => ?_)
      · obtain ⟨sm, bs, lb, hb, eD⟩ := h
        have i1 : i < w1.length := by omega
        have i2 : i < w2.length := by omega
        have g1 : (w1.map txV)[i]? = some (txV w1[i]) := by rw [List.getElem?_map, List.getElem?_eq_getElem i1]; rfl
        have g2 : (w2.map txV)[i]? = some (txV w2[i]) := by rw [List.getElem?_map, List.getElem?_eq_getElem i2]; rfl
        have e0 : (0 : Int) + (i : Int) = (i : Int) := Int.zero_add _
        refine ⟨rfl, .ref c, rfl, c, _, 1, .ref wc, rfl, rfl, .of (sm _ _ hcc), rfl, .int (0 + i), rfl, wc, _, _, _, rfl, rfl, .of (sm _ _ hwc), by rw [e0]; exact atI_nat g2, .ref a, rfl, a, _, 1, .ref wa, rfl, rfl, .of (sm _ _ ha), rfl, .int (0 + i), rfl, wa, _, _, _, rfl, rfl, .of (sm _ _ hwa), by rw [e0]; exact atI_nat g1, w2[i], w1[i], rfl, b2 _ (List.getElem_mem _), b1 _ (List.getElem_mem _), aw2 _ (List.getElem_mem _), fun G1 s1' => ?_⟩
        refine ⟨_, s1' _ _ eD, ?_, same_mut (sm.trans s1') nD, bs ++ [insD w2[i] w1[i]], by simp [lb], ?_, ?_⟩
        · rw [List.length_map]
          exact small1000 (by omega)
        · rw [List.all_append, hb, abvW_take w2 w1 i lw.symm i2 i1]
          simp
        · rw [upd_same]
          simp
      · obtain ⟨sm, bs, lb, hb, eD⟩ := h
        refine ⟨D, bs, rfl, .of eD, ?_⟩
        rw [show (((w1.map txV).length : Nat) : Int).toNat = w1.length by omega, List.take_of_length_le (by omega), List.take_of_length_le (by omega)] at hb
        have := q _ sm
        unfold abv at this
        rw [decide_eq_true es, Bool.true_and] at this
        rw [hb]
        exact this
    · rw [decide_eq_false es]
      refine iteT ?_
      have := q H (.refl H)
      unfold abv at this
      rw [decide_eq_false es] at this
      exact this
def sp_p_above (K : PySem.W.Frag) : Sp := sp_above K
theorem ok_p_above (T : Tx K mg) : FnOk P w K mg base CX0 3 T.f_p_above T.fd_p_above P_p_above (sp_above K) := by
  have G_p_within : FnOk P w K mg base CX0 2 T.f_p_within T.fd_p_within P_p_within sp_p_within := ok_p_within T
  refine T.F_p_above.ok sc_p_above (fun vs H Q E h => ?_) (fun cdv A outer s H vs Q E hr h => ?_)
  · obtain ⟨av, av', x, y, s1, w1, s2, w2, rfl, _⟩ := h
    rfl
  · obtain ⟨av, av', x, y, s1, w1, s2, w2, rfl, hx, hy, lw, l1, ls, b1, b2, q⟩ := h
    obtain ⟨a, sa, wa, rfl, na, nsa, nwa, ha, hsa, hwa, as1, aw1⟩ := scene_at hx
    obtain ⟨c, sc, wc, rfl, nc, nsc, nwc, hcc, hsc, hwc, as2, aw2⟩ := scene_at hy
    obtain ⟨d1, d2, d3, d4⟩ := ne_tup (K := K) hsa hsc as1 as2
    refine ⟨_, 
      (pss_cons (ps_asg (L2.pv 0) (pg_tup (by rfl) (pgs_cons (pg_name (i := 2) sc_p_above.nd rfl (.inl rfl)) (pgs_cons (pg_name (i := 3) sc_p_above.nd rfl (.inl rfl)) pgs_nil))))
      (pss_cons (ps_asg (L2.pv 1) (pg_tup (by rfl) (pgs_cons (pg_name (i := 4) sc_p_above.nd rfl (.inl rfl)) (pgs_cons (pg_name (i := 5) sc_p_above.nd rfl (.inl rfl)) pgs_nil))))
      (pss_cons (ps_if (pt_cmpR (op_neD hr.units) (L2.pv 2) (L2.pv 4) (nomark _))
        (pss_one (ps_ret pe_bl))
        pss_nil)
      (pss_cons (ps_for PassesOwn.never rfl (RZ.pi_zipA (by rfl) T.m_zip (pa_cons (L2.pv 5) (pa_cons (L2.pv 3) pa_nil))) (pg_tup (by rfl) (pgs_cons (pg_name (i := 6) sc_p_above.nd rfl (.inl rfl)) (pgs_cons (pg_name (i := 7) sc_p_above.nd rfl (.inl rfl)) pgs_nil)))
        (pss_one (ps_if (pt_not (pt_val (pe_call G_p_within (hr.mono (by decide)) (by rfl) T.g_p_within T.F_p_within.kp T.b_p_within .nil pass0 (pa_cons (L2.pv 6) (pa_cons (L2.pv 7) pa_nil)))))
          (pss_one (ps_ret pe_bl))
          pss_nil)))
      (pss_one (ps_ret pe_bl)))))), ?_⟩
    refine ⟨.ref a, rfl, a, _, rfl, .of ha, rfl, _, _, rfl, _, _, rfl, rfl, .ref c, rfl, c, _, rfl, .of hcc, rfl, _, _, rfl, _, _, rfl, rfl, ?_⟩
    refine ⟨.ref sa, rfl, .ref sc, rfl, _, _, d1, d2, d3, d4, _, rfl, ?_⟩
    rw [show PyData.eqv (.tuple (txsD s1)) (.tuple (txsD s2)) = decide (s1 = s2) from tup_eqv s1 s2]
    by_cases es : s1 = s2
    · rw [decide_eq_true es]
      refine iteF ?_
      refine ⟨.ref wc, rfl, .ref wa, rfl, wc, wa, _, _, rfl, .inr ⟨.of hwc, .of hwa, for_it (walk_zipT (xs := w2.map txV) (ys := w1.map txV) (n := w1.length) (by rw [List.length_map, List.length_map]; omega)) (fun i σ G => ∃ y6 y7, σ = [some (.ref a), some (.ref c), some (.ref sa), some (.ref wa), some (.ref sc), some (.ref wc), y6, y7] ∧ Same H G ∧ abvW (w2.take i) (w1.take i) = true) ⟨none, none, rfl, .refl H, rfl⟩ (fun i σ G _ h => ?_) (fun i x σ G1 G hi h y => ?_) (fun σ G h => ?_)⟩⟩
      · obtain ⟨_, _, _, sm, _⟩ := h
        exact ⟨.of (sm _ _ hwc), .of (sm _ _ hwa)⟩
      · obtain ⟨y6, y7, rfl, sm, hb⟩ := h
        obtain ⟨U, u, v, rfl, nU, rfl, gu, gv⟩ := y
        have i2 : i < w2.length := by omega
        have eu : u = txV w2[i] := by
          have : (w2.map txV)[i]? = some u := gu
          rw [List.getElem?_map, List.getElem?_eq_getElem i2] at this
          exact (Option.some.inj this).symm
        have ev : v = txV w1[i] := by
          have : (w1.map txV)[i]? = some v := gv
          rw [List.getElem?_map, List.getElem?_eq_getElem hi] at this
          exact (Option.some.inj this).symm
        subst eu ev
        refine ⟨U, _, rfl, .of upd_same, rfl, _, _, rfl, _, _, rfl, rfl, ?_⟩
        refine ⟨_, rfl, _, rfl, w2[i], w1[i], rfl, b2 _ (List.getElem_mem _), b1 _ (List.getElem_mem _), fun G2 s2' => ⟨_, rfl, ?_⟩⟩
        have tk := abvW_take w2 w1 i lw.symm i2 hi
        rw [hb, Bool.true_and] at tk
        have smF : Same H G2 := sm.trans ((same_new nU).trans s2')
        cases e : (gs w2[i] w1[i] 0).isSome with
        | true =>
          refine iteF ⟨_, _, rfl, smF, ?_⟩
          rw [tk]
          exact e
        | false =>
          refine iteT ?_
          have := q _ smF
          unfold abv at this
          rw [decide_eq_true es, Bool.true_and] at this
          have hF : abvW w2 w1 = false := by
            have gen : ∀ (lo hi : List (List Nat)) (i : Nat), lo.length = hi.length → abvW (lo.take i) (hi.take i) = false → abvW lo hi = false := by
              intro lo
              induction lo with
              | nil =>
                intro hi i _ h
                cases i <;> cases hi <;> cases h
              | cons p r ih =>
                intro hi i hl h
                cases hi with
                | nil => cases hl
                | cons z t =>
                  cases i with
                  | zero => cases h
                  | succ i =>
                    have h' : (insD p z && abvW (r.take i) (t.take i)) = false := h
                    show (insD p z && abvW r t) = false
                    cases hp : insD p z with
                    | false => rfl
                    | true =>
                      rw [hp, Bool.true_and] at h'
                      rw [Bool.true_and]
                      exact ih t i (by simpa using hl) h'
            refine gen w2 w1 (i + 1) lw.symm ?_
            rw [tk]
            exact e
          rw [hF] at this
          exact this
      · obtain ⟨y6, y7, rfl, sm, hb⟩ := h
        rw [List.take_of_length_le (by omega), List.take_of_length_le (by omega)] at hb
        have := q _ sm
        unfold abv at this
        rw [decide_eq_true es, hb] at this
        exact this
    · rw [decide_eq_false es]
      refine iteT ?_
      have := q H (.refl H)
      unfold abv at this
      rw [decide_eq_false es] at this
      exact this

/-! ### the least scenes -/
abbrev ScAt (H : Hp) (a : Addr) (p : Scn) : Prop := Rp (fun _ => False) H 2 (.ref a) (sceneD p.1 p.2)
structure Fit (n : Nat) (p : Scn) : Prop where
  lw : p.2.length = n
  ls : p.1.length < 1000
  bw : ∀ w ∈ p.2, w.length < 1000
def rfs (L : List (Addr × Scn)) : List V := L.map fun p => .ref p.1
def sp_letters_in : Sp := fun vs H Q _ => ∃ (a : Addr) (p : Scn), vs = [.ref a] ∧ ScAt H a p ∧ p.2.length < 1000 ∧ (∀ x ∈ p.2, x.length < 1000) ∧ ∀ H', Same H H' → Q (.int (lcs p)) H'
theorem nat_sum : ∀ l : List Nat, (l.map Int.ofNat).sum = Int.ofNat l.sum
  | [] => rfl
  | x :: l => by
    rw [List.map_cons, List.sum_cons, List.sum_cons, nat_sum l]
    rfl
theorem ok_p_letters_in (T : Tx K mg) : FnOk P w K mg base CX0 1 T.f_p_letters_in T.fd_p_letters_in P_p_letters_in sp_letters_in := by
  refine T.F_p_letters_in.ok sc_p_letters_in (fun vs H Q E h => ?_) (fun cdv A outer s H vs Q E hr h => ?_)
  · obtain ⟨a, p, rfl, _⟩ := h
    rfl
  · obtain ⟨a, ⟨ss, ws⟩, rfl, hx, lw, bw, q⟩ := h
    obtain ⟨_, sa, wa, e, na, nsa, nwa, ha, hsa, hwa, as1, aw1⟩ := scene_at hx
    cases e
    refine ⟨_, 
      (pss_one (ps_ret (pe_callB (cr_sum rfl) (by rfl) T.m_sum (by decide +kernel) (pa_cons (pe_lc (own := [("word", 1)]) (g := (gName 1)) (tt := tYes) (by rfl) sc_p_letters_in.nd (pi_tup (pe_ix ix_tup (L2.pv 0) pe_int (fun _ _ => rfl))) (blkOk_by (own := [("word", 1)]) (N := N_p_letters_in) (sc := defScope s_p_letters_in) (by decide +kernel)) (fun _ _ _ _ _ => (pg_name (i := 1) sc_p_letters_in.nd rfl (.inl rfl))) (fun _ _ _ _ _ => pts_nil) (fun _ _ _ _ _ => (pe_callB call_len_str (by rfl) T.m_len PySem.boot_len (pa_cons (L2.pv 1) pa_nil)))) pa_nil)))), ?_⟩
    refine ⟨.ref a, rfl, a, _, 1, .ref wa, rfl, rfl, .of ha, rfl, wa, rfl, ⟨_, .of hwa⟩, fun D nD => ?_⟩
    have lw' : ws.length < 1000 := lw
    refine lc_tup (K := K) (a := wa) (xs := ws.map txV) (fun i G => Same H G ∧ G D = some (.lst ((ws.take i).map fun x => V.int (x.length : Nat)))) ⟨same_new nD, upd_same⟩ (fun i G _ h => .of (h.1 _ _ hwa)) (fun i xv G hxv h => ?_) (fun G h => ?_)
    · obtain ⟨sm, eD⟩ := h
      have hi : i < ws.length := by
        have := (List.getElem?_eq_some_iff.mp hxv).1
        rw [List.length_map] at this
        exact this
      have exv : xv = txV ws[i] := by
        rw [List.getElem?_map, List.getElem?_eq_getElem hi] at hxv
        exact (Option.some.inj hxv).symm
      subst exv
      have hl := bw _ (List.getElem_mem hi)
      have el : (tx ws[i]).length = ws[i].length := tx_len _
      refine ⟨rfl, txV ws[i], rfl, tx ws[i], rfl, by rw [el]; exact Nat.le_of_lt (small1000 (by omega)), _, eD, ?_, same_mut sm nD, ?_⟩
      · rw [List.length_map, List.length_take]
        exact small1000 (by omega)
      · rw [upd_same, List.take_add_one, List.getElem?_eq_getElem hi, List.map_append, el]
        rfl
    · obtain ⟨sm, eD⟩ := h
      rw [List.length_map, List.take_length] at eD
      refine ⟨D, (ws.map List.length).map Int.ofNat, rfl, .of ?_, ?_⟩
      · rw [eD, List.map_map, List.map_map]
        rfl
      · rw [nat_sum]
        exact q _ sm
def sp_above_any : Sp := fun vs H Q _ => ∃ (x l : Addr) (p : Scn) (L : List (Addr × Scn)) (n : Nat), vs = [.ref x, .ref l] ∧ ScAt H x p ∧ H l = some (.lst (rfs L)) ∧ n < 1000 ∧ Fit n p ∧ (∀ q ∈ L, ScAt H q.1 q.2 ∧ Fit n q.2) ∧
  ∀ H', Same H H' → Q (.bl (L.any fun q => up p q.2)) H'
theorem ok_p_above_any (T : Tx K mg) : FnOk P w K mg base CX0 4 T.f_p_above_any T.fd_p_above_any P_p_above_any sp_above_any := by
  have G_p_above : FnOk P w K mg base CX0 3 T.f_p_above T.fd_p_above P_p_above (sp_above K) := ok_p_above T
  refine T.F_p_above_any.ok sc_p_above_any (fun vs H Q E h => ?_) (fun cdv A outer s H vs Q E hr h => ?_)
  · obtain ⟨x, l, p, L, n, rfl, _⟩ := h
    rfl
  · obtain ⟨x, l, p, L, n, rfl, hx, hl, n1, fp, hL, q⟩ := h
    refine ⟨_, 
      (pss_cons (ps_for PassesOwn.never rfl (pi_list (L2.pv 1)) (pg_name (i := 2) sc_p_above_any.nd rfl (.inl rfl))
        (pss_one (ps_if (pt_val (pe_call G_p_above (hr.mono (by decide)) (by rfl) T.g_p_above T.F_p_above.kp T.b_p_above .nil pass0 (pa_cons (L2.pv 0) (pa_cons (L2.pv 2) pa_nil))))
          (pss_one (ps_ret pe_bl))
          pss_nil)))
      (pss_one (ps_ret pe_bl))), ?_⟩
    refine ⟨.ref l, rfl, l, rfl, ⟨_, .of hl⟩, for_list (xs := rfs L) (fun k σ G => ∃ y, σ = [some (.ref x), some (.ref l), y] ∧ Same H G ∧ ((L.take k).any fun q => up p q.2) = false) ⟨none, rfl, .refl H, rfl⟩ (fun k σ G _ h => ?_) (fun k y σ G hy h => ?_) (fun σ G h => ?_)⟩
    · obtain ⟨_, _, sm, _⟩ := h
      exact .of (sm _ _ hl)
    · obtain ⟨y0, rfl, sm, hb⟩ := h
      have hk : k < L.length := by
        have := (List.getElem?_eq_some_iff.mp hy).1
        unfold rfs at this
        rw [List.length_map] at this
        exact this
      have ey : y = .ref L[k].1 := by
        unfold rfs at hy
        rw [List.getElem?_map, List.getElem?_eq_getElem hk] at hy
        exact (Option.some.inj hy).symm
      subst ey
      obtain ⟨s1, f1⟩ := hL _ (List.getElem_mem hk)
      have tk : ((L.take (k + 1)).any fun q => up p q.2) = up p L[k].2 := by
        rw [List.take_add_one, List.getElem?_eq_getElem hk, List.any_append, hb]
        simp
      refine ⟨.ref x, rfl, .ref L[k].1, rfl, (fun _ => False), (fun _ => False), .ref x, .ref L[k].1, p.1, p.2, L[k].2.1, L[k].2.2, rfl, hx.mv (Same.kp sm), s1.mv (Same.kp sm), fp.lw.trans f1.lw.symm, by rw [fp.lw]; exact n1, fp.ls, fp.bw, f1.bw, fun G2 s2 => ⟨_, rfl, ?_⟩⟩
      cases e : abv p.1 p.2 L[k].2.1 L[k].2.2 with
      | true =>
        refine iteT ?_
        have := q _ (sm.trans s2)
        have a : (L.any fun q => up p q.2) = true := List.any_eq_true.mpr ⟨L[k], List.getElem_mem hk, e⟩
        rw [a] at this
        exact this
      | false =>
        refine iteF ⟨_, rfl, sm.trans s2, ?_⟩
        rw [tk]
        exact e
    · obtain ⟨y0, rfl, sm, hb⟩ := h
      have ll : (rfs L).length = L.length := List.length_map _
      rw [ll, List.take_length] at hb
      have := q _ sm
      rw [hb] at this
      exact this

/-! ### scenes by their stands -/
abbrev Grp := List (List Nat) × Addr × List (Addr × Scn)
def kS (l : List Nat) : L2.Key := .inr (tx l)
def kvsOf (gs : List Grp) : List (List L2.Key × V) := gs.map fun g => (g.1.map kS, .ref g.2.1)
def flat (gs : List Grp) : List (Addr × Scn) := gs.flatMap fun g => g.2.2
theorem kS_inj {a b : List (List Nat)} (h : a.map kS = b.map kS) : a = b := map_inj (f := kS) (fun x y e => tx_inj (Sum.inr.inj e)) h
theorem kS_kV (a : List (List Nat)) : (a.map kS).map kV = a.map txV := by
  rw [List.map_map]
  rfl
theorem val_none : ∀ {gs : List Grp} {ss : List (List Nat)}, (∀ g ∈ gs, g.1 ≠ ss) → valV (kvsOf gs) (ss.map kS) = none
  | [], _, _ => rfl
  | g :: gs, ss, h => by
    show valV ((g.1.map kS, V.ref g.2.1) :: kvsOf gs) (ss.map kS) = none
    rw [valV_neg fun e => h g List.mem_cons_self (kS_inj e)]
    exact val_none fun x m => h x (List.mem_cons_of_mem _ m)
theorem val_at : ∀ {pre post : List Grp} {g : Grp}, (∀ x ∈ pre, x.1 ≠ g.1) → valV (kvsOf (pre ++ g :: post)) (g.1.map kS) = some (.ref g.2.1)
  | [], post, g, _ => by
    show valV ((g.1.map kS, V.ref g.2.1) :: kvsOf post) (g.1.map kS) = _
    rw [valV_pos rfl]
  | x :: pre, post, g, h => by
    show valV ((x.1.map kS, V.ref x.2.1) :: kvsOf (pre ++ g :: post)) (g.1.map kS) = _
    rw [valV_neg fun e => h x List.mem_cons_self (kS_inj e)]
    exact val_at fun y m => h y (List.mem_cons_of_mem _ m)
theorem put_new {gs : List Grp} {ss : List (List Nat)} {v : V} (h : valV (kvsOf gs) (ss.map kS) = none) : putK (kvsOf gs) (ss.map kS) v = kvsOf gs ++ [(ss.map kS, v)] := by
  unfold putK
  rw [if_neg]
  rw [valV_any, h]
  exact Bool.false_ne_true
theorem kvs_put (pre post : List Grp) (g : Grp) (l : List (Addr × Scn)) : kvsOf (pre ++ (g.1, g.2.1, l) :: post) = kvsOf (pre ++ g :: post) := by
  unfold kvsOf
  rw [List.map_append, List.map_append, List.map_cons, List.map_cons]
theorem flat_put (pre post : List Grp) (g : Grp) (x : Addr × Scn) : (flat (pre ++ (g.1, g.2.1, g.2.2 ++ [x]) :: post)).Perm (flat (pre ++ g :: post) ++ [x]) := by
  unfold flat
  rw [List.flatMap_append, List.flatMap_append, List.flatMap_cons, List.flatMap_cons, List.append_assoc, List.append_assoc, List.append_assoc]
  exact List.Perm.append_left _ (List.Perm.append_left _ List.perm_append_comm)
structure Grps (H G : Hp) (d : Addr) (gs : List Grp) : Prop where
  dict : G d = some (.dT (kvsOf gs))
  ls : ∀ g ∈ gs, G g.2.1 = some (.lst (rfs g.2.2))
  own : ∀ g ∈ gs, ∀ q ∈ g.2.2, q.2.1 = g.1
  nda : (gs.map fun g => g.2.1).Nodup
  ndk : (gs.map fun g => g.1).Nodup
  new : ∀ g ∈ gs, H g.2.1 = none
theorem Grps.mv {H G G' : Hp} {d : Addr} {gs : List Grp} (x : Grps H G d gs) (s : Same G G') : Grps H G' d gs := ⟨s _ _ x.dict, fun g m => s _ _ (x.ls g m), x.own, x.nda, x.ndk, x.new⟩
theorem Grps.more {H G G2 : Hp} {d z : Addr} {gs : List Grp} {ss : List (List Nat)} {x : Addr × Scn} (X : Grps H G d gs) (hd2 : G2 d = some (.dT (kvsOf gs ++ [(ss.map kS, .ref z)]))) (hl2 : ∀ g ∈ gs, G2 g.2.1 = some (.lst (rfs g.2.2)))
    (nk : ∀ g ∈ gs, g.1 ≠ ss) (ex : x.2.1 = ss) (hd : ∀ g ∈ gs, g.2.1 ≠ z) (zd : z ≠ d) (hz : H z = none) : Grps H (upd G2 z (.lst [.ref x.1])) d (gs ++ [(ss, z, [x])]) := by
  refine ⟨?_, fun g m => ?_, fun g m q mq => ?_, ?_, ?_, fun g m => ?_⟩
  · rw [upd_ne zd.symm, hd2]
    unfold kvsOf
    rw [List.map_append]
    rfl
  · rcases List.mem_append.mp m with m | m
    · rw [upd_ne (hd g m)]
      exact hl2 g m
    · rw [List.mem_singleton.mp m]
      exact upd_same
  · rcases List.mem_append.mp m with m | m
    · exact X.own g m q mq
    · rw [List.mem_singleton.mp m] at mq ⊢
      rw [List.mem_singleton.mp mq]
      exact ex
  · rw [List.map_append]
    refine List.nodup_append.mpr ⟨X.nda, List.pairwise_singleton _ _, fun a m b mb e => ?_⟩
    obtain ⟨g, mg', eg⟩ := List.mem_map.mp m
    rw [List.mem_singleton.mp mb] at e
    exact hd g mg' (eg.trans e)
  · rw [List.map_append]
    refine List.nodup_append.mpr ⟨X.ndk, List.pairwise_singleton _ _, fun a m b mb e => ?_⟩
    obtain ⟨g, mg', eg⟩ := List.mem_map.mp m
    rw [List.mem_singleton.mp mb] at e
    exact nk g mg' (eg.trans e)
  · rcases List.mem_append.mp m with m | m
    · exact X.new g m
    · rw [List.mem_singleton.mp m]
      exact hz
theorem Grps.app {H G : Hp} {d : Addr} {pre post : List Grp} {g : Grp} {x : Addr × Scn} (X : Grps H G d (pre ++ g :: post)) (ex : x.2.1 = g.1) :
    Grps H (upd G g.2.1 (.lst (rfs g.2.2 ++ [.ref x.1]))) d (pre ++ (g.1, g.2.1, g.2.2 ++ [x]) :: post) := by
  have mg' : g ∈ pre ++ g :: post := List.mem_append_right _ List.mem_cons_self
  have gd : d ≠ g.2.1 := fun e => by
    have := X.ls g mg'
    rw [← e, X.dict] at this
    cases this
  have nda := X.nda
  rw [List.map_append, List.map_cons] at nda
  have ndk := X.ndk
  rw [List.map_append, List.map_cons] at ndk
  obtain ⟨_, n2, n3⟩ := List.nodup_append.mp nda
  have far1 : ∀ y ∈ pre, y.2.1 ≠ g.2.1 := fun y m => n3 _ (List.mem_map_of_mem (f := fun g : Grp => g.2.1) m) _ List.mem_cons_self
  have far2 : ∀ y ∈ post, y.2.1 ≠ g.2.1 := fun y m e => (List.nodup_cons.mp n2).1 (by rw [← e]; exact List.mem_map_of_mem (f := fun g : Grp => g.2.1) m)
  refine ⟨?_, fun y m => ?_, fun y m q mq => ?_, ?_, ?_, fun y m => ?_⟩
  · rw [upd_ne gd, X.dict, kvs_put pre post g (g.2.2 ++ [x])]
  · rcases List.mem_append.mp m with m | m
    · rw [upd_ne (far1 y m)]
      exact X.ls y (List.mem_append_left _ m)
    · rcases List.mem_cons.mp m with rfl | m
      · show upd G g.2.1 _ g.2.1 = _
        rw [upd_same]
        unfold rfs
        rw [List.map_append]
        rfl
      · rw [upd_ne (far2 y m)]
        exact X.ls y (List.mem_append_right _ (List.mem_cons_of_mem _ m))
  · rcases List.mem_append.mp m with m | m
    · exact X.own y (List.mem_append_left _ m) q mq
    · rcases List.mem_cons.mp m with rfl | m
      · rcases List.mem_append.mp mq with z | z
        · exact X.own g mg' q z
        · rw [List.mem_singleton.mp z]
          exact ex
      · exact X.own y (List.mem_append_right _ (List.mem_cons_of_mem _ m)) q mq
  · rw [List.map_append, List.map_cons]
    exact nda
  · rw [List.map_append, List.map_cons]
    exact ndk
  · rcases List.mem_append.mp m with m | m
    · exact X.new y (List.mem_append_left _ m)
    · rcases List.mem_cons.mp m with rfl | m
      · exact X.new g mg'
      · exact X.new y (List.mem_append_right _ (List.mem_cons_of_mem _ m))
theorem perm_pull {α β : Type} {f : α → β} {l m : List β} (p : l.Perm m) : ∀ {L : List α}, m = L.map f → ∃ N : List α, N.Perm L ∧ l = N.map f := by
  induction p with
  | nil =>
    intro L e
    cases L with
    | nil => exact ⟨[], .nil, rfl⟩
    | cons a L => cases e
  | cons x _ ih =>
    intro L e
    cases L with
    | nil => cases e
    | cons a L =>
      rw [List.map_cons] at e
      injection e with e1 e2
      obtain ⟨N, h1, h2⟩ := ih e2
      exact ⟨a :: N, h1.cons a, by rw [List.map_cons, h2, e1]⟩
  | swap x y l =>
    intro L e
    cases L with
    | nil => cases e
    | cons a L =>
      cases L with
      | nil => cases e
      | cons b L =>
        rw [List.map_cons, List.map_cons] at e
        injection e with e1 e2
        injection e2 with e2 e3
        exact ⟨b :: a :: L, .swap a b L, by rw [List.map_cons, List.map_cons, e1, e2, e3]⟩
  | trans _ _ ih1 ih2 =>
    intro L e
    obtain ⟨N, h1, h2⟩ := ih2 e
    obtain ⟨N2, h3, h4⟩ := ih1 h2
    exact ⟨N2, h3.trans h1, h4⟩
theorem key_order {L : List (Addr × Scn)} {ys : List V} (h : KeyOut (L.map fun p => (lcs p.2 : Int)) (rfs L) ys) : ∃ N, N.Perm L ∧ ys = rfs N ∧ N.Pairwise fun p q => lcs p.2 ≤ lcs q.2 := by
  obtain ⟨ps, h1, h2, h3⟩ := h
  have e : (L.map fun p => (lcs p.2 : Int)).zip (rfs L) = L.map fun p => ((lcs p.2 : Int), V.ref p.1) := by
    unfold rfs
    rw [List.zip_map', ]
  obtain ⟨N, n1, n2⟩ := perm_pull h1 e
  subst n2
  refine ⟨N, n1, ?_, ?_⟩
  · rw [h2, List.map_map]
    rfl
  · refine (List.pairwise_map.mp h3).imp fun z => ?_
    simpa using z
theorem nvs_txs {H : Hp} : ∀ a : List (List Nat), NVs H (a.map kx1) (a.map txV)
  | [] => .nil
  | x :: a => .cons (.text _) (nvs_txs a)
theorem nv_scene {H : Hp} {a : Addr} {p : Scn} (h : ScAt H a p) : NV H (sceneK p) (.ref a) := by
  obtain ⟨_, sa, wa, e, _, _, _, ha, hsa, hwa, _, _⟩ := scene_at h
  cases e
  exact .tup ha (.cons (.tup hsa (nvs_txs _)) (.cons (.tup hwa (nvs_txs _)) .nil))
theorem keys_in {H : Hp} {L : List (Addr × Scn)} (h : ∀ p ∈ L, ScAt H p.1 p.2) : KeysIn H (keyed L) := fun p m => by
  obtain ⟨x, mx, rfl⟩ := List.mem_map.mp m
  exact ⟨nv_scene (h x mx), sceneK_depth _⟩
theorem flat_take (gs : List Grp) {i : Nat} (hi : i < gs.length) : flat (gs.take (i + 1)) = flat (gs.take i) ++ gs[i].2.2 := by
  unfold flat
  rw [List.take_add_one, List.getElem?_eq_getElem hi, List.flatMap_append]
  simp
def sp_least : Sp := fun vs H Q _ => ∃ (l : Addr) (L : List (Addr × Scn)) (n : Nat), vs = [.ref l] ∧ H l = some (.lst (rfs L)) ∧ L.length < 63 ∧ n < 1000 ∧ (∀ p ∈ L, ScAt H p.1 p.2 ∧ Fit n p.2) ∧
  ∀ H' q M, Same H H' → H q = none → H' q = some (.lst (rfs M)) → (∀ p ∈ M, p ∈ L) → LeastOf (L.map Prod.snd) M → Q (.ref q) H'
def sp_least_up : Sp := fun vs H Q _ => ∃ (l : Addr) (L : List (Addr × Scn)) (n : Nat) (m : Int), vs = [.ref l, .int m] ∧ (L.length : Int) ≤ m ∧ H l = some (.lst (rfs L)) ∧ L.length < 63 ∧ n < 1000 ∧ (∀ p ∈ L, ScAt H p.1 p.2 ∧ Fit n p.2) ∧
  ∀ H' q M, Same H H' → H q = none → H' q = some (.lst (rfs M)) → (∀ p ∈ M, p ∈ L) → LeastOf (L.map Prod.snd) M → Q (.ref q) H'
theorem ok_p_least_up_to (T : Tx K mg) : FnOk P w K mg base CX0 5 T.f_p_least_up_to T.fd_p_least_up_to P_p_least_up_to sp_least_up := by
  have G_p_letters_in : FnOk P w K mg base CX0 1 T.f_p_letters_in T.fd_p_letters_in P_p_letters_in sp_letters_in := ok_p_letters_in T
  have G_p_above_any : FnOk P w K mg base CX0 4 T.f_p_above_any T.fd_p_above_any P_p_above_any sp_above_any := ok_p_above_any T
  refine T.F_p_least_up_to.ok sc_p_least_up_to (fun vs H Q E h => ?_) (fun cdv A outer s H vs Q E hr h => ?_)
  · obtain ⟨l, L, n, m, rfl, _⟩ := h
    rfl
  · obtain ⟨l, L, n, top, rfl, htop, hl, few, n1, hL, q⟩ := h
    refine ⟨_, 
      (pss_cons (ps_set (i := 2) sc_p_least_up_to.nd rfl (.inl rfl) pe_dnewT)
      (pss_cons (ps_set (i := 3) sc_p_least_up_to.nd rfl (.inl rfl) pe_int)
      (pss_cons (ps_for PassesOwn.never rfl (pi_list (pe_callBK (LB.cr_sortKey G_p_letters_in (hr.mono (by decide)) T.b_p_letters_in) (by rfl) T.m_sorted (by decide +kernel) (pa_cons (L2.pv 0) pa_nil) (pk_cons (pe_glob (v := .ref T.f_p_letters_in) (by rfl) T.g_p_letters_in rfl) pk_nil))) (pg_name (i := 4) sc_p_least_up_to.nd rfl (.inl rfl))
        (pss_cons (ps_set (i := 5) sc_p_least_up_to.nd rfl (.inl rfl) (pe_bm PySem.F.plainAttrs_dict PySem.F.slot_dict_setdefault PySem.F.type_dict_setdefault (LB.mt_setdT (hu_of hr)) (L2.pv 2) (pa_cons (pe_ix ix_tup (L2.pv 4) pe_int (fun _ _ => rfl)) (pa_cons (pe_lst pa_nil) pa_nil))))
        (pss_one (ps_if (pt_not (pt_val (pe_call G_p_above_any (hr.mono (by decide)) (by rfl) T.g_p_above_any T.F_p_above_any.kp T.b_p_above_any .nil pass0 (pa_cons (L2.pv 4) (pa_cons (L2.pv 5) pa_nil)))))
          (pss_cons (ps_aug (i := 3) sc_p_least_up_to.nd rfl (.inl rfl) pe_int ip_add)
          (pss_cons (ps_if (pt_cmpR op_gt (L2.pv 3) (L2.pv 1) (nomark _))
            (pss_one (ps_ret pe_non))
            pss_nil)
          (pss_one (ps_expr (pe_bm PySem.F.plainAttrs_list PySem.F.slot_list_append PySem.F.type_list_append mt_append (L2.pv 5) (pa_cons (L2.pv 4) pa_nil))))))
          pss_nil))))
      (pss_one (ps_ret (pe_callB (LB.cr_sortNL hr.units) (by rfl) T.m_sorted (by decide +kernel) (pa_cons (pe_lock (pe_lc2 (own := [("lows", 6), ("low", 7)]) (vs1 := [7]) (g := gName 6) (g1 := gName 7) (tt := tYes) (tt1 := tYes) (wi1 := iList K (tVar 6)) (te := tVar 7) (by rfl) sc_p_least_up_to.nd (LB.pi_valuesT (L2.pv 2)) (blkOk_by (own := [("lows", 6), ("low", 7)]) (N := N_p_least_up_to) (sc := defScope s_p_least_up_to) (by decide +kernel)) (by decide) (fun _ _ _ _ _ => (pg_name (i := 6) sc_p_least_up_to.nd rfl (.inl rfl))) (fun _ _ _ _ _ => pts_nil) (fun _ _ _ _ _ => (pi_list (L2.pv 6))) (fun _ _ _ _ _ => (pg_name (i := 7) sc_p_least_up_to.nd rfl (.inl rfl))) (fun _ _ _ _ _ => pts_nil) (fun _ _ _ _ _ => (L2.pv 7)))) pa_nil))))))), ?_⟩
    intro d nd
    have sd : Same H (upd H d (.dT [])) := same_new nd
    refine ⟨.ref l, rfl, l, rfs L, L.map (fun p => (lcs p.2 : Int)), (fun _ G => Same (upd H d (.dT [])) G), E, rfl, rfl, .of (sd _ _ hl), (fun x m => ?_), ?_, ?_, .refl _, (fun i x k G hx hk sm => ?_), fun G1 r ys sm nr ko => ?_⟩
    · obtain ⟨p, _, rfl⟩ := List.mem_map.mp m
      exact ⟨_, rfl⟩
    · unfold rfs
      rw [List.length_map]
      omega
    · unfold rfs
      rw [List.length_map, List.length_map]
    · have hi : i < L.length := by
        have := (List.getElem?_eq_some_iff.mp hx).1
        unfold rfs at this
        rw [List.length_map] at this
        exact this
      unfold rfs at hx
      rw [List.getElem?_map, List.getElem?_eq_getElem hi] at hx hk
      cases hx
      cases hk
      obtain ⟨s1, f1⟩ := hL _ (List.getElem_mem hi)
      exact ⟨_, L[i].2, rfl, s1.mv (Same.kp (sd.trans sm)), by rw [f1.lw]; exact n1, f1.bw, fun G' s' => ⟨rfl, sm.trans s'⟩⟩
    obtain ⟨N, pm, rfl, srt⟩ := key_order ko
    have lN : N.length = L.length := pm.length_eq
    have s0 : Same H (upd G1 r (.lst (rfs N))) := sd.trans (sm.trans (same_new nr))
    have nrH : H r = none := (sd.trans sm).free nr
    have d0 : (upd G1 r (.lst (rfs N))) d = some (.dT (kvsOf [])) := ((sm.trans (same_new nr)) d _ upd_same)
    have hN : ∀ p ∈ N, ScAt H p.1 p.2 ∧ Fit n p.2 := fun p m => hL p (pm.mem_iff.mp m)
    refine ⟨r, rfl, ⟨_, .of upd_same⟩, for_list (xs := rfs N) (fun k σ G => ∃ y2 y3 gs, σ = [some (.ref l), some (.int top), some (.ref d), some (.int (((flat gs).length : Nat) : Int)), y2, y3, none, none] ∧ Same H G ∧ G r = some (.lst (rfs N)) ∧ Grps H G d gs ∧ Kept (N.take k) (flat gs) ∧ gs.length ≤ k ∧ (flat gs).length ≤ k)
      ⟨none, none, [], rfl, s0, upd_same, ⟨d0, (fun _ z => nomatch z), (fun _ z => nomatch z), .nil, .nil, (fun _ z => nomatch z)⟩, by rw [List.take_zero]; exact Kept.nil, Nat.le_refl _, Nat.le_refl _⟩ (fun k σ G _ h => ?_) (fun k y σ G hy h => ?_) (fun σ G h => ?_)⟩
    · obtain ⟨_, _, _, _, _, hr', _⟩ := h
      exact .of hr'
    · obtain ⟨y2, y3, gs, rfl, sG, hr', X, kp, lg, lf⟩ := h
      have hk : k < N.length := by
        have := (List.getElem?_eq_some_iff.mp hy).1
        unfold rfs at this
        rw [List.length_map] at this
        exact this
      have ey : y = .ref N[k].1 := by
        unfold rfs at hy
        rw [List.getElem?_map, List.getElem?_eq_getElem hk] at hy
        exact (Option.some.inj hy).symm
      subst ey
      obtain ⟨sx, fx⟩ := hN _ (List.getElem_mem hk)
      obtain ⟨_, sa, wa, ea, _, _, _, ha, hsa, hwa, as1, aw1⟩ := scene_at (sx.mv (Same.kp sG))
      cases ea
      have tk : N.take (k + 1) = N.take k ++ [N[k]] := by
        rw [List.take_add_one, List.getElem?_eq_getElem hk]
        rfl
      have inN : ∀ p ∈ N.take k, p ∈ N := fun p m => List.mem_of_mem_take m
      have les : ∀ p ∈ N.take k, lcs p.2 ≤ lcs N[k].2 := fun p m => by
        obtain ⟨i, hi, ei⟩ := List.getElem_of_mem m
        rw [List.getElem_take] at ei
        rw [List.length_take] at hi
        rw [← ei]
        exact List.pairwise_iff_getElem.mp srt i k (by omega) hk (by omega)
      have lens : ∀ p ∈ N.take k, p.2.2.length = N[k].2.2.length := fun p m => ((hN p (inN p m)).2.lw).trans fx.lw.symm
      have subN : ∀ p ∈ flat gs, p ∈ N := fun p m => inN p (kp.sub p m)
      refine ⟨.ref d, rfl, .inr (.inr (.inl ⟨rfl, .inr ⟨_, X.dict⟩⟩)), .ref N[k].1, rfl, N[k].1, _, 0, .ref sa, rfl, rfl, .of ha, rfl, Nat.zero_le _, fun z nz => ?_⟩
      have sz : Same G (upd G z (.lst [])) := same_new nz
      have nzH : H z = none := sG.free nz
      have Xz := X.mv sz
      have sGz := sG.trans sz
      have hrz := sz _ _ hr'
      have kl : (kvsOf gs).length < sizeLine := by
        unfold kvsOf
        rw [List.length_map]
        exact small1000 (by omega)
      have zd : z ≠ d := fun e => by
        rw [e, X.dict] at nz
        cases nz
      have nez : ∀ g ∈ gs, g.2.1 ≠ z := fun g m e => by
        have := X.ls g m
        rw [e, nz] at this
        cases this
      refine ⟨d, kvsOf gs, N[k].2.1.map kS, sa, .ref z, rfl, rfl, Xz.dict, by rw [kS_kV]; exact sz _ _ hsa, kl, (fun v hv => ?_), fun hn => ?_⟩
      · -- its stands were met
        have ex : ∃ g ∈ gs, g.1 = N[k].2.1 := Classical.byContradiction fun no => by
          rw [val_none fun g m e => no ⟨g, m, e⟩] at hv
          cases hv
        obtain ⟨g, mg', eg⟩ := ex
        obtain ⟨pre, post, rfl⟩ := List.append_of_mem mg'
        have far : ∀ y ∈ pre, y.1 ≠ g.1 := fun y m => by
          have := X.ndk
          rw [List.map_append, List.map_cons] at this
          exact (List.nodup_append.mp this).2.2 _ (List.mem_map_of_mem (f := fun g : Grp => g.1) m) _ List.mem_cons_self
        rw [← eg, val_at far] at hv
        cases hv
        have inF : ∀ p ∈ g.2.2, p ∈ flat (pre ++ g :: post) := fun p m => List.mem_flatMap.mpr ⟨g, mg', m⟩
        have hg := Xz.ls g mg'
        refine ⟨.ref N[k].1, rfl, .ref g.2.1, rfl, N[k].1, g.2.1, N[k].2, g.2.2, n, rfl, sx.mv (Same.kp sGz), hg, n1, fx, (fun p m => ⟨(hN p (subN p (inF p m))).1.mv (Same.kp sGz), (hN p (subN p (inF p m))).2⟩), fun G2 s2 => ⟨_, rfl, ?_⟩⟩
        cases e : g.2.2.any fun p => up N[k].2 p.2 with
        | true =>
          refine iteF ?_
          obtain ⟨p, mp, ep⟩ := List.any_eq_true.mp e
          exact ⟨_, _, pre ++ g :: post, rfl, sGz.trans s2, s2 _ _ hrz, Xz.mv s2, by rw [tk]; exact kp.over (inF p mp) ep, by omega, by omega⟩
        | false =>
          refine iteT ?_
          have hg2 := s2 _ _ hg
          have no : ∀ p ∈ flat (pre ++ g :: post), up N[k].2 p.2 = false := fun p m => by
            obtain ⟨g2, m2, mp⟩ := List.mem_flatMap.mp m
            by_cases e2 : g2.1 = g.1
            · have same : g2 = g := by
                rcases List.mem_append.mp m2 with m2 | m2
                · exact absurd e2 (far g2 m2)
                · rcases List.mem_cons.mp m2 with m2 | m2
                  · exact m2
                  · have := X.ndk
                    rw [List.map_append, List.map_cons] at this
                    exact absurd (by rw [← e2]; exact List.mem_map_of_mem (f := fun g : Grp => g.1) m2) (List.nodup_cons.mp (List.nodup_append.mp this).2.1).1
              rw [same] at mp
              have := List.any_eq_false.mp e p mp
              simpa using this
            · cases u : up N[k].2 p.2 with
              | false => rfl
              | true => exact absurd ((X.own g2 m2 p mp).symm.trans ((up_st u).symm.trans eg.symm)) e2
          have gl : (rfs g.2.2).length < sizeLine := by
            unfold rfs
            rw [List.length_map]
            have : g.2.2.length ≤ (flat (pre ++ g :: post)).length := by
              unfold flat
              rw [List.flatMap_append, List.flatMap_cons, List.length_append, List.length_append]
              omega
            exact small1000 (by omega)
          have pmF := flat_put pre post g N[k]
          refine ⟨.int (((flat (pre ++ g :: post)).length : Nat) : Int), rfl, _, 1, rfl, rfl, .int (((flat (pre ++ g :: post)).length : Nat) + 1), rfl, .int top, rfl, _, _, rfl, rfl, _, rfl, ?_⟩
          rw [show decide (top < ((flat (pre ++ g :: post)).length : Int) + 1) = false from decide_eq_false (by omega)]
          refine iteF ⟨.ref g.2.1, rfl, .inl ⟨rfl, _, .of hg2⟩, .ref N[k].1, rfl, g.2.1, _, _, rfl, rfl, hg2, gl, ?_⟩
          have rg : r ≠ g.2.1 := fun e => by
            have h1 : (rfs N) = rfs g.2.2 := by
              have a1 := hrz
              rw [e, hg] at a1
              injection a1 with a1
              injection a1 with a1
              exact a1.symm
            have h2 : N.length = g.2.2.length := by
              have := congrArg List.length h1
              unfold rfs at this
              rwa [List.length_map, List.length_map] at this
            have h3 : g.2.2.length ≤ (flat (pre ++ g :: post)).length := by
              unfold flat
              rw [List.flatMap_append, List.flatMap_cons, List.length_append, List.length_append]
              omega
            omega
          refine ⟨_, _, pre ++ (g.1, g.2.1, g.2.2 ++ [N[k]]) :: post, by rw [pmF.length_eq, List.length_append]; rfl, same_mut (sGz.trans s2) (X.new g mg'), (upd_ne rg).trans (s2 _ _ hrz), (Xz.mv s2).app eg.symm, ?_, ?_, ?_⟩
          · rw [tk]
            exact (kp.put no lens les).perm pmF
          · rw [List.length_append, List.length_cons] at lg ⊢
            omega
          · rw [pmF.length_eq, List.length_append]
            show _ + 1 ≤ _
            omega
      · -- they were not
        have nk : ∀ g ∈ gs, g.1 ≠ N[k].2.1 := fun g m e => by
          obtain ⟨pre, post, rfl⟩ := List.append_of_mem m
          have far : ∀ y ∈ pre, y.1 ≠ g.1 := fun y m => by
            have := X.ndk
            rw [List.map_append, List.map_cons] at this
            exact (List.nodup_append.mp this).2.2 _ (List.mem_map_of_mem (f := fun g : Grp => g.1) m) _ List.mem_cons_self
          rw [← e, val_at far] at hn
          cases hn
        rw [put_new hn]
        have sd2 : Same H (upd (upd G z (.lst [])) d (.dT (kvsOf gs ++ [(N[k].2.1.map kS, .ref z)]))) := same_mut sGz nd
        have hz2 : (upd (upd G z (.lst [])) d (.dT (kvsOf gs ++ [(N[k].2.1.map kS, .ref z)]))) z = some (.lst (rfs [])) := (upd_ne zd).trans upd_same
        have rd : r ≠ d := fun e => by
          rw [e, X.dict] at hr'
          cases hr'
        have rz : r ≠ z := fun e => by
          rw [e, nz] at hr'
          cases hr'
        refine ⟨.ref N[k].1, rfl, .ref z, rfl, N[k].1, z, N[k].2, [], n, rfl, sx.mv (Same.kp sd2), hz2, n1, fx, (fun _ z => nomatch z), fun G2 s2 => ⟨_, rfl, iteT ?_⟩⟩
        have hz3 := s2 _ _ hz2
        refine ⟨.int (((flat gs).length : Nat) : Int), rfl, _, 1, rfl, rfl, .int (((flat gs).length : Nat) + 1), rfl, .int top, rfl, _, _, rfl, rfl, _, rfl, ?_⟩
        rw [show decide (top < ((flat gs).length : Int) + 1) = false from decide_eq_false (by omega)]
        refine iteF ⟨.ref z, rfl, .inl ⟨rfl, _, .of hz3⟩, .ref N[k].1, rfl, z, _, _, rfl, rfl, hz3, small1000 (Nat.zero_le _), ?_⟩
        have no : ∀ p ∈ flat gs, up N[k].2 p.2 = false := fun p m => by
          obtain ⟨g2, m2, mp⟩ := List.mem_flatMap.mp m
          cases u : up N[k].2 p.2 with
          | false => rfl
          | true => exact absurd ((X.own g2 m2 p mp).symm.trans (up_st u).symm) (nk g2 m2)
        have Gm : Grps H (upd G2 z (.lst (rfs [] ++ [V.ref N[k].1]))) d (gs ++ [(N[k].2.1, z, [N[k]])]) :=
          X.more (s2 _ _ upd_same) (fun g m => s2 _ _ ((upd_ne (fun e => by
            have := X.ls g m
            rw [e, X.dict] at this
            cases this)).trans (Xz.ls g m))) nk rfl nez zd nzH
        have fl : flat (gs ++ [(N[k].2.1, z, [N[k]])]) = flat gs ++ [N[k]] := by
          unfold flat
          rw [List.flatMap_append]
          rfl
        refine ⟨_, _, gs ++ [(N[k].2.1, z, [N[k]])], by rw [fl, List.length_append]; rfl, same_mut (sd2.trans s2) nzH, (upd_ne rz).trans (s2 _ _ ((upd_ne rd).trans hrz)), Gm, ?_, ?_, ?_⟩
        · rw [tk, fl]
          exact kp.put no lens les
        · rw [List.length_append]
          show _ + 1 ≤ _
          omega
        · rw [fl, List.length_append]
          show _ + 1 ≤ _
          omega
    · obtain ⟨y2, y3, gs, rfl, sG, hr', X, kp, lg, lf⟩ := h
      have ln : (rfs N).length = N.length := List.length_map _
      rw [ln] at kp lg lf
      rw [List.take_length] at kp
      refine ⟨d, .dT (kvsOf gs), X.dict, trivial, fun od => ⟨.ref d, rfl, d, od, kvsOf gs, rfl, upd_same, fun D nD => ?_⟩⟩
      have Dd : D ≠ d := fun e => by
        rw [e, upd_same] at nD
        cases nD
      have nD2 : G D = none := by
        rw [upd_ne Dd] at nD
        exact nD
      have kl : (kvsOf gs).length = gs.length := List.length_map _
      have gd : ∀ g ∈ gs, g.2.1 ≠ d := fun g m e => by
        have := X.ls g m
        rw [e, X.dict] at this
        cases this
      refine lc2_it (walk_valuesT (d := d) (o := od) (kvs := kvsOf gs)) (fun i G' => G' d = some (.frz od (.dT (kvsOf gs))) ∧ (∀ b o, b ≠ d → G b = some o → G' b = some o) ∧ G' D = some (.lst (rfs (flat (gs.take i)))))
        ⟨(upd_ne Dd.symm).trans upd_same, (fun b o nb e => (upd_ne (ne_of_none e nD2)).trans ((upd_ne nb).trans e)), upd_same⟩ (fun i G' _ h => h.1) (fun i x G1 G' hi h yy => ?_) (fun G' h => ?_)
      · obtain ⟨h1, h2, h3⟩ := h
        obtain ⟨rfl, kk, hkk⟩ := yy
        rw [kl] at hi
        have ex : x = .ref gs[i].2.1 := by
          unfold kvsOf at hkk
          rw [List.getElem?_map, List.getElem?_eq_getElem hi] at hkk
          have := Option.some.inj hkk
          exact (congrArg Prod.snd this).symm
        subst ex
        have mg' : gs[i] ∈ gs := List.getElem_mem hi
        have hgi := h2 _ _ (gd _ mg') (X.ls _ mg')
        have il : (flat (gs.take i)).length + gs[i].2.2.length ≤ (flat gs).length := by
          rw [← List.length_append, ← flat_take gs hi]
          unfold flat
          conv => rhs; rw [← List.take_append_drop (i + 1) gs]
          rw [List.flatMap_append, List.length_append]
          omega
        refine ⟨rfl, .ref gs[i].2.1, rfl, gs[i].2.1, rfl, ⟨_, .of hgi⟩, ?_⟩
        refine lc2_in (walk_list (K := K) (a := gs[i].2.1) (xs := rfs gs[i].2.2)) (fun j G' => G' d = some (.frz od (.dT (kvsOf gs))) ∧ (∀ b o, b ≠ d → G b = some o → G' b = some o) ∧ G' D = some (.lst (rfs (flat (gs.take i) ++ gs[i].2.2.take j))))
          ⟨h1, h2, by rw [List.take_zero, List.append_nil]; exact h3⟩ (fun j G' _ h => .of (h.2.1 _ _ (gd _ mg') (X.ls _ mg'))) (fun j x G1 G' hj h yy => ?_) (fun G' h => ?_)
        · obtain ⟨k1, k2, k3⟩ := h
          obtain ⟨rfl, hx⟩ := yy
          have hj' : j < gs[i].2.2.length := by
            unfold rfs at hj
            rw [List.length_map] at hj
            exact hj
          have ex : x = .ref gs[i].2.2[j].1 := by
            unfold rfs at hx
            rw [List.getElem?_map, List.getElem?_eq_getElem hj'] at hx
            exact (Option.some.inj hx).symm
          subst ex
          refine ⟨rfl, .ref gs[i].2.2[j].1, rfl, _, k3, ?_, (upd_ne Dd.symm).trans k1, (fun b o nb e => (upd_ne (ne_of_none e nD2)).trans (k2 b o nb e)), ?_⟩
          · unfold rfs
            rw [List.length_map, List.length_append, List.length_take]
            exact small1000 (by omega)
          · rw [upd_same, List.take_add_one, List.getElem?_eq_getElem hj', ← List.append_assoc]
            unfold rfs
            rw [List.map_append, List.map_append, List.map_append]
            rfl
        · obtain ⟨k1, k2, k3⟩ := h
          refine ⟨k1, k2, ?_⟩
          have : (rfs gs[i].2.2).length = gs[i].2.2.length := List.length_map _
          rw [k3, this, List.take_length, flat_take gs hi]
      · obtain ⟨h1, h2, h3⟩ := h
        rw [kl, List.take_length] at h3
        refine ⟨h1, D, keyed (flat gs), rfl, .of ?_, keys_in (fun p m => ?_), keyed_sortable _, fun L' p pm2 ris np => ?_⟩
        · rw [upd_ne Dd, h3, keyed_refs]
          rfl
        · have sc := (hN p (kp.sub p m)).1
          refine sc.mv fun b o _ e => ?_
          have bd : b ≠ d := fun z => by
            rw [z, nd] at e
            cases e
          exact (upd_ne bd).trans (h2 b o bd (sG b o e))
        · obtain ⟨M, m1, m2⟩ := perm_pull (f := fun p : Addr × Scn => (p.1, sceneK p.2)) pm2 rfl
          have eL : L' = keyed M := m2
          subst eL
          have sF : Same H (upd (upd G' d (.dT (kvsOf gs))) p (.lst (refsV (keyed M)))) := fun b o e => by
            have bd : b ≠ d := fun z => by
              rw [z, nd] at e
              cases e
            have e2 : upd G' d (.dT (kvsOf gs)) b = some o := (upd_ne bd).trans (h2 b o bd (sG b o e))
            exact (upd_ne (ne_of_none e2 np)).trans e2
          have npH : H p = none := by
            cases e : H p with
            | none => rfl
            | some o =>
              have bd : p ≠ d := fun z => by
                rw [z, nd] at e
                cases e
              have e2 : upd G' d (.dT (kvsOf gs)) p = some o := (upd_ne bd).trans (h2 p o bd (sG p o e))
              rw [np] at e2
              cases e2
          have pmk : (M.map Prod.snd).Perm ((flat gs).map Prod.snd) := m1.map _
          refine q _ p M sF npH (by rw [upd_same, keyed_refs]; rfl) (fun x m => pm.mem_iff.mp (kp.sub x (m1.mem_iff.mp m))) ⟨fun x => ?_, pmk.nodup_iff.mpr kp.nodup, ris⟩
          rw [pmk.mem_iff, kp.mem (fun x m => (hN x m).2.lw) x]
          exact least_iff (fun z => (pm.map Prod.snd).mem_iff) x
theorem ok_p_least (T : Tx K mg) : FnOk P w K mg base CX0 6 T.f_p_least T.fd_p_least P_p_least sp_least := by
  have G_p_least_up_to : FnOk P w K mg base CX0 5 T.f_p_least_up_to T.fd_p_least_up_to P_p_least_up_to sp_least_up := ok_p_least_up_to T
  refine T.F_p_least.ok sc_p_least (fun vs H Q E h => ?_) (fun cdv A outer s H vs Q E hr h => ?_)
  · obtain ⟨l, L, n, rfl, _⟩ := h
    rfl
  · obtain ⟨l, L, n, rfl, hl, few, n1, hL, q⟩ := h
    refine ⟨_, 
      (pss_one (ps_ret (pe_call G_p_least_up_to (hr.mono (by decide)) (by rfl) T.g_p_least_up_to T.F_p_least_up_to.kp T.b_p_least_up_to .nil pass0 (pa_cons (L2.pv 0) (pa_cons (pe_callB call_len_seq (by rfl) T.m_len PySem.boot_len (pa_cons (L2.pv 0) pa_nil)) pa_nil))))), ?_⟩
    refine ⟨.ref l, rfl, .ref l, rfl, l, rfs L, rfl, .inl (.of hl), l, L, n, _, rfl, ?_, hl, few, n1, hL, q⟩
    unfold rfs
    rw [List.length_map]
    exact Int.le_refl _

/-! ### scenes as data that is compared -/
def sceneP (p : Scn) : PyData := .tuple [.tuple (txsD p.1), .tuple (txsD p.2)]
structure Asc (p : Scn) : Prop where
  s : ∀ l ∈ p.1, ascii l
  w : ∀ l ∈ p.2, ascii l
theorem sc_asc {H : Hp} {a : Addr} {p : Scn} (h : ScAt H a p) : Asc p := by
  obtain ⟨_, sa, wa, e, _, _, _, ha, hsa, hwa, h1, h2⟩ := scene_at h
  exact ⟨h1, h2⟩
theorem sc_dp {H : Hp} {a : Addr} {p : Scn} (h : ScAt H a p) : Dp K H (.ref a) (sceneP p) := by
  obtain ⟨_, sa, wa, e, _, _, _, ha, hsa, hwa, _, _⟩ := scene_at h
  cases e
  exact .tup (.of ha) (.cons (.tup (.of hsa) (txs_dp _)) (.cons (.tup (.of hwa) (txs_dp _)) .nil))
theorem sc_lay {p : Scn} (h : Asc p) : PyData.canLay0 (sceneP p) = true := by
  rw [show PyData.canLay0 (sceneP p) = (PyData.canLayAll0 (txsD p.1) && (PyData.canLayAll0 (txsD p.2) && true)) from rfl, txs_lay h.s, txs_lay h.w]
  rfl
theorem sc_depth (p : Scn) : PyData.depth (sceneP p) = 2 := by
  rw [show PyData.depth (sceneP p) = max (PyData.depthAll (txsD p.1) + 1) (max (PyData.depthAll (txsD p.2) + 1) 0) + 1 from rfl, txs_depth, txs_depth]
  rfl
theorem sc_shaped {p : Scn} (h : Asc p) : SeqAt.shaped (sceneP p) = true := by
  unfold SeqAt.shaped
  rw [sc_lay h, sc_depth]
  rfl
theorem sc_eqv (p q : Scn) : PyData.eqv (sceneP p) (sceneP q) = decide (p = q) := by
  show (PyData.eqvAll (txsD p.1) (txsD q.1) && (PyData.eqvAll (txsD p.2) (txsD q.2) && true)) = _
  rw [tup_eqv, tup_eqv, Bool.and_true]
  by_cases h1 : p.1 = q.1
  · by_cases h2 : p.2 = q.2
    · have : p = q := Prod.ext h1 h2
      simp [this]
    · have : p ≠ q := fun e => h2 (by rw [e])
      simp [h2, this]
  · have : p ≠ q := fun e => h1 (by rw [e])
    simp [h1, this]
/-- x lies above no other one of F -/
def mn (F : List (Addr × Scn)) (x : Addr × Scn) : Bool := !(F.any fun y => decide (y.2 ≠ x.2) && up x.2 y.2)
theorem mn_least {F : List (Addr × Scn)} (nd : (F.map Prod.snd).Nodup) (x : Scn) : x ∈ (F.filter (mn F)).map Prod.snd ↔ Least (F.map Prod.snd) x := by
  constructor
  · intro m
    obtain ⟨p, mp, rfl⟩ := List.mem_map.mp m
    obtain ⟨m1, m2⟩ := List.mem_filter.mp mp
    refine ⟨List.mem_map_of_mem m1, fun y my ne => ?_⟩
    obtain ⟨y2, my2, rfl⟩ := List.mem_map.mp my
    unfold mn at m2
    rw [Bool.not_eq_true', List.any_eq_false] at m2
    have := m2 y2 my2
    rw [decide_eq_true ne, Bool.true_and] at this
    simpa using this
  · intro ⟨m, h⟩
    obtain ⟨p, mp, rfl⟩ := List.mem_map.mp m
    refine List.mem_map_of_mem (List.mem_filter.mpr ⟨mp, ?_⟩)
    unfold mn
    rw [Bool.not_eq_true', List.any_eq_false]
    intro y my
    by_cases e : y.2 = p.2
    · simp [e]
    · simp [h y.2 (List.mem_map_of_mem my) e]
theorem ok_least (T : Tx K mg) : FnOk P w K mg base CX0 3 T.f_least T.fd_least P_least sp_least := by
  have G_above : FnOk P w K mg base CX0 2 T.f_above T.fd_above P_above (sp_above K) := ok_above T
  refine T.F_least.ok sc_least (fun vs H Q E h => ?_) (fun cdv A outer s H vs Q E hr h => ?_)
  · obtain ⟨l, L, n, rfl, _⟩ := h
    rfl
  · obtain ⟨l, L, n, rfl, hl, few, n1, hL, q⟩ := h
    refine ⟨_, 
      (pss_cons (ps_set (i := 1) sc_least.nd rfl (.inr rfl) (pe_callB (LB.cr_sortNS (by rfl) hr.units) (by rfl) T.m_sorted (by decide +kernel) (pa_cons (pe_callTy (LB.cr_setN (by rfl) hr.units) (by rfl) T.m_set (by decide +kernel) (pa_cons (L2.pv 0) pa_nil)) pa_nil)))
      (pss_one (ps_ret (pe_lc (own := [("_law_one", 2)]) (g := (gName 2)) (by rfl) sc_least.nd (pi_list (L2.pv 1)) (blkOk_by (own := [("_law_one", 2)]) (N := N_least) (sc := defScope s_least) (by decide +kernel)) (fun _ _ _ _ _ => (pg_name (i := 2) sc_least.nd rfl (.inr rfl))) (fun _ _ _ _ _ => (pts_one (pt_not (pt_val (pe_callB (r := rAny K) (cr_any rfl) (by rfl) T.m_any (by decide +kernel) (pa_cons (pe_lc (own := [("_law_other", 3)]) (g := (gName 3)) (tt := tYes) (wi := iList K (tVar 1)) (by rfl) sc_least.nd (pi_list (L2.pv 1)) (blkOk_by (own := [("_law_other", 3)]) (N := N_least) (sc := relS { kind := .function, names := [(PySem.Str.ofString ".0", PySem.NameKind.local), (PySem.Str.ofString "_law_one", PySem.NameKind.cell), (PySem.Str.ofString "any", PySem.NameKind.globalImplicit), (PySem.Str.ofString "_law_found", PySem.NameKind.free)], isGenerator := false, isCoroutine := false, more := [] : PySem.Scope } (defScope s_least)) (by decide +kernel)) (fun _ _ _ _ _ => (pg_name (i := 3) sc_least.nd rfl (.inl rfl))) (fun _ _ _ _ _ => pts_nil) (fun _ _ _ _ _ => (pe_and (pe_cmpR (r := rNeD K) (op_neD hr.units) (L2.pv 3) (L2.pv 2) (nomark _)) (pe_one (pe_call G_above (hr.mono (by decide)) (by rfl) T.g_above T.F_above.kp T.b_above .nil pass0 (pa_cons (L2.pv 2) (pa_cons (L2.pv 3) pa_nil))))))) pa_nil)))))) (fun _ _ _ _ _ => (L2.pv 2)))))), ?_⟩
    have kln : (keyed L).length = L.length := List.length_map _
    refine ⟨.ref l, rfl, l, keyed L, rfl, .of (by rw [hl, keyed_refs]; rfl), keys_in (fun p m => (hL p m).1), by rw [kln]; exact few, fun a U nU u => ?_⟩
    obtain ⟨U, rfl, sU⟩ := keyed_back u.sub
    have s1 : Same H (upd H a (NSetO P w a (keyed U))) := same_new nU
    refine ⟨a, keyed U, rfl, upd_same, keys_in (fun p m => (hL p (sU p m)).1.mv (Same.kp s1)), keyed_sortable _, fun L' p pm ris np => ?_⟩
    obtain ⟨F, m1, m2⟩ := perm_pull (f := fun p : Addr × Scn => (p.1, sceneK p.2)) pm rfl
    have eL : L' = keyed F := m2
    subst eL
    have sF : ∀ x ∈ F, x ∈ L := fun x m => sU x (m1.mem_iff.mp m)
    have ndU : (U.map Prod.snd).Nodup := by
      have := u.nd
      rw [keyed_keys] at this
      exact nodup_of_map' this
    have ndF : (F.map Prod.snd).Nodup := (m1.map Prod.snd).nodup_iff.mpr ndU
    have setF : ∀ z, z ∈ F.map Prod.snd ↔ z ∈ L.map Prod.snd := fun z => by
      rw [(m1.map Prod.snd).mem_iff]
      constructor
      · intro m
        obtain ⟨x, mx, rfl⟩ := List.mem_map.mp m
        exact List.mem_map_of_mem (sU x mx)
      · intro m
        obtain ⟨x, mx, rfl⟩ := List.mem_map.mp m
        have := u.all (x.1, sceneK x.2) (List.mem_map_of_mem (f := fun p : Addr × Scn => (p.1, sceneK p.2)) mx)
        rw [keyed_keys] at this
        obtain ⟨y, my, ey⟩ := List.mem_map.mp this
        rw [← sceneK_inj ey]
        exact my
    have fF : F.length ≤ L.length := by
      rw [m1.length_eq]
      have : U.Nodup := nodup_of_map' ndU
      exact nodup_le this sU
    have npH : H p = none := s1.free np
    have s2 : Same H (upd (upd H a (NSetO P w a (keyed U))) p (.lst (refsV (keyed F)))) := s1.trans (same_new np)
    have eF : refsV (keyed F) = rfs F := keyed_refs F
    rw [eF] at s2 ⊢
    have lF : (rfs F).length = F.length := List.length_map _
    refine ⟨.ref p, rfl, p, rfl, ⟨_, .of upd_same⟩, fun D nD => ?_⟩
    have nDH : H D = none := s2.free nD
    have pD : p ≠ D := fun e => by
      rw [← e, upd_same] at nD
      cases nD
    refine lc_it (walk_list (K := K) (a := p) (xs := rfs F)) (fun i G => Same H G ∧ G p = some (.lst (rfs F)) ∧ G D = some (.lst (rfs ((F.take i).filter (mn F))))) ⟨same_mut s2 nDH, (upd_ne pD).trans upd_same, upd_same⟩ (fun i G _ h => .of h.2.1) (fun i x G1 G hi h yy => ?_) (fun G h => ?_)
    · obtain ⟨sG, hp, hD⟩ := h
      obtain ⟨rfl, hx⟩ := yy
      rw [lF] at hi
      have ex : x = .ref F[i].1 := by
        unfold rfs at hx
        rw [List.getElem?_map, List.getElem?_eq_getElem hi] at hx
        exact (Option.some.inj hx).symm
      subst ex
      obtain ⟨sx, fx⟩ := hL _ (sF _ (List.getElem_mem hi))
      have tk : (F.take (i + 1)).filter (mn F) = (F.take i).filter (mn F) ++ (if mn F F[i] = true then [F[i]] else []) := by
        rw [List.take_add_one, List.getElem?_eq_getElem hi, List.filter_append]
        congr 1
        simp [List.filter_cons]
      refine ⟨rfl, .ref p, rfl, p, rfl, ⟨_, .of hp⟩, fun D2 nD2 => ?_⟩
      have nD2H : H D2 = none := sG.free nD2
      have DD : D ≠ D2 := ne_of_none hD nD2
      have pD2 : p ≠ D2 := ne_of_none hp nD2
      refine lc_it (walk_list (K := K) (a := p) (xs := rfs F)) (fun j G => Same H G ∧ G p = some (.lst (rfs F)) ∧ G D = some (.lst (rfs ((F.take i).filter (mn F)))) ∧ G D2 = some (.lst (((F.take j).map fun y => (decide (y.2 ≠ F[i].2) && up F[i].2 y.2)).map V.bl)))
        ⟨same_mut sG nD2H, (upd_ne pD2).trans hp, (upd_ne DD).trans hD, upd_same⟩ (fun j G _ h => .of h.2.1) (fun j x G1 G hj h yy => ?_) (fun G h => ?_)
      · obtain ⟨k1, k2, k3, k4⟩ := h
        obtain ⟨rfl, hx⟩ := yy
        rw [lF] at hj
        have ex : x = .ref F[j].1 := by
          unfold rfs at hx
          rw [List.getElem?_map, List.getElem?_eq_getElem hj] at hx
          exact (Option.some.inj hx).symm
        subst ex
        obtain ⟨sy, fy⟩ := hL _ (sF _ (List.getElem_mem hj))
        have sx1 := sx.mv (Same.kp k1)
        have sy1 := sy.mv (Same.kp k1)
        have fin : ∀ G2, Same G G2 → ∀ b, b = (decide (F[j].2 ≠ F[i].2) && up F[i].2 F[j].2) → ∃ acc, G2 D2 = some (.lst acc) ∧ acc.length < sizeLine ∧ Same H (upd G2 D2 (.lst (acc ++ [V.bl b]))) ∧ (upd G2 D2 (.lst (acc ++ [V.bl b]))) p = some (.lst (rfs F)) ∧
            (upd G2 D2 (.lst (acc ++ [V.bl b]))) D = some (.lst (rfs ((F.take i).filter (mn F)))) ∧ (upd G2 D2 (.lst (acc ++ [V.bl b]))) D2 = some (.lst (((F.take (j + 1)).map fun y => (decide (y.2 ≠ F[i].2) && up F[i].2 y.2)).map V.bl)) := fun G2 s3 b eb => by
          refine ⟨_, s3 _ _ k4, ?_, same_mut (k1.trans s3) nD2H, (upd_ne pD2).trans (s3 _ _ k2), (upd_ne DD).trans (s3 _ _ k3), ?_⟩
          · rw [List.length_map, List.length_map, List.length_take]
            exact small1000 (by omega)
          · rw [upd_same, List.take_add_one, List.getElem?_eq_getElem hj, List.map_append, List.map_append, eb]
            rfl
        refine ⟨rfl, .ref F[j].1, rfl, .ref F[i].1, rfl, _, _, sc_dp sy1, sc_dp sx1, sc_shaped (sc_asc sy), sc_shaped (sc_asc sx), _, rfl, ?_⟩
        rw [sc_eqv]
        by_cases e : F[j].2 = F[i].2
        · rw [decide_eq_true e]
          refine iteF ?_
          exact fin G (.refl G) _ (by simp [e])
        · rw [decide_eq_false e]
          refine iteT ?_
          refine ⟨.ref F[i].1, rfl, .ref F[j].1, rfl, (fun _ => False), (fun _ => False), .ref F[i].1, .ref F[j].1, F[i].2.1, F[i].2.2, F[j].2.1, F[j].2.2, rfl, sx1, sy1, fx.lw.trans fy.lw.symm, by rw [fx.lw]; exact n1, fx.ls, fx.bw, fy.bw, fun G2 s3 => ?_⟩
          exact fin G2 s3 _ (by rw [decide_eq_true e, Bool.true_and]; rfl)
      · obtain ⟨k1, k2, k3, k4⟩ := h
        rw [lF, List.take_length] at k4
        refine ⟨D2, _, rfl, .of k4, _, rfl, ?_⟩
        have ea : (F.map fun y => (decide (y.2 ≠ F[i].2) && up F[i].2 y.2)).any id = !(mn F F[i]) := by
          unfold mn
          rw [Bool.not_not, List.any_map]
          rfl
        rw [ea]
        cases em : mn F F[i] with
        | true =>
          refine iteT ?_
          refine ⟨.ref F[i].1, rfl, _, k3, ?_, same_mut k1 nDH, (upd_ne pD).trans k2, ?_⟩
          · unfold rfs
            rw [List.length_map]
            have := List.length_filter_le (mn F) (F.take i)
            rw [List.length_take] at this
            exact small1000 (by omega)
          · rw [upd_same, tk, em]
            unfold rfs
            rw [List.map_append]
            rfl
        | false =>
          refine iteF ⟨k1, k2, ?_⟩
          rw [k3, tk, em]
          simp
    · obtain ⟨sG, hp, hD⟩ := h
      rw [lF, List.take_length] at hD
      refine q G D _ sG nDH hD (fun x m => sF x (List.mem_filter.mp m).1) ⟨fun x => ?_, ?_, ?_⟩
      · rw [mn_least ndF]
        exact least_iff setF x
      · exact ndF.sublist (List.filter_sublist.map Prod.snd)
      · exact ris.sublist (List.filter_sublist.map _)

/-! ### lists of scenes -/
def scenesP (L : List (Addr × Scn)) : PyData := .list (L.map fun x => sceneP x.2)
theorem scs_dp {G : Hp} : ∀ {L : List (Addr × Scn)}, (∀ x ∈ L, ScAt G x.1 x.2) → DpAll K G (rfs L) (L.map fun x => sceneP x.2)
  | [], _ => .nil
  | x :: L, h => .cons (sc_dp (h x List.mem_cons_self)) (scs_dp fun y m => h y (List.mem_cons_of_mem _ m))
theorem scs_lay : ∀ {L : List (Addr × Scn)}, (∀ x ∈ L, Asc x.2) → PyData.canLayAll0 (L.map fun x => sceneP x.2) = true
  | [], _ => rfl
  | x :: L, h => by
    show (PyData.canLay0 (sceneP x.2) && PyData.canLayAll0 (L.map fun x => sceneP x.2)) = true
    rw [sc_lay (h x List.mem_cons_self), scs_lay fun y m => h y (List.mem_cons_of_mem _ m)]
    rfl
theorem scs_depth : ∀ L : List (Addr × Scn), PyData.depthAll (L.map fun x => sceneP x.2) ≤ 2
  | [] => Nat.zero_le _
  | x :: L => by
    show max (PyData.depth (sceneP x.2)) (PyData.depthAll (L.map fun x => sceneP x.2)) ≤ 2
    rw [sc_depth]
    have := scs_depth L
    omega
theorem scs_can {L : List (Addr × Scn)} (h : ∀ x ∈ L, Asc x.2) : PyData.canLay0 (scenesP L) = true := scs_lay h
theorem scs_shaped {L : List (Addr × Scn)} (h : ∀ x ∈ L, Asc x.2) : SeqAt.shaped (scenesP L) = true := by
  unfold SeqAt.shaped
  rw [scs_can h, Bool.true_and, decide_eq_true_eq]
  show PyData.depthAll (L.map fun x => sceneP x.2) + 1 ≤ 64
  have := scs_depth L
  omega
theorem scs_nil (L : List (Addr × Scn)) : PyData.eqv (scenesP L) (.list []) = L.isEmpty := by
  cases L <;> rfl
theorem sam_scenes {G : Hp} : ∀ {M N : List (Addr × Scn)}, M.map Prod.snd = N.map Prod.snd → (∀ x ∈ M, ScAt G x.1 x.2) → (∀ x ∈ N, ScAt G x.1 x.2) → Paired (Sam K G 2) (rfs M) (rfs N)
  | [], [], _, _, _ => .nil
  | x :: M, y :: N, e, h1, h2 => by
    rw [List.map_cons, List.map_cons] at e
    injection e with e1 e2
    have a := h1 x List.mem_cons_self
    have b := h2 y List.mem_cons_self
    unfold ScAt at a
    rw [e1] at a
    exact .cons (rp_sam a b) (sam_scenes e2 (fun z m => h1 z (List.mem_cons_of_mem _ m)) fun z m => h2 z (List.mem_cons_of_mem _ m))
  | [], _ :: _, e, _, _ => by simp at e
  | _ :: _, [], e, _, _ => by simp at e
/-! ### the law -/
def sp_law (K : PySem.W.Frag) : Sp := fun vs H Q _ => ∃ (a : Addr) (ns : List Int), vs = [.ref a] ∧ SqL K H a (ns.map V.int) ∧ ns.length ≤ 63 ∧ ∀ H', Q (.bl true) H'
theorem ok_law_at (T : Tx K mg) : FnOk P w K mg base CX0 7 T.f_law T.fd_law P_law (sp_law K) := by
  have G_bag : FnOk P w K mg base CX0 1 T.f_bag T.fd_bag P_bag (sp_bag K) := ok_bag T
  have G_pull : FnOk P w K mg base CX0 1 T.f_pull T.fd_pull P_pull sp_pull := ok_pull T
  have G_of : FnOk P w K mg base CX0 2 T.f_of T.fd_of P_of sp_of := ok_of T
  have G_plan : FnOk P w K mg base CX0 5 T.f_plan T.fd_plan P_plan sp_plan := ok_plan T
  have G_scene : FnOk P w K mg base CX0 4 T.f_scene T.fd_scene P_scene sp_scene := ok_scene T
  have G_least : FnOk P w K mg base CX0 3 T.f_least T.fd_least P_least sp_least := ok_least T
  have G_p_least : FnOk P w K mg base CX0 6 T.f_p_least T.fd_p_least P_p_least sp_least := ok_p_least T
  have G_same : FnOk P w K mg base CX0 4 T.f_same T.fd_same P_same (sp_same K 3) := ok_same T 3
  refine T.F_law.ok sc_law (fun vs H Q E h => ?_) (fun cdv A outer s H vs Q E hr h => ?_)
  · obtain ⟨a, ns, rfl, _⟩ := h
    rfl
  · obtain ⟨a, ns, rfl, hS, hlen, q⟩ := h
    refine ⟨_, 
      (pss_cons (ps_set (i := 1) sc_law.nd rfl (.inr rfl) (pe_call G_bag (hr.mono (by decide)) (by rfl) T.g_bag T.F_bag.kp T.b_bag .nil pass0 (pa_cons (L2.pv 0) pa_nil)))
      (pss_cons (ps_for PassesOwn.never rfl (pi_range1 (by rfl) T.m_range (pa_cons pe_int pa_nil)) (pg_name (i := 2) sc_law.nd rfl (.inl rfl))
        (pss_cons (ps_set (i := 3) sc_law.nd rfl (.inr rfl) (pe_call G_plan (hr.mono (by decide)) (by rfl) T.g_plan T.F_plan.kp T.b_plan .nil pass0 (pa_cons (L2.pv 1) (pa_cons (pe_call G_pull (hr.mono (by decide)) (by rfl) T.g_pull T.F_pull.kp T.b_pull .nil pass0 (pa_cons (L2.pv 1) (pa_cons pe_int pa_nil))) (pa_cons pe_int (pa_cons (pe_call G_pull (hr.mono (by decide)) (by rfl) T.g_pull T.F_pull.kp T.b_pull .nil pass0 (pa_cons (L2.pv 1) (pa_cons pe_int pa_nil))) (pa_cons (pe_call G_pull (hr.mono (by decide)) (by rfl) T.g_pull T.F_pull.kp T.b_pull .nil pass0 (pa_cons (L2.pv 1) (pa_cons pe_int pa_nil))) pa_nil)))))))
        (pss_cons (ps_setLc (i := 5) (own := [("_law_k", 4)]) (g := (gName 4)) (tt := tYes) (by rfl) sc_law.nd rfl rfl (sw_true rfl rfl rfl (by decide +kernel)) (pi_range1 (by rfl) T.m_range (pa_cons (pe_call G_pull (hr.mono (by decide)) (by rfl) T.g_pull T.F_pull.kp T.b_pull .nil pass0 (pa_cons (L2.pv 1) (pa_cons pe_int pa_nil))) pa_nil)) (blkOk_by (own := [("_law_k", 4)]) (N := N_law) (sc := defScope s_law) (by decide +kernel)) (fun _ _ _ _ _ => (pg_name (i := 4) sc_law.nd rfl (.inl rfl))) (fun _ _ _ _ _ => pts_nil) (fun _ _ _ _ _ => (pe_call G_scene (hr.mono (by decide)) (by rfl) T.g_scene T.F_scene.kp T.b_scene .nil pass0 (pa_cons (L2.pv 1) (pa_cons (L2.pv 3) (pa_cons pe_int pa_nil))))))
        (pss_cons (ps_for PassesOwn.never rfl (pi_range1 (by rfl) T.m_range (pa_cons (pe_op op_mul (pe_call G_pull (hr.mono (by decide)) (by rfl) T.g_pull T.F_pull.kp T.b_pull .nil pass0 (pa_cons (L2.pv 1) (pa_cons pe_int pa_nil))) (pe_callTy call_int1 (by rfl) T.m_int (by decide +kernel) (pa_cons (pe_cmpR (op_neD hr.units) (L2.pv 5) (pe_lst pa_nil) (nomark _)) pa_nil))) pa_nil)) (pg_name (i := 4) sc_law.nd rfl (.inl rfl))
          (pss_one (ps_expr (pe_bm PySem.F.plainAttrs_list PySem.F.slot_list_insert PySem.F.type_list_insert mt_insert (L2.pv 5) (pa_cons (pe_call G_pull (hr.mono (by decide)) (by rfl) T.g_pull T.F_pull.kp T.b_pull .nil pass0 (pa_cons (L2.pv 1) (pa_cons (pe_op op_add (pe_callB call_len_seq (by rfl) T.m_len PySem.boot_len (pa_cons (L2.pv 5) pa_nil)) pe_int) pa_nil))) (pa_cons (pe_call G_of (hr.mono (by decide)) (by rfl) T.g_of T.F_of.kp T.b_of .nil pass0 (pa_cons (L2.pv 1) (pa_cons (L2.pv 5) pa_nil))) pa_nil))))))
        (pss_cons (ps_set (i := 6) sc_law.nd rfl (.inl rfl) (pe_callTy call_list_of (by rfl) T.m_list (by decide +kernel) (pa_cons (L2.pv 5) pa_nil)))
        (pss_cons (ps_set (i := 7) sc_law.nd rfl (.inl rfl) (pe_call G_least (hr.mono (by decide)) (by rfl) T.g_least T.F_least.kp T.b_least .nil pass0 (pa_cons (L2.pv 5) pa_nil)))
        (pss_cons (ps_set (i := 8) sc_law.nd rfl (.inl rfl) (pe_call G_p_least (hr.mono (by decide)) (by rfl) T.g_p_least T.F_p_least.kp T.b_p_least .nil pass0 (pa_cons (L2.pv 6) pa_nil)))
        (pss_cons (ps_if (PW.pt (pw_or (pt_not (pt_val (pe_call G_same (hr.mono (by decide)) (by rfl) T.g_same T.F_same.kp T.b_same .nil pass0 (pa_cons (L2.pv 8) (pa_cons (L2.pv 7) pa_nil))))) (pw_or1 (pt_cmpR (op_neD hr.units) (L2.pv 6) (L2.pv 5) (nomark _)))))
          (pss_one (ps_ret pe_bl))
          pss_nil)
        (pss_cons (ps_expr (pe_bm PySem.F.plainAttrs_list PySem.F.slot_list_append PySem.F.type_list_append mt_append (L2.pv 8) (pa_cons pe_int pa_nil)))
        (pss_cons (ps_expr (pe_bm0 PySem.F.plainAttrs_list PySem.F.slot_list_clear PySem.F.type_list_clear mt_clear (L2.pv 6)))
        (pss_one (ps_if (PW.pt (pw_or (pt_not (pt_val (pe_call G_same (hr.mono (by decide)) (by rfl) T.g_same T.F_same.kp T.b_same .nil pass0 (pa_cons (pe_call G_p_least (hr.mono (by decide)) (by rfl) T.g_p_least T.F_p_least.kp T.b_p_least .nil pass0 (pa_cons (L2.pv 5) pa_nil)) (pa_cons (L2.pv 7) pa_nil))))) (pw_or1 (pt_not (pt_val (pe_call G_same (hr.mono (by decide)) (by rfl) T.g_same T.F_same.kp T.b_same .nil pass0 (pa_cons (pe_call G_p_least (hr.mono (by decide)) (by rfl) T.g_p_least T.F_p_least.kp T.b_p_least .nil pass0 (pa_cons (pe_revL (L2.pv 5)) pa_nil)) (pa_cons (L2.pv 7) pa_nil))))))))
          (pss_one (ps_ret pe_bl))
          pss_nil))))))))))))
      (pss_one (ps_ret (pe_call G_same (hr.mono (by decide)) (by rfl) T.g_same T.F_same.kp T.b_same .nil pass0 (pa_cons (pe_call G_p_least (hr.mono (by decide)) (by rfl) T.g_p_least T.F_p_least.kp T.b_p_least .nil pass0 (pa_cons (pe_lst pa_nil) pa_nil)) (pa_cons (pe_lst pa_nil) pa_nil))))))), ?_⟩
    refine ⟨.ref a, rfl, a, ns, rfl, hS, hlen, fun H1 b cl s1 hB nb => ?_⟩
    refine ⟨4, rfl, by decide, by decide, for_range (lo := 0) (n := 4) (fun _ σ H' => ∃ y2 y3 y4 y5 y6 y7 y8, σ = [some (.ref a), some (.ref b), y2, y3, y4, y5, y6, y7, y8] ∧ BX b cl H1 H') ⟨none, none, none, none, none, none, none, rfl, .refl hB⟩ (fun i σ H3 hi h => ?_) (fun σ H' h => ?_)⟩
    · obtain ⟨y2, y3, y4, y5, y6, y7, y8, rfl, x3⟩ := h
      -- the plan
      refine ⟨.ref b, rfl, .ref b, rfl, b, cl, 3, rfl, x3.bag, by decide, by decide, fun G1 ma z1 ma0 ma1 => ?_⟩
      refine ⟨.ref b, rfl, b, cl, 3, rfl, z1.bag, by decide, by decide, fun G2 ro z2 ro0 ro1 => ?_⟩
      refine ⟨.ref b, rfl, b, cl, 5, rfl, z2.bag, by decide, by decide, fun G3 mo z3 mo0 mo1 => ?_⟩
      obtain ⟨ma, rfl⟩ := Int.eq_ofNat_of_zero_le ma0
      obtain ⟨ro, rfl⟩ := Int.eq_ofNat_of_zero_le ro0
      obtain ⟨mo, rfl⟩ := Int.eq_ofNat_of_zero_le mo0
      have z13 := x3.trans (z1.trans (z2.trans z3))
      refine ⟨b, cl, ma, 3, ro, mo, rfl, z13.bag, by omega, by decide, by decide, by omega, by omega, fun G4 d p z4 hP oP => ?_⟩
      have z14 := z13.trans z4
      have hP4 : Plan (· = b) G4 d p := hP.weak fun c e => by rw [e]; exact Bag.old z13.bag
      have l1 : p.letters.length < 1000 := by have := oP.ll.2; omega
      have m1 : p.machines.length < 900 := by rw [oP.lm]; omega
      have r1 : p.rows.length < 900 := by rw [oP.lr]; omega
      have v1 : p.moves.length ≤ 400 := by rw [oP.lv]; split <;> omega
      have nn : p.rows.length < 1000 := by omega
      -- the scenes
      refine ⟨.ref b, rfl, b, cl, 15, rfl, z4.bag, by decide, by decide, fun G5 cnt z5 c0 c1 => ⟨cnt, rfl, by omega, by omega, fun D nD => ?_⟩⟩
      have nD4 : G4 D = none := z5.back nD
      have Db : D ≠ b := z4.bag.nb nD4
      have avb : (fun c => c = b ∨ c = D) b := .inl rfl
      refine lc_range (lo := 0) (n := cnt.toNat) (fun i G => BX b cl G4 G ∧ ∃ L : List (Addr × Scn), L.length = i ∧ (∀ x ∈ L, Rp (fun c => c = b ∨ c = D) G 2 (.ref x.1) (sceneD x.2.1 x.2.2) ∧ Fit p.rows.length x.2) ∧ G D = some (.lst (rfs L))) ⟨z5.mut z4.bag nD4, [], rfl, (fun _ z => nomatch z), upd_same⟩ (fun i G hi h => ?_) (fun G h => ?_)
      · obtain ⟨xG, L, lL, hL, eD⟩ := h
        refine ⟨rfl, .ref b, rfl, .ref d, rfl, b, cl, d, p, 4, rfl, xG.bag, hP4.mv (xG.kp rfl), oP.ll.1, l1, m1, r1, v1, by decide, by decide, fun G6 x ss ws x6 rx oS => ?_⟩
        have rx6 : Rp (fun c => c = b ∨ c = D) G6 2 x (sceneD ss ws) := rx.weak fun c e => by
          rcases e with e | e
          · rw [e]; exact Bag.old xG.bag
          · rw [e]; exact Old.of eD
        obtain ⟨xa, sa, wa, rfl, _⟩ := scene_at rx6
        have eD6 := x6.keep D _ Db eD
        have kD : Kp (fun c => c = b ∨ c = D) G6 (upd G6 D (.lst (rfs L ++ [V.ref xa]))) := .mut (.inr rfl)
        refine ⟨_, eD6, ?_, (xG.trans x6).mut z4.bag nD4, L ++ [(xa, (ss, ws))], by rw [List.length_append, lL]; rfl, fun y my => ?_, ?_⟩
        · unfold rfs
          rw [List.length_map]
          exact small1000 (by omega)
        · rcases List.mem_append.mp my with my | my
          · exact ⟨((hL y my).1.mv (x6.kp avb)).mv kD, (hL y my).2⟩
          · rw [List.mem_singleton.mp my]
            exact ⟨rx6.mv kD, oS.lw, by show ss.length < 1000; rw [oS.ls]; omega, fun w hw => by have := (oS.wd w hw).1; omega⟩
        · rw [upd_same]
          unfold rfs
          rw [List.map_append]
          rfl
      · obtain ⟨xG, L, lL, hL, eD⟩ := h
        -- some of them twice
        refine ⟨.ref b, rfl, b, cl, 3, rfl, xG.bag, by decide, by decide, fun G6 t x6 t0 t1 => ?_⟩
        have eD6 := x6.keep D _ Db eD
        have x46 := xG.trans x6
        have hL6 : ∀ x ∈ L, Rp (fun c => c = b ∨ c = D) G6 2 (.ref x.1) (sceneD x.2.1 x.2.2) ∧ Fit p.rows.length x.2 := fun x m => ⟨(hL x m).1.mv (x6.kp avb), (hL x m).2⟩
        have scOf : ∀ {G : Hp} {x : Addr × Scn}, Rp (fun c => c = b ∨ c = D) G 2 (.ref x.1) (sceneD x.2.1 x.2.2) → ScAt G x.1 x.2 := fun h => h.weak fun _ z => z.elim
        refine ⟨.ref D, rfl, Nat.zero_le _, fun z nz => ?_⟩
        have sz : Same G6 (upd G6 z (.lst [])) := same_new nz
        have asL : ∀ x ∈ L, Asc x.2 := fun x m => sc_asc (scOf (hL x m).1)
        have hT : ∃ N : Nat, t * (if (!L.isEmpty) = true then 1 else 0) = (N : Int) ∧ N ≤ 2 ∧ (0 < N → 0 < L.length) := by
          cases L with
          | nil => exact ⟨0, by simp, by omega, fun h => by omega⟩
          | cons x L => exact ⟨t.toNat, by simp; omega, by omega, fun _ => by simp⟩
        obtain ⟨N, eN, hN2, hN0⟩ := hT
        refine ⟨scenesP L, .list [], .lst (.of (sz _ _ eD6)) (scs_dp fun x m => scOf ((hL6 x m).1.mv (Same.kp sz))), .lst (.of upd_same) .nil, scs_shaped asL, rfl, ?_⟩
        rw [scs_nil]
        refine .inr ⟨_, rfl, t, _, rfl, rfl, .inl ⟨by omega, by omega⟩, N, congrArg (fun z => [V.int z]) eN, by omega, by omega, ?_⟩
        have x4z := x46.andSame sz
        refine for_range (lo := 0) (n := (N : Int).toNat) (fun k σ G => ∃ y4 y6 y7 y8 L, σ = [some (.ref a), some (.ref b), some (.int (0 + i)), some (.ref d), y4, some (.ref D), y6, y7, y8] ∧ BX b cl G4 G ∧ L.length ≤ cnt.toNat + k ∧ (0 < N → 0 < L.length) ∧ (∀ x ∈ L, Rp (fun c => c = b ∨ c = D) G 2 (.ref x.1) (sceneD x.2.1 x.2.2) ∧ Fit p.rows.length x.2) ∧ G D = some (.lst (rfs L)))
          ⟨_, _, _, _, L, rfl, x4z, by omega, hN0, (fun x m => ⟨(hL6 x m).1.mv (Same.kp sz), (hL6 x m).2⟩), sz _ _ eD6⟩ (fun k σ G hk h => ?_) (fun σ G h => ?_)
        · obtain ⟨y4, y6, y7, y8, L, rfl, xg, lL, l0, hL, eD⟩ := h
          have hk2 : k < N := by omega
          have L0 := l0 (by omega)
          have lr : (rfs L).length = L.length := List.length_map _
          refine ⟨.ref D, rfl, .inl ⟨rfl, _, .of eD⟩, .ref b, rfl, .ref D, rfl, D, _, rfl, .inl (.of eD), _, _, rfl, rfl, b, cl, _, rfl, xg.bag, ?_, ?_, fun G7 at' x7 a0 a1 => ?_⟩
          · rw [lr]; omega
          · rw [lr]; omega
          rw [lr] at a1
          have eD7 := x7.keep D _ Db eD
          refine ⟨.ref b, rfl, .ref D, rfl, b, cl, x7.bag, .inl ⟨D, _, rfl, ⟨Db, eD7⟩, by rw [lr]; exact L0, by rw [lr]; omega, fun G8 v x8 hv => ?_⟩⟩
          obtain ⟨x, mx, rfl⟩ := List.mem_map.mp hv
          have eD8 := x8.keep D _ Db eD7
          have x78 := x7.trans x8
          refine ⟨D, _, at', _, rfl, rfl, eD8, by rw [lr]; exact small1000 (by omega), a0, by omega, ?_⟩
          have kD : Kp (fun c => c = b ∨ c = D) G8 (upd G8 D (.lst ((rfs L).take at'.toNat ++ [V.ref x.1] ++ (rfs L).drop at'.toNat))) := .mut (.inr rfl)
          refine ⟨_, _, _, _, L.take at'.toNat ++ [x] ++ L.drop at'.toNat, rfl, (xg.trans x78).mut z4.bag nD4, ?_, ?_, fun y my => ?_, ?_⟩
          · simp only [List.length_append, List.length_take, List.length_drop, List.length_cons, List.length_nil]
            omega
          · intro _
            simp only [List.length_append, List.length_take, List.length_drop, List.length_cons, List.length_nil]
            omega
          · have my2 : y ∈ L := by
              rcases List.mem_append.mp my with my | my
              · rcases List.mem_append.mp my with my | my
                · exact List.mem_of_mem_take my
                · rw [List.mem_singleton.mp my]; exact mx
              · exact List.mem_of_mem_drop my
            exact ⟨((hL y my2).1.mv (x78.kp avb)).mv kD, (hL y my2).2⟩
          · rw [upd_same]
            unfold rfs
            rw [List.map_append, List.map_append, List.map_take, List.map_drop]
            rfl
        · obtain ⟨y4, y6, y7, y8, L, rfl, xg, lL, _, hL, eD⟩ := h
          have lr : (rfs L).length = L.length := List.length_map _
          have few : L.length < 63 := by omega
          have sc0 : ∀ x ∈ L, ScAt G x.1 x.2 := fun x m => scOf (hL x m).1
          have fit : ∀ x ∈ L, Fit p.rows.length x.2 := fun x m => (hL x m).2
          have asL : ∀ x ∈ L, Asc x.2 := fun x m => sc_asc (sc0 x m)
          have mvS : ∀ {G' : Hp}, Same G G' → ∀ x ∈ L, ScAt G' x.1 x.2 ∧ Fit p.rows.length x.2 := fun s x m => ⟨(sc0 x m).mv (Same.kp s), fit x m⟩
          -- handed, due, found
          refine ⟨.ref D, rfl, D, rfs L, rfl, .inl (.of eD), fun h nh => ?_⟩
          have sh : Same G (upd G h (.lst (rfs L))) := same_new nh
          refine ⟨.ref D, rfl, D, L, p.rows.length, rfl, sh _ _ eD, few, nn, mvS sh, fun G8 q1 M1 s8 n8 e8 sub1 lo1 => ?_⟩
          have sh8 := sh.trans s8
          have eh8 := s8 _ _ upd_same
          refine ⟨.ref h, rfl, h, L, p.rows.length, rfl, eh8, few, nn, mvS sh8, fun G9 q2 M2 s9 n9 e9 sub2 lo2 => ?_⟩
          have sh9 := sh8.trans s9
          have eh9 := s9 _ _ eh8
          have e19 := s9 _ _ e8
          have scM : ∀ {G' : Hp} {M : List (Addr × Scn)}, Same G G' → (∀ x ∈ M, x ∈ L) → ∀ x ∈ M, ScAt G' x.1 x.2 := fun s sub x m => (mvS s x (sub x m)).1
          have lenM : ∀ {M : List (Addr × Scn)}, (∀ x ∈ M, x ∈ L) → LeastOf (L.map Prod.snd) M → (rfs M).length < 1000 := fun sub lo => by
            unfold rfs
            rw [List.length_map]
            have := nodup_le (nodup_of_map' lo.nd) sub
            omega
          refine ⟨.ref q2, rfl, .ref q1, rfl, .ref q2, .ref q1, rfl, sam_lst e9 e19 (by have := lenM sub2 lo2; omega) (sam_scenes (lo2.same lo1 fun _ => Iff.rfl) (scM sh9 sub2) (scM sh9 sub1)), fun G10 s10 => ⟨_, rfl, iteF ?_⟩⟩
          have sh10 := sh9.trans s10
          refine ⟨.ref h, rfl, .ref D, rfl, scenesP L, scenesP L, .lst (.of (s10 _ _ eh9)) (scs_dp (scM sh10 fun _ m => m)), .lst (.of (sh10 _ _ eD)) (scs_dp (scM sh10 fun _ m => m)), scs_shaped asL, scs_shaped asL, _, rfl, ?_⟩
          rw [PySem.SeqAt.eqv_refl _ (scs_can asL)]
          refine iteF ?_
          -- found and handed changed
          have e210 := s10 _ _ e9
          have e110 := s10 _ _ e19
          have eh10 := s10 _ _ eh9
          refine ⟨.ref q2, rfl, .inl ⟨rfl, _, .of e210⟩, q2, _, .int 0, rfl, rfl, e210, small1000 (by have := lenM sub2 lo2; omega), ?_⟩
          have q2G : G q2 = none := sh8.free n9
          have m1' : Same G (upd G10 q2 (.lst (rfs M2 ++ [.int 0]))) := same_mut sh10 q2G
          have hq2 : h ≠ q2 := ne_of_none eh8 n9
          have q12 : q1 ≠ q2 := ne_of_none e8 n9
          have q1h : q1 ≠ h := fun e => by
            rw [e, upd_same] at n8
            cases n8
          refine ⟨.ref h, rfl, .inl ⟨rfl, _, .of ((upd_ne hq2).trans eh10)⟩, h, _, rfl, rfl, (upd_ne hq2).trans eh10, ?_⟩
          have m2 : Same G (upd (upd G10 q2 (.lst (rfs M2 ++ [.int 0]))) h (.lst [])) := same_mut m1' nh
          have e1m : (upd (upd G10 q2 (.lst (rfs M2 ++ [.int 0]))) h (.lst [])) q1 = some (.lst (rfs M1)) := (upd_ne q1h).trans ((upd_ne q12).trans e110)
          -- asked again
          refine ⟨.ref D, rfl, D, L, p.rows.length, rfl, m2 _ _ eD, few, nn, mvS m2, fun G11 q3 M3 s11 n11 e11 sub3 lo3 => ?_⟩
          have m3 := m2.trans s11
          refine ⟨.ref q1, rfl, .ref q3, .ref q1, rfl, sam_lst e11 (s11 _ _ e1m) (by have := lenM sub3 lo3; omega) (sam_scenes (lo3.same lo1 fun _ => Iff.rfl) (scM m3 sub3) (scM m3 sub1)), fun G12 s12 => ⟨_, rfl, iteF ?_⟩⟩
          have m4 := m3.trans s12
          refine ⟨.ref D, rfl, D, rfs L, rfl, .of (m4 _ _ eD), fun r nr => ?_⟩
          have sr : Same G12 (upd G12 r (.lst (rfs L).reverse)) := same_new nr
          have m5 := m4.trans sr
          have er : (rfs L).reverse = rfs L.reverse := by
            unfold rfs
            rw [List.map_reverse]
          refine ⟨r, L.reverse, p.rows.length, rfl, by rw [upd_same, er], by rw [List.length_reverse]; exact few, nn, (fun x m => mvS m5 x (List.mem_reverse.mp m)), fun G13 q4 M4 s13 n13 e13 sub4 lo4 => ?_⟩
          have m6 := m5.trans s13
          have sub4' : ∀ x ∈ M4, x ∈ L := fun x m => List.mem_reverse.mp (sub4 x m)
          have same4 : ∀ z, z ∈ L.reverse.map Prod.snd ↔ z ∈ L.map Prod.snd := fun z => by
            rw [List.map_reverse, List.mem_reverse]
          refine ⟨.ref q1, rfl, .ref q4, .ref q1, rfl, sam_lst e13 (s13 _ _ (sr _ _ (s12 _ _ (s11 _ _ e1m)))) (by unfold rfs; rw [List.length_map]; have := nodup_le (nodup_of_map' lo4.nd) sub4'; omega) (sam_scenes (lo4.same lo1 same4) (scM m6 sub4') (scM m6 sub1)), fun G14 s14 => ⟨_, rfl, iteF ?_⟩⟩
          have m7 := m6.trans s14
          exact ⟨_, _, _, _, _, _, _, rfl, z14.trans (xg.andSame m7)⟩
    · obtain ⟨y2, y3, y4, y5, y6, y7, y8, rfl, x3⟩ := h
      refine ⟨Nat.zero_le _, fun e1 n1 => ?_⟩
      refine ⟨e1, [], 0, rfl, upd_same, by decide, by decide, (fun _ z => nomatch z), fun G8 q1 M1 s8 n8 e8 sub1 lo1 => ?_⟩
      have em : M1 = [] := by
        cases M1 with
        | nil => rfl
        | cons x M => exact absurd (sub1 x List.mem_cons_self) (by simp)
      subst em
      refine ⟨Nat.zero_le _, fun e2 n2 => ?_⟩
      exact ⟨.ref q1, .ref e2, rfl, sam_lst ((upd_ne (ne_of_none e8 n2)).trans e8) upd_same (by decide) .nil, fun G9 s9 => q _⟩

end
set_option maxHeartbeats 0 in
theorem all_mk {l : PySem.W.OpenLaw} {w : World} {K : PySem.W.Frag} {h : Heap} {mg : Str → Option Value} {fa : Addr} (X : K.In h) (G : h.Ns mainGlobals mg) (hfa : mg "law" = some (.ref fa))
    {f0 : Addr} {od0 an0 : Option Addr} {sl0 : Array (Option Value)} {oc0 kV0 dc0 pm0 cd0 ct0 : Value}
    {f1 : Addr} {od1 an1 : Option Addr} {sl1 : Array (Option Value)} {oc1 kV1 dc1 pm1 cd1 ct1 : Value}
    {f2 : Addr} {od2 an2 : Option Addr} {sl2 : Array (Option Value)} {oc2 kV2 dc2 pm2 cd2 ct2 : Value}
    {f3 : Addr} {od3 an3 : Option Addr} {sl3 : Array (Option Value)} {oc3 kV3 dc3 pm3 cd3 ct3 : Value}
    {f4 : Addr} {od4 an4 : Option Addr} {sl4 : Array (Option Value)} {oc4 kV4 dc4 pm4 cd4 ct4 : Value}
    {f5 : Addr} {od5 an5 : Option Addr} {sl5 : Array (Option Value)} {oc5 kV5 dc5 pm5 cd5 ct5 : Value}
    {f6 : Addr} {od6 an6 : Option Addr} {sl6 : Array (Option Value)} {oc6 kV6 dc6 pm6 cd6 ct6 : Value}
    {f7 : Addr} {od7 an7 : Option Addr} {sl7 : Array (Option Value)} {oc7 kV7 dc7 pm7 cd7 ct7 : Value}
    {f8 : Addr} {od8 an8 : Option Addr} {sl8 : Array (Option Value)} {oc8 kV8 dc8 pm8 cd8 ct8 : Value}
    {f9 : Addr} {od9 an9 : Option Addr} {sl9 : Array (Option Value)} {oc9 kV9 dc9 pm9 cd9 ct9 : Value}
    {f10 : Addr} {od10 an10 : Option Addr} {sl10 : Array (Option Value)} {oc10 kV10 dc10 pm10 cd10 ct10 : Value}
    {f11 : Addr} {od11 an11 : Option Addr} {sl11 : Array (Option Value)} {oc11 kV11 dc11 pm11 cd11 ct11 : Value}
    {f12 : Addr} {od12 an12 : Option Addr} {sl12 : Array (Option Value)} {oc12 kV12 dc12 pm12 cd12 ct12 : Value}
    {f13 : Addr} {od13 an13 : Option Addr} {sl13 : Array (Option Value)} {oc13 kV13 dc13 pm13 cd13 ct13 : Value}
    {f14 : Addr} {od14 an14 : Option Addr} {sl14 : Array (Option Value)} {oc14 kV14 dc14 pm14 cd14 ct14 : Value}
    {f15 : Addr} {od15 an15 : Option Addr} {sl15 : Array (Option Value)} {oc15 kV15 dc15 pm15 cd15 ct15 : Value}
    {f16 : Addr} {od16 an16 : Option Addr} {sl16 : Array (Option Value)} {oc16 kV16 dc16 pm16 cd16 ct16 : Value}
    {f17 : Addr} {od17 an17 : Option Addr} {sl17 : Array (Option Value)} {oc17 kV17 dc17 pm17 cd17 ct17 : Value}
    {f18 : Addr} {od18 an18 : Option Addr} {sl18 : Array (Option Value)} {oc18 kV18 dc18 pm18 cd18 ct18 : Value}
    {f19 : Addr} {od19 an19 : Option Addr} {sl19 : Array (Option Value)} {oc19 kV19 dc19 pm19 cd19 ct19 : Value}
    {f20 : Addr} {od20 an20 : Option Addr} {sl20 : Array (Option Value)} {oc20 kV20 dc20 pm20 cd20 ct20 : Value}
    {f21 : Addr} {od21 an21 : Option Addr} {sl21 : Array (Option Value)} {oc21 kV21 dc21 pm21 cd21 ct21 : Value}
    (a0 : PySem.W.nsIn K mainGlobals "within" = some (some (.ref f0)))
    (l0 : K.lookup f0 = some ⟨oc0, od0, .func (PySem.W.fnOf "within" "within" (defArgs s_p_within) (defBody s_p_within) (defScope s_p_within) .none kV0 dc0 pm0 an0 cd0 ct0), sl0⟩)
    (c0 : PySem.W.codeIn K cd0 "within" = true)
    (k0 : PySem.W.keepIn K (.ref f0) = true)
    (a1 : PySem.W.nsIn K mainGlobals "above" = some (some (.ref f1)))
    (l1 : K.lookup f1 = some ⟨oc1, od1, .func (PySem.W.fnOf "above" "above" (defArgs s_p_above) (defBody s_p_above) (defScope s_p_above) .none kV1 dc1 pm1 an1 cd1 ct1), sl1⟩)
    (c1 : PySem.W.codeIn K cd1 "above" = true)
    (k1 : PySem.W.keepIn K (.ref f1) = true)
    (a2 : PySem.W.nsIn K mainGlobals "above_any" = some (some (.ref f2)))
    (l2 : K.lookup f2 = some ⟨oc2, od2, .func (PySem.W.fnOf "above_any" "above_any" (defArgs s_p_above_any) (defBody s_p_above_any) (defScope s_p_above_any) .none kV2 dc2 pm2 an2 cd2 ct2), sl2⟩)
    (c2 : PySem.W.codeIn K cd2 "above_any" = true)
    (k2 : PySem.W.keepIn K (.ref f2) = true)
    (a3 : PySem.W.nsIn K mainGlobals "letters_in" = some (some (.ref f3)))
    (l3 : K.lookup f3 = some ⟨oc3, od3, .func (PySem.W.fnOf "letters_in" "letters_in" (defArgs s_p_letters_in) (defBody s_p_letters_in) (defScope s_p_letters_in) .none kV3 dc3 pm3 an3 cd3 ct3), sl3⟩)
    (c3 : PySem.W.codeIn K cd3 "letters_in" = true)
    (k3 : PySem.W.keepIn K (.ref f3) = true)
    (a4 : PySem.W.nsIn K mainGlobals "least_up_to" = some (some (.ref f4)))
    (l4 : K.lookup f4 = some ⟨oc4, od4, .func (PySem.W.fnOf "least_up_to" "least_up_to" (defArgs s_p_least_up_to) (defBody s_p_least_up_to) (defScope s_p_least_up_to) .none kV4 dc4 pm4 an4 cd4 ct4), sl4⟩)
    (c4 : PySem.W.codeIn K cd4 "least_up_to" = true)
    (k4 : PySem.W.keepIn K (.ref f4) = true)
    (a5 : PySem.W.nsIn K mainGlobals "least" = some (some (.ref f5)))
    (l5 : K.lookup f5 = some ⟨oc5, od5, .func (PySem.W.fnOf "least" "least" (defArgs s_p_least) (defBody s_p_least) (defScope s_p_least) .none kV5 dc5 pm5 an5 cd5 ct5), sl5⟩)
    (c5 : PySem.W.codeIn K cd5 "least" = true)
    (k5 : PySem.W.keepIn K (.ref f5) = true)
    (a6 : PySem.W.nsIn K mainGlobals "_law_bag" = some (some (.ref f6)))
    (l6 : K.lookup f6 = some ⟨oc6, od6, .func (PySem.W.fnOf "_law_bag" "_law_bag" (defArgs s_bag) (defBody s_bag) (defScope s_bag) .none kV6 dc6 pm6 an6 cd6 ct6), sl6⟩)
    (c6 : PySem.W.codeIn K cd6 "_law_bag" = true)
    (k6 : PySem.W.keepIn K (.ref f6) = true)
    (a7 : PySem.W.nsIn K mainGlobals "_law_pull" = some (some (.ref f7)))
    (l7 : K.lookup f7 = some ⟨oc7, od7, .func (PySem.W.fnOf "_law_pull" "_law_pull" (defArgs s_pull) (defBody s_pull) (defScope s_pull) .none kV7 dc7 pm7 an7 cd7 ct7), sl7⟩)
    (c7 : PySem.W.codeIn K cd7 "_law_pull" = true)
    (k7 : PySem.W.keepIn K (.ref f7) = true)
    (a8 : PySem.W.nsIn K mainGlobals "_law_of" = some (some (.ref f8)))
    (l8 : K.lookup f8 = some ⟨oc8, od8, .func (PySem.W.fnOf "_law_of" "_law_of" (defArgs s_of) (defBody s_of) (defScope s_of) .none kV8 dc8 pm8 an8 cd8 ct8), sl8⟩)
    (c8 : PySem.W.codeIn K cd8 "_law_of" = true)
    (k8 : PySem.W.keepIn K (.ref f8) = true)
    (a9 : PySem.W.nsIn K mainGlobals "_law_same" = some (some (.ref f9)))
    (l9 : K.lookup f9 = some ⟨oc9, od9, .func (PySem.W.fnOf "_law_same" "_law_same" (defArgs s_same) (defBody s_same) (defScope s_same) .none kV9 dc9 pm9 an9 cd9 ct9), sl9⟩)
    (c9 : PySem.W.codeIn K cd9 "_law_same" = true)
    (k9 : PySem.W.keepIn K (.ref f9) = true)
    (a10 : PySem.W.nsIn K mainGlobals "_law_letters" = some (some (.ref f10)))
    (l10 : K.lookup f10 = some ⟨oc10, od10, .func (PySem.W.fnOf "_law_letters" "_law_letters" (defArgs s_letters) (defBody s_letters) (defScope s_letters) .none kV10 dc10 pm10 an10 cd10 ct10), sl10⟩)
    (c10 : PySem.W.codeIn K cd10 "_law_letters" = true)
    (k10 : PySem.W.keepIn K (.ref f10) = true)
    (a11 : PySem.W.nsIn K mainGlobals "_law_names" = some (some (.ref f11)))
    (l11 : K.lookup f11 = some ⟨oc11, od11, .func (PySem.W.fnOf "_law_names" "_law_names" (defArgs s_names) (defBody s_names) (defScope s_names) .none kV11 dc11 pm11 an11 cd11 ct11), sl11⟩)
    (c11 : PySem.W.codeIn K cd11 "_law_names" = true)
    (k11 : PySem.W.keepIn K (.ref f11) = true)
    (a12 : PySem.W.nsIn K mainGlobals "_law_word" = some (some (.ref f12)))
    (l12 : K.lookup f12 = some ⟨oc12, od12, .func (PySem.W.fnOf "_law_word" "_law_word" (defArgs s_word) (defBody s_word) (defScope s_word) .none kV12 dc12 pm12 an12 cd12 ct12), sl12⟩)
    (c12 : PySem.W.codeIn K cd12 "_law_word" = true)
    (k12 : PySem.W.keepIn K (.ref f12) = true)
    (a13 : PySem.W.nsIn K mainGlobals "_law_plan" = some (some (.ref f13)))
    (l13 : K.lookup f13 = some ⟨oc13, od13, .func (PySem.W.fnOf "_law_plan" "_law_plan" (defArgs s_plan) (defBody s_plan) (defScope s_plan) .none kV13 dc13 pm13 an13 cd13 ct13), sl13⟩)
    (c13 : PySem.W.codeIn K cd13 "_law_plan" = true)
    (k13 : PySem.W.keepIn K (.ref f13) = true)
    (a14 : PySem.W.nsIn K mainGlobals "_law_act" = some (some (.ref f14)))
    (l14 : K.lookup f14 = some ⟨oc14, od14, .func (PySem.W.fnOf "_law_act" "_law_act" (defArgs s_act) (defBody s_act) (defScope s_act) .none kV14 dc14 pm14 an14 cd14 ct14), sl14⟩)
    (c14 : PySem.W.codeIn K cd14 "_law_act" = true)
    (k14 : PySem.W.keepIn K (.ref f14) = true)
    (a15 : PySem.W.nsIn K mainGlobals "_law_move" = some (some (.ref f15)))
    (l15 : K.lookup f15 = some ⟨oc15, od15, .func (PySem.W.fnOf "_law_move" "_law_move" (defArgs s_move) (defBody s_move) (defScope s_move) .none kV15 dc15 pm15 an15 cd15 ct15), sl15⟩)
    (c15 : PySem.W.codeIn K cd15 "_law_move" = true)
    (k15 : PySem.W.keepIn K (.ref f15) = true)
    (a16 : PySem.W.nsIn K mainGlobals "_law_held" = some (some (.ref f16)))
    (l16 : K.lookup f16 = some ⟨oc16, od16, .func (PySem.W.fnOf "_law_held" "_law_held" (defArgs s_held) (defBody s_held) (defScope s_held) .none kV16 dc16 pm16 an16 cd16 ct16), sl16⟩)
    (c16 : PySem.W.codeIn K cd16 "_law_held" = true)
    (k16 : PySem.W.keepIn K (.ref f16) = true)
    (a17 : PySem.W.nsIn K mainGlobals "_law_scene" = some (some (.ref f17)))
    (l17 : K.lookup f17 = some ⟨oc17, od17, .func (PySem.W.fnOf "_law_scene" "_law_scene" (defArgs s_scene) (defBody s_scene) (defScope s_scene) .none kV17 dc17 pm17 an17 cd17 ct17), sl17⟩)
    (c17 : PySem.W.codeIn K cd17 "_law_scene" = true)
    (k17 : PySem.W.keepIn K (.ref f17) = true)
    (a18 : PySem.W.nsIn K mainGlobals "_law_within" = some (some (.ref f18)))
    (l18 : K.lookup f18 = some ⟨oc18, od18, .func (PySem.W.fnOf "_law_within" "_law_within" (defArgs s_within) (defBody s_within) (defScope s_within) .none kV18 dc18 pm18 an18 cd18 ct18), sl18⟩)
    (c18 : PySem.W.codeIn K cd18 "_law_within" = true)
    (k18 : PySem.W.keepIn K (.ref f18) = true)
    (a19 : PySem.W.nsIn K mainGlobals "_law_above" = some (some (.ref f19)))
    (l19 : K.lookup f19 = some ⟨oc19, od19, .func (PySem.W.fnOf "_law_above" "_law_above" (defArgs s_above) (defBody s_above) (defScope s_above) .none kV19 dc19 pm19 an19 cd19 ct19), sl19⟩)
    (c19 : PySem.W.codeIn K cd19 "_law_above" = true)
    (k19 : PySem.W.keepIn K (.ref f19) = true)
    (a20 : PySem.W.nsIn K mainGlobals "_law_least" = some (some (.ref f20)))
    (l20 : K.lookup f20 = some ⟨oc20, od20, .func (PySem.W.fnOf "_law_least" "_law_least" (defArgs s_least) (defBody s_least) (defScope s_least) .none kV20 dc20 pm20 an20 cd20 ct20), sl20⟩)
    (c20 : PySem.W.codeIn K cd20 "_law_least" = true)
    (k20 : PySem.W.keepIn K (.ref f20) = true)
    (a21 : PySem.W.nsIn K mainGlobals "law" = some (some (.ref f21)))
    (l21 : K.lookup f21 = some ⟨oc21, od21, .func (PySem.W.fnOf "law" "law" (defArgs s_law) (defBody s_law) (defScope s_law) .none kV21 dc21 pm21 an21 cd21 ct21), sl21⟩)
    (c21 : PySem.W.codeIn K cd21 "law" = true)
    (k21 : PySem.W.keepIn K (.ref f21) = true)
    (z0 : PySem.W.nsIn K mainGlobals "all" = some none)
    (z1 : PySem.W.nsIn K mainGlobals "any" = some none)
    (z2 : PySem.W.nsIn K mainGlobals "bool" = some none)
    (z3 : PySem.W.nsIn K mainGlobals "int" = some none)
    (z4 : PySem.W.nsIn K mainGlobals "isinstance" = some none)
    (z5 : PySem.W.nsIn K mainGlobals "len" = some none)
    (z6 : PySem.W.nsIn K mainGlobals "list" = some none)
    (z7 : PySem.W.nsIn K mainGlobals "range" = some none)
    (z8 : PySem.W.nsIn K mainGlobals "set" = some none)
    (z9 : PySem.W.nsIn K mainGlobals "sorted" = some none)
    (z10 : PySem.W.nsIn K mainGlobals "str" = some none)
    (z11 : PySem.W.nsIn K mainGlobals "sum" = some none)
    (z12 : PySem.W.nsIn K mainGlobals "tuple" = some none)
    (z13 : PySem.W.nsIn K mainGlobals "zip" = some none)
    : ∃ fd : FuncData, (∀ (s : Shared) (v : Value), BindsTo s fd ⟨[v], []⟩ [("_law_script", v)]) ∧ ∀ base : Heap, K.In base → base.Ns mainGlobals mg → FnOk l.prog w K mg base CX0 7 fa fd ["_law_script"] (sp_law K) := by
  have e := hfa.symm.trans (PySem.W.mg_of X G a21)
  cases e
  have F0 := fun_mk (st := s_p_within) l0 c0 k0
  have b0 := F0.binds (ps := P_p_within) fun _ _ _ _ _ _ us hl => match us, hl with | [_, _], _ => rfl
  have F1 := fun_mk (st := s_p_above) l1 c1 k1
  have b1 := F1.binds (ps := P_p_above) fun _ _ _ _ _ _ us hl => match us, hl with | [_, _], _ => rfl
  have F2 := fun_mk (st := s_p_above_any) l2 c2 k2
  have b2 := F2.binds (ps := P_p_above_any) fun _ _ _ _ _ _ us hl => match us, hl with | [_, _], _ => rfl
  have F3 := fun_mk (st := s_p_letters_in) l3 c3 k3
  have b3 := F3.binds (ps := P_p_letters_in) fun _ _ _ _ _ _ us hl => match us, hl with | [_], _ => rfl
  have F4 := fun_mk (st := s_p_least_up_to) l4 c4 k4
  have b4 := F4.binds (ps := P_p_least_up_to) fun _ _ _ _ _ _ us hl => match us, hl with | [_, _], _ => rfl
  have F5 := fun_mk (st := s_p_least) l5 c5 k5
  have b5 := F5.binds (ps := P_p_least) fun _ _ _ _ _ _ us hl => match us, hl with | [_], _ => rfl
  have F6 := fun_mk (st := s_bag) l6 c6 k6
  have b6 := F6.binds (ps := P_bag) fun _ _ _ _ _ _ us hl => match us, hl with | [_], _ => rfl
  have F7 := fun_mk (st := s_pull) l7 c7 k7
  have b7 := F7.binds (ps := P_pull) fun _ _ _ _ _ _ us hl => match us, hl with | [_, _], _ => rfl
  have F8 := fun_mk (st := s_of) l8 c8 k8
  have b8 := F8.binds (ps := P_of) fun _ _ _ _ _ _ us hl => match us, hl with | [_, _], _ => rfl
  have F9 := fun_mk (st := s_same) l9 c9 k9
  have b9 := F9.binds (ps := P_same) fun _ _ _ _ _ _ us hl => match us, hl with | [_, _], _ => rfl
  have F10 := fun_mk (st := s_letters) l10 c10 k10
  have b10 := F10.binds (ps := P_letters) fun _ _ _ _ _ _ us hl => match us, hl with | [_], _ => rfl
  have F11 := fun_mk (st := s_names) l11 c11 k11
  have b11 := F11.binds (ps := P_names) fun _ _ _ _ _ _ us hl => match us, hl with | [_, _], _ => rfl
  have F12 := fun_mk (st := s_word) l12 c12 k12
  have b12 := F12.binds (ps := P_word) fun _ _ _ _ _ _ us hl => match us, hl with | [_, _, _], _ => rfl
  have F13 := fun_mk (st := s_plan) l13 c13 k13
  have b13 := F13.binds (ps := P_plan) fun _ _ _ _ _ _ us hl => match us, hl with | [_, _, _, _, _], _ => rfl
  have F14 := fun_mk (st := s_act) l14 c14 k14
  have b14 := F14.binds (ps := P_act) fun _ _ _ _ _ _ us hl => match us, hl with | [_, _], _ => rfl
  have F15 := fun_mk (st := s_move) l15 c15 k15
  have b15 := F15.binds (ps := P_move) fun _ _ _ _ _ _ us hl => match us, hl with | [_, _], _ => rfl
  have F16 := fun_mk (st := s_held) l16 c16 k16
  have b16 := F16.binds (ps := P_held) fun _ _ _ _ _ _ us hl => match us, hl with | [_, _], _ => rfl
  have F17 := fun_mk (st := s_scene) l17 c17 k17
  have b17 := F17.binds (ps := P_scene) fun _ _ _ _ _ _ us hl => match us, hl with | [_, _, _], _ => rfl
  have F18 := fun_mk (st := s_within) l18 c18 k18
  have b18 := F18.binds (ps := P_within) fun _ _ _ _ _ _ us hl => match us, hl with | [_, _], _ => rfl
  have F19 := fun_mk (st := s_above) l19 c19 k19
  have b19 := F19.binds (ps := P_above) fun _ _ _ _ _ _ us hl => match us, hl with | [_, _], _ => rfl
  have F20 := fun_mk (st := s_least) l20 c20 k20
  have b20 := F20.binds (ps := P_least) fun _ _ _ _ _ _ us hl => match us, hl with | [_], _ => rfl
  have F21 := fun_mk (st := s_law) l21 c21 k21
  have b21 := F21.binds (ps := P_law) fun _ _ _ _ _ _ us hl => match us, hl with | [_], _ => rfl
  exact ⟨PySem.W.fnOf "law" "law" (defArgs s_law) (defBody s_law) (defScope s_law) .none kV21 dc21 pm21 an21 cd21 ct21, fun s v => .of_eq rfl, fun base _ _ => ok_law_at ⟨_, _, F0, b0, PySem.W.mg_of X G a0, _, _, F1, b1, PySem.W.mg_of X G a1, _, _, F2, b2, PySem.W.mg_of X G a2, _, _, F3, b3, PySem.W.mg_of X G a3, _, _, F4, b4, PySem.W.mg_of X G a4, _, _, F5, b5, PySem.W.mg_of X G a5, _, _, F6, b6, PySem.W.mg_of X G a6, _, _, F7, b7, PySem.W.mg_of X G a7, _, _, F8, b8, PySem.W.mg_of X G a8, _, _, F9, b9, PySem.W.mg_of X G a9, _, _, F10, b10, PySem.W.mg_of X G a10, _, _, F11, b11, PySem.W.mg_of X G a11, _, _, F12, b12, PySem.W.mg_of X G a12, _, _, F13, b13, PySem.W.mg_of X G a13, _, _, F14, b14, PySem.W.mg_of X G a14, _, _, F15, b15, PySem.W.mg_of X G a15, _, _, F16, b16, PySem.W.mg_of X G a16, _, _, F17, b17, PySem.W.mg_of X G a17, _, _, F18, b18, PySem.W.mg_of X G a18, _, _, F19, b19, PySem.W.mg_of X G a19, _, _, F20, b20, PySem.W.mg_of X G a20, _, _, F21, b21, PySem.W.mg_of X G a21, PySem.W.mg_none_of X G z0, PySem.W.mg_none_of X G z1, PySem.W.mg_none_of X G z2, PySem.W.mg_none_of X G z3, PySem.W.mg_none_of X G z4, PySem.W.mg_none_of X G z5, PySem.W.mg_none_of X G z6, PySem.W.mg_none_of X G z7, PySem.W.mg_none_of X G z8, PySem.W.mg_none_of X G z9, PySem.W.mg_none_of X G z10, PySem.W.mg_none_of X G z11, PySem.W.mg_none_of X G z12, PySem.W.mg_none_of X G z13⟩⟩
end K05
open PySem PySem.W PyProof.Rows
set_option maxHeartbeats 0 in
theorem PySem.Challenge.cw_leakpost_k05_least_scenes_holds : PySem.Challenge.rw_leakpost_k05_least_scenes.Holds := by
  w_on; o_law; k_head; (case hw => w_witness2)
  k_fill
  refine L2.walk_of (l := PySem.Challenge.rw_leakpost_k05_least_scenes) (n := 63) (k := 7) (x := "_law_script") (CX := fun _ => L2.CX0) (sp := fun w => K05.sp_law _) rfl (by decide) rfl ⟨rfl, by decide, by decide⟩ (fun w h Y => PySem.W.kIn_of Y) ?F (fun _ _ a ns hl _ hS => ⟨a, ns, rfl, hS, hl, fun _ => rfl⟩) (fun _ _ _ _ _ h => h)
  case F =>
    intro w mg fa h KX G hmg
    refine' K05.all_mk KX G hmg ?a0 ?l0 ?c0 ?k0 ?a1 ?l1 ?c1 ?k1 ?a2 ?l2 ?c2 ?k2 ?a3 ?l3 ?c3 ?k3 ?a4 ?l4 ?c4 ?k4 ?a5 ?l5 ?c5 ?k5 ?a6 ?l6 ?c6 ?k6 ?a7 ?l7 ?c7 ?k7 ?a8 ?l8 ?c8 ?k8 ?a9 ?l9 ?c9 ?k9 ?a10 ?l10 ?c10 ?k10 ?a11 ?l11 ?c11 ?k11 ?a12 ?l12 ?c12 ?k12 ?a13 ?l13 ?c13 ?k13 ?a14 ?l14 ?c14 ?k14 ?a15 ?l15 ?c15 ?k15 ?a16 ?l16 ?c16 ?k16 ?a17 ?l17 ?c17 ?k17 ?a18 ?l18 ?c18 ?k18 ?a19 ?l19 ?c19 ?k19 ?a20 ?l20 ?c20 ?k20 ?a21 ?l21 ?c21 ?k21 ?z0 ?z1 ?z2 ?z3 ?z4 ?z5 ?z6 ?z7 ?z8 ?z9 ?z10 ?z11 ?z12 ?z13
    (case a0 => k_is)
    (case l0 => k_is)
    (case c0 => k_is)
    (case k0 => k_is)
    (case a1 => k_is)
    (case l1 => k_is)
    (case c1 => k_is)
    (case k1 => k_is)
    (case a2 => k_is)
    (case l2 => k_is)
    (case c2 => k_is)
    (case k2 => k_is)
    (case a3 => k_is)
    (case l3 => k_is)
    (case c3 => k_is)
    (case k3 => k_is)
    (case a4 => k_is)
    (case l4 => k_is)
    (case c4 => k_is)
    (case k4 => k_is)
    (case a5 => k_is)
    (case l5 => k_is)
    (case c5 => k_is)
    (case k5 => k_is)
    (case a6 => k_is)
    (case l6 => k_is)
    (case c6 => k_is)
    (case k6 => k_is)
    (case a7 => k_is)
    (case l7 => k_is)
    (case c7 => k_is)
    (case k7 => k_is)
    (case a8 => k_is)
    (case l8 => k_is)
    (case c8 => k_is)
    (case k8 => k_is)
    (case a9 => k_is)
    (case l9 => k_is)
    (case c9 => k_is)
    (case k9 => k_is)
    (case a10 => k_is)
    (case l10 => k_is)
    (case c10 => k_is)
    (case k10 => k_is)
    (case a11 => k_is)
    (case l11 => k_is)
    (case c11 => k_is)
    (case k11 => k_is)
    (case a12 => k_is)
    (case l12 => k_is)
    (case c12 => k_is)
    (case k12 => k_is)
    (case a13 => k_is)
    (case l13 => k_is)
    (case c13 => k_is)
    (case k13 => k_is)
    (case a14 => k_is)
    (case l14 => k_is)
    (case c14 => k_is)
    (case k14 => k_is)
    (case a15 => k_is)
    (case l15 => k_is)
    (case c15 => k_is)
    (case k15 => k_is)
    (case a16 => k_is)
    (case l16 => k_is)
    (case c16 => k_is)
    (case k16 => k_is)
    (case a17 => k_is)
    (case l17 => k_is)
    (case c17 => k_is)
    (case k17 => k_is)
    (case a18 => k_is)
    (case l18 => k_is)
    (case c18 => k_is)
    (case k18 => k_is)
    (case a19 => k_is)
    (case l19 => k_is)
    (case c19 => k_is)
    (case k19 => k_is)
    (case a20 => k_is)
    (case l20 => k_is)
    (case c20 => k_is)
    (case k20 => k_is)
    (case a21 => k_is)
    (case l21 => k_is)
    (case c21 => k_is)
    (case k21 => k_is)
    (case z0 => k_is)
    (case z1 => k_is)
    (case z2 => k_is)
    (case z3 => k_is)
    (case z4 => k_is)
    (case z5 => k_is)
    (case z6 => k_is)
    (case z7 => k_is)
    (case z8 => k_is)
    (case z9 => k_is)
    (case z10 => k_is)
    (case z11 => k_is)
    (case z12 => k_is)
    (case z13 => k_is)
