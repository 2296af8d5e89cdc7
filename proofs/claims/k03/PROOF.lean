import PyProof.Rows.All
import Wide.All
import OpenK.AllK
import Wide.FinOn
import HandS.ForMost
import HandS.Walk
import HandS.Zip
import HandS.IsInst
import HandS.StrMore
import HandS.Evl
import PySem.Challenge.RW_leakpost_k03_behind_the_first_letter
set_option Elab.async false
set_option linter.all false
set_option maxRecDepth 100000

namespace LB
open PySem PySem.Spec PyProof.Rows L2
/-! ### the bag of draws: a list of five at b, its cells at s -/
def bagL (s : Addr) (i r sd c : Int) : HO := .lst [.ref s, .int i, .int r, .int sd, .int c]
def Bag (b s : Addr) (H : Hp) : Prop := s ≠ b ∧ ∃ (ns : List Int) (i r sd c : Int), H b = some (bagL s i r sd c) ∧ H s = some (.lst (ns.map V.int)) ∧ ns.length ≤ 63 ∧ 0 ≤ i
/-- all but the bag is as it was -/
structure BX (b s : Addr) (H H' : Hp) : Prop where
  bag : Bag b s H'
  keep : ∀ a o, a ≠ b → H a = some o → H' a = some o
section
variable {b s p a : Addr} {H H' H'' : Hp} {o : HO} {K : PySem.W.Frag}
theorem Bag.nb (h : Bag b s H) (n : H p = none) : p ≠ b := by
  obtain ⟨_, ns, i, r, sd, c, e, _⟩ := h
  exact (ne_of_none e n).symm
theorem Bag.ns (h : Bag b s H) (n : H p = none) : p ≠ s := by
  obtain ⟨_, ns, i, r, sd, c, _, e, _⟩ := h
  exact (ne_of_none e n).symm
theorem BX.refl (h : Bag b s H) : BX b s H H := ⟨h, fun _ _ _ e => e⟩
theorem BX.trans (x : BX b s H H') (y : BX b s H' H'') : BX b s H H'' := ⟨y.bag, fun a o n e => y.keep a o n (x.keep a o n e)⟩
theorem Bag.same (h : Bag b s H) (x : Same H H') : Bag b s H' := by
  obtain ⟨n, ns, i, r, sd, c, e1, e2, l⟩ := h
  exact ⟨n, ns, i, r, sd, c, x _ _ e1, x _ _ e2, l⟩
theorem BX.same (h : Bag b s H) (x : Same H H') : BX b s H H' := ⟨h.same x, fun a o _ e => x a o e⟩
theorem BX.andSame (h : BX b s H H') (x : Same H' H'') : BX b s H H'' := h.trans (.same h.bag x)
theorem same_new (h : H p = none) : Same H (upd H p o) := fun c x e => by
  rw [upd_ne (ne_of_none e h)]
  exact e
theorem BX.new (h : Bag b s H) (n : H p = none) : BX b s H (upd H p o) := .same h (same_new n)
theorem BX.mut (x : BX b s H H') (h : Bag b s H) (n : H p = none) : BX b s H (upd H' p o) := by
  have n1 := h.nb n
  have n2 := h.ns n
  obtain ⟨ne, ns, i, r, sd, c, e1, e2, l⟩ := x.bag
  refine ⟨⟨ne, ns, i, r, sd, c, ?_, ?_, l⟩, fun a o na e => ?_⟩
  · rw [upd_ne n1.symm]; exact e1
  · rw [upd_ne n2.symm]; exact e2
  · rw [upd_ne (ne_of_none e n)]; exact x.keep a o na e
theorem BX.back (x : BX b s H H') (n : H' p = none) : H p = none := by
  cases e : H p with
  | none => rfl
  | some o =>
    by_cases hb : p = b
    · exact absurd hb (x.bag.nb n)
    · rw [x.keep p o hb e] at n
      cases n
theorem same_mut (x : Same H H') (n : H p = none) : Same H (upd H' p o) := fun a u e => by
  rw [upd_ne (ne_of_none e n)]
  exact x a u e
/-- an object that is not the bag -/
def At (b : Addr) (H : Hp) (a : Addr) (o : HO) : Prop := a ≠ b ∧ H a = some o
theorem At.mv (h : At b H a o) (x : BX b s H H') : At b H' a o := ⟨h.1, x.keep a o h.1 h.2⟩
theorem At.new (h : Bag b s H) (n : H p = none) : At b (upd H p o) p o := ⟨h.nb n, upd_same⟩
theorem At.l {xs : List V} (h : At b H a (.lst xs)) : SqL K H a xs := .of h.2
theorem At.t {xs : List V} (h : At b H a (.tup xs)) : SqT K H a xs := .of h.2
/-- xs[i] of a list, by values: for xs[i] op= e -/
theorem get_list {X : Cx} : PGet X (rIxL X.K) := by
  intro pins s σ H o i ov iv Q I ro ri h
  obtain ⟨p, xs, k, z, rfl, rfl, hq, he, q⟩ := h
  cases ro
  obtain ⟨t, rfl⟩ := ri
  obtain ⟨its, r, pl, hz⟩ := I.list hq
  obtain ⟨j, h1, h2, h3, h4, h5⟩ := atI_get he
  obtain ⟨w, ew, rw'⟩ := r.get h2
  have hl := r.length
  have hn := line63
  have fin : EP X pins σ Q w s := ⟨z, H, I, rw', q⟩
  by_cases h0 : 0 ≤ k
  · have hj : k.toNat = j := by
      rw [seqIndex_of h0 h5] at h1
      exact Option.some.inj h1
    exact wpAny_getItem_list pl.isList h0 (by omega) (by rw [hj]; simpa using ew) fin
  · have hj : (k + (its.toArray.size : Int)).toNat = j := by
      rw [seqIndex_neg (by omega) h4] at h1
      rw [List.size_toArray, ← hl]
      exact Option.some.inj h1
    exact wpAny_getItem_list_neg pl.isList (by omega) (by rw [List.size_toArray] <;> omega) (by omega) (by rw [hj]; simpa using ew) fin
end
theorem fmul (c : Int) (h : -(2 ^ 64) < c ∧ c < 2 ^ 64) (i : Int) : CMul i c := .inr h
theorem cut_take (xs : List V) (k : Nat) : cutV xs none (some (k : Int)) = xs.take k := by
  unfold cutV
  rw [HT.sIx_none, HT.sIx_nat]
  show (xs.drop 0).take (min k xs.length - 0) = xs.take k
  rw [List.drop_zero, Nat.sub_zero]
  by_cases h : k ≤ xs.length
  · rw [Nat.min_eq_left h]
  · rw [Nat.min_eq_right (by omega), List.take_length, List.take_of_length_le (by omega)]

theorem cut_takeI (xs : List V) {k : Int} (h : 0 ≤ k) : cutV xs none (some k) = xs.take k.toNat := by
  obtain ⟨n, rfl⟩ := Int.eq_ofNat_of_zero_le h
  exact cut_take xs n
/-! ### texts by their signs -/
abbrev sg (c : Nat) : Str := ⟨#[c]⟩
abbrev tx (l : List Nat) : Str := ⟨l.toArray⟩
theorem tx_app (a b : List Nat) : tx a ++ tx b = tx (a ++ b) := by
  show (⟨a.toArray ++ b.toArray⟩ : Str) = _
  rw [List.append_toArray]
theorem tx_len (a : List Nat) : (tx a).length = a.length := by
  show a.toArray.size = _
  rw [List.size_toArray]
theorem tx_cps (a : List Nat) : (tx a).cps.toList = a := rfl
theorem tx_of (z : Str) : z = tx z.cps.toList := by
  cases z
  rfl
theorem join_sg (cs : List Nat) : Txt.join (Str.ofString "") (cs.map sg) = tx cs := by
  show Builtin.Str.glued _ _ = _
  rw [StrLaws.glued_eq_join, show Str.ofString "" = (tx [] : Str) from by decide +kernel]
  induction cs with
  | nil => rfl
  | cons c r ih =>
    cases r with
    | nil => rfl
    | cons d t =>
      show sg c ++ tx [] ++ Str.join (tx []) ((d :: t).map sg) = _
      rw [ih, show sg c = tx [c] from rfl, tx_app, tx_app]
      rfl
theorem join_tx (ls : List (List Nat)) : Txt.join (Str.ofString "") (ls.map tx) = tx ls.flatten := by
  show Builtin.Str.glued _ _ = _
  rw [StrLaws.glued_eq_join, show Str.ofString "" = (tx [] : Str) from by decide +kernel]
  induction ls with
  | nil => rfl
  | cons c r ih =>
    cases r with
    | nil => simp [Str.join]
    | cons d t =>
      show tx c ++ tx [] ++ Str.join (tx []) ((d :: t).map tx) = _
      rw [ih, tx_app, tx_app]
      simp
theorem ones_sum (cs : List Nat) : ((cs.map sg).map (·.length)).sum = cs.length := by
  induction cs with
  | nil => rfl
  | cons c r ih =>
    rw [List.map_cons, List.map_cons, List.sum_cons, ih, List.length_cons]
    show 1 + r.length = _
    omega
abbrev alphabet : Str := Str.ofString "abcdefghijklmnopqrstuvwxyz"
theorem alpha_at {i : Int} (h0 : 0 ≤ i) (h1 : i < 26) : atI alphabet.cps.toList i = some (i.toNat + 97) := by
  obtain ⟨k, rfl⟩ := Int.eq_ofNat_of_zero_le h0
  have hk : k < 26 := by omega
  have all : ∀ j : Fin 26, atI alphabet.cps.toList ((j.val : Nat) : Int) = some (j.val + 97) := by decide +kernel
  exact all ⟨k, hk⟩
theorem alpha_codes : alphabet.cps.toList = (List.range 26).map (· + 97) := by decide +kernel
/-- the k-th of the letters drawn by (first, step) -/
def lett (f b : Int) (k : Nat) : Nat := ((f + b * (k : Int)) % 26).toNat + 97
theorem mem_get {α : Type} {xs : List α} {i : Int} {n : Nat} (hn : n = xs.length) (h0 : 0 ≤ i) (h1 : i < (n : Int)) : ∃ x, x ∈ xs ∧ atI xs i = some x := by
  obtain ⟨k, rfl⟩ := Int.eq_ofNat_of_zero_le h0
  have hk : k < xs.length := by omega
  exact ⟨xs[k], List.getElem_mem hk, atI_nat (List.getElem?_eq_getElem hk)⟩
/-! ### the same data, up to a depth -/
def flat1 : V → Bool
  | .non => true
  | .bl _ => true
  | .int _ => true
  | .str _ => true
  | _ => false
def Sam (K : PySem.W.Frag) (H : Hp) : Nat → V → V → Prop
  | 0, v, w => flat1 v = true ∧ v = w
  | n + 1, v, w => (flat1 v = true ∧ v = w) ∨ ∃ a c xs ys, v = .ref a ∧ w = .ref c ∧ ((H a = some (.lst xs) ∧ H c = some (.lst ys)) ∨ (H a = some (.tup xs) ∧ H c = some (.tup ys))) ∧ xs.length < 100000 ∧ Paired (Sam K H n) xs ys
theorem Sam.flat {K : PySem.W.Frag} {H : Hp} {v : V} (n : Nat) (h : flat1 v = true) : Sam K H n v v := by
  cases n with
  | zero => exact ⟨h, rfl⟩
  | succ n => exact .inl ⟨h, rfl⟩
theorem Sam.mono {K : PySem.W.Frag} {H H' : Hp} (x : Same H H') : ∀ {n : Nat} {v w : V}, Sam K H n v w → Sam K H' n v w
  | 0, _, _, h => h
  | n + 1, _, _, h => by
    rcases h with h | ⟨a, c, xs, ys, e1, e2, h, hz, p⟩
    · exact .inl h
    · refine .inr ⟨a, c, xs, ys, e1, e2, ?_, hz, Paired.mapP p fun _ _ q => Sam.mono x q⟩
      rcases h with ⟨h1, h2⟩ | ⟨h1, h2⟩
      · exact .inl ⟨x _ _ h1, x _ _ h2⟩
      · exact .inr ⟨x _ _ h1, x _ _ h2⟩
theorem paired_get {α β : Type} {F : α → β → Prop} : ∀ {xs : List α} {ys : List β} {i : Nat} {x : α} {y : β}, Paired F xs ys → xs[i]? = some x → ys[i]? = some y → F x y
  | _, _, _, _, _, .nil, h, _ => by simp at h
  | _, _, 0, _, _, .cons r _, h, h' => by
    simp at h h'
    subst h h'
    exact r
  | _, _, i + 1, _, _, .cons _ t, h, h' => paired_get (i := i) t (by simpa using h) (by simpa using h')
theorem sam_lst {K : PySem.W.Frag} {H : Hp} {n : Nat} {a c : Addr} {xs ys : List V} (h1 : H a = some (.lst xs)) (h2 : H c = some (.lst ys)) (hz : xs.length < 100000) (p : Paired (Sam K H n) xs ys) : Sam K H (n + 1) (.ref a) (.ref c) :=
  .inr ⟨a, c, xs, ys, rfl, rfl, .inl ⟨h1, h2⟩, hz, p⟩
theorem sam_tup {K : PySem.W.Frag} {H : Hp} {n : Nat} {a c : Addr} {xs ys : List V} (h1 : H a = some (.tup xs)) (h2 : H c = some (.tup ys)) (hz : xs.length < 100000) (p : Paired (Sam K H n) xs ys) : Sam K H (n + 1) (.ref a) (.ref c) :=
  .inr ⟨a, c, xs, ys, rfl, rfl, .inr ⟨h1, h2⟩, hz, p⟩
theorem paired_flat {K : PySem.W.Frag} {H : Hp} {n : Nat} : ∀ {xs : List V}, (∀ x ∈ xs, flat1 x = true) → Paired (Sam K H n) xs xs
  | [], _ => .nil
  | x :: r, h => .cons (.flat n (h x (by simp))) (paired_flat fun y hy => h y (by simp [hy]))
theorem kit_seq {K : PySem.W.Frag} {t : String} (h1 : kitB t "list" = some false) (h2 : kitB t "tuple" = some false) : PySem.W.kitAny K (.type t) [.type "list", .type "tuple"] = some false :=
  kitAny_cons (b := false) (kit_ty h1) (fun _ => kitAny_cons (b := false) (kit_ty h2) (fun _ => kitAny_nil) (fun z => nomatch z)) (fun z => nomatch z)
theorem kit_lst {K : PySem.W.Frag} : PySem.W.kitAny K (.type "list") [.type "list", .type "tuple"] = some true :=
  kitAny_cons (b := true) (kit_ty (by decide +kernel)) (fun z => nomatch z) (fun _ => rfl)
theorem kit_tup {K : PySem.W.Frag} : PySem.W.kitAny K (.type "tuple") [.type "list", .type "tuple"] = some true :=
  kitAny_cons (b := false) (kit_ty (by decide +kernel)) (fun _ => kitAny_cons (b := true) (kit_ty (by decide +kernel)) (fun z => nomatch z) (fun _ => rfl)) (fun z => nomatch z)
theorem kit_cls : Paired ClsV [V.ty "list", V.ty "tuple"] [.type "list", .type "tuple"] := .cons (.ty "list") (.cons (.ty "tuple") .nil)
theorem walk_zipT {K : PySem.W.Frag} {a b : Addr} {xs ys : List V} {n : Nat} (hn : n = min xs.length ys.length) : Walk (RZ.ItzT K a b) n (fun H => SqT K H a xs ∧ SqT K H b ys) (YPair (fun i => xs[i]?) (fun i => ys[i]?)) := by
  subst hn
  refine ⟨fun i _ hi q => ?_, fun _ q => ⟨xs, ys, q.1, q.2, by omega⟩, fun i H v H' _ q y => ?_⟩
  · have u1 : i < xs.length := Nat.lt_of_lt_of_le hi (Nat.min_le_left _ _)
    have u2 : i < ys.length := Nat.lt_of_lt_of_le hi (Nat.min_le_right _ _)
    exact ⟨xs, ys, xs[i], ys[i], q.1, q.2, List.getElem?_eq_getElem u1, List.getElem?_eq_getElem u2⟩
  · obtain ⟨T, x, z, g1, g2, g3, g4, g5⟩ := y
    exact ⟨T, x, z, g1, g2, g3, g4 xs q.1, g5 ys q.2⟩
/-- a comprehension whose element gives True at each turn, made beside objects that stay -/
theorem paired_len {α β : Type} {F : α → β → Prop} {xs : List α} {ys : List β} (p : Paired F xs ys) : xs.length = ys.length := Paired.length p
/-! ### f(k = v, ..): keywords alone -/
def tCallK0 (sp : Sp) (gV : List V → List V → List V) (E : XK) (tk : TA) : TE := fun σ H Q => tk σ H fun zs H2 => sp (gV [] zs) H2 Q E
theorem pe_callK0 {X : Cx} {CX : CXT} {k : Nat} {f : Addr} {fd : FuncData} {ps ks : List Str} {sp : Sp} {E : XK} {x : Str} {p pos : Pos} {kws : List Keyword} {tk : TA} {g : List Value → List Value → List Value} {gV : List V → List V → List V}
    (F : FnOk X.prog X.w X.K X.mg X.base CX k f fd ps sp) (hr : Room k X.A) (hg : Gl X x) (hm : X.mg x = some (.ref f)) (kp : PySem.W.keepIn X.K (.ref f) = true) (hb : KBinds X.K fd ps ks g gV) (hx : Passes CX X E)
    (hkw : PK X kws tk) (hall : (backToKw pos (keywordEach kws X.env)).all (·.1.isSome) = true := by rfl) (hks : (backToKw pos (keywordEach kws X.env)).filterMap (·.1) = ks := by rfl)
    (hdb : (x == ("__debug__" : Str)) = false := by decide) (hpl : ((backTo pos (starEach [] X.env)).any (·.1) || (backToKw pos (keywordEach kws X.env)).any (·.1.isNone)) = false := by rfl) :
    PE X (.Call (.Name x p) [] kws pos) (tCallK0 sp gV E tk) := by
  refine ⟨fun pins s σ H Q I h => ?_⟩
  refine wpAny_Call_Name_kw (ld_glob I hg hm ?_ hdb)
  refine PySem.W.callWith_KW0 (h₀ := X.base) I.ok.mod.kin kp hall ?_ hpl
  refine thn (hkw.run pos pins s σ H _ I h) fun ws s2 ⟨zs, H2, I2, rz, q2⟩ => ⟨I2.kIn, ?_⟩
  rw [hks]
  exact run_fnk F hr hb hx I2 .nil rz q2
/-! ### lists of texts as data: for == and != -/
def txsD (ls : List (List Nat)) : List PyData := ls.map fun l => PyData.str (tx l)
theorem strOk_tx {l : List Nat} (h : ∀ c ∈ l, c < 128) : PyData.strOk (tx l) = true := by
  unfold PyData.strOk
  rw [Array.all_eq_true_iff_forall_mem]
  intro c hc
  have := h c (by simpa using hc)
  exact decide_eq_true (by omega)
theorem txs_lay : ∀ {ls : List (List Nat)}, (∀ l ∈ ls, ∀ c ∈ l, c < 128) → PyData.canLayAll0 (txsD ls) = true
  | [], _ => rfl
  | l :: r, h => by
    show (PyData.canLay0 (.str (tx l)) && PyData.canLayAll0 (txsD r)) = true
    rw [txs_lay fun x hx => h x (by simp [hx]), Bool.and_true]
    exact strOk_tx (h l (by simp))
theorem txs_depth : ∀ ls : List (List Nat), PyData.depthAll (txsD ls) = 0
  | [] => rfl
  | l :: r => by
    show max (PyData.depth (.str (tx l))) (PyData.depthAll (txsD r)) = 0
    rw [txs_depth r]
    rfl
theorem txs_shaped {ls : List (List Nat)} (h : ∀ l ∈ ls, ∀ c ∈ l, c < 128) : SeqAt.shaped (.list (txsD ls)) = true := by
  unfold SeqAt.shaped
  rw [show PyData.canLay0 (.list (txsD ls)) = PyData.canLayAll0 (txsD ls) from rfl, txs_lay h, show PyData.depth (.list (txsD ls)) = PyData.depthAll (txsD ls) + 1 from rfl, txs_depth]
  rfl
theorem txs_dp {K : PySem.W.Frag} {H : Hp} : ∀ ls : List (List Nat), DpAll K H (ls.map fun l => V.str (tx l)) (txsD ls)
  | [] => .nil
  | l :: r => .cons (.str _) (txs_dp r)
theorem txs_nil (ls : List (List Nat)) : PyData.eqv (.list (txsD ls)) (.list []) = ls.isEmpty := by
  cases ls with
  | nil => rfl
  | cons l r => rfl
/-- an expression that gives v and leaves the heap -/
theorem pu_use {te : TE} {σ : L2.St} {H : Hp} {Q : VK} (v : V) (h : ∀ Q' : VK, Q' v H → te σ H Q') (q : Q v H) : te σ H Q := h Q q
theorem cutS_drop (zs : List Nat) (k : Nat) : cutS (tx zs) (some (k : Int)) none = tx (zs.drop k) := by
  unfold cutS
  rw [tx_len, HT.sIx_nat, HT.sIx_none, tx_cps]
  show tx _ = tx _
  congr 1
  by_cases h : k ≤ zs.length
  · rw [Nat.min_eq_left h]
    exact List.take_of_length_le (by rw [List.length_drop]; omega)
  · rw [Nat.min_eq_right (by omega), List.drop_of_length_le (Nat.le_refl _), List.drop_of_length_le (by omega), List.take_nil]
theorem cutS_take (zs : List Nat) (k : Nat) : cutS (tx zs) none (some (k : Int)) = tx (zs.take k) := by
  unfold cutS
  rw [tx_len, HT.sIx_nat, HT.sIx_none, tx_cps]
  show tx _ = tx _
  congr 1
  rw [List.drop_zero, Nat.sub_zero]
  by_cases h : k ≤ zs.length
  · rw [Nat.min_eq_left h]
  · rw [Nat.min_eq_right (by omega), List.take_length, List.take_of_length_le (by omega)]
/-! ### sep.join(xs) within a comprehension -/
def rJoin (K : PySem.W.Frag) : V → List V → Hp → VK → Prop := fun x vs H Q => ∃ sep lst, ∃ ts : List Str, x = .str sep ∧ vs = [.ref lst] ∧ (SqL K H lst (ts.map V.str) ∨ SqT K H lst (ts.map V.str)) ∧
  (ts.map (·.length)).sum + ts.length * sep.length ≤ 16777216 ∧ Q (.str (Txt.join sep ts)) H
theorem pe_joinK {X : Cx} {K : PySem.W.Frag} {o e : Expr} {to te : TE} {apos pos : Pos} (ho : PE X o to) (he : PE X e te) (hK : X.K = K := by rfl) (h1 : starEach [e] X.env = [(false, eval e X.env)] := by rfl)
    (h2 : attributeBase o "join" X.env (eval o X.env) = eval o X.env := by rfl) (h3 : (apos.endLine == pos.line) = true := by rfl) : PE X (.Call (.Attribute o "join" apos) [e] [] pos) (tM1 (rJoin K) to te) := by
  subst hK
  exact pe_join ho he h1 h2 h3
end LB

namespace LB
open PySem PySem.Spec PyProof.Rows L2
/-! ### enumerate(text): a new pair of place and sign at each turn -/
def Ites (x : Str) : It :=
  ⟨fun i _ => i < x.cps.size, fun i H v H' => ∃ U c, v = .ref U ∧ H U = none ∧ x.cps[i]? = some c ∧ H' = upd H U (.tup [.int (i : Nat), .str (sg c)]), fun i _ => i = x.cps.size⟩
theorem drawsS {prog : Program} {w : World} {A : Around} (hh : A.handled = none) (it : Addr) (x : Str) (t : Tok) :
    Draws prog w A it [it] x.cps.size (fun i v => ∃ c u, x.cps[i]? = some c ∧ v = .str ⟨#[c]⟩ u) (fun i h => h.IsStrIter it (strIterType x) x t i) := by
  unfold strIterType
  cases ha : x.cps.all (· < 128)
  · simpa using Draws.strWide hh it x t
  · simpa using Draws.strAscii hh it x t
theorem turn_enumS {P : Program} {w : World} {K : PySem.W.Frag} {elts : List Expr} {kk : Nat} {tpos : Pos} (x : Str) (t : Tok) (en it : Addr) :
    Turn P w K (.Tuple elts kk tpos) (Ites x) [en, it] en (fun i h => (∃ old, IsEnum h en it ((i : Nat) : Int) old) ∧ h.IsStrIter it (strIterType x) x t i ∧ en ≠ it) where
  mem := by simp
  obj := fun i h st b hb => by
    obtain ⟨⟨old, hE⟩, ⟨ob, hob, hcl, hdt⟩, _⟩ := st
    have hbb : b = en ∨ b = it := by simpa using hb
    rcases hbb with rfl | rfl
    · exact ⟨_, hE, fun v z => nomatch z⟩
    · exact ⟨ob, hob, fun v z => by rw [hdt] at z; cases z⟩
  keep := fun i h h' st k => by
    obtain ⟨⟨old, hE⟩, ⟨ob, hob, r⟩, ne⟩ := st
    exact ⟨⟨old, k en (by simp) _ hE⟩, ⟨ob, k it (by simp) _ hob, r⟩, ne⟩
  item := by
    intro X eP eW eK hc i pins s σ H E I hf st hg
    subst eP eW eK
    obtain ⟨⟨old, hE⟩, hit, ne⟩ := st
    have len : en < s.heap.objs.size := Heap.lt_size hE
    have lit : it < s.heap.objs.size := by
      obtain ⟨ob, hob, _⟩ := hit
      exact Heap.lt_size hob
    refine wpAny_pyNext_enum_itemD (drawsS (A := X.A.in1) (I.ok.hd hc) it x t) hE hit hg ne (by simpa using ne) fun y h' tk hy hout hit' hT hsz hk => ?_
    obtain ⟨c, u, hcx, rfl⟩ := hy
    refine ⟨_, rfl, wpAny_letOwnedTupleGo_enum (s := { s with heap := h', toks := tk + 1 }) hout fun h2 hE2 sb => ?_⟩
    have hT2 : h2.get? s.heap.objs.size = some { cls := .type "tuple", data := .seq #[.int i tk, .str ⟨#[c]⟩ u] } := (sb.2 _ (Nat.ne_of_gt len)).trans hT
    have okT : ObjOk X.prog X.w (upd H s.heap.objs.size (.tup [.int (i : Nat), .str (sg c)])) h2 s.heap.objs.size (.tup [.int (i : Nat), .str (sg c)]) :=
      ⟨(by show 2 ≤ sizeLine; decide), [.int i tk, .str ⟨#[c]⟩ u], .cons ⟨_, rfl⟩ (.cons ⟨_, rfl⟩ .nil), ⟨_, hT2, rfl, _, rfl⟩⟩
    have I1 : Inv X pins σ (upd H s.heap.objs.size (.tup [.int (i : Nat), .str (sg c)])) { s with heap := h2, toks := tk + 1 } :=
      I.turnedNew (ch := [en, it]) (fun b ob hb q => (sb.2 b (fun z => hb (by rw [z]; simp))).trans (hk b ob (fun z => hb (by rw [z]; simp)) (fun z => hb (by rw [z]; simp)) q)) hf (Nat.le_refl _) okT
    refine ⟨.ref s.heap.objs.size, _, I1, rfl, ⟨_, c, rfl, I.hok.fresh (Nat.le_refl _), hcx, rfl⟩, ⟨⟨.str ⟨#[c]⟩ u, ?_⟩, ?_, ne⟩, fun b hb => ?_⟩
    · rw [show ((i + 1 : Nat) : Int) = (i : Int) + 1 by omega]
      exact hE2
    · obtain ⟨ob, hob, r⟩ := hit'
      exact ⟨ob, (sb.2 it ne.symm).trans hob, r⟩
    · have hbb : b = en ∨ b = it := by simpa using hb
      have hlt : b < s.heap.objs.size := by
        rcases hbb with rfl | rfl
        · exact len
        · exact lit
      rw [upd_ne (Nat.ne_of_lt hlt)]
      exact (hf b hb).1
  done := by
    intro X eP eW eK hc i pins s σ H E I hf st hg
    subst eP eW eK
    obtain ⟨⟨old, hE⟩, hit, ne⟩ := st
    have hg' : i = x.cps.size := hg
    subst hg'
    obtain ⟨g0, g1, g2, g3, g4, g5⟩ := hf it (by simp)
    exact wpAny_pyNext_enum_endD (drawsS (A := X.A.in1) (I.ok.hd hc) it x t) hE hit fun h' eb => ⟨rfl, I.turned (t' := s.toks) (fun b ob hb q => eb b ob hb q) g0 g1 g3 g4 g5⟩
  self := fun A i s Q E st h => by
    obtain ⟨⟨old, hE⟩, _⟩ := st
    exact wpAny_pyIter_enum hE h
def iEnumS (ta : TA) : TI := fun σ H R => ta σ H fun vs H1 => ∃ x, vs = [.str x] ∧ R (Ites x) H1
theorem pi_enumS {X : Cx} {e : Expr} {ta : TA} {p pos tpos : Pos} {elts : List Expr} {kk : Nat} (hg : Gl X "enumerate") (hm : X.mg "enumerate" = none) (ha : PA X [e] ta) (one : starEach [e] X.env = [(false, eval e X.env)] := by rfl) :
    PI X (.Tuple elts kk tpos) (.Call (.Name "enumerate" p) [e] [] pos) (iEnumS ta) := by
  refine ⟨fun pins s σ H R I h => ?_⟩
  refine Call_ (ld_blt I hg hm boot_enumerate (PyProof.Rows.callWith_type1 (thn (ha.run pos pins s σ H _ I h) fun us s1 ⟨vs, H1, I1, rr, qq⟩ => ?_) one rfl))
  obtain ⟨x, rfl, q⟩ := qq
  rcases rr with _ | ⟨r, rr⟩
  cases rr
  obtain ⟨t, rfl⟩ := r
  refine call_enumerate_str fun h' hE hit hsz hk => wpAny_pyIter_enum hE ?_
  have I2 : Inv X pins σ H1 { s1 with heap := h' } := I1.kept (t' := s1.toks) hk
  refine ⟨s1.heap.objs.size + 1, [s1.heap.objs.size + 1, s1.heap.objs.size], _, _, H1, rfl, I2, turn_enumS x t (s1.heap.objs.size + 1) s1.heap.objs.size, ⟨⟨.none, hE⟩, hit, Nat.succ_ne_self _⟩, fun b hb => ?_, q⟩
  have hbb : b = s1.heap.objs.size + 1 ∨ b = s1.heap.objs.size := by simpa using hb
  have hle : s1.heap.objs.size ≤ b := by
    rcases hbb with rfl | rfl
    · exact Nat.le_succ _
    · exact Nat.le_refl _
  exact I1.fpOk hle (I1.hok.fresh hle)
theorem walk_enumS {x : Str} : Walk (Ites x) x.cps.size (fun _ => True) (fun i H v H' => ∃ U c, v = .ref U ∧ H U = none ∧ x.cps[i]? = some c ∧ H' = upd H U (.tup [.int (i : Nat), .str (sg c)])) :=
  ⟨fun _ _ hi _ => hi, fun _ _ => rfl, fun _ _ _ _ _ _ y => y⟩
end LB

namespace K03
open PySem PySem.Spec PyProof.Rows L2 LB
def KG_p_behind_0_letter_word : List V → List V → List V
  | [], [k_letter, k_word] => [k_word, k_letter]
  | _, _ => []
def KG_p_behind_0_letter_wordV : List Value → List Value → List Value
  | [], [k_letter, k_word] => [k_word, k_letter]
  | _, _ => []
def topS (i : Nat) : Stmt := PySem.Challenge.pw_leakpost_k03_behind_the_first_letter.main.body.getD i (.Pass ⟨0, 0, 0, 0⟩)
abbrev s_p_behind : Stmt := topS 1
abbrev N_p_behind : List Str := ["word", "letter", "at", "sign"]
abbrev P_p_behind : List Str := ["word", "letter"]
theorem sc_p_behind : FnScope N_p_behind P_p_behind (defScope s_p_behind) := ⟨rfl, rfl, rfl, by decide +kernel, rfl, by decide +kernel, by decide +kernel⟩
abbrev s_bag : Stmt := topS 3
abbrev N_bag : List Str := ["_law_script", "_law_seed", "_law_cell"]
abbrev P_bag : List Str := ["_law_script"]
theorem sc_bag : FnScope N_bag P_bag (defScope s_bag) := ⟨rfl, rfl, rfl, by decide +kernel, rfl, by decide +kernel, by decide +kernel⟩
abbrev s_pull : Stmt := topS 4
abbrev N_pull : List Str := ["_law_bag_here", "_law_many", "_law_rest", "_law_cell", "_law_one", "_law_two"]
abbrev P_pull : List Str := ["_law_bag_here", "_law_many"]
theorem sc_pull : FnScope N_pull P_pull (defScope s_pull) := ⟨rfl, rfl, rfl, by decide +kernel, rfl, by decide +kernel, by decide +kernel⟩
abbrev s_of : Stmt := topS 5
abbrev N_of : List Str := ["_law_bag_here", "_law_some"]
abbrev P_of : List Str := ["_law_bag_here", "_law_some"]
theorem sc_of : FnScope N_of P_of (defScope s_of) := ⟨rfl, rfl, rfl, by decide +kernel, rfl, by decide +kernel, by decide +kernel⟩
abbrev s_same : Stmt := topS 6
abbrev N_same : List Str := ["_law_found", "_law_due", "_law_a", "_law_b"]
abbrev P_same : List Str := ["_law_found", "_law_due"]
theorem sc_same : FnScope N_same P_same (defScope s_same) := ⟨rfl, rfl, rfl, by decide +kernel, rfl, by decide +kernel, by decide +kernel⟩
abbrev s_letters : Stmt := topS 7
abbrev N_letters : List Str := ["_law_bag_here", "_law_alphabet", "_law_first", "_law_by", "_law_k"]
abbrev P_letters : List Str := ["_law_bag_here"]
theorem sc_letters : FnScope N_letters P_letters (defScope s_letters) := ⟨rfl, rfl, rfl, by decide +kernel, rfl, by decide +kernel, by decide +kernel⟩
abbrev s_word : Stmt := topS 8
abbrev N_word : List Str := ["_law_bag_here", "_law_letters_here", "_law_top", "_law_k"]
abbrev P_word : List Str := ["_law_bag_here", "_law_letters_here", "_law_top"]
theorem sc_word : FnScope N_word P_word (defScope s_word) := ⟨rfl, rfl, rfl, by decide +kernel, rfl, by decide +kernel, by decide +kernel⟩
abbrev s_law : Stmt := topS 9
abbrev N_law : List Str := ["_law_script", "_law_bag_here", "_law_letters_here", "_law_turn", "_law_row", "_law_sign", "_law_due", "_law_at"]
abbrev P_law : List Str := ["_law_script"]
theorem sc_law : FnScope N_law P_law (defScope s_law) := ⟨rfl, rfl, rfl, by decide +kernel, rfl, by decide +kernel, by decide +kernel⟩
set_option maxHeartbeats 0 in
structure Tx (K : PySem.W.Frag) (mg : Str → Option Value) where
  f_p_behind : Addr
  fd_p_behind : FuncData
  F_p_behind : Fun K "behind" "behind" s_p_behind f_p_behind fd_p_behind
  b_p_behind : L2.Binds K fd_p_behind P_p_behind []
  g_p_behind : mg "behind" = some (.ref f_p_behind)
  f_bag : Addr
  fd_bag : FuncData
  F_bag : Fun K "_law_bag" "_law_bag" s_bag f_bag fd_bag
  b_bag : L2.Binds K fd_bag P_bag []
  g_bag : mg "_law_bag" = some (.ref f_bag)
  f_pull : Addr
  fd_pull : FuncData
  F_pull : Fun K "_law_pull" "_law_pull" s_pull f_pull fd_pull
  b_pull : L2.Binds K fd_pull P_pull []
  g_pull : mg "_law_pull" = some (.ref f_pull)
  f_of : Addr
  fd_of : FuncData
  F_of : Fun K "_law_of" "_law_of" s_of f_of fd_of
  b_of : L2.Binds K fd_of P_of []
  g_of : mg "_law_of" = some (.ref f_of)
  f_same : Addr
  fd_same : FuncData
  F_same : Fun K "_law_same" "_law_same" s_same f_same fd_same
  b_same : L2.Binds K fd_same P_same []
  g_same : mg "_law_same" = some (.ref f_same)
  f_letters : Addr
  fd_letters : FuncData
  F_letters : Fun K "_law_letters" "_law_letters" s_letters f_letters fd_letters
  b_letters : L2.Binds K fd_letters P_letters []
  g_letters : mg "_law_letters" = some (.ref f_letters)
  f_word : Addr
  fd_word : FuncData
  F_word : Fun K "_law_word" "_law_word" s_word f_word fd_word
  b_word : L2.Binds K fd_word P_word []
  g_word : mg "_law_word" = some (.ref f_word)
  f_law : Addr
  fd_law : FuncData
  F_law : Fun K "law" "law" s_law f_law fd_law
  b_law : L2.Binds K fd_law P_law []
  g_law : mg "law" = some (.ref f_law)
  kb_p_behind_0_letter_word : KBinds K fd_p_behind P_p_behind ["letter", "word"] KG_p_behind_0_letter_wordV KG_p_behind_0_letter_word
  m_all : mg "all" = none
  m_bool : mg "bool" = none
  m_enumerate : mg "enumerate" = none
  m_int : mg "int" = none
  m_isinstance : mg "isinstance" = none
  m_len : mg "len" = none
  m_list : mg "list" = none
  m_range : mg "range" = none
  m_str : mg "str" = none
  m_tuple : mg "tuple" = none
  m_zip : mg "zip" = none
theorem kbp_p_behind_0_letter_word {K : PySem.W.Frag} {f : Addr} {fd : FuncData} (F : Fun K "behind" "behind" s_p_behind f fd) : KBinds K fd P_p_behind ["letter", "word"] KG_p_behind_0_letter_wordV KG_p_behind_0_letter_word := by
  obtain ⟨oc, od, kV, doc, pm, an, cdv, ct, osl, rfl, lk, hcd⟩ := F.ex
  refine ⟨fun s us ws _ hl => ?_, fun {vs us zs ws} r1 r2 => ?_⟩
  · rcases us with _ | ⟨u0, us⟩
    · rcases ws with _ | ⟨w0, ws⟩
      · simp [KG_p_behind_0_letter_wordV] at hl
      · rcases ws with _ | ⟨w1, ws⟩
        · simp [KG_p_behind_0_letter_wordV] at hl
        · rcases ws with _ | ⟨w2, ws⟩
          · exact .of_eq rfl
          · simp [KG_p_behind_0_letter_wordV] at hl
    · simp [KG_p_behind_0_letter_wordV] at hl
  · rcases r1 with _ | ⟨a0, r1⟩
    · rcases r2 with _ | ⟨b0, r2⟩
      · exact .nil
      · rcases r2 with _ | ⟨b1, r2⟩
        · exact .nil
        · rcases r2 with _ | ⟨b2, r2⟩
          · exact (.cons b1 (.cons b0 .nil))
          · exact .nil
    · exact .nil
section
variable {P : Program} {w : World} {K : PySem.W.Frag} {mg : Str → Option Value} {base : Heap}
/-! ### the bag: made, drawn from -/
def sp_bag (K : PySem.W.Frag) : Sp := fun vs H Q _ => ∃ (a : Addr) (ns : List Int), vs = [.ref a] ∧ SqL K H a (ns.map V.int) ∧ ns.length ≤ 63 ∧ ∀ H' b s, Same H H' → Bag b s H' → H b = none → Q (.ref b) H'
theorem ok_bag (T : Tx K mg) : FnOk P w K mg base CX0 1 T.f_bag T.fd_bag P_bag (sp_bag K) := by
  refine T.F_bag.ok sc_bag (fun vs H Q E h => ?_) (fun cdv A outer s H vs Q E hr h => ?_)
  · obtain ⟨a, ns, rfl, _⟩ := h
    rfl
  · obtain ⟨a, ns, rfl, hS, hlen, q⟩ := h
    refine ⟨_, 
      (pss_cons (ps_set (i := 1) sc_bag.nd rfl (.inl rfl) pe_int)
      (pss_cons (ps_for PassesOwn.never rfl (pi_list (pe_slice sl_list (L2.pv 0) po_none (po_some pe_int))) (pg_name (i := 2) sc_bag.nd rfl (.inl rfl))
        (pss_one (ps_set (i := 1) sc_bag.nd rfl (.inl rfl) (pe_op op_mod (pe_op op_add (pe_op op_add (pe_op op_mul (L2.pv 1) pe_int) (L2.pv 2)) pe_int) pe_int))))
      (pss_one (ps_ret (pe_lst (pa_cons (pe_callTy call_list_of (by rfl) T.m_list (by decide +kernel) (pa_cons (pe_slice sl_list (L2.pv 0) po_none (po_some pe_int)) pa_nil)) (pa_cons pe_int (pa_cons pe_int (pa_cons (L2.pv 1) (pa_cons pe_int pa_nil)))))))))), ?_⟩
    refine ⟨.ref a, rfl, 63, rfl, a, ns.map V.int, rfl, hS, fun c nc => ?_⟩
    have ec : cutV (ns.map V.int) none (some 63) = ns.map V.int := by
      rw [show (63 : Int) = ((63 : Nat) : Int) from rfl, LB.cut_take, List.take_of_length_le (by rw [List.length_map]; exact hlen)]
    rw [ec]
    have s1 : Same H (upd H c (.lst (ns.map V.int))) := LB.same_new nc
    refine ⟨c, rfl, ⟨_, .of upd_same⟩, for_list (xs := ns.map V.int) (fun _ σ H' => ∃ (sd : Int) (y : Option V), σ = [some (.ref a), some (.int sd), y] ∧ H' = upd H c (.lst (ns.map V.int))) ⟨_, _, rfl, rfl⟩ (fun i σ H' _ h => ?_) (fun i x σ H' hx h => ?_) (fun σ H' h => ?_)⟩
    · obtain ⟨sd, y, _, rfl⟩ := h
      exact .of upd_same
    · obtain ⟨sd, y, rfl, rfl⟩ := h
      obtain ⟨n, _, rfl⟩ : ∃ n, ns[i]? = some n ∧ V.int n = x := by
        rw [List.getElem?_map] at hx
        cases e : ns[i]? with
        | none => rw [e] at hx; cases hx
        | some n => rw [e] at hx; exact ⟨n, rfl, Option.some.inj hx⟩
      refine ⟨.int sd, rfl, sd, 65539, rfl, rfl, .inr ⟨by decide, by decide⟩, .int n, rfl, _, n, rfl, rfl, _, 7, rfl, rfl, _, 2147483629, rfl, rfl, (by show (0 : Int) < 2147483629; decide), _, _, rfl, rfl⟩
    · obtain ⟨sd, y, rfl, rfl⟩ := h
      refine ⟨.ref a, rfl, 63, rfl, a, ns.map V.int, rfl, s1.seq hS, fun d nd => ?_⟩
      rw [ec]
      have s2 := LB.same_new (o := .lst (ns.map V.int)) nd
      refine ⟨d, _, rfl, .inl (.of upd_same), fun l nl => ?_⟩
      have s3 := LB.same_new (o := .lst (ns.map V.int)) nl
      refine ⟨.int sd, rfl, (by show 5 ≤ sizeLine; decide), fun b nb => ?_⟩
      have s4 := LB.same_new (o := .lst [.ref l, .int 0, .int 0, .int sd, .int 0]) nb
      have nlb : l ≠ b := ne_of_none upd_same nb
      refine q _ b l (s1.trans (s2.trans (s3.trans s4))) ⟨nlb, ns, 0, 0, sd, 0, upd_same, ?_, hlen, Int.le_refl _⟩ ((s1.trans (s2.trans s3)).free nb)
      rw [upd_ne nlb, upd_same]
def sp_pull : Sp := fun vs H Q _ => ∃ (b s : Addr) (m : Int), vs = [.ref b, .int m] ∧ Bag b s H ∧ 0 < m ∧ m < 1000000 ∧ ∀ H' v, BX b s H H' → 0 ≤ v → v < m → Q (.int v) H'
theorem ok_pull (T : Tx K mg) : FnOk P w K mg base CX0 1 T.f_pull T.fd_pull P_pull sp_pull := by
  refine T.F_pull.ok sc_pull (fun vs H Q E h => ?_) (fun cdv A outer s H vs Q E hr h => ?_)
  · obtain ⟨b, s, m, rfl, _⟩ := h
    rfl
  · obtain ⟨b, cs, m, rfl, ⟨nsb, ns, i, r, sd, c, e1, e2, hl, i0⟩, m0, m1, q⟩ := h
    have fin : ∀ i' r' sd' c', 0 ≤ i' → BX b cs H (upd H b (bagL cs i' r' sd' c')) := fun i' r' sd' c' h0 =>
      ⟨⟨nsb, ns, i', r', sd', c', upd_same, (upd_ne nsb).trans e2, hl, h0⟩, fun a o na e => (upd_ne na).trans e⟩
    refine ⟨_, 
      (pss_cons (ps_augS (L2.pv 0) pe_int LB.get_list pe_int ip_add set_list)
      (pss_cons (ps_if (pt_cmpR op_gt (pe_ix ix_list (L2.pv 0) pe_int (fun _ _ => rfl)) pe_int (nomark _))
        (pss_cons (ps_set (i := 2) sc_pull.nd rfl (.inl rfl) (pe_ix ix_list (L2.pv 0) pe_int (fun _ _ => rfl)))
        (pss_cons (ps_asg (pe_op op_fdiv (L2.pv 2) (L2.pv 1)) (pg_sub (L2.pv 0) pe_int set_list))
        (pss_one (ps_ret (pe_op op_mod (L2.pv 2) (L2.pv 1))))))
        pss_nil)
      (pss_cons (ps_set (i := 3) sc_pull.nd rfl (.inl rfl) (pe_ix ix_list (L2.pv 0) pe_int (fun _ _ => rfl)))
      (Evl.pss_cut (ps_if (pt_cmpR op_lt (pe_ix ix_list (L2.pv 0) pe_int (fun _ _ => rfl)) (pe_callB call_len_seq (by rfl) T.m_len PySem.boot_len (pa_cons (pe_ix ix_list (L2.pv 0) pe_int (fun _ _ => rfl)) pa_nil)) (nomark _))
        (pss_cons (ps_set (i := 3) sc_pull.nd rfl (.inl rfl) (pe_ix ix_list (pe_ix ix_list (L2.pv 0) pe_int (fun _ _ => rfl)) (pe_ix ix_list (L2.pv 0) pe_int (fun _ _ => rfl)) (fun _ _ => rfl)))
        (pss_one (ps_augS (L2.pv 0) pe_int LB.get_list pe_int ip_add set_list)))
        pss_nil)
      (pss_cons (ps_if (pt_cmpR op_ge (L2.pv 3) (pe_op op_pow pe_int pe_int) (nomark _))
        (pss_cons (ps_asg (pe_op op_fdiv (L2.pv 3) (L2.pv 1)) (pg_sub (L2.pv 0) pe_int set_list))
        (pss_one (ps_ret (pe_op op_mod (L2.pv 3) (L2.pv 1)))))
        pss_nil)
      (pss_cons (ps_set (i := 4) sc_pull.nd rfl (.inl rfl) (pe_op op_mod (pe_op op_add (pe_op op_add (pe_op op_add (pe_op op_mul (L2.pv 3) pe_int) (pe_op op_mul (pe_ix ix_list (L2.pv 0) pe_int (fun _ _ => rfl)) pe_int)) (pe_op op_mul (pe_ix ix_list (L2.pv 0) pe_int (fun _ _ => rfl)) pe_int)) pe_int) pe_int))
      (pss_cons (ps_set (i := 5) sc_pull.nd rfl (.inl rfl) (pe_op op_mod (pe_op op_add (pe_op op_add (pe_op op_mul (L2.pv 4) (pe_op op_add (pe_op op_mod (L2.pv 4) pe_int) pe_int)) (pe_op op_mul (pe_ix ix_list (L2.pv 0) pe_int (fun _ _ => rfl)) pe_int)) (pe_op op_mod (pe_ix ix_list (L2.pv 0) pe_int (fun _ _ => rfl)) pe_int)) pe_int))
      (pss_cons (ps_asg (pe_op op_mod (pe_op op_add (pe_op op_mul (pe_ix ix_list (L2.pv 0) pe_int (fun _ _ => rfl)) pe_int) (L2.pv 5)) pe_int) (pg_sub (L2.pv 0) pe_int set_list))
      (pss_one (ps_ret (pe_op op_mod (pe_op op_fdiv (L2.pv 5) pe_int) (L2.pv 1)))))))))))), ?_⟩
    -- the count
    refine ⟨.ref b, rfl, b, _, 4, .int c, rfl, rfl, .of e1, rfl, c, 1, rfl, rfl, b, _, 4, 4, rfl, rfl, e1, rfl, ?_⟩
    show _
    have f1 : (upd H b (bagL cs i r sd (c + 1))) b = some (bagL cs i r sd (c + 1)) := upd_same
    refine ⟨.ref b, rfl, b, _, 2, .int r, rfl, rfl, .of f1, rfl, r, 0, rfl, rfl, _, rfl, ite2 (fun e => ?_) (fun e => ?_)⟩
    · -- what is left of a great number
      refine ⟨.ref b, rfl, b, _, 2, .int r, rfl, rfl, .of f1, rfl, ?_⟩
      refine ⟨.int r, rfl, .int m, rfl, r, m, rfl, rfl, ⟨m0, by omega⟩, .ref b, rfl, b, _, 2, 2, rfl, rfl, f1, rfl, ?_⟩
      refine ⟨.int r, rfl, .int m, rfl, r, m, rfl, rfl, m0, ?_⟩
      rw [upd_upd]
      exact q _ _ (fin i (r / m) sd (c + 1) i0) (Int.emod_nonneg _ (by omega)) (Int.emod_lt_of_pos _ m0)
    · refine ⟨.ref b, rfl, b, _, 3, .int sd, rfl, rfl, .of f1, rfl, ?_⟩
      -- a cell, where one is left
      have f2 : (upd H b (bagL cs i r sd (c + 1))) cs = some (.lst (ns.map V.int)) := (upd_ne nsb).trans e2
      refine ⟨fun σ G => ∃ i' cell, 0 ≤ i' ∧ σ = [some (.ref b), some (.int m), none, some (.int cell), none, none] ∧ G = upd H b (bagL cs i' r sd (c + 1)), ⟨.ref b, rfl, b, _, 1, .int i, rfl, rfl, .of f1, rfl, .ref b, rfl, b, _, 0, .ref cs, rfl, rfl, .of f1, rfl, cs, _, rfl, .inl (.of f2), i, _, rfl, rfl, _, rfl, ite2 (fun e' => ?_) (fun _ => ⟨i, sd, i0, rfl, rfl⟩)⟩, fun σ G h => ?_⟩
      · have hi : i < ns.length := by
          have := of_decide_eq_true e'
          rw [List.length_map] at this
          exact this
        have gi : (ns.map V.int)[i.toNat]? = some (.int (ns[i.toNat]'(by omega))) := by
          rw [List.getElem?_map, List.getElem?_eq_getElem (by omega)]
          rfl
        have ga : atI (ns.map V.int) i = some (.int (ns[i.toNat]'(by omega))) := by
          have := atI_nat gi
          rw [Int.toNat_of_nonneg i0] at this
          exact this
        refine ⟨.ref b, rfl, b, _, 0, .ref cs, rfl, rfl, .of f1, rfl, .ref b, rfl, b, _, 1, .int i, rfl, rfl, .of f1, rfl, cs, _, i, _, rfl, rfl, .of f2, ga, ?_⟩
        refine ⟨.ref b, rfl, b, _, 1, .int i, rfl, rfl, .of f1, rfl, i, 1, rfl, rfl, b, _, 1, 1, rfl, rfl, f1, rfl, ?_⟩
        exact ⟨i + 1, _, by omega, rfl, upd_upd⟩
      · obtain ⟨i', cell, h0, rfl, rfl⟩ := h
        have g1 : (upd H b (bagL cs i' r sd (c + 1))) b = some (bagL cs i' r sd (c + 1)) := upd_same
        refine ⟨.int cell, rfl, 10, 18, rfl, rfl, ⟨by decide, by decide, by decide⟩, cell, _, rfl, rfl, _, rfl, ite2 (fun _ => ?_) (fun _ => ?_)⟩
        · refine ⟨.int cell, rfl, .int m, rfl, cell, m, rfl, rfl, ⟨m0, by omega⟩, .ref b, rfl, b, _, 2, 2, rfl, rfl, g1, rfl, ?_⟩
          refine ⟨.int cell, rfl, .int m, rfl, cell, m, rfl, rfl, m0, ?_⟩
          rw [upd_upd]
          exact q _ _ (fin i' (cell / m) sd (c + 1) h0) (Int.emod_nonneg _ (by omega)) (Int.emod_lt_of_pos _ m0)
        · -- a number by mixing
          refine ⟨.int cell, rfl, cell, 48271, rfl, rfl, .inr ⟨by decide, by decide⟩, .ref b, rfl, b, _, 3, .int sd, rfl, rfl, .of g1, rfl, sd, 40503, rfl, rfl, .inr ⟨by decide, by decide⟩, _, _, rfl, rfl,
            .ref b, rfl, b, _, 4, .int (c + 1), rfl, rfl, .of g1, rfl, c + 1, 69621, rfl, rfl, .inr ⟨by decide, by decide⟩, _, _, rfl, rfl, _, 12345, rfl, rfl, _, 2147483629, rfl, rfl, (by show (0 : Int) < 2147483629; decide), ?_⟩
          refine ⟨_, rfl, _, rfl, _, 65521, rfl, rfl, (by show (0 : Int) < 65521; decide), _, 11, rfl, rfl, _, _, rfl, rfl, .inl ⟨by omega, by omega⟩,
            .ref b, rfl, b, _, 4, .int (c + 1), rfl, rfl, .of g1, rfl, c + 1, 40692, rfl, rfl, .inr ⟨by decide, by decide⟩, _, _, rfl, rfl,
            .ref b, rfl, b, _, 3, .int sd, rfl, rfl, .of g1, rfl, sd, 104729, rfl, rfl, (by show (0 : Int) < 104729; decide), _, _, rfl, rfl, _, 998244353, rfl, rfl, (by show (0 : Int) < 998244353; decide), ?_⟩
          refine ⟨.ref b, rfl, b, _, 3, .int sd, rfl, rfl, .of g1, rfl, sd, 16807, rfl, rfl, .inr ⟨by decide, by decide⟩, _, rfl, _, _, rfl, rfl, _, 2147483563, rfl, rfl, (by show (0 : Int) < 2147483563; decide), .ref b, rfl, b, _, 3, 3, rfl, rfl, g1, rfl, ?_⟩
          refine ⟨_, rfl, _, 7, rfl, rfl, ⟨by decide, by decide⟩, .int m, rfl, _, m, rfl, rfl, m0, ?_⟩
          rw [upd_upd]
          exact q _ _ (fin i' r _ (c + 1) h0) (Int.emod_nonneg _ (by omega)) (Int.emod_lt_of_pos _ m0)

/-! ### one of a list, one of a text's signs -/
def sp_of : Sp := fun vs H Q _ => ∃ (b s : Addr), Bag b s H ∧
  ((∃ (a : Addr) (xs : List V), vs = [.ref b, .ref a] ∧ At b H a (.lst xs) ∧ 0 < xs.length ∧ xs.length < 1000000 ∧ ∀ H' v, BX b s H H' → v ∈ xs → Q v H') ∨
   (∃ z : Str, vs = [.ref b, .str z] ∧ 0 < z.length ∧ z.length < 1000000 ∧ ∀ H' c, BX b s H H' → c ∈ z.cps.toList → Q (.str (sg c)) H'))
theorem ok_of (T : Tx K mg) : FnOk P w K mg base CX0 2 T.f_of T.fd_of P_of sp_of := by
  have G_pull : FnOk P w K mg base CX0 1 T.f_pull T.fd_pull P_pull sp_pull := ok_pull T
  refine T.F_of.ok sc_of (fun vs H Q E h => ?_) (fun cdv A outer s H vs Q E hr h => ?_)
  · obtain ⟨b, s, _, ⟨a, xs, rfl, _⟩ | ⟨z, rfl, _⟩⟩ := h
    · rfl
    · rfl
  · obtain ⟨b, cs, hB, ⟨a, xs, rfl, hA, l0, l1, q⟩ | ⟨z, rfl, l0, l1, q⟩⟩ := h
    · refine ⟨_, 
      (pss_one (ps_ret (pe_ix ix_list (L2.pv 1) (pe_call G_pull (hr.mono (by decide)) (by rfl) T.g_pull T.F_pull.kp T.b_pull .nil pass0 (pa_cons (L2.pv 0) (pa_cons (pe_callB call_len_seq (by rfl) T.m_len PySem.boot_len (pa_cons (L2.pv 1) pa_nil)) pa_nil))) (fun _ _ => rfl)))), ?_⟩
      refine ⟨.ref a, rfl, .ref b, rfl, .ref a, rfl, a, xs, rfl, .inl hA.l, b, cs, xs.length, rfl, hB, by omega, by omega, fun H1 v x v0 v1 => ?_⟩
      obtain ⟨y, hy, ay⟩ := mem_get (xs := xs) rfl v0 v1
      exact ⟨a, xs, v, y, rfl, rfl, (hA.mv x).l, ay, q _ _ x hy⟩
    · refine ⟨_, 
      (pss_one (ps_ret (pe_ix ix_str (L2.pv 1) (pe_call G_pull (hr.mono (by decide)) (by rfl) T.g_pull T.F_pull.kp T.b_pull .nil pass0 (pa_cons (L2.pv 0) (pa_cons (pe_callB call_len_str (by rfl) T.m_len PySem.boot_len (pa_cons (L2.pv 1) pa_nil)) pa_nil))) (fun _ _ => rfl)))), ?_⟩
      refine ⟨.str z, rfl, .ref b, rfl, .str z, rfl, z, rfl, Nat.le_trans (Nat.le_of_lt l1) (by decide), b, cs, z.length, rfl, hB, by omega, by omega, fun H1 v x v0 v1 => ?_⟩
      obtain ⟨y, hy, ay⟩ := mem_get (xs := z.cps.toList) (n := z.length) (by simp [Str.length]) v0 v1
      exact ⟨z, v, y, rfl, rfl, Nat.le_trans (Nat.le_of_lt l1) (by decide), ay, q _ _ x hy⟩

/-! ### the same data -/
def sp_same (K : PySem.W.Frag) (n : Nat) : Sp := fun vs H Q _ => ∃ v w, vs = [v, w] ∧ Sam K H n v w ∧ ∀ H', Same H H' → Q (.bl true) H'
theorem same_flat (T : Tx K mg) {k n : Nat} {cdv : Value} {A : Around} {outer : List Env} {s : Shared} {H : Hp} {Q : VK} {E : XK} {v : V} (hv : flat1 v = true) (q : ∀ H', Same H H' → Q (.bl true) H') :
    ∃ t, PSs (cxOf CX0 P w K mg base N_same "_law_same" (defScope s_same) T.f_same cdv A outer s H E).nox (defBody s_same) t ∧ t { nx := fun _ H' => Q .non H', rt := Q } (start N_same [v, v]) H := by
  refine ⟨_, 
      (pss_cons (ps_if (pt_val (pe_callB call_isiT (by rfl) T.m_isinstance (by decide +kernel) (pa_cons (L2.pv 1) (pa_cons (pe_tup (pa_cons (pe_bltn (v := .ty "list") (by rfl) T.m_list (by decide +kernel) rfl) (pa_cons (pe_bltn (v := .ty "tuple") (by rfl) T.m_tuple (by decide +kernel) rfl) pa_nil))) pa_nil))))
        pss_never
        pss_nil)
      (pss_cons (ps_if (PW.pt (pw_or (pt_cmpR op_isN (L2.pv 1) pe_non (nomark _)) (pw_or1 (pt_cmpR op_isN (L2.pv 0) pe_non (nomark _)))))
        (pss_one (ps_ret (pe_and (pe_cmpR op_isN (L2.pv 0) pe_non (nomark _)) (pe_one (pe_cmpR op_isN (L2.pv 1) pe_non (nomark _))))))
        pss_nil)
      (pss_cons (ps_if (PW.pt (pw_or (pt_cmpR op_ne (pe_callB call_isi (by rfl) T.m_isinstance (by decide +kernel) (pa_cons (L2.pv 0) (pa_cons (pe_bltn (v := .ty "bool") (by rfl) T.m_bool (by decide +kernel) rfl) pa_nil))) (pe_callB call_isi (by rfl) T.m_isinstance (by decide +kernel) (pa_cons (L2.pv 1) (pa_cons (pe_bltn (v := .ty "bool") (by rfl) T.m_bool (by decide +kernel) rfl) pa_nil))) (nomark _)) (pw_or1 (pt_cmpR op_ne (pe_callB call_isi (by rfl) T.m_isinstance (by decide +kernel) (pa_cons (L2.pv 0) (pa_cons (pe_bltn (v := .ty "int") (by rfl) T.m_int (by decide +kernel) rfl) pa_nil))) (pe_callB call_isi (by rfl) T.m_isinstance (by decide +kernel) (pa_cons (L2.pv 1) (pa_cons (pe_bltn (v := .ty "int") (by rfl) T.m_int (by decide +kernel) rfl) pa_nil))) (nomark _)))))
        (pss_one (ps_ret pe_bl))
        pss_nil)
      (pss_one (ps_ret (pe_and (pe_cmpR op_eq (pe_callB call_isi (by rfl) T.m_isinstance (by decide +kernel) (pa_cons (L2.pv 0) (pa_cons (pe_bltn (v := .ty "str") (by rfl) T.m_str (by decide +kernel) rfl) pa_nil))) (pe_callB call_isi (by rfl) T.m_isinstance (by decide +kernel) (pa_cons (L2.pv 1) (pa_cons (pe_bltn (v := .ty "str") (by rfl) T.m_str (by decide +kernel) rfl) pa_nil))) (nomark _)) (pe_one (pe_cmpR op_eq (L2.pv 0) (L2.pv 1) (nomark _))))))))), ?_⟩
  cases v with
  | byt _ => cases hv
  | flt _ => cases hv
  | ref _ => cases hv
  | ty _ => cases hv
  | non =>
    refine ⟨.non, rfl, (by show 2 ≤ sizeLine; decide), fun p np => ?_⟩
    refine ⟨.non, p, _, _, _, false, rfl, upd_same, .cons (.ty "list") (.cons (.ty "tuple") .nil), .base .non, kit_seq (by decide +kernel) (by decide +kernel), false, rfl, iteF ?_⟩
    refine ⟨.non, rfl, rfl, _, rfl, iteT (iteT ?_)⟩
    refine ⟨.non, rfl, rfl, _, rfl, iteT ?_⟩
    exact ⟨.non, rfl, rfl, q _ (same_new np)⟩
  | bl y =>
    refine ⟨.bl y, rfl, (by show 2 ≤ sizeLine; decide), fun p np => ?_⟩
    refine ⟨.bl y, p, _, _, _, false, rfl, upd_same, .cons (.ty "list") (.cons (.ty "tuple") .nil), .base (.bl y), kit_seq (by decide +kernel) (by decide +kernel), false, rfl, iteF ?_⟩
    refine ⟨.bl y, rfl, rfl, _, rfl, iteF ⟨.bl y, rfl, rfl, _, rfl, iteF ?_⟩⟩
    refine ⟨.bl y, rfl, .bl y, .ty "bool", _, _, true, rfl, .ty _, .base (.bl y), kit_ty (by decide +kernel), .bl y, rfl, .bl y, .ty "bool", _, _, true, rfl, .ty _, .base (.bl y), kit_ty (by decide +kernel), rfl, _, rfl, iteF ⟨.bl y, rfl, .bl y, .ty "int", _, _, true, rfl, .ty _, .base (.bl y), kit_ty (by decide +kernel), .bl y, rfl, .bl y, .ty "int", _, _, true, rfl, .ty _, .base (.bl y), kit_ty (by decide +kernel), rfl, _, rfl, iteF ?_⟩⟩
    refine ⟨.bl y, rfl, .bl y, .ty "str", _, _, false, rfl, .ty _, .base (.bl y), kit_ty (by decide +kernel), .bl y, rfl, .bl y, .ty "str", _, _, false, rfl, .ty _, .base (.bl y), kit_ty (by decide +kernel), rfl, _, rfl, iteT ⟨.bl y, rfl, .bl y, rfl, rfl, ?_⟩⟩
    rw [decide_eq_true rfl]
    exact q _ (same_new np)
  | int y =>
    refine ⟨.int y, rfl, (by show 2 ≤ sizeLine; decide), fun p np => ?_⟩
    refine ⟨.int y, p, _, _, _, false, rfl, upd_same, .cons (.ty "list") (.cons (.ty "tuple") .nil), .base (.int y), kit_seq (by decide +kernel) (by decide +kernel), false, rfl, iteF ?_⟩
    refine ⟨.int y, rfl, rfl, _, rfl, iteF ⟨.int y, rfl, rfl, _, rfl, iteF ?_⟩⟩
    refine ⟨.int y, rfl, .int y, .ty "bool", _, _, false, rfl, .ty _, .base (.int y), kit_ty (by decide +kernel), .int y, rfl, .int y, .ty "bool", _, _, false, rfl, .ty _, .base (.int y), kit_ty (by decide +kernel), rfl, _, rfl, iteF ⟨.int y, rfl, .int y, .ty "int", _, _, true, rfl, .ty _, .base (.int y), kit_ty (by decide +kernel), .int y, rfl, .int y, .ty "int", _, _, true, rfl, .ty _, .base (.int y), kit_ty (by decide +kernel), rfl, _, rfl, iteF ?_⟩⟩
    refine ⟨.int y, rfl, .int y, .ty "str", _, _, false, rfl, .ty _, .base (.int y), kit_ty (by decide +kernel), .int y, rfl, .int y, .ty "str", _, _, false, rfl, .ty _, .base (.int y), kit_ty (by decide +kernel), rfl, _, rfl, iteT ⟨.int y, rfl, .int y, rfl, rfl, ?_⟩⟩
    rw [decide_eq_true rfl]
    exact q _ (same_new np)
  | str y =>
    refine ⟨.str y, rfl, (by show 2 ≤ sizeLine; decide), fun p np => ?_⟩
    refine ⟨.str y, p, _, _, _, false, rfl, upd_same, .cons (.ty "list") (.cons (.ty "tuple") .nil), .base (.str y), kit_seq (by decide +kernel) (by decide +kernel), false, rfl, iteF ?_⟩
    refine ⟨.str y, rfl, rfl, _, rfl, iteF ⟨.str y, rfl, rfl, _, rfl, iteF ?_⟩⟩
    refine ⟨.str y, rfl, .str y, .ty "bool", _, _, false, rfl, .ty _, .base (.str y), kit_ty (by decide +kernel), .str y, rfl, .str y, .ty "bool", _, _, false, rfl, .ty _, .base (.str y), kit_ty (by decide +kernel), rfl, _, rfl, iteF ⟨.str y, rfl, .str y, .ty "int", _, _, false, rfl, .ty _, .base (.str y), kit_ty (by decide +kernel), .str y, rfl, .str y, .ty "int", _, _, false, rfl, .ty _, .base (.str y), kit_ty (by decide +kernel), rfl, _, rfl, iteF ?_⟩⟩
    refine ⟨.str y, rfl, .str y, .ty "str", _, _, true, rfl, .ty _, .base (.str y), kit_ty (by decide +kernel), .str y, rfl, .str y, .ty "str", _, _, true, rfl, .ty _, .base (.str y), kit_ty (by decide +kernel), rfl, _, rfl, iteT ⟨.str y, rfl, .str y, rfl, rfl, ?_⟩⟩
    rw [decide_eq_true rfl]
    exact q _ (same_new np)
theorem ok_same (T : Tx K mg) : ∀ n : Nat, FnOk P w K mg base CX0 (n + 1) T.f_same T.fd_same P_same (sp_same K n)
  | 0 => by
    refine T.F_same.ok sc_same (fun vs H Q E h => ?_) (fun cdv A outer s H vs Q E hr h => ?_)
    · obtain ⟨v, w, rfl, _⟩ := h
      rfl
    · obtain ⟨v, w, rfl, ⟨hf, rfl⟩, q⟩ := h
      exact same_flat T (k := 0) (n := 0) hf q
  | n + 1 => by
    have G_same : FnOk P w K mg base CX0 (n + 1) T.f_same T.fd_same P_same (sp_same K n) := ok_same T n
    refine T.F_same.ok sc_same (fun vs H Q E h => ?_) (fun cdv A outer s H vs Q E hr h => ?_)
    · obtain ⟨v, w, rfl, _⟩ := h
      rfl
    · obtain ⟨v, w, rfl, ⟨hf, rfl⟩ | ⟨a, c, xs, ys, rfl, rfl, h, hz, p'⟩, q⟩ := h
      · exact same_flat T (k := 0) (n := 0) hf q
      have pl : xs.length = ys.length := Paired.length p'
      rcases h with ⟨h1, h2⟩ | ⟨h1, h2⟩
      · -- two lists
        refine ⟨_, 
      (pss_cons (ps_if (pt_val (pe_callB call_isiT (by rfl) T.m_isinstance (by decide +kernel) (pa_cons (L2.pv 1) (pa_cons (pe_tup (pa_cons (pe_bltn (v := .ty "list") (by rfl) T.m_list (by decide +kernel) rfl) (pa_cons (pe_bltn (v := .ty "tuple") (by rfl) T.m_tuple (by decide +kernel) rfl) pa_nil))) pa_nil))))
        (pss_cons (ps_if (PW.pt (pw_or (pt_cmpR op_ne (pe_callB call_isi (by rfl) T.m_isinstance (by decide +kernel) (pa_cons (L2.pv 0) (pa_cons (pe_bltn (v := .ty "list") (by rfl) T.m_list (by decide +kernel) rfl) pa_nil))) (pe_callB call_isi (by rfl) T.m_isinstance (by decide +kernel) (pa_cons (L2.pv 1) (pa_cons (pe_bltn (v := .ty "list") (by rfl) T.m_list (by decide +kernel) rfl) pa_nil))) (nomark _)) (pw_or1 (pt_cmpR op_ne (pe_callB call_isi (by rfl) T.m_isinstance (by decide +kernel) (pa_cons (L2.pv 0) (pa_cons (pe_bltn (v := .ty "tuple") (by rfl) T.m_tuple (by decide +kernel) rfl) pa_nil))) (pe_callB call_isi (by rfl) T.m_isinstance (by decide +kernel) (pa_cons (L2.pv 1) (pa_cons (pe_bltn (v := .ty "tuple") (by rfl) T.m_tuple (by decide +kernel) rfl) pa_nil))) (nomark _)))))
          (pss_one (ps_ret pe_bl))
          pss_nil)
        (pss_one (ps_ret (pe_and (pe_cmpR op_eq (pe_callB call_len_seq (by rfl) T.m_len PySem.boot_len (pa_cons (L2.pv 0) pa_nil)) (pe_callB call_len_seq (by rfl) T.m_len PySem.boot_len (pa_cons (L2.pv 1) pa_nil)) (nomark _)) (pe_one (pe_callB (cr_all rfl) (by rfl) T.m_all (by decide +kernel) (pa_cons (pe_lc (own := [("_law_a", 2), ("_law_b", 3)]) (g := (gTup K 2 (gCons (gName 2) (gCons (gName 3) gNil)))) (tt := tYes) (by rfl) sc_same.nd (RZ.pi_zipA (by rfl) T.m_zip (pa_cons (L2.pv 0) (pa_cons (L2.pv 1) pa_nil))) (blkOk_by (own := [("_law_a", 2), ("_law_b", 3)]) (N := N_same) (sc := defScope s_same) (by decide +kernel)) (fun _ _ _ _ _ => (pg_tup (by rfl) (pgs_cons (pg_name (i := 2) sc_same.nd rfl (.inl rfl)) (pgs_cons (pg_name (i := 3) sc_same.nd rfl (.inl rfl)) pgs_nil)))) (fun _ _ _ _ _ => pts_nil) (fun _ _ _ _ _ => (pe_call G_same hr (by rfl) T.g_same T.F_same.kp T.b_same .nil pass0 (pa_cons (L2.pv 2) (pa_cons (L2.pv 3) pa_nil))))) pa_nil)))))))
        pss_nil)
      pss_never), ?_⟩
        refine ⟨.ref c, rfl, (by show 2 ≤ sizeLine; decide), fun p np => ?_⟩
        have s1 : Same H (upd H p (.tup [.ty "list", .ty "tuple"])) := same_new np
        have k1 := s1 _ _ h1
        have k2 := s1 _ _ h2
        refine ⟨.ref c, p, _, _, _, true, rfl, upd_same, .cons (.ty "list") (.cons (.ty "tuple") .nil), .base (.lst k2), kit_lst, true, rfl, iteT ?_⟩
        refine ⟨.ref a, rfl, .ref a, .ty "list", _, _, true, rfl, .ty _, .base (.lst k1), kit_ty (by decide +kernel), .ref c, rfl, .ref c, .ty "list", _, _, true, rfl, .ty _, .base (.lst k2), kit_ty (by decide +kernel), rfl, _, rfl, iteF ?_⟩
        refine ⟨.ref a, rfl, .ref a, .ty "tuple", _, _, false, rfl, .ty _, .base (.lst k1), kit_ty (by decide +kernel), .ref c, rfl, .ref c, .ty "tuple", _, _, false, rfl, .ty _, .base (.lst k2), kit_ty (by decide +kernel), rfl, _, rfl, iteF ?_⟩
        refine ⟨.ref a, rfl, a, xs, rfl, .inl (.of k1), .ref c, rfl, c, ys, rfl, .inl (.of k2), rfl, _, rfl, ?_⟩
        rw [← pl, decide_eq_true rfl]
        refine iteT ?_
        refine ⟨.ref a, rfl, .ref c, rfl, a, c, xs, ys, rfl, .inl ⟨.of k1, .of k2, fun D nD => ?_⟩⟩
        have nD0 : H D = none := s1.free nD
        refine lc_it (walk_zip (n := xs.length) (by rw [← pl, Nat.min_self])) (fun i H' => Same H H' ∧ H' D = some (.lst ((List.replicate i true).map V.bl)))
          ⟨same_mut s1 nD0, upd_same⟩ (fun i H' _ h => ⟨.of (h.1 _ _ h1), .of (h.1 _ _ h2)⟩) (fun i x H1 H' hi h y => ?_) (fun H' h => ?_)
        · obtain ⟨sm, eD⟩ := h
          obtain ⟨U, u, v, rfl, nU, rfl, gu, gv⟩ := y
          have sU : Same H (upd H1 U (.tup [u, v])) := sm.trans (same_new nU)
          refine ⟨U, [u, v], rfl, .of upd_same, rfl, u, [v], rfl, v, [], rfl, rfl, ?_⟩
          refine ⟨rfl, u, rfl, v, rfl, u, v, rfl, (paired_get p' gu gv).mono sU, fun H3 s3 => ?_⟩
          have eD3 : H3 D = some (.lst ((List.replicate i true).map V.bl)) := s3 _ _ (by rw [upd_ne (ne_of_none eD nU)]; exact eD)
          refine ⟨_, eD3, ?_, same_mut (sU.trans s3) nD0, ?_⟩
          · rw [List.length_map, List.length_replicate]
            exact Nat.lt_trans hi (Nat.lt_of_lt_of_le hz (by decide))
          · rw [upd_same, List.replicate_succ', List.map_append]
            rfl
        · obtain ⟨sm, eD⟩ := h
          refine ⟨D, _, rfl, .of eD, ?_⟩
          rw [show (List.replicate xs.length true).all id = true from by rw [List.all_replicate]; simp]
          exact q _ sm
      · -- two tuples
        refine ⟨_, 
      (pss_cons (ps_if (pt_val (pe_callB call_isiT (by rfl) T.m_isinstance (by decide +kernel) (pa_cons (L2.pv 1) (pa_cons (pe_tup (pa_cons (pe_bltn (v := .ty "list") (by rfl) T.m_list (by decide +kernel) rfl) (pa_cons (pe_bltn (v := .ty "tuple") (by rfl) T.m_tuple (by decide +kernel) rfl) pa_nil))) pa_nil))))
        (pss_cons (ps_if (PW.pt (pw_or (pt_cmpR op_ne (pe_callB call_isi (by rfl) T.m_isinstance (by decide +kernel) (pa_cons (L2.pv 0) (pa_cons (pe_bltn (v := .ty "list") (by rfl) T.m_list (by decide +kernel) rfl) pa_nil))) (pe_callB call_isi (by rfl) T.m_isinstance (by decide +kernel) (pa_cons (L2.pv 1) (pa_cons (pe_bltn (v := .ty "list") (by rfl) T.m_list (by decide +kernel) rfl) pa_nil))) (nomark _)) (pw_or1 (pt_cmpR op_ne (pe_callB call_isi (by rfl) T.m_isinstance (by decide +kernel) (pa_cons (L2.pv 0) (pa_cons (pe_bltn (v := .ty "tuple") (by rfl) T.m_tuple (by decide +kernel) rfl) pa_nil))) (pe_callB call_isi (by rfl) T.m_isinstance (by decide +kernel) (pa_cons (L2.pv 1) (pa_cons (pe_bltn (v := .ty "tuple") (by rfl) T.m_tuple (by decide +kernel) rfl) pa_nil))) (nomark _)))))
          (pss_one (ps_ret pe_bl))
          pss_nil)
        (pss_one (ps_ret (pe_and (pe_cmpR op_eq (pe_callB call_len_seq (by rfl) T.m_len PySem.boot_len (pa_cons (L2.pv 0) pa_nil)) (pe_callB call_len_seq (by rfl) T.m_len PySem.boot_len (pa_cons (L2.pv 1) pa_nil)) (nomark _)) (pe_one (pe_callB (cr_all rfl) (by rfl) T.m_all (by decide +kernel) (pa_cons (pe_lc (own := [("_law_a", 2), ("_law_b", 3)]) (g := (gTup K 2 (gCons (gName 2) (gCons (gName 3) gNil)))) (tt := tYes) (by rfl) sc_same.nd (RZ.pi_zipA (by rfl) T.m_zip (pa_cons (L2.pv 0) (pa_cons (L2.pv 1) pa_nil))) (blkOk_by (own := [("_law_a", 2), ("_law_b", 3)]) (N := N_same) (sc := defScope s_same) (by decide +kernel)) (fun _ _ _ _ _ => (pg_tup (by rfl) (pgs_cons (pg_name (i := 2) sc_same.nd rfl (.inl rfl)) (pgs_cons (pg_name (i := 3) sc_same.nd rfl (.inl rfl)) pgs_nil)))) (fun _ _ _ _ _ => pts_nil) (fun _ _ _ _ _ => (pe_call G_same hr (by rfl) T.g_same T.F_same.kp T.b_same .nil pass0 (pa_cons (L2.pv 2) (pa_cons (L2.pv 3) pa_nil))))) pa_nil)))))))
        pss_nil)
      pss_never), ?_⟩
        refine ⟨.ref c, rfl, (by show 2 ≤ sizeLine; decide), fun p np => ?_⟩
        have s1 : Same H (upd H p (.tup [.ty "list", .ty "tuple"])) := same_new np
        have k1 := s1 _ _ h1
        have k2 := s1 _ _ h2
        refine ⟨.ref c, p, _, _, _, true, rfl, upd_same, .cons (.ty "list") (.cons (.ty "tuple") .nil), .base (.tup k2), kit_tup, true, rfl, iteT ?_⟩
        refine ⟨.ref a, rfl, .ref a, .ty "list", _, _, false, rfl, .ty _, .base (.tup k1), kit_ty (by decide +kernel), .ref c, rfl, .ref c, .ty "list", _, _, false, rfl, .ty _, .base (.tup k2), kit_ty (by decide +kernel), rfl, _, rfl, iteF ?_⟩
        refine ⟨.ref a, rfl, .ref a, .ty "tuple", _, _, true, rfl, .ty _, .base (.tup k1), kit_ty (by decide +kernel), .ref c, rfl, .ref c, .ty "tuple", _, _, true, rfl, .ty _, .base (.tup k2), kit_ty (by decide +kernel), rfl, _, rfl, iteF ?_⟩
        refine ⟨.ref a, rfl, a, xs, rfl, .inr (.of k1), .ref c, rfl, c, ys, rfl, .inr (.of k2), rfl, _, rfl, ?_⟩
        rw [← pl, decide_eq_true rfl]
        refine iteT ?_
        refine ⟨.ref a, rfl, .ref c, rfl, a, c, xs, ys, rfl, .inr ⟨.of k1, .of k2, fun D nD => ?_⟩⟩
        have nD0 : H D = none := s1.free nD
        refine lc_it (walk_zipT (n := xs.length) (by rw [← pl, Nat.min_self])) (fun i H' => Same H H' ∧ H' D = some (.lst ((List.replicate i true).map V.bl)))
          ⟨same_mut s1 nD0, upd_same⟩ (fun i H' _ h => ⟨.of (h.1 _ _ h1), .of (h.1 _ _ h2)⟩) (fun i x H1 H' hi h y => ?_) (fun H' h => ?_)
        · obtain ⟨sm, eD⟩ := h
          obtain ⟨U, u, v, rfl, nU, rfl, gu, gv⟩ := y
          have sU : Same H (upd H1 U (.tup [u, v])) := sm.trans (same_new nU)
          refine ⟨U, [u, v], rfl, .of upd_same, rfl, u, [v], rfl, v, [], rfl, rfl, ?_⟩
          refine ⟨rfl, u, rfl, v, rfl, u, v, rfl, (paired_get p' gu gv).mono sU, fun H3 s3 => ?_⟩
          have eD3 : H3 D = some (.lst ((List.replicate i true).map V.bl)) := s3 _ _ (by rw [upd_ne (ne_of_none eD nU)]; exact eD)
          refine ⟨_, eD3, ?_, same_mut (sU.trans s3) nD0, ?_⟩
          · rw [List.length_map, List.length_replicate]
            exact Nat.lt_trans hi (Nat.lt_of_lt_of_le hz (by decide))
          · rw [upd_same, List.replicate_succ', List.map_append]
            rfl
        · obtain ⟨sm, eD⟩ := h
          refine ⟨D, _, rfl, .of eD, ?_⟩
          rw [show (List.replicate xs.length true).all id = true from by rw [List.all_replicate]; simp]
          exact q _ sm

/-! ### three letters, a word of letters -/
def lets (cs : List Nat) : List V := cs.map fun c => V.str (sg c)
def sp_letters : Sp := fun vs H Q _ => ∃ b s, vs = [.ref b] ∧ Bag b s H ∧ ∀ H' p f y, BX b s H H' → H p = none → 0 ≤ f → f < 26 → y ∈ [(1 : Int), 3, 5, 7, 9, 11] →
  H' p = some (.lst (lets [lett f y 0, lett f y 1, lett f y 2])) → Q (.ref p) H'
theorem ok_letters (T : Tx K mg) : FnOk P w K mg base CX0 3 T.f_letters T.fd_letters P_letters sp_letters := by
  have G_pull : FnOk P w K mg base CX0 1 T.f_pull T.fd_pull P_pull sp_pull := ok_pull T
  have G_of : FnOk P w K mg base CX0 2 T.f_of T.fd_of P_of sp_of := ok_of T
  refine T.F_letters.ok sc_letters (fun vs H Q E h => ?_) (fun cdv A outer s H vs Q E hr h => ?_)
  · obtain ⟨b, s, rfl, _⟩ := h
    rfl
  · obtain ⟨b, cs, rfl, hB, q⟩ := h
    refine ⟨_, 
      (pss_cons (ps_set (i := 1) sc_letters.nd rfl (.inr rfl) pe_str)
      (pss_cons (ps_set (i := 2) sc_letters.nd rfl (.inr rfl) (pe_call G_pull (hr.mono (by decide)) (by rfl) T.g_pull T.F_pull.kp T.b_pull .nil pass0 (pa_cons (L2.pv 0) (pa_cons pe_int pa_nil))))
      (pss_cons (ps_set (i := 3) sc_letters.nd rfl (.inr rfl) (pe_call G_of (hr.mono (by decide)) (by rfl) T.g_of T.F_of.kp T.b_of .nil pass0 (pa_cons (L2.pv 0) (pa_cons (pe_lst (pa_cons pe_int (pa_cons pe_int (pa_cons pe_int (pa_cons pe_int (pa_cons pe_int (pa_cons pe_int pa_nil))))))) pa_nil))))
      (pss_one (ps_ret (pe_lc (own := [("_law_k", 4)]) (g := (gName 4)) (tt := tYes) (by rfl) sc_letters.nd (pi_range1 (by rfl) T.m_range (pa_cons pe_int pa_nil)) (blkOk_by (own := [("_law_k", 4)]) (N := N_letters) (sc := defScope s_letters) (by decide +kernel)) (fun _ _ _ _ _ => (pg_name (i := 4) sc_letters.nd rfl (.inl rfl))) (fun _ _ _ _ _ => pts_nil) (fun _ _ _ _ _ => (pe_ix ix_str (L2.pv 1) (pe_op op_mod (pe_op op_add (L2.pv 2) (pe_op op_mul (L2.pv 3) (L2.pv 4))) pe_int) (fun _ _ => rfl))))))))), ?_⟩
    refine ⟨.ref b, rfl, b, cs, 26, rfl, hB, by decide, by decide, fun H1 f x1 f0 f1 => ?_⟩
    refine ⟨.ref b, rfl, (by show 6 ≤ sizeLine; decide), fun l nl => ?_⟩
    have x2 : BX b cs H1 (upd H1 l (.lst [.int 1, .int 3, .int 5, .int 7, .int 9, .int 11])) := .new x1.bag nl
    refine ⟨b, cs, x2.bag, .inl ⟨l, _, rfl, .new x1.bag nl, by decide, by decide, fun H2 v x3 hv => ?_⟩⟩
    obtain ⟨y, hy, rfl⟩ : ∃ y : Int, y ∈ [(1 : Int), 3, 5, 7, 9, 11] ∧ v = .int y := by
      simp only [List.mem_cons, List.not_mem_nil, or_false] at hv
      rcases hv with rfl | rfl | rfl | rfl | rfl | rfl
      all_goals exact ⟨_, by decide, rfl⟩
    have x4 : BX b cs H H2 := x1.trans (x2.trans x3)
    have hy1 : 0 < y ∧ y < 12 := by
      simp only [List.mem_cons, List.not_mem_nil, or_false] at hy
      omega
    refine ⟨3, rfl, by decide, by decide, fun D nD => ?_⟩
    have nD0 : H D = none := x4.back nD
    refine lc_range (lo := 0) (n := 3) (fun i H' => BX b cs H H' ∧ H' D = some (.lst (lets ((List.range i).map (lett f y))))) ⟨x4.mut hB nD0, upd_same⟩ (fun i H' hi h => ?_) (fun H' h => ?_)
    · obtain ⟨x, eD⟩ := h
      refine ⟨rfl, .str alphabet, rfl, .int f, rfl, .int y, rfl, .int (0 + i), rfl, y, 0 + i, rfl, rfl, .inl ⟨by omega, by omega⟩, f, _, rfl, rfl, _, 26, rfl, rfl, (by show (0 : Int) < 26; decide), alphabet, _, _, rfl, rfl, by decide +kernel, alpha_at (Int.emod_nonneg _ (by decide)) (Int.emod_lt_of_pos _ (by decide)), _, eD, ?_, x.mut hB nD0, ?_⟩
      · simp only [lets, List.length_map, List.length_range]
        exact small1000 (by omega)
      · rw [upd_same, List.range_succ]
        simp only [lets, List.map_append, List.map_cons, List.map_nil, lett, Int.zero_add]
    · obtain ⟨x, eD⟩ := h
      exact q _ D f y x nD0 f0 f1 hy eD
def sp_word : Sp := fun vs H Q _ => ∃ (b s a : Addr) (cs : List Nat) (top : Int), vs = [.ref b, .ref a, .int top] ∧ Bag b s H ∧ At b H a (.lst (lets cs)) ∧ 0 < cs.length ∧ cs.length < 1000 ∧ 0 ≤ top ∧ top < 1000 ∧
  ∀ H' zs, BX b s H H' → (zs.length : Int) ≤ top → (∀ c ∈ zs, c ∈ cs) → Q (.str (tx zs)) H'
theorem ok_word (T : Tx K mg) : FnOk P w K mg base CX0 3 T.f_word T.fd_word P_word sp_word := by
  have G_pull : FnOk P w K mg base CX0 1 T.f_pull T.fd_pull P_pull sp_pull := ok_pull T
  have G_of : FnOk P w K mg base CX0 2 T.f_of T.fd_of P_of sp_of := ok_of T
  refine T.F_word.ok sc_word (fun vs H Q E h => ?_) (fun cdv A outer s H vs Q E hr h => ?_)
  · obtain ⟨b, s, a, cs, top, rfl, _⟩ := h
    rfl
  · obtain ⟨b, cl, a, cs, top, rfl, hB, hA, l0, l1, t0, t1, q⟩ := h
    refine ⟨_, 
      (pss_one (ps_ret (pe_join pe_str (pe_lc (own := [("_law_k", 3)]) (g := (gName 3)) (tt := tYes) (by rfl) sc_word.nd (pi_range1 (by rfl) T.m_range (pa_cons (pe_call G_pull (hr.mono (by decide)) (by rfl) T.g_pull T.F_pull.kp T.b_pull .nil pass0 (pa_cons (L2.pv 0) (pa_cons (pe_op op_add (L2.pv 2) pe_int) pa_nil))) pa_nil)) (blkOk_by (own := [("_law_k", 3)]) (N := N_word) (sc := defScope s_word) (by decide +kernel)) (fun _ _ _ _ _ => (pg_name (i := 3) sc_word.nd rfl (.inl rfl))) (fun _ _ _ _ _ => pts_nil) (fun _ _ _ _ _ => (pe_call G_of (hr.mono (by decide)) (by rfl) T.g_of T.F_of.kp T.b_of .nil pass0 (pa_cons (L2.pv 0) (pa_cons (L2.pv 1) pa_nil)))))))), ?_⟩
    refine ⟨⟨_, rfl⟩, .ref b, rfl, .int top, rfl, top, 1, rfl, rfl, b, cl, top + 1, rfl, hB, by omega, by omega, fun H1 n x1 n0 n1 => ⟨n, rfl, by omega, by omega, fun D nD => ?_⟩⟩
    have nD0 : H D = none := x1.back nD
    refine lc_range (lo := 0) (n := n.toNat) (fun i H' => BX b cl H H' ∧ ∃ zs : List Nat, zs.length = i ∧ (∀ c ∈ zs, c ∈ cs) ∧ H' D = some (.lst (lets zs))) ⟨x1.mut hB nD0, [], rfl, (fun _ h => nomatch h), upd_same⟩ (fun i H' hi h => ?_) (fun H' h => ?_)
    · obtain ⟨x, zs, hz, hc, eD⟩ := h
      refine ⟨rfl, .ref b, rfl, .ref a, rfl, b, cl, x.bag, .inl ⟨a, _, rfl, hA.mv x, by simpa [lets] using l0, by simpa [lets] using Nat.lt_trans l1 (by decide), fun H2 v x2 hv => ?_⟩⟩
      obtain ⟨c, hcc, rfl⟩ := List.mem_map.mp hv
      refine ⟨_, x2.keep D _ (hB.nb nD0) eD, ?_, (x.trans x2).mut hB nD0, zs ++ [c], ?_, ?_, ?_⟩
      · simp only [lets, List.length_map]
        exact small1000 (by omega)
      · simp [hz]
      · intro d hd
        rcases List.mem_append.mp hd with h | h
        · exact hc d h
        · rw [List.mem_singleton.mp h]
          exact hcc
      · rw [upd_same]
        simp [lets]
    · obtain ⟨x, zs, hz, hc, eD⟩ := h
      refine ⟨_, D, zs.map sg, rfl, rfl, .inl (.of ?_), ?_, ?_⟩
      · rw [eD]
        simp [lets]
      · rw [ones_sum, List.length_map]
        show zs.length + zs.length * 0 ≤ _
        omega
      · rw [join_sg]
        exact q _ _ x (by omega) hc

/-! ### what stands behind the first such letter -/
def bh (c : Nat) : List Nat → Option (List Nat)
  | [] => none
  | x :: r => if x = c then some r else bh c r
theorem bh_at {c : Nat} {ws : List Nat} {i : Nat} (hi : i < ws.length) : bh c (ws.drop i) = if ws[i] = c then some (ws.drop (i + 1)) else bh c (ws.drop (i + 1)) := by
  rw [List.drop_eq_getElem_cons hi]
  rfl
def bhV : Option (List Nat) → V
  | none => .non
  | some r => .str (tx r)
theorem bhV_flat (o : Option (List Nat)) : flat1 (bhV o) = true := by cases o <;> rfl
def sp_p_behind : Sp := fun vs H Q _ => ∃ (ws : List Nat) (c : Nat), vs = [.str (tx ws), .str (sg c)] ∧ ws.length < 1000 ∧ ∀ H', Same H H' → Q (bhV (bh c ws)) H'
theorem ok_p_behind (T : Tx K mg) : FnOk P w K mg base CX0 1 T.f_p_behind T.fd_p_behind P_p_behind sp_p_behind := by
  refine T.F_p_behind.ok sc_p_behind (fun vs H Q E h => ?_) (fun cdv A outer s H vs Q E hr h => ?_)
  · obtain ⟨ws, c, rfl, _⟩ := h
    rfl
  · obtain ⟨ws, c, rfl, lw, q⟩ := h
    have zw : (tx ws).length ≤ sizeLine := by rw [tx_len]; exact Nat.le_of_lt (small1000 (by omega))
    refine ⟨_, 
      (pss_cons (ps_for PassesOwn.never rfl (pi_enumS (by rfl) T.m_enumerate (pa_cons (L2.pv 0) pa_nil)) (pg_tup (by rfl) (pgs_cons (pg_name (i := 2) sc_p_behind.nd rfl (.inl rfl)) (pgs_cons (pg_name (i := 3) sc_p_behind.nd rfl (.inl rfl)) pgs_nil)))
        (pss_one (ps_if (pt_cmpR op_eq (L2.pv 3) (L2.pv 1) (nomark _))
          (pss_one (ps_ret (pe_slice sl_str (L2.pv 0) (po_some (pe_op op_add (L2.pv 2) pe_int)) po_none)))
          pss_nil)))
      (pss_one (ps_ret pe_non))), ?_⟩
    refine ⟨.str (tx ws), rfl, tx ws, rfl, for_it walk_enumS (fun i σ H' => ∃ y z, σ = [some (.str (tx ws)), some (.str (sg c)), y, z] ∧ Same H H' ∧ bh c ws = bh c (ws.drop i)) ⟨none, none, rfl, .refl H, rfl⟩ (fun _ _ _ _ _ => trivial) (fun i x σ H1 H' hi h y => ?_) (fun σ H' h => ?_)⟩
    · obtain ⟨u1, u2, rfl, sm, hb⟩ := h
      obtain ⟨U, d, rfl, nU, hd, rfl⟩ := y
      have hi' : i < ws.length := by simpa using hi
      have hd' : ws[i] = d := by
        rw [← Array.getElem?_toList] at hd
        exact (List.getElem?_eq_some_iff.mp hd).2
      rw [bh_at hi', hd'] at hb
      refine ⟨U, _, rfl, .of upd_same, rfl, _, _, rfl, _, [], rfl, rfl, ?_⟩
      refine ⟨.str (sg d), rfl, .str (sg c), rfl, rfl, _, rfl, ite2 (fun e => ?_) (fun e => ?_)⟩
      · have e1 : d = c := by
          have := of_decide_eq_true e
          injection this with t1
          injection t1 with t2
          simpa using t2
        rw [if_pos e1] at hb
        refine ⟨.str (tx ws), rfl, .int (i : Nat), rfl, _, 1, rfl, rfl, _, rfl, tx ws, rfl, zw, ?_⟩
        rw [show ((i : Nat) : Int) + 1 = ((i + 1 : Nat) : Int) by omega, cutS_drop]
        have := q _ (sm.trans (same_new (o := .tup [.int (i : Nat), .str (sg d)]) nU))
        rw [hb] at this
        exact this
      · have e1 : d ≠ c := fun z => e (by rw [z]; exact decide_eq_true rfl)
        rw [if_neg e1] at hb
        exact ⟨_, _, rfl, sm.trans (same_new nU), hb⟩
    · obtain ⟨y, z, rfl, sm, hb⟩ := h
      rw [show ws.drop (tx ws).cps.size = [] from List.drop_of_length_le (by simp)] at hb
      have := q _ sm
      rw [hb] at this
      exact this
/-! ### the law -/
def sp_law (K : PySem.W.Frag) : Sp := fun vs H Q _ => ∃ (a : Addr) (ns : List Int), vs = [.ref a] ∧ SqL K H a (ns.map V.int) ∧ ns.length ≤ 63 ∧ ∀ H', Q (.bl true) H'
theorem ok_law_at (T : Tx K mg) : FnOk P w K mg base CX0 4 T.f_law T.fd_law P_law (sp_law K) := by
  have G_bag : FnOk P w K mg base CX0 1 T.f_bag T.fd_bag P_bag (sp_bag K) := ok_bag T
  have G_pull : FnOk P w K mg base CX0 1 T.f_pull T.fd_pull P_pull sp_pull := ok_pull T
  have G_of : FnOk P w K mg base CX0 2 T.f_of T.fd_of P_of sp_of := ok_of T
  have G_letters : FnOk P w K mg base CX0 3 T.f_letters T.fd_letters P_letters sp_letters := ok_letters T
  have G_word : FnOk P w K mg base CX0 3 T.f_word T.fd_word P_word sp_word := ok_word T
  have G_same : FnOk P w K mg base CX0 2 T.f_same T.fd_same P_same (sp_same K 1) := ok_same T 1
  have G_p_behind : FnOk P w K mg base CX0 1 T.f_p_behind T.fd_p_behind P_p_behind sp_p_behind := ok_p_behind T
  refine T.F_law.ok sc_law (fun vs H Q E h => ?_) (fun cdv A outer s H vs Q E hr h => ?_)
  · obtain ⟨a, ns, rfl, _⟩ := h
    rfl
  · obtain ⟨a, ns, rfl, hS, hlen, q⟩ := h
    refine ⟨_, 
      (pss_cons (ps_set (i := 1) sc_law.nd rfl (.inl rfl) (pe_call G_bag (hr.mono (by decide)) (by rfl) T.g_bag T.F_bag.kp T.b_bag .nil pass0 (pa_cons (L2.pv 0) pa_nil)))
      (pss_cons (ps_set (i := 2) sc_law.nd rfl (.inl rfl) (pe_call G_letters (hr.mono (by decide)) (by rfl) T.g_letters T.F_letters.kp T.b_letters .nil pass0 (pa_cons (L2.pv 1) pa_nil)))
      (pss_cons (ps_for PassesOwn.never rfl (pi_range1 (by rfl) T.m_range (pa_cons pe_int pa_nil)) (pg_name (i := 3) sc_law.nd rfl (.inl rfl))
        (pss_cons (ps_set (i := 4) sc_law.nd rfl (.inl rfl) (pe_call G_word (hr.mono (by decide)) (by rfl) T.g_word T.F_word.kp T.b_word .nil pass0 (pa_cons (L2.pv 1) (pa_cons (pe_slice sl_list (L2.pv 2) po_none (po_some (pe_op op_add pe_int (pe_call G_pull (hr.mono (by decide)) (by rfl) T.g_pull T.F_pull.kp T.b_pull .nil pass0 (pa_cons (L2.pv 1) (pa_cons pe_int pa_nil)))))) (pa_cons pe_int pa_nil)))))
        (pss_cons (ps_set (i := 5) sc_law.nd rfl (.inl rfl) (pe_call G_of (hr.mono (by decide)) (by rfl) T.g_of T.F_of.kp T.b_of .nil pass0 (pa_cons (L2.pv 1) (pa_cons (L2.pv 2) pa_nil))))
        (pss_cons (ps_set (i := 6) sc_law.nd rfl (.inl rfl) pe_non)
        (pss_cons (ps_for PassesOwn.never rfl (pi_range1 (by rfl) T.m_range (pa_cons (pe_callB call_len_str (by rfl) T.m_len PySem.boot_len (pa_cons (L2.pv 4) pa_nil)) pa_nil)) (pg_name (i := 7) sc_law.nd rfl (.inl rfl))
          (pss_one (ps_if (PW.pt (pw_and (pt_cmpR op_isN (L2.pv 6) pe_non (nomark _)) (pw_and1 (pt_cmpR op_eq (pe_ix ix_str (L2.pv 4) (L2.pv 7) (fun _ _ => rfl)) (L2.pv 5) (nomark _)))))
            (pss_one (ps_set (i := 6) sc_law.nd rfl (.inl rfl) (pe_slice sl_str (L2.pv 4) (po_some (pe_op op_add (L2.pv 7) pe_int)) po_none)))
            pss_nil)))
        (pss_one (ps_if (pt_not (pt_val (pe_call G_same (hr.mono (by decide)) (by rfl) T.g_same T.F_same.kp T.b_same .nil pass0 (pa_cons (pe_lst (pa_cons (pe_call G_p_behind (hr.mono (by decide)) (by rfl) T.g_p_behind T.F_p_behind.kp T.b_p_behind .nil pass0 (pa_cons (L2.pv 4) (pa_cons (L2.pv 5) pa_nil))) (pa_cons (LB.pe_callK0 G_p_behind (hr.mono (by decide)) (by rfl) T.g_p_behind T.F_p_behind.kp T.kb_p_behind_0_letter_word pass0 (pk_cons (L2.pv 5) (pk_cons (L2.pv 4) pk_nil))) pa_nil))) (pa_cons (pe_lst (pa_cons (L2.pv 6) (pa_cons (L2.pv 6) pa_nil))) pa_nil)))))
          (pss_one (ps_ret pe_bl))
          pss_nil)))))))
      (pss_one (ps_ret (pe_cmpR op_isN (pe_call G_p_behind (hr.mono (by decide)) (by rfl) T.g_p_behind T.F_p_behind.kp T.b_p_behind .nil pass0 (pa_cons pe_str (pa_cons (pe_ix ix_list (L2.pv 2) pe_int (fun _ _ => rfl)) pa_nil))) pe_non (nomark _))))))), ?_⟩
    refine ⟨.ref a, rfl, a, ns, rfl, hS, hlen, fun H1 b cl s1 hB nb => ?_⟩
    refine ⟨.ref b, rfl, b, cl, rfl, hB, fun H2 p f y x2 np f0 f1 hy ep => ?_⟩
    have hP : At b H2 p (.lst (lets [lett f y 0, lett f y 1, lett f y 2])) := ⟨hB.nb np, ep⟩
    refine ⟨10, rfl, by decide, by decide, for_range (lo := 0) (n := 10) (fun _ σ H' => ∃ y3 y4 y5 y6 y7, σ = [some (.ref a), some (.ref b), some (.ref p), y3, y4, y5, y6, y7] ∧ BX b cl H2 H') ⟨none, none, none, none, none, rfl, .refl x2.bag⟩ (fun i σ H3 hi h => ?_) (fun σ H' h => ?_)⟩
    · obtain ⟨y3, y4, y5, y6, y7, rfl, x3⟩ := h
      refine ⟨.ref b, rfl, .ref p, rfl, .ref b, rfl, b, cl, 3, rfl, x3.bag, by decide, by decide, fun H4 v x4 v0 v1 => ?_⟩
      have x24 := x3.trans x4
      refine ⟨1, v, rfl, rfl, _, rfl, p, _, rfl, (hP.mv x24).l, fun l nl => ?_⟩
      have x5 : BX b cl H4 (upd H4 l (.lst (cutV (lets [lett f y 0, lett f y 1, lett f y 2]) none (some (1 + v))))) := .new x24.bag nl
      have hL : At b (upd H4 l (.lst (cutV (lets [lett f y 0, lett f y 1, lett f y 2]) none (some (1 + v))))) l (.lst (lets ([lett f y 0, lett f y 1, lett f y 2].take (1 + v).toNat))) := by
        refine ⟨x24.bag.nb nl, ?_⟩
        rw [upd_same, cut_takeI _ (by omega)]
        simp only [lets, List.map_take]
      refine ⟨b, cl, l, [lett f y 0, lett f y 1, lett f y 2].take (1 + v).toNat, 14, rfl, x5.bag, hL, ?_, ?_, by decide, by decide, fun H6 ws x6 hws _ => ?_⟩
      · rw [List.length_take]
        simp
        omega
      · rw [List.length_take]
        simp
        omega
      have x26 := x24.trans (x5.trans x6)
      have lw : ws.length < 1000 := by omega
      have zw : (tx ws).length ≤ sizeLine := by rw [tx_len]; exact Nat.le_of_lt (small1000 (by omega))
      -- the sign
      refine ⟨.ref b, rfl, .ref p, rfl, b, cl, x26.bag, .inl ⟨p, _, rfl, hP.mv x26, (by show 0 < 3; decide), (by show 3 < 1000000; decide), fun H7 sv x7 hv => ?_⟩⟩
      obtain ⟨c, _, rfl⟩ := List.mem_map.mp hv
      have x27 := x26.trans x7
      -- due
      refine ⟨.str (tx ws), rfl, tx ws, rfl, zw, _, rfl, by rw [tx_len]; omega, by rw [tx_len]; omega, for_range (lo := 0) (n := ((tx ws).length : Int).toNat) (fun k σ H' => ∃ due y7, σ = [some (.ref a), some (.ref b), some (.ref p), some (.int (0 + i)), some (.str (tx ws)), some (.str (sg c)), some due, y7] ∧ H' = H7 ∧
        ((due = .non ∧ bh c ws = bh c (ws.drop k)) ∨ ∃ r, due = .str (tx r) ∧ bh c ws = some r)) ⟨.non, _, rfl, rfl, .inl ⟨rfl, rfl⟩⟩ (fun k σ H' hk h => ?_) (fun σ H' h => ?_)⟩
      · obtain ⟨due, y7, rfl, rfl, hd⟩ := h
        have hk' : k < ws.length := by rw [tx_len] at hk; omega
        have gk : atI (tx ws).cps.toList (0 + (k : Int)) = some ws[k] := by
          rw [Int.zero_add]
          exact atI_nat (List.getElem?_eq_getElem hk')
        rcases hd with ⟨rfl, hb⟩ | ⟨r, rfl, hb⟩
        · rw [bh_at hk'] at hb
          refine ⟨.non, rfl, rfl, _, rfl, iteT ?_⟩
          refine ⟨.str (tx ws), rfl, .int (0 + k), rfl, tx ws, _, _, rfl, rfl, zw, gk, .str (sg c), rfl, rfl, _, rfl, ite2 (fun e => ?_) (fun e => ?_)⟩
          · have e1 : ws[k] = c := by
              have := of_decide_eq_true e
              injection this with t1
              injection t1 with t2
              simpa using t2
            rw [if_pos e1] at hb
            refine ⟨.str (tx ws), rfl, .int (0 + k), rfl, _, 1, rfl, rfl, _, rfl, tx ws, rfl, zw, ?_⟩
            rw [show (0 : Int) + (k : Int) + 1 = ((k + 1 : Nat) : Int) by omega, cutS_drop]
            exact ⟨_, _, rfl, rfl, .inr ⟨_, rfl, hb⟩⟩
          · have e1 : ws[k] ≠ c := fun z => e (by rw [z]; exact decide_eq_true rfl)
            rw [if_neg e1] at hb
            exact ⟨_, _, rfl, rfl, .inl ⟨rfl, hb⟩⟩
        · refine ⟨.str (tx r), rfl, rfl, _, rfl, iteF ?_⟩
          exact ⟨_, _, rfl, rfl, .inr ⟨r, rfl, hb⟩⟩
      · obtain ⟨due, y7, rfl, rfl, hd⟩ := h
        have ed : due = bhV (bh c ws) := by
          rcases hd with ⟨rfl, hb⟩ | ⟨r, rfl, hb⟩
          · rw [show ws.drop ((tx ws).length : Int).toNat = [] from List.drop_of_length_le (by rw [tx_len]; omega)] at hb
            rw [hb]
            rfl
          · rw [hb]
            rfl
        subst ed
        refine ⟨.str (tx ws), rfl, .str (sg c), rfl, ws, c, rfl, lw, fun H8 s8 => ⟨.str (sg c), rfl, .str (tx ws), rfl, ws, c, rfl, lw, fun H9 s9 => ⟨(by show 2 ≤ sizeLine; decide), fun d1 nd1 => ?_⟩⟩⟩
        refine ⟨_, rfl, _, rfl, (by show 2 ≤ sizeLine; decide), fun d2 nd2 => ?_⟩
        have n12 : d1 ≠ d2 := ne_of_none upd_same nd2
        refine ⟨.ref d1, .ref d2, rfl, sam_lst (by rw [upd_ne n12, upd_same]) upd_same (by show 2 < 100000; decide) (paired_flat fun x hx => ?_), fun H10 s10 => ⟨_, rfl, iteF ?_⟩⟩
        · simp only [List.mem_cons, List.not_mem_nil, or_false, or_self] at hx
          rw [hx]
          exact bhV_flat _
        · exact ⟨_, _, _, _, _, rfl, x27.andSame (s8.trans (s9.trans ((same_new nd1).trans ((same_new nd2).trans s10))))⟩
    · obtain ⟨y3, y4, y5, y6, y7, rfl, x3⟩ := h
      refine ⟨.ref p, rfl, p, _, 0, _, rfl, rfl, (hP.mv x3).l, rfl, [], lett f y 0, rfl, by decide, fun H4 s4 => ⟨rfl, ?_⟩⟩
      exact q _

end
set_option maxHeartbeats 0 in
theorem all_mk {l : PySem.W.OpenLaw} {w : World} {K : PySem.W.Frag} {h : Heap} {mg : Str → Option Value} {fa : Addr} (X : K.In h) (G : h.Ns mainGlobals mg) (hfa : mg "law" = some (.ref fa))
    {f0 : Addr} {od0 an0 : Option Addr} {sl0 : Array (Option Value)} {oc0 kV0 dc0 pm0 cd0 ct0 : Value}
    {f1 : Addr} {od1 an1 : Option Addr} {sl1 : Array (Option Value)} {oc1 kV1 dc1 pm1 cd1 ct1 : Value}
    {f2 : Addr} {od2 an2 : Option Addr} {sl2 : Array (Option Value)} {oc2 kV2 dc2 pm2 cd2 ct2 : Value}
    {f3 : Addr} {od3 an3 : Option Addr} {sl3 : Array (Option Value)} {oc3 kV3 dc3 pm3 cd3 ct3 : Value}
    {f4 : Addr} {od4 an4 : Option Addr} {sl4 : Array (Option Value)} {oc4 kV4 dc4 pm4 cd4 ct4 : Value}
    {f5 : Addr} {od5 an5 : Option Addr} {sl5 : Array (Option Value)} {oc5 kV5 dc5 pm5 cd5 ct5 : Value}
    {f6 : Addr} {od6 an6 : Option Addr} {sl6 : Array (Option Value)} {oc6 kV6 dc6 pm6 cd6 ct6 : Value}
    {f7 : Addr} {od7 an7 : Option Addr} {sl7 : Array (Option Value)} {oc7 kV7 dc7 pm7 cd7 ct7 : Value}
    (a0 : PySem.W.nsIn K mainGlobals "behind" = some (some (.ref f0)))
    (l0 : K.lookup f0 = some ⟨oc0, od0, .func (PySem.W.fnOf "behind" "behind" (defArgs s_p_behind) (defBody s_p_behind) (defScope s_p_behind) .none kV0 dc0 pm0 an0 cd0 ct0), sl0⟩)
    (c0 : PySem.W.codeIn K cd0 "behind" = true)
    (k0 : PySem.W.keepIn K (.ref f0) = true)
    (a1 : PySem.W.nsIn K mainGlobals "_law_bag" = some (some (.ref f1)))
    (l1 : K.lookup f1 = some ⟨oc1, od1, .func (PySem.W.fnOf "_law_bag" "_law_bag" (defArgs s_bag) (defBody s_bag) (defScope s_bag) .none kV1 dc1 pm1 an1 cd1 ct1), sl1⟩)
    (c1 : PySem.W.codeIn K cd1 "_law_bag" = true)
    (k1 : PySem.W.keepIn K (.ref f1) = true)
    (a2 : PySem.W.nsIn K mainGlobals "_law_pull" = some (some (.ref f2)))
    (l2 : K.lookup f2 = some ⟨oc2, od2, .func (PySem.W.fnOf "_law_pull" "_law_pull" (defArgs s_pull) (defBody s_pull) (defScope s_pull) .none kV2 dc2 pm2 an2 cd2 ct2), sl2⟩)
    (c2 : PySem.W.codeIn K cd2 "_law_pull" = true)
    (k2 : PySem.W.keepIn K (.ref f2) = true)
    (a3 : PySem.W.nsIn K mainGlobals "_law_of" = some (some (.ref f3)))
    (l3 : K.lookup f3 = some ⟨oc3, od3, .func (PySem.W.fnOf "_law_of" "_law_of" (defArgs s_of) (defBody s_of) (defScope s_of) .none kV3 dc3 pm3 an3 cd3 ct3), sl3⟩)
    (c3 : PySem.W.codeIn K cd3 "_law_of" = true)
    (k3 : PySem.W.keepIn K (.ref f3) = true)
    (a4 : PySem.W.nsIn K mainGlobals "_law_same" = some (some (.ref f4)))
    (l4 : K.lookup f4 = some ⟨oc4, od4, .func (PySem.W.fnOf "_law_same" "_law_same" (defArgs s_same) (defBody s_same) (defScope s_same) .none kV4 dc4 pm4 an4 cd4 ct4), sl4⟩)
    (c4 : PySem.W.codeIn K cd4 "_law_same" = true)
    (k4 : PySem.W.keepIn K (.ref f4) = true)
    (a5 : PySem.W.nsIn K mainGlobals "_law_letters" = some (some (.ref f5)))
    (l5 : K.lookup f5 = some ⟨oc5, od5, .func (PySem.W.fnOf "_law_letters" "_law_letters" (defArgs s_letters) (defBody s_letters) (defScope s_letters) .none kV5 dc5 pm5 an5 cd5 ct5), sl5⟩)
    (c5 : PySem.W.codeIn K cd5 "_law_letters" = true)
    (k5 : PySem.W.keepIn K (.ref f5) = true)
    (a6 : PySem.W.nsIn K mainGlobals "_law_word" = some (some (.ref f6)))
    (l6 : K.lookup f6 = some ⟨oc6, od6, .func (PySem.W.fnOf "_law_word" "_law_word" (defArgs s_word) (defBody s_word) (defScope s_word) .none kV6 dc6 pm6 an6 cd6 ct6), sl6⟩)
    (c6 : PySem.W.codeIn K cd6 "_law_word" = true)
    (k6 : PySem.W.keepIn K (.ref f6) = true)
    (a7 : PySem.W.nsIn K mainGlobals "law" = some (some (.ref f7)))
    (l7 : K.lookup f7 = some ⟨oc7, od7, .func (PySem.W.fnOf "law" "law" (defArgs s_law) (defBody s_law) (defScope s_law) .none kV7 dc7 pm7 an7 cd7 ct7), sl7⟩)
    (c7 : PySem.W.codeIn K cd7 "law" = true)
    (k7 : PySem.W.keepIn K (.ref f7) = true)
    (z0 : PySem.W.nsIn K mainGlobals "all" = some none)
    (z1 : PySem.W.nsIn K mainGlobals "bool" = some none)
    (z2 : PySem.W.nsIn K mainGlobals "enumerate" = some none)
    (z3 : PySem.W.nsIn K mainGlobals "int" = some none)
    (z4 : PySem.W.nsIn K mainGlobals "isinstance" = some none)
    (z5 : PySem.W.nsIn K mainGlobals "len" = some none)
    (z6 : PySem.W.nsIn K mainGlobals "list" = some none)
    (z7 : PySem.W.nsIn K mainGlobals "range" = some none)
    (z8 : PySem.W.nsIn K mainGlobals "str" = some none)
    (z9 : PySem.W.nsIn K mainGlobals "tuple" = some none)
    (z10 : PySem.W.nsIn K mainGlobals "zip" = some none)
    : ∃ fd : FuncData, (∀ (s : Shared) (v : Value), BindsTo s fd ⟨[v], []⟩ [("_law_script", v)]) ∧ ∀ base : Heap, K.In base → base.Ns mainGlobals mg → FnOk l.prog w K mg base CX0 4 fa fd ["_law_script"] (sp_law K) := by
  have e := hfa.symm.trans (PySem.W.mg_of X G a7)
  cases e
  have F0 := fun_mk (st := s_p_behind) l0 c0 k0
  have b0 := F0.binds (ps := P_p_behind) fun _ _ _ _ _ _ us hl => match us, hl with | [_, _], _ => rfl
  have F1 := fun_mk (st := s_bag) l1 c1 k1
  have b1 := F1.binds (ps := P_bag) fun _ _ _ _ _ _ us hl => match us, hl with | [_], _ => rfl
  have F2 := fun_mk (st := s_pull) l2 c2 k2
  have b2 := F2.binds (ps := P_pull) fun _ _ _ _ _ _ us hl => match us, hl with | [_, _], _ => rfl
  have F3 := fun_mk (st := s_of) l3 c3 k3
  have b3 := F3.binds (ps := P_of) fun _ _ _ _ _ _ us hl => match us, hl with | [_, _], _ => rfl
  have F4 := fun_mk (st := s_same) l4 c4 k4
  have b4 := F4.binds (ps := P_same) fun _ _ _ _ _ _ us hl => match us, hl with | [_, _], _ => rfl
  have F5 := fun_mk (st := s_letters) l5 c5 k5
  have b5 := F5.binds (ps := P_letters) fun _ _ _ _ _ _ us hl => match us, hl with | [_], _ => rfl
  have F6 := fun_mk (st := s_word) l6 c6 k6
  have b6 := F6.binds (ps := P_word) fun _ _ _ _ _ _ us hl => match us, hl with | [_, _, _], _ => rfl
  have F7 := fun_mk (st := s_law) l7 c7 k7
  have b7 := F7.binds (ps := P_law) fun _ _ _ _ _ _ us hl => match us, hl with | [_], _ => rfl
  have kb_p_behind_0_letter_word := kbp_p_behind_0_letter_word F0
  exact ⟨PySem.W.fnOf "law" "law" (defArgs s_law) (defBody s_law) (defScope s_law) .none kV7 dc7 pm7 an7 cd7 ct7, fun s v => .of_eq rfl, fun base _ _ => ok_law_at ⟨_, _, F0, b0, PySem.W.mg_of X G a0, _, _, F1, b1, PySem.W.mg_of X G a1, _, _, F2, b2, PySem.W.mg_of X G a2, _, _, F3, b3, PySem.W.mg_of X G a3, _, _, F4, b4, PySem.W.mg_of X G a4, _, _, F5, b5, PySem.W.mg_of X G a5, _, _, F6, b6, PySem.W.mg_of X G a6, _, _, F7, b7, PySem.W.mg_of X G a7, kb_p_behind_0_letter_word, PySem.W.mg_none_of X G z0, PySem.W.mg_none_of X G z1, PySem.W.mg_none_of X G z2, PySem.W.mg_none_of X G z3, PySem.W.mg_none_of X G z4, PySem.W.mg_none_of X G z5, PySem.W.mg_none_of X G z6, PySem.W.mg_none_of X G z7, PySem.W.mg_none_of X G z8, PySem.W.mg_none_of X G z9, PySem.W.mg_none_of X G z10⟩⟩
end K03
open PySem PySem.W PyProof.Rows
set_option maxHeartbeats 0 in
theorem PySem.Challenge.cw_leakpost_k03_behind_the_first_letter_holds : PySem.Challenge.rw_leakpost_k03_behind_the_first_letter.Holds := by
  w_on; o_law; k_head; (case hw => w_witness2)
  k_fill
  refine L2.walk_of (l := PySem.Challenge.rw_leakpost_k03_behind_the_first_letter) (n := 63) (k := 4) (x := "_law_script") (CX := fun _ => L2.CX0) (sp := fun w => K03.sp_law _) rfl (by decide) rfl ⟨rfl, by decide, by decide⟩ (fun w h Y => PySem.W.kIn_of Y) ?F (fun _ _ a ns hl _ hS => ⟨a, ns, rfl, hS, hl, fun _ => rfl⟩) (fun _ _ _ _ _ h => h)
  case F =>
    intro w mg fa h KX G hmg
    refine' K03.all_mk KX G hmg ?a0 ?l0 ?c0 ?k0 ?a1 ?l1 ?c1 ?k1 ?a2 ?l2 ?c2 ?k2 ?a3 ?l3 ?c3 ?k3 ?a4 ?l4 ?c4 ?k4 ?a5 ?l5 ?c5 ?k5 ?a6 ?l6 ?c6 ?k6 ?a7 ?l7 ?c7 ?k7 ?z0 ?z1 ?z2 ?z3 ?z4 ?z5 ?z6 ?z7 ?z8 ?z9 ?z10
    (case a0 => k_is)
    (case l0 => k_is)
    (case c0 => k_is)
    (case k0 => k_is)
    (case a1 => k_is)
    (case l1 => k_is)
    (case c1 => k_is)
    (case k1 => k_is)
    (case a2 => k_is)
    (case l2 => k_is)
    (case c2 => k_is)
    (case k2 => k_is)
    (case a3 => k_is)
    (case l3 => k_is)
    (case c3 => k_is)
    (case k3 => k_is)
    (case a4 => k_is)
    (case l4 => k_is)
    (case c4 => k_is)
    (case k4 => k_is)
    (case a5 => k_is)
    (case l5 => k_is)
    (case c5 => k_is)
    (case k5 => k_is)
    (case a6 => k_is)
    (case l6 => k_is)
    (case c6 => k_is)
    (case k6 => k_is)
    (case a7 => k_is)
    (case l7 => k_is)
    (case c7 => k_is)
    (case k7 => k_is)
    (case z0 => k_is)
    (case z1 => k_is)
    (case z2 => k_is)
    (case z3 => k_is)
    (case z4 => k_is)
    (case z5 => k_is)
    (case z6 => k_is)
    (case z7 => k_is)
    (case z8 => k_is)
    (case z9 => k_is)
    (case z10 => k_is)
