import PyProof.Rows.All
import Wide.All
import OpenK.AllK
import Wide.FinOn
import HandS.ForMost
import HandS.Exc
import HandS.ExcInit
import HandS.ExcIs
import HandS.ExcField
import HandS.ExcOwn
import HandS.Defaults
import HandS.HeadHook2
import HandS.ExcValue
import HandS.Wide
import HandS.WideBits
import HandS.Style
import HandS.IsInst
import PySem.Challenge.RW_openloops_k28_words_made_by_makers
import KE.DataAny
import HandS.StrMore
import HandS.Zip
import KE.GoesZip
import KE.GoesMore
import KE.GoesEnum
import HandS.Comp
import HandS.Ends
import HandS.HeadEnd
import HandS.TryMany
import HandS.Deep
import PyProof.ReprRoads
import HandS.Gcd
import HandS.SlotsOwn
import HandS.Codes
import KE.KMathGC
import PyProof.NeKinds
import PyProof.EqKinds
import PyProof.Rows.StrCountLaw
import HandS.Base
import HandS.Conv
import PyProof.EnumFor
import PyProof.Draws
import HandS.Iter
import HandS.DictComp
import HandS.Walk
import HandS.SetFor
import PyProof.StrWalks
import PyProof.EnumMake
import HandS.SetTxtIn
import HandS.Strs
import PyProof.Rows.SortStr
import PyProof.StrLawsIn
import PyProof.StrBlock2
import PyProof.Rows.StrNews2
import HandS.AnyAll
import HandS.Lambda
import HandS.Nested
import HandS.MakeKwOnly
import HandS.GenList
import HandS.CallLocal
import HandS.Words
import HandS.WordsExc
import HandS.EndTab
import HandS.HeadHook3
import HandS.HeadHook4
import HandS.Head0
import HandS.Head1
import HandS.Head2
import HandS.HeadHook1
set_option Elab.async false
set_option linter.all false
set_option maxRecDepth 100000
set_option maxHeartbeats 2000000
/-! Own error classes whose instances are held as values: C(..) with any keywords, e.f, isinstance(e, C). -/
namespace XV
open PySem PySem.Spec PyProof.Rows L2 PySem.HandSPX

section
variable {prog : Program} {w : World} {A : Around} {E : Value → Shared → Prop} {R : Result → Shared → Prop}
variable {h : Heap} {g : Array GenState} {d : Drawn} {t : Nat} {os : OsState}
variable {nm q : Str} {C N : Addr} {bs bm bmB : List Value} {hdct : Bool} {sn : List Str} {sub : List Value} {ab : Bool} {col : Option Bool} {dd : Option Addr}
variable {k0 k1 k2 k3 k5 : Option Value} {B newId initId : String}

/-- the check ahead of __new__, whatever keywords there are -/
theorem chkNew {M : Model} (F : ExcBaseFacts B newId initId bmB) (hT : ∀ X : String, bm.contains (.type X) = bmB.contains (.type X))
    {rest : List Value} {kw : List (Str × Value)} {Q : Unit → Shared → Prop}
    (hC : h.get? C = some (excClassObj nm q C N bs bm hdct sn sub ab col dd k0 k1 k2 k3 k5 newId)) (hq : Q () ⟨h, g, d, t, os⟩) :
    wpAny M A (checkBuiltinCall newId ⟨.ref C :: rest, kw⟩) Q E ⟨h, g, d, t, os⟩ := by
  have cB : (Value.ref C :: bm).contains (.type B) = true := by
    rw [List.contains_cons, hT, F.hasB]
    exact Bool.or_true _
  have star := F.noStar
  simp only [checkBuiltinCall, F.newKind, F.newSplit, F.newRow]
  repeat (first
    | refine wpAny_loadPart_at hC ?_
    | (refine wpAny_isSubtype_exc hC ?_; rw [cB])
    | refine wpAny_staticBase_exc hC ?_
    | refine wpAny_madeBy_exc hC ?_
    | simp only [bne_self_eq_false, Bool.false_eq_true, if_false]
    | wp_step)
  exact hq

theorem runNew (F : ExcBaseFacts B newId initId bmB) (hT : ∀ X : String, bm.contains (.type X) = bmB.contains (.type X))
    {rest : List Value} {kw : List (Str × Value)}
    (hC : h.get? C = some (excClassObj nm q C N bs bm hdct sn sub ab col dd k0 k1 k2 k3 k5 newId))
    (hq : R (.ok (.ret (.ref (h.objs.size + 1)))) ⟨(h.push (PySem.W.kdv_tup rest)).push (excO C h.objs.size), g, d, t, os⟩) (hz : rest.length ≤ sizeLine) :
    codeAny (model prog w) A (.builtin newId ⟨.ref C :: rest, kw⟩) R ⟨h, g, d, t, os⟩ := by
  have ends := F.ends
  have cB : (Value.ref C :: bm).contains (.type B) = true := by
    rw [List.contains_cons, hT, F.hasB]
    exact Bool.or_true _
  have cA : (Value.ref C :: bm).contains (.type "AttributeError") = false := by
    rw [List.contains_cons, hT, F.noAttr] <;> rfl
  have cN : (Value.ref C :: bm).contains (.type "NameError") = false := by
    rw [List.contains_cons, hT, F.noName] <;> rfl
  refine codeAny_builtinAt F.entry ?_
  unfold Builtin.«BaseException.__new__»
  refine PySem.wpAt_bind ?_
  show PySem.wpAt _ _ _ (stack >>= _) _ _ _
  refine PySem.wpAt_bind (PySem.wpAt_stack fun p below => PySem.wpAt_of_wpAny ?_)
  wp_walk
  refine PySem.wpAt_of_wpAny ?_
  rw [F.owner]
  repeat (first
    | with_reducible refine wpAny_madeHere_exc F.canon hC ?_
    | with_reducible refine wpAny_loadPart_at hC ?_
    | (with_reducible refine wpAny_isSubtype_exc hC ?_; first | rw [cB] | rw [cA] | rw [cN])
    | wp_step)
  show R _ _
  rw [Heap.size_push]
  exact hq

theorem typeCall (F : ExcBaseFacts B newId initId bmB) (hT : ∀ X : String, bm.contains (.type X) = bmB.contains (.type X))
    {rest : List Value} {kw : List (Str × Value)} {fI : Addr} {Q : Fin → Shared → Prop}
    (hC : h.get? C = some (excClassObj nm q C N bs bm hdct sn sub ab col dd k0 k1 k2 k3 k5 newId))
    (hi : W.Looks (model prog w) h (typeLookup (.ref C) "__init__") (some (.ref fI)))
    (hb : ∀ self, W.Looks (model prog w) h (bindSpecial (.ref fI) self) (.ref fI, [self])) (hz : rest.length ≤ sizeLine)
    (hq : codeAny (model prog w) A (.call (.ref fI) ⟨.ref (h.objs.size + 1) :: rest, kw⟩)
      (fun r s' => match r with
        | .ok (.ret v) => v = .none ∧ Q (.done (.ret (.ref (h.objs.size + 1)))) s'
        | .ok _ => False
        | .error e => E e s')
      ⟨(h.push (W.kdv_tup rest)).push (excO C h.objs.size), g, d, t, os⟩) :
    wpAny (model prog w) A (Builtin.«type.__call__» ⟨.ref C :: rest, kw⟩) Q E ⟨h, g, d, t, os⟩ := by
  repeat (first
    | with_reducible refine wpAny_loadPart_at hC ?_
    | with_reducible refine wpAny_madeBy_exc hC ?_
    | wp_step)
  refine codeAny_call_builtin_code (Code.quiet_builtin _ F.quiet) (chkNew F hT hC ?_)
  refine runNew F hT hC ?_ hz
  show wpAny _ _ _ _ _ _
  have k : ∀ b o, h.get? b = some o → ((h.push (W.kdv_tup rest)).push (excO C h.objs.size)).get? b = some o :=
    fun b o e => Heap.get?_push_of_some _ (Heap.get?_push_of_some _ e)
  have hC1 := k _ _ hC
  have got : ((h.push (W.kdv_tup rest)).push (excO C h.objs.size)).get? (h.objs.size + 1) = some (excO C h.objs.size) := by heap_get
  have cC : (Value.ref C :: bm).contains (.ref C) = true := by simp
  have i1 := hi.keeps k
  have b1 := (hb (.ref (h.objs.size + 1))).keeps k
  unfold isInstance
  repeat (first
    | with_reducible refine wpAny_loadPart_at got ?_
    | (with_reducible refine wpAny_isSubtype_exc hC1 ?_; rw [cC])
    | wp_step)
  show wpAny _ _ (typeLookup (.ref C) _) _ _ _
  refine i1.at ?_
  refine wpAny_holding (wpAny_bind (b1.at ?_))
  refine wpAny_bind (wpAny_call (codeAny_mono hq fun r s' z => ?_))
  rcases r with e | (v | _ | _ | _) <;> first | exact z | exact z.elim | skip
  obtain ⟨rfl, z⟩ := z
  first
    | exact wpAny_pure (wpAny_pure z)
    | (wp_walk; exact z)

theorem chkCall {M : Model} {rest : List Value} {kw : List (Str × Value)} {Q : Unit → Shared → Prop}
    (hC : h.get? C = some (excClassObj nm q C N bs bm hdct sn sub ab col dd k0 k1 k2 k3 k5 newId)) (hq : Q () ⟨h, g, d, t, os⟩) :
    wpAny M A (checkBuiltinCall "type.__call__" ⟨.ref C :: rest, kw⟩) Q E ⟨h, g, d, t, os⟩ := by
  have f3 := tc_sub
  have ty : (⟨h, g, d, t, os⟩ : Shared).TypeIs (.ref C) "type" := ⟨_, hC, rfl⟩
  have args : argsOk "type.__call__" ⟨.ref C :: rest, kw⟩ := PySem.W.tc_args _ _ _
  unfold argsOk at args
  simp only [checkBuiltinCall, tc_kind, tc_split]
  repeat (any_goals (first
    | assumption
    | with_reducible refine wpAny_loadPart_at hC ?_
    | with_reducible refine wpAny_onRaise ?_
    | with_reducible refine wpAny_map ?_
    | rw [args]
    | wp_step))

/-- C(.., k = v, ..): an exception is made, then its class's own __init__ is called upon it -/
theorem callOwn (F : ExcBaseFacts B newId initId bmB) (hT : ∀ X : String, bm.contains (.type X) = bmB.contains (.type X))
    {rest : List Value} {kw : List (Str × Value)} {fI : Addr}
    (hC : h.get? C = some (excClassObj nm q C N bs bm hdct sn sub ab col dd k0 k1 k2 k3 k5 newId))
    (hi : W.Looks (model prog w) h (typeLookup (.ref C) "__init__") (some (.ref fI)))
    (hb : ∀ self, W.Looks (model prog w) h (bindSpecial (.ref fI) self) (.ref fI, [self])) (hz : rest.length ≤ sizeLine)
    (hq : codeAny (model prog w) (A.under (.builtin "type.__call__" ⟨.ref C :: rest, kw⟩)) (.call (.ref fI) ⟨.ref (h.objs.size + 1) :: rest, kw⟩)
      (W.InitBack (h.objs.size + 1) R) ⟨(h.push (W.kdv_tup rest)).push (excO C h.objs.size), g, d, t, os⟩) :
    codeAny (model prog w) A (.call (.ref C) ⟨rest, kw⟩) R ⟨h, g, d, t, os⟩ := by
  have f1 := tc_lookup
  have f2 := tc_bind (.ref C)
  have ty : (⟨h, g, d, t, os⟩ : Shared).TypeIs (.ref C) "type" := ⟨_, hC, rfl⟩
  refine codeAny_of_tree ?_
  show wpAny _ _ (callAny (.ref C) _) _ _ _
  repeat (any_goals (first
    | assumption
    | with_reducible refine wpAny_loadPart_at hC ?_
    | wp_step))
  refine ⟨rfl, ?_⟩
  refine codeAny_call_builtin_at (Code.quiet_builtin _ (by decide +kernel)) entry_typeCall (chkCall hC (typeCall F hT hC hi hb hz ?_))
  refine codeAny_mono hq fun r s' z => ?_
  rcases r with e | (v | _ | _ | _) <;> exact z
end
end XV
set_option Elab.async false
set_option linter.all false
set_option maxRecDepth 100000
set_option maxHeartbeats 2000000
namespace XV
open PySem PySem.Spec PyProof.Rows L2

theorem upd_mid {H : Hp} {a d : Addr} {o p q : HO} : upd (upd (upd H a o) d p) a q = upd (upd H d p) a q := by
  funext b
  by_cases e : b = a
  · subst e
    rw [upd_same, upd_same]
  · rw [upd_ne e, upd_ne e]
    by_cases f : b = d
    · subst f
      rw [upd_same, upd_same]
    · rw [upd_ne f, upd_ne f, upd_ne e]

/-- what __init__ of an error with the one field fld does -/
def spI (C : Addr) (fld : Str) : Sp := fun vs H Q _ => ∃ (a : Addr) (v : V), vs = [.ref a, v] ∧ H a = some (exo a C none) ∧
  ∀ d, H d = none → d ≠ a → Q .non (upd (upd H d (exd d [(fld, v)])) a (exo a C (some d)))

/-- what is known of such a class and its __init__ -/
structure XCls (P : Program) (w : World) (K : PySem.W.Frag) (mg : Str → Option Value) (base : Heap) (nm fld : Str) (C fI : Addr) (fd : FuncData) : Prop where
  g : mg nm = some (.ref C)
  ox : OexC K C
  iC : PySem.W.findIn K (.ref C) "__init__" = some (some (.ref fI))
  tI : PySem.W.typeIn K (.ref fI) = some (.type "function")
  no : PySem.W.findIn K (.ref C) fld = some none
  ini : FnOk P w K mg base CX0 1 fI fd ["self", fld] (spI C fld)
  b1 : ∀ (s : Shared) (x u : Value), K.In s.heap → BindsTo s fd ⟨[x, u], []⟩ [("self", x), (fld, u)]
  b0 : ∀ (s : Shared) (x : Value), K.In s.heap → BindsTo s fd ⟨[x], []⟩ [("self", x), (fld, .none)]
  bk : ∀ (s : Shared) (x u : Value), K.In s.heap → BindsTo s fd ⟨[x], [(fld, u)]⟩ [("self", x), (fld, u)]

/-- C(v): a new exception at a, its dict at d -/
structure rMk (C : Addr) (fld : Str) (v : V) (H : Hp) (Q : VK) : Prop where
  go : ∀ a d, H a = none → H d = none → d ≠ a → Q (.ref a) (upd (upd H d (exd d [(fld, v)])) a (exo a C (some d)))

section
variable {X : Cx} {pins : List (Addr × Obj)} {σ : L2.St} {H : Hp} {s : Shared} {Q : VK} {nm fld : Str} {C fI : Addr} {fd : FuncData} {v : V} {u : Value}
theorem mk_run (T : XCls X.prog X.w X.K X.mg X.base nm fld C fI fd) (hr : Room 2 X.A) (I : Inv X pins σ H s) {us : List Value} {kw : List (Str × Value)} (hu : us.length ≤ 1)
    (hb : ∀ (s' : Shared) (x : Value), X.K.In s'.heap → BindsTo s' fd ⟨x :: us, kw⟩ [("self", x), (fld, u)]) (rv : RelV v u) (q : rMk C fld v H Q) :
    wpAny (model X.prog X.w) X.A (call (.ref C) us kw) (EP X pins σ Q) X.xe s := by
  obtain ⟨n0, q0, N, bs, bm, sn, sub, ab, col, dd, k0, k1, k2, k3, k5, hC, hbm⟩ := T.ox.cls
  obtain ⟨hp, g, dr, tk, os⟩ := s
  have le1 : hp.objs.size ≤ hp.objs.size + 1 := Nat.le_succ _
  have fr : H (hp.objs.size + 1) = none := I.hok.fresh le1
  have kk : ∀ b o, hp.get? b = some o → ((hp.push (PySem.W.kdv_tup us)).push (PySem.HandSPX.excO C hp.objs.size)).get? b = some o :=
    fun b o e => Heap.get?_push_of_some _ (Heap.get?_push_of_some _ e)
  have got : ((hp.push (PySem.W.kdv_tup us)).push (PySem.HandSPX.excO C hp.objs.size)).get? (hp.objs.size + 1) = some (PySem.HandSPX.excO C hp.objs.size) := by heap_get
  have I2 := I.laid (t' := tk) (a := hp.objs.size + 1) (o := exo (hp.objs.size + 1) C none) (h' := (hp.push (PySem.W.kdv_tup us)).push (PySem.HandSPX.excO C hp.objs.size)) kk le1 (exo_ok got)
  have hz : us.length ≤ sizeLine := by
    rw [sizeLine_eq]
    omega
  have sp : spI C fld [.ref (hp.objs.size + 1), v] (upd H (hp.objs.size + 1) (exo (hp.objs.size + 1) C none)) (fun z H2 => z = .non ∧ Q (.ref (hp.objs.size + 1)) H2) E0 := by
    refine ⟨_, v, rfl, upd_same, fun d nd ne => ⟨rfl, ?_⟩⟩
    rw [upd_mid]
    rw [upd_ne ne] at nd
    exact q.go _ d fr nd ne
  refine wpAny_call (callOwn PySem.F.excBase_ValueError (fun Y => PySem.HandSPX.refsVE_contains Y bm hbm) (I.kIn _ _ hC) (PySem.W.looks_findIn I.kIn T.iC)
    (fun self => PySem.W.bind_fn I.kIn self T.tI) hz
    (codeAny_mono (T.ini.run _ X.stack _ _ ⟨Value.ref (hp.objs.size + 1) :: us, kw⟩ [Value.ref (hp.objs.size + 1), u] [.ref (hp.objs.size + 1), v] _ E0
      (hr.make C us kw) (I2.env0.make C us kw) (hb _ _ I2.kIn) (.cons rfl (.cons rv .nil)) sp) fun r s' z => ?_))
  cases r with
  | error e => exact False.elim z
  | ok fl =>
    cases fl with
    | ret r0 =>
      obtain ⟨z0, H', J, rz, ez, qz⟩ := I2.after z
      subst ez
      exact ⟨rz, ⟨V.ref (hp.objs.size + 1), H', J, rfl, qz⟩⟩
    | next => exact False.elim z
    | brk => exact False.elim z
    | cont => exact False.elim z
end

/-- of a list with one value -/
def oneOf (q : V → Hp → Prop) : List V → Hp → Prop
  | [v], H => q v H
  | _, _ => False
theorem oneOf.elim {q : V → Hp → Prop} : ∀ {vs : List V} {H : Hp}, oneOf q vs H → ∃ v, vs = [v] ∧ q v H
  | [v], _, h => ⟨v, rfl, h⟩
  | [], _, h => h.elim
  | _ :: _ :: _, _, h => h.elim
section
variable {X : Cx} {nm fld : Str} {C fI : Addr} {fd : FuncData} {e : Expr} {te : TE} {p pos kpos : Pos}
/-- C(e) -/
theorem pe_mk1 (T : XCls X.prog X.w X.K X.mg X.base nm fld C fI fd) (hr : Room 2 X.A) (hg : Gl X nm) (he : PE X e te) (hdb : (nm == ("__debug__" : Str)) = false := by decide)
    (hs : starEach (e :: []) X.env = (false, eval e X.env) :: starEach [] X.env := by rfl) (hpl : (backTo pos (starEach [] X.env)).any (·.1) = false := by rfl) :
    PE X (.Call (.Name nm p) [e] [] pos) (fun σ H Q => te σ H fun v H1 => rMk C fld v H1 Q) := by
  refine ⟨fun pins s σ H Q I h => ?_⟩
  refine wpAny_Call_Name_kw (ld_glob I hg T.g ?_ hdb)
  have ha : PA X [e] (tCons te tNil) := pa_cons he pa_nil hs
  refine PySem.W.callWith_K (h₀ := X.base) I.ok.mod.kin T.ox.kC (thn (ha.run pos pins s σ H (oneOf fun v H1 => rMk C fld v H1 Q) I h) fun us s1 z => ?_) hs hpl
  obtain ⟨vs, H1, I1, r, q⟩ := z
  obtain ⟨v, ev, q⟩ := oneOf.elim q
  subst ev
  cases r with
  | cons rv rn =>
    cases rn
    exact ⟨I1.kIn, mk_run T hr I1 (by simp) (fun s' x X' => T.b1 s' x _ X') rv q⟩
/-- C() -/
theorem pe_mk0 (T : XCls X.prog X.w X.K X.mg X.base nm fld C fI fd) (hr : Room 2 X.A) (hg : Gl X nm) (hdb : (nm == ("__debug__" : Str)) = false := by decide) :
    PE X (.Call (.Name nm p) [] [] pos) (fun σ H Q => rMk C fld .non H Q) := by
  refine ⟨fun pins s σ H Q I h => ?_⟩
  refine wpAny_Call_Name_kw (ld_glob I hg T.g ?_ hdb)
  exact PySem.W.callWith_K0 I.kIn T.ox.kC (mk_run (us := []) T hr I (by simp) (fun s' x X' => T.b0 s' x X') (v := .non) rfl h)
/-- C(fld = e) -/
theorem pe_mkK (T : XCls X.prog X.w X.K X.mg X.base nm fld C fI fd) (hr : Room 2 X.A) (hg : Gl X nm) (he : PE X e te) (hdb : (nm == ("__debug__" : Str)) = false := by decide)
    (hall : (backToKw pos (keywordEach [⟨some fld, e, kpos⟩] X.env)).all (·.1.isSome) = true := by rfl) (hks : (backToKw pos (keywordEach [⟨some fld, e, kpos⟩] X.env)).filterMap (·.1) = [fld] := by rfl)
    (hpl : ((backTo pos (starEach [] X.env)).any (·.1) || (backToKw pos (keywordEach [⟨some fld, e, kpos⟩] X.env)).any (·.1.isNone)) = false := by rfl) :
    PE X (.Call (.Name nm p) [] [⟨some fld, e, kpos⟩] pos) (fun σ H Q => te σ H fun v H1 => rMk C fld v H1 Q) := by
  refine ⟨fun pins s σ H Q I h => ?_⟩
  refine wpAny_Call_Name_kw (ld_glob I hg T.g ?_ hdb)
  have hk : PK X [⟨some fld, e, kpos⟩] (tCons te tNil) := pk_cons he pk_nil
  refine PySem.W.callWith_KW0 (h₀ := X.base) I.ok.mod.kin T.ox.kC hall (thn (hk.run pos pins s σ H (oneOf fun v H1 => rMk C fld v H1 Q) I h) fun us s1 z => ?_) hpl
  obtain ⟨vs, H1, I1, r, q⟩ := z
  obtain ⟨v, ev, q⟩ := oneOf.elim q
  subst ev
  cases r with
  | cons rv rn =>
    cases rn
    refine ⟨I1.kIn, ?_⟩
    rw [hks]
    exact mk_run (us := []) T hr I1 (by simp) (fun s' x X' => T.bk s' x _ X') rv q
end
end XV
set_option Elab.async false
set_option linter.all false
set_option maxRecDepth 100000
set_option maxHeartbeats 4000000
namespace XV
open PySem PySem.Spec PyProof.Rows L2

/-! ### e.f -/
/-- x is an error of the class at C with the fields fs -/
def Err (H : Hp) (x : V) (C : Addr) (fs : List (Str × V)) : Prop := ∃ a d, x = .ref a ∧ H a = some (exo a C (some d)) ∧ H d = some (exd d fs)
/-- the facts that a read of the field n wants -/
structure XF (K : PySem.W.Frag) (C : Addr) (n : Str) : Prop where
  xf : XfC K C
  no : PySem.W.findIn K (.ref C) n = some none
section
variable {X : Cx}
theorem pe_xget {e : Expr} {te : TE} {pos : Pos} {n : Str} (he : PE X e te) (hb : attributeBase e n X.env (eval e X.env) = eval e X.env := by rfl) :
    PE X (.Attribute e n pos) (fun σ H Q => te σ H fun x H1 => ∃ C fs v, Err H1 x C fs ∧ XF X.K C n ∧ fs.lookup n = some v ∧ Q v H1) := by
  refine ⟨fun pins s σ H Q I h => ?_⟩
  refine attr_of hb (thn (he.run pins s σ H _ I h) fun u s1 hh => ?_)
  obtain ⟨x, H1, I1, rx, C, fs, v, ⟨a, d, ex, ea, ed⟩, T, l, q⟩ := hh
  subst ex
  obtain rfl : u = Value.ref a := rx
  obtain ⟨t1, ho⟩ := exo_at I1.hok ea
  obtain ⟨mA, hns, hrel⟩ := exd_at I1.hok ed
  obtain ⟨od, hod, hl⟩ := lookIn_ns hns
  obtain ⟨w1, hw, rw1⟩ := RelO.some_of (v := v) (o := mA n) (by rw [← l]; exact hrel n)
  have J : PySem.W.InstAt s1.heap a _ C (some od) := ⟨ho, rfl, rfl, hod⟩
  exact HandSPX.exc_get I1.kIn J T.xf.ga T.xf.gg T.xf.exC (PySem.W.findObj_own T.xf.hdC T.no rfl (by rw [hl, hw])) (handed_of rw1) ⟨v, H1, I1.tok _, rw1, q⟩
end
end XV

/-! ### isinstance of an error, with its dict or without -/
namespace XV
open PySem PySem.W PySem.Calls PyProof.Rows L2
theorem find_cls {K : Frag} {D : Addr} {od : Option Obj} (E : ExcC K D) : findObj K D od "__class__" = some (.bind (.builtin "getset_descriptor.__get__") (.builtin "object.__class__")) := by
  have hc : (clsIn K D).isSome = true := by
    obtain ⟨cd, hc, _⟩ := any_some E.hd
    rw [hc]
    rfl
  cases od with
  | none => exact findObj_dataN hc E.ha E.hn E.ht
  | some o => exact findObj_data hc E.ha E.hn E.ht
theorem getCls {prog : Program} {w : World} {A : Around} {E : Value → Shared → Prop} {s : Shared} {K : Frag} {x D : Addr} {ox : Obj} {od : Option Obj} {Q : Option Value → Shared → Prop}
    (C : ExcC K D) (X : K.In s.heap) (I : InstAt s.heap x ox D od) (q : Q (some (.ref D)) { s with toks := s.toks + 1 }) : wpAny (model prog w) A (getAttr? (.ref x) "__class__") Q E s := by
  have fnd := find_cls (od := od) C
  obtain ⟨hp, g, d, t, os⟩ := s
  have tyx := I.type (M := model prog w)
  have look1 := looks_findIn (M := model prog w) X C.hg
  have look2 := looks_findIn (M := model prog w) X C.hk
  have look3 := looks_find (M := model prog w) X I fnd
  have isB : Looks (model prog w) hp (isInstance (.ref x) (.type "BaseException")) true := tyx.andThen (looks_subIn X C.hs)
  have n0 : (false && onTheHeap (Value.builtin "BaseException.__getattribute__")) = false := rfl
  have n2 : (Value.builtin "BaseException.__getattribute__" == Value.builtin "object.__getattribute__") = false := by decide +kernel
  have n1 : (onTheHeap (Value.ref D) && Value.builtin "BaseException.__getattribute__" == Value.builtin "object.__getattribute__") = false := by
    rw [n2]
    rfl
  unfold getAttr? getAttrBy? getAttrBy
  refine wpAny_bind (wpAny_mkText (wpAny_bind (wpAny_attempt (wpAny_holding (wpAny_bind (tyx.at (wpAny_bind (look1.at ?_))))))))
  show wpAny _ _ (if (onTheHeap (Value.ref D) && Value.builtin "BaseException.__getattribute__" == Value.builtin "object.__getattribute__") = true then _ else _) _ _ _
  rw [n1, if_neg Bool.false_ne_true]
  unfold getAttrByItsOwn hookBefore
  refine wpAny_bind ?_
  rw [if_pos (show onTheHeap (Value.ref D) = true from rfl)]
  refine look2.at ?_
  refine wpAny_bind (wpAny_attempt (wpAny_holding ?_))
  unfold callGetattribute
  rw [n0, if_neg Bool.false_ne_true]
  unfold boundAndCalled
  rw [PySem.F.excAttr_ValueError.ga.bind (.ref x)]
  refine wpAny_bind (wpAny_pure ?_)
  show wpAny _ _ (call (.builtin "BaseException.__getattribute__") [.ref x, .str "__class__" t]) _ _ _
  refine wpAny_call (codeAny_call_builtin PySem.F.excAttr_ValueError.ga.plain PySem.F.entry_bexc_ga ?_)
  refine @check_slot (model prog w) _ _ ⟨hp, g, d, t + 1, os⟩ "BaseException.__getattribute__" "BaseException" "__getattribute__" (.ref x) [.str "__class__" t] [] _ (by decide +kernel) (by decide +kernel) isB (PySem.F.args_bexc_ga (.ref x) (.str "__class__" t)) ?_
  unfold Builtin.«object.__getattribute__»
  refine wpAny_bind (wpAny_of_eq (a := ((Value.ref x : Value), [Value.str "__class__" t])) (by first | rfl | (simp only [slotArgs]; rfl)) ?_)
  refine wpAny_bind (wpAny_pure (wpAny_bind (tyx.at (wpAny_bind (look3.at ?_)))))
  show wpAny _ _ (holding [Value.builtin "object.__class__"] (call (.builtin "getset_descriptor.__get__") [.builtin "object.__class__", .ref x, .ref D]) >>= ret) _ _ _
  refine wpAny_bind (wpAny_holding (wpAny_call (class_get (s := ⟨hp, g, d, t + 1, os⟩) (ox := ox) (od := od) X I C.hm ?_)))
  refine wpAny_pure ?_
  show wpAny _ _ (handedOut (.ref D)) _ _ _
  rw [handedOut_of (v := .ref D) rfl]
  first
    | exact wpAny_pure (wpAny_pure q)
    | exact wpAny_pure q
    | exact wpAny_pure (wpAny_bind (wpAny_pure (wpAny_pure q)))
theorem kitErr {K : Frag} {x D : Addr} {ox : Obj} {od : Option Obj} (C : ExcC K D) : KitX K (.ref x) (.ref D) (fun h => InstAt h x ox D od) where
  ty := fun _ _ _ I => I.type
  it := fun _ _ X _ => by
    obtain ⟨cdD, hcD, _⟩ := any_some C.hd
    unfold clsIn at hcD
    split at hcD
    · rename_i c' d' cd' sl' ho
      intro A' Q' E' s' k q
      unfold isType loadHead
      exact wpAny_bind (wpAny_loadPart (k _ _ (X _ _ ho)) (wpAny_pure q))
    · cases hcD
  ne := fun h tp dd its n sl X htp => by
    obtain ⟨cdD, hcD, _⟩ := any_some C.hd
    refine Bool.eq_false_iff.mpr fun q => ?_
    have e : D = tp := Value.ref.inj (beq_iff_eq.mp q)
    subst e
    unfold clsIn at hcD
    split at hcD
    · rename_i c' d' cd' sl' ho
      have z := (X _ _ ho).symm.trans htp
      cases z
    · cases hcD
  ca := fun X I k => getCls C X I k
end XV

namespace XV
open PySem PySem.Spec PyProof.Rows L2
/-- x is an error of the class at C, whatever else is known of it -/
def IsE (H : Hp) (x : V) (C : Addr) : Prop := ∃ a, x = .ref a ∧ (H a = some (exo a C none) ∨ ∃ d fs, H a = some (exo a C (some d)) ∧ H d = some (exd d fs))
theorem Err.isE {H : Hp} {x : V} {C : Addr} {fs : List (Str × V)} (h : Err H x C fs) : IsE H x C := by
  obtain ⟨a, d, e, e1, e2⟩ := h
  exact ⟨a, e, .inr ⟨d, fs, e1, e2⟩⟩
def rIsX (K : PySem.W.Frag) : List V → Hp → VK → Prop := fun xs H Q => ∃ (x c : V) (D : Addr) (cv : Value) (b : Bool), xs = [x, c] ∧ IsE H x D ∧ ExcC K D ∧ (∀ u, RelV c u → u = cv) ∧ PySem.W.kitOne K (.ref D) cv = some b ∧ Q (.bl b) H
theorem call_isX {X : Cx} : CallR X (.builtin "isinstance") (rIsX X.K) := by
  intro pins s σ H xs us Q I r h
  obtain ⟨x, c, D, cv, b, rfl, ⟨a, ex, hx⟩, C, hcv, e, q⟩ := h
  subst ex
  cases r with
  | cons rx rr =>
    cases rr with
    | cons rt rr =>
      cases rr
      cases rx
      have ec := hcv _ rt
      subst ec
      rcases hx with hx | ⟨d, fs, hx, hd⟩
      · obtain ⟨t1, ho⟩ := exo_at I.hok hx
        have J : PySem.W.InstAt s.heap a _ D none := ⟨ho, rfl, rfl, trivial⟩
        exact PySem.W.kia_one (kitErr C) I.kIn J e (fun z => nomatch z) fun tk => ⟨.bl b, H, I.kept (t' := tk) fun _ _ z => z, rfl, q⟩
      · obtain ⟨t1, ho⟩ := exo_at I.hok hx
        obtain ⟨mA, hns, _⟩ := exd_at I.hok hd
        obtain ⟨od, hod, _⟩ := lookIn_ns hns
        have J : PySem.W.InstAt s.heap a _ D (some od) := ⟨ho, rfl, rfl, hod⟩
        exact PySem.W.kia_one (kitErr C) I.kIn J e (fun z => nomatch z) fun tk => ⟨.bl b, H, I.kept (t' := tk) fun _ _ z => z, rfl, q⟩
end XV
set_option Elab.async false
set_option linter.all false
set_option maxRecDepth 100000
set_option maxHeartbeats 4000000
namespace XV
open PySem PySem.Spec PyProof.Rows L2

/-! ### an error class without an __init__ of its own: C() -/
theorem pe_mkE {X : Cx} {nm : Str} {C : Addr} {bmB : List Value} {B newId initId : String} {p pos : Pos} (F : ExcBaseFacts B newId initId bmB) (q : PySem.W.excIn X.K C bmB newId = true) (gC : X.mg nm = some (.ref C))
    (kC : PySem.W.keepIn X.K (.ref C) = true) (hg : Gl X nm) (hdb : (nm == ("__debug__" : Str)) = false := by decide) :
    PE X (.Call (.Name nm p) [] [] pos) (fun σ H Q => ∀ a, H a = none → Q (.ref a) (upd H a (exo a C none))) := by
  refine ⟨fun pins s σ H Q I h => ?_⟩
  refine wpAny_Call_Name_kw (ld_glob I hg gC ?_ hdb)
  refine PySem.W.callWith_K0 I.kIn kC ?_
  obtain ⟨bm, N, n0, qn, bs, hdct, sn, sub, ab, col, dd, k0, k1, k2, k3, k5, mN, hC, hN, hni, T⟩ := exc_obj I.kIn q
  obtain ⟨hp, g, d, t, os⟩ := s
  refine wpAny_call_exc_subT F T hC hN hni (fun h' e hm => ?_) (by show 0 ≤ sizeLine; exact Nat.zero_le _)
  obtain ⟨t1, he, _, _⟩ := hm.there
  have hn : H e = none := I.hok.gone hm.new
  exact ⟨.ref e, _, I.laidN (t' := t) (a := e) (o := exo e C none) hm.keeps hm.new hn (exo_ok he), rfl, h e hn⟩

/-! ### facts by Bools -/
def clsB (K : PySem.W.Frag) (C : Addr) : Bool := match K.lookup C with
  | some ⟨.type "type", _, .cls cd, sl⟩ => (match cd.mro, sl.toList with
    | .ref C' :: bm, [_, _, _, _, some (.builtin n), _] => (C' == C && n == "ValueError.__new__") && (cd.hasDict && (!cd.hasDel && PySem.HandSPX.refsVE bm))
    | _, _ => false)
  | _ => false
theorem clsB_ok {K : PySem.W.Frag} {C : Addr} (h : clsB K C = true) :
    ∃ nm q N bs bm sn sub ab col dd k0 k1 k2 k3 k5, K.lookup C = some (excClassObj nm q C N bs bm true sn sub ab col dd k0 k1 k2 k3 k5 "ValueError.__new__") ∧ PySem.HandSPX.refsVE bm = true := by
  unfold clsB at h
  split at h
  · rename_i dd cd sl ho
    split at h
    · rename_i C' bm k0 k1 k2 k3 n k5 hm hs
      obtain ⟨h1, h2⟩ := He.ba h
      obtain ⟨h3, h4⟩ := He.ba h1
      obtain ⟨h5, h6⟩ := He.ba h2
      obtain ⟨h7, h8⟩ := He.ba h6
      obtain ⟨n1, bs, mro, ns, qn, hd, sn, sub, ab, col, del⟩ := cd
      dsimp only at hm h5 h7
      have e1 : C' = C := eq_of_beq h3
      have e2 : n = "ValueError.__new__" := eq_of_beq h4
      have e3 : del = false := by
        cases del with
        | false => rfl
        | true => cases h7
      subst e1 e2 e3 hm h5
      have e4 : sl = #[k0, k1, k2, k3, some (.builtin "ValueError.__new__"), k5] := by
        obtain ⟨l⟩ := sl
        simp only at hs
        rw [hs]
      subst e4
      exact ⟨n1, qn, ns, bs, bm, sn, sub, ab, col, dd, k0, k1, k2, k3, k5, ho, h8⟩
    · cases h
  · cases h
def oexB (K : PySem.W.Frag) (C : Addr) : Bool := clsB K C && (He.eqO (PySem.W.findIn K (.ref C) "__setattr__") (some (some (.builtin "object.__setattr__"))) &&
  (decide (PySem.W.subIn K (.ref C) (.type "BaseException") = some true) && (decide (PySem.W.typeIn K (.ref C) = some (.type "type")) && PySem.W.keepIn K (.ref C))))
theorem oexB_ok {K : PySem.W.Frag} {C : Addr} (h : oexB K C = true) : OexC K C := by
  obtain ⟨h1, h⟩ := He.ba h
  obtain ⟨h2, h⟩ := He.ba h
  obtain ⟨h3, h⟩ := He.ba h
  obtain ⟨h4, h5⟩ := He.ba h
  exact ⟨clsB_ok h1, He.eqO_ok h2, of_decide_eq_true h3, of_decide_eq_true h4, h5⟩
def excB (K : PySem.W.Frag) (D : Addr) : Bool := xfB K D && (He.eqO (PySem.W.findIn K (.ref D) "__class__") (some (some (.builtin "object.__class__"))) &&
  (He.eqO (PySem.W.specialIn K (.builtin "object.__class__") "__get__") (some (some (.builtin "getset_descriptor.__get__"))) &&
  (decide (PySem.W.takesIn K (.builtin "object.__class__") = some true) && decide (PySem.W.mroIn K D (.type "object") = some true))))
theorem excB_ok {K : PySem.W.Frag} {D : Addr} (h : excB K D = true) : ExcC K D := by
  obtain ⟨h1, h⟩ := He.ba h
  obtain ⟨h2, h⟩ := He.ba h
  obtain ⟨h3, h⟩ := He.ba h
  obtain ⟨h4, h5⟩ := He.ba h
  have x := xfB_ok h1
  exact ⟨x.ga, x.gg, x.exC, x.hdC, He.eqO_ok h2, He.eqO_ok h3, of_decide_eq_true h4, of_decide_eq_true h5⟩
/-- an error class nm whose own __init__ sets the field fld -/
def xclsB (K : PySem.W.Frag) (nm fld : Str) : Bool := He.eqO (PySem.W.nsIn K mainGlobals nm) (some (some (.ref (He.ga K nm)))) && (oexB K (He.ga K nm) &&
  (He.eqO (PySem.W.findIn K (.ref (He.ga K nm)) "__init__") (some (some (.ref (He.fAd K (nm, some "__init__"))))) &&
  (decide (PySem.W.typeIn K (.ref (He.fAd K (nm, some "__init__"))) = some (.type "function")) && (He.eqO (PySem.W.findIn K (.ref (He.ga K nm)) fld) (some none) && excB K (He.ga K nm)))))
/-- one without -/
def ecls0B (K : PySem.W.Frag) (nm : Str) : Bool := He.eqO (PySem.W.nsIn K mainGlobals nm) (some (some (.ref (He.ga K nm)))) && (PySem.W.excIn K (He.ga K nm) He.veBase "ValueError.__new__" && (PySem.W.keepIn K (.ref (He.ga K nm)) && excB K (He.ga K nm)))

/-! ### __init__(self, fld=None): self.fld = fld -/
def initA (fld : Str) (p1 p2 p3 : Pos) : Arguments :=
  { posonlyargs := [], args := [{ arg := "self", annotation := none, pos := p1 }, { arg := fld, annotation := none, pos := p2 }], vararg := none, kwonlyargs := [], kw_defaults := [], kwarg := none, defaults := [.Constant .none 0 p3] }
def initB (fld : Str) (q1 q2 q3 q4 : Pos) : List Stmt := [.Assign [.Attribute (.Name "self" q1) fld q2] (.Name fld q3) q4]
def initS (fld : Str) : Scope := { kind := .function, names := [(PySem.Str.ofString "self", .local), (fld, .local)], isGenerator := false, isCoroutine := false, more := [] }

section
variable {P : Program} {w : World} {K : PySem.W.Frag} {mg : Str → Option Value} {base h : Heap} {nm qual fld : Str} {p1 p2 p3 q1 q2 q3 q4 : Pos} {C fI : Addr} {fd : FuncData}
theorem ok_initV (F : FunD K "__init__" qual (initA "value" p1 p2 p3) (initB "value" q1 q2 q3 q4) (initS "value") [.non] [] fI fd) (O : OexC K C) (no : PySem.W.findIn K (.ref C) "value" = some none) :
    FnOk P w K mg base CX0 1 fI fd ["self", "value"] (spI C "value") := by
  refine F.ok (N := ["self", "value"]) ⟨rfl, rfl, rfl, by decide +kernel, rfl, by decide +kernel, by decide +kernel⟩ (fun vs H Q E h => ?_) (fun cdv A outer s H vs Q E hr h => ?_)
  · obtain ⟨a, v, rfl, _⟩ := h
    rfl
  · obtain ⟨a, v, rfl, ha, q⟩ := h
    exact ⟨_, pss_one (ps_ost (pv 0) (pv 1)), ⟨_, rfl, _, rfl, a, C, rfl, O, no, .inl ⟨ha, fun d n ne => q d n ne⟩⟩⟩
theorem ok_initP (F : FunD K "__init__" qual (initA "place" p1 p2 p3) (initB "place" q1 q2 q3 q4) (initS "place") [.non] [] fI fd) (O : OexC K C) (no : PySem.W.findIn K (.ref C) "place" = some none) :
    FnOk P w K mg base CX0 1 fI fd ["self", "place"] (spI C "place") := by
  refine F.ok (N := ["self", "place"]) ⟨rfl, rfl, rfl, by decide +kernel, rfl, by decide +kernel, by decide +kernel⟩ (fun vs H Q E h => ?_) (fun cdv A outer s H vs Q E hr h => ?_)
  · obtain ⟨a, v, rfl, _⟩ := h
    rfl
  · obtain ⟨a, v, rfl, ha, q⟩ := h
    exact ⟨_, pss_one (ps_ost (pv 0) (pv 1)), ⟨_, rfl, _, rfl, a, C, rfl, O, no, .inl ⟨ha, fun d n ne => q d n ne⟩⟩⟩
theorem bind_ini {args : Args} {binds : List Value → List (Str × Value)} (F : FunD K "__init__" qual (initA fld p1 p2 p3) (initB fld q1 q2 q3 q4) (initS fld) [.non] [] fI fd)
    (hb : ∀ (T : Addr) (kV doc pm : Value) (an : Option Addr) (cdv ct : Value), ∃ k, bindArgs (PySem.W.fnOf "__init__" qual (initA fld p1 p2 p3) (initB fld q1 q2 q3 q4) (initS fld) (.ref T) kV doc pm an cdv ct) args = seqItems? (.ref T) >>= k ∧ k (some #[Value.none]) = pure (binds [.none]))
    (s : Shared) (X : K.In s.heap) : BindsTo s fd args (binds [.none]) := by
  obtain ⟨oc, od, dV, kV, doc, pm, an, cdv, ct, osl, rfl, lk, hcd, hD, hK⟩ := F.ex
  rcases hD with ⟨e, _⟩ | ⟨_, T, o, its, m, rfl, lT, oT, rT⟩
  · cases e
  · cases rT with
    | cons r0 r1 =>
      cases r1
      cases r0
      obtain ⟨k, e1, e2⟩ := hb T kV doc pm an cdv ct
      refine BindsTo.of_looks fun M => ?_
      rw [e1]
      exact looks_items X lT oT (.of_pure e2)
theorem xcls_V (X : K.In h) (G : h.Ns mainGlobals mg) (c : xclsB K nm "value" = true) (F : FunD K "__init__" qual (initA "value" p1 p2 p3) (initB "value" q1 q2 q3 q4) (initS "value") [.non] [] (He.fAd K (nm, some "__init__")) fd) :
    XCls P w K mg base nm "value" (He.ga K nm) (He.fAd K (nm, some "__init__")) fd := by
  obtain ⟨c1, c⟩ := He.ba c
  obtain ⟨c2, c⟩ := He.ba c
  obtain ⟨c3, c⟩ := He.ba c
  obtain ⟨c4, c⟩ := He.ba c
  obtain ⟨c5, c6⟩ := He.ba c
  have O := oexB_ok c2
  have no := He.eqO_ok c5
  exact ⟨PySem.W.mg_of X G (He.eqO_ok c1), O, He.eqO_ok c3, of_decide_eq_true c4, no, ok_initV F O no,
    fun s x u Y => bind_ini (binds := fun _ => [("self", x), ("value", u)]) F (fun _ _ _ _ _ _ _ => ⟨_, rfl, rfl⟩) s Y,
    fun s x Y => bind_ini (binds := fun _ => [("self", x), ("value", .none)]) F (fun _ _ _ _ _ _ _ => ⟨_, rfl, rfl⟩) s Y,
    fun s x u Y => bind_ini (binds := fun _ => [("self", x), ("value", u)]) F (fun _ _ _ _ _ _ _ => ⟨_, rfl, rfl⟩) s Y⟩
theorem xcls_P (X : K.In h) (G : h.Ns mainGlobals mg) (c : xclsB K nm "place" = true) (F : FunD K "__init__" qual (initA "place" p1 p2 p3) (initB "place" q1 q2 q3 q4) (initS "place") [.non] [] (He.fAd K (nm, some "__init__")) fd) :
    XCls P w K mg base nm "place" (He.ga K nm) (He.fAd K (nm, some "__init__")) fd := by
  obtain ⟨c1, c⟩ := He.ba c
  obtain ⟨c2, c⟩ := He.ba c
  obtain ⟨c3, c⟩ := He.ba c
  obtain ⟨c4, c⟩ := He.ba c
  obtain ⟨c5, c6⟩ := He.ba c
  have O := oexB_ok c2
  have no := He.eqO_ok c5
  exact ⟨PySem.W.mg_of X G (He.eqO_ok c1), O, He.eqO_ok c3, of_decide_eq_true c4, no, ok_initP F O no,
    fun s x u Y => bind_ini (binds := fun _ => [("self", x), ("place", u)]) F (fun _ _ _ _ _ _ _ => ⟨_, rfl, rfl⟩) s Y,
    fun s x Y => bind_ini (binds := fun _ => [("self", x), ("place", .none)]) F (fun _ _ _ _ _ _ _ => ⟨_, rfl, rfl⟩) s Y,
    fun s x u Y => bind_ini (binds := fun _ => [("self", x), ("place", u)]) F (fun _ _ _ _ _ _ _ => ⟨_, rfl, rfl⟩) s Y⟩
theorem xcls_E (c : xclsB K nm fld = true) : ExcC K (He.ga K nm) ∧ XF K (He.ga K nm) fld := by
  obtain ⟨c1, c⟩ := He.ba c
  obtain ⟨c2, c⟩ := He.ba c
  obtain ⟨c3, c⟩ := He.ba c
  obtain ⟨c4, c⟩ := He.ba c
  obtain ⟨c5, c6⟩ := He.ba c
  exact ⟨excB_ok c6, ⟨xfB_ok (He.ba c6).1, He.eqO_ok c5⟩⟩
end
/-! ### a Hook with one Bool more -/
def hookB (n : Nat) (fa : List He.Fa) (fn : List He.DefD) (bx : PySem.W.Frag → Bool) : PySem.W.Hook where
  α := He.AlD × Bool
  obs := fun s => (He.obsDG n fa fn s.heap.get?, bx (He.frG s.heap.get? (He.asD s.heap.get? n)))
  val := fun _ => (He.valD fn, true)
  says := fun _ h => ∃ K : PySem.W.Frag, K.In h ∧ He.SaysD fa fn K ∧ bx K = true
  of := fun _ _ e => ⟨_, He.frG_in, congrArg Prod.fst e, congrArg Prod.snd e⟩
  keeps := fun _ _ _ ⟨K, hK, c⟩ k => ⟨K, PySem.W.Frag.In.keeps hK k, c⟩
def obsB (n : Nat) (fa : List He.Fa) (fn : List He.DefD) (bx : PySem.W.Frag → Bool) (g : Addr → Option Obj) : He.AlD × Bool := (He.obsDG n fa fn g, bx (He.frG g (He.asD g n)))
theorem obsB_eq {n : Nat} {fa : List He.Fa} {fn : List He.DefD} {bx : PySem.W.Frag → Bool} {g : Addr → Option Obj} {s : Shared} (h : ∀ a, g a = s.heap.get? a) : obsB n fa fn bx g = (hookB n fa fn bx).obs s := by
  have e : g = s.heap.get? := funext h
  rw [e] <;> rfl
end XV
set_option Elab.async false
set_option linter.all false
set_option maxRecDepth 100000
set_option maxHeartbeats 4000000
/-! Words of our own for calls of the text's defs, and the drawing of numbers. -/
namespace XV
open PySem PySem.Spec PyProof.Rows L2

/-- the module's name x is a def that keeps sp -/
structure Ok (P : Program) (w : World) (K : PySem.W.Frag) (mg : Str → Option Value) (base : Heap) (x : Str) (k : Nat) (ps : List Str) (sp : Sp) : Prop where
  ex : ∃ f fd, FnOk P w K mg base CX0 k f fd ps sp ∧ mg x = some (.ref f) ∧ PySem.W.keepIn K (.ref f) = true ∧ Binds K fd ps []
section
variable {X : Cx} {k : Nat} {ps : List Str} {sp : Sp} {x : Str} {e : Expr} {es : List Expr} {t : TA} {p pos : Pos}
theorem pe_callO (o : Ok X.prog X.w X.K X.mg X.base x k ps sp) (hr : Room k X.A) (hg : Gl X x) (ha : PA X (e :: es) t) (hdb : (x == ("__debug__" : Str)) = false := by decide)
    (he : starEach (e :: es) X.env = (false, eval e X.env) :: starEach es X.env := by rfl) (hpl : (backTo pos (starEach es X.env)).any (·.1) = false := by rfl) :
    PE X (.Call (.Name x p) (e :: es) [] pos) (tCall sp [] E0 t) := by
  obtain ⟨f, fd, F, hm, hk, b⟩ := o.ex
  exact pe_call F hr hg hm hk b .nil pass0 ha hdb he hpl
theorem pe_callO0 (o : Ok X.prog X.w X.K X.mg X.base x k ps sp) (hr : Room k X.A) (hg : Gl X x) (hdb : (x == ("__debug__" : Str)) = false := by decide) :
    PE X (.Call (.Name x p) [] [] pos) (tCall sp [] E0 tNil) := by
  obtain ⟨f, fd, F, hm, hk, b⟩ := o.ex
  exact pe_call0 F hr hg hm hk b .nil pass0 hdb
end
theorem Ok.mk' {P : Program} {w : World} {K : PySem.W.Frag} {mg : Str → Option Value} {base : Heap} {x : Str} {k : Nat} {ps : List Str} {sp : Sp} {body : List Stmt} {params : Arguments} {scope : Scope} {f : Addr} {fd : FuncData}
    (F : FunD K x x params body scope [] [] f fd) (g : mg x = some (.ref f)) (b : ∀ (kV doc pm : Value) (an : Option Addr) (cdv ct : Value) (us : List Value), us.length = ps.length → bindArgs (PySem.W.fnOf x x params body scope .none kV doc pm an cdv ct) ⟨us, []⟩ = pure (ps.zip us))
    (ok : FnOk P w K mg base CX0 k f fd ps sp) : Ok P w K mg base x k ps sp := ⟨f, fd, ok, g, F.kp, F.bindsN b⟩

/-- i ** j, the answer of at most 2 ^ 27 bits -/
def CPowW (i j : Int) : Prop := 0 ≤ j ∧ (Builtin.Int.intBits i : Int) * j ≤ 2 ^ 27
theorem op_powW {X : Cx} : OpR X (binaryOp .Pow) (rI CPowW fun i j => .int (i ^ j.toNat)) := opI fun _ _ _ _ _ _ _ hc q => pow_int hc.1 hc.2 q

/-! ### the list of three numbers from which is drawn -/
/-- at g: a list [a, b, c], a below 10 ** 600, b below 2 ** 31, c at most n -/
def Dr (H : Hp) (g : Addr) (n : Nat) : Prop := ∃ a b c : Int, H g = some (.lst [.int a, .int b, .int c]) ∧ 0 ≤ a ∧ a < 10 ^ 600 ∧ 0 ≤ b ∧ b < 2147483647 ∧ 0 ≤ c ∧ c ≤ n
theorem Dr.mono {H : Hp} {g : Addr} {n m : Nat} (h : Dr H g n) (l : n ≤ m) : Dr H g m := by
  obtain ⟨a, b, c, e, h1, h2, h3, h4, h5, h6⟩ := h
  exact ⟨a, b, c, e, h1, h2, h3, h4, h5, by omega⟩
/-- all but g as it was -/
def But (H H' : Hp) (g : Addr) : Prop := ∀ b o, b ≠ g → H b = some o → H' b = some o
theorem But.refl (H : Hp) (g : Addr) : But H H g := fun _ _ _ e => e
theorem But.trans {H H1 H2 : Hp} {g : Addr} (a : But H H1 g) (b : But H1 H2 g) : But H H2 g := fun c o n e => b c o n (a c o n e)
theorem But.upd {H : Hp} {g : Addr} {o : HO} : But H (upd H g o) g := fun b u n e => by
  rw [upd_ne n]
  exact e
theorem Same.but {H H' : Hp} {g : Addr} (a : Same H H') : But H H' g := fun b o _ e => a b o e
theorem same_new {H : Hp} {p : Addr} {o : HO} (h : H p = none) : Same H (L2.upd H p o) := fun b x e => by
  rw [upd_ne (ne_of_none e h)]
  exact e
def spHash : Sp := fun vs H Q _ => ∃ s i : Int, vs = [.int s, .int i] ∧ 0 ≤ s ∧ s < 2147483647 ∧ 0 ≤ i ∧ i < 2 ^ 60 ∧ ∀ r : Int, 0 ≤ r → r < 2147483647 → Q (.int r) H
def spRand : Sp := fun vs H Q _ => ∃ (g : Addr) (n : Nat) (m : Int), vs = [.ref g, .int m] ∧ Dr H g n ∧ n ≤ 1000000 ∧ 0 < m ∧ m < 10 ^ 100 ∧
  ∀ (H' : Hp) (r : Int), 0 ≤ r → r < m → But H H' g → Dr H' g (n + 20) → Q (.int r) H'
end XV
set_option Elab.async false
set_option linter.all false
set_option maxRecDepth 100000
set_option maxHeartbeats 4000000
namespace KJ
open PySem PySem.Spec PyProof.Rows L2 XV
def top (i : Nat) : Stmt := PySem.Challenge.pw_openloops_k28_words_made_by_makers.main.body.getD i (.Pass ⟨0, 0, 0, 0⟩)
abbrev sHash : Stmt := top 42
abbrev sGen : Stmt := top 44
abbrev sRand : Stmt := top 43
abbrev FnP (K : PySem.W.Frag) (x : Str) (st : Stmt) (f : Addr) (fd : FuncData) : Prop := FunD K x x (defArgs st) (defBody st) (defScope st) [] [] f fd
theorem scHash : FnScope ["_law_seed", "_law_index", "_law_mixed"] ["_law_seed", "_law_index"] (defScope sHash) := ⟨rfl, rfl, rfl, by decide +kernel, rfl, by decide +kernel, by decide +kernel⟩
theorem scGen : FnScope ["_law_script", "_law_index", "_law_seed"] ["_law_script", "_law_index"] (defScope sGen) := ⟨rfl, rfl, rfl, by decide +kernel, rfl, by decide +kernel, by decide +kernel⟩
theorem scRand : FnScope ["_law_generator_here", "_law_bound", "_law_drawn", "_law_turn"] ["_law_generator_here", "_law_bound"] (defScope sRand) := ⟨rfl, rfl, rfl, by decide +kernel, rfl, by decide +kernel, by decide +kernel⟩
theorem mod_in (x : Int) {m : Int} (h : 0 < m) : 0 ≤ x % m ∧ x % m < m := ⟨Int.emod_nonneg x (by omega), Int.emod_lt_of_pos x h⟩
section
variable {P : Program} {w : World} {K : PySem.W.Frag} {mg : Str → Option Value} {base : Heap} {f : Addr} {fd : FuncData}
theorem ok_hash (F : FnP K "_law_hash" sHash f fd) (z_int : mg "int" = none) : FnOk P w K mg base CX0 1 f fd ["_law_seed", "_law_index"] spHash := by
  have nd := scHash.nd
  refine F.ok scHash (fun vs H Q E h => ?_) (fun cdv A outer s H vs Q E hr h => ?_)
  · obtain ⟨s, i, rfl, _⟩ := h
    rfl
  · obtain ⟨s, i, rfl, s0, s1, i0, i1, q⟩ := h
    refine ⟨_, PSs.nox (pss_cons (ps_set (i := 2) nd rfl (Or.inl rfl) (pe_op op_mod (pe_callTy call_int1 (by rfl) z_int (by decide +kernel) (pa_cons (pe_op op_add (pe_op op_add (pe_op op_add (pe_op op_mul (pv 0) pe_int) (pe_op op_mul (pe_op op_mul pe_int (pv 1)) (pv 1))) (pe_op op_mul pe_int (pv 1))) pe_int) pa_nil)) pe_int))
 (pss_cons (ps_set (i := 2) nd rfl (Or.inl rfl) (pe_op op_mod (pe_callTy call_int1 (by rfl) z_int (by decide +kernel) (pa_cons (pe_op op_add (pe_op op_add (pe_op op_mul (pv 2) (pv 2)) (pe_op op_mul pe_int (pv 1))) pe_int) pa_nil)) pe_int))
 (pss_one (ps_ret (pe_op op_mod (pe_callTy call_int1 (by rfl) z_int (by decide +kernel) (pa_cons (pe_op op_mul (pv 2) pe_int) pa_nil)) pe_int))))), ?_⟩
    have c1 : CMul s 1597334 := .inl ⟨by omega, by omega⟩
    have c2 : CMul 22695477 i := .inl ⟨by decide, by decide⟩
    have c3 : CMul (22695477 * i) i := .inr ⟨by omega, by omega⟩
    have c4 : CMul 977 i := .inl ⟨by decide, by decide⟩
    refine ⟨_, rfl, _, _, rfl, rfl, c1, _, rfl, _, _, rfl, rfl, c2, _, rfl, _, _, rfl, rfl, c3, _, _, rfl, rfl, _, rfl, _, _, rfl, rfl, c4, _, _, rfl, rfl, _, _, rfl, rfl, .inl ⟨_, rfl, _, _, rfl, rfl, (by show (0 : Int) < 2147483629; decide), ?_⟩⟩
    obtain ⟨m0, m1⟩ := mod_in (s * 1597334 + 22695477 * i * i + 977 * i + 41) (m := 2147483629) (by decide)
    have c5 : CMul ((s * 1597334 + 22695477 * i * i + 977 * i + 41) % 2147483629) ((s * 1597334 + 22695477 * i * i + 977 * i + 41) % 2147483629) := .inl ⟨by omega, by omega⟩
    refine ⟨_, rfl, _, rfl, _, _, rfl, rfl, c5, _, rfl, _, _, rfl, rfl, .inl ⟨by decide, by decide⟩, _, _, rfl, rfl, _, _, rfl, rfl, .inl ⟨_, rfl, _, _, rfl, rfl, (by show (0 : Int) < 2147483587; decide), ?_⟩⟩
    refine ⟨_, rfl, _, _, rfl, rfl, .inr ⟨by decide, by decide⟩, .inl ⟨_, rfl, _, _, rfl, rfl, (by show (0 : Int) < 2147483647; decide), ?_⟩⟩
    obtain ⟨n0, n1⟩ := mod_in ((((s * 1597334 + 22695477 * i * i + 977 * i + 41) % 2147483629 * ((s * 1597334 + 22695477 * i * i + 977 * i + 41) % 2147483629) + 40503 * i + 9973) % 2147483587) * 69621) (m := 2147483647) (by decide)
    exact q _ n0 n1

theorem bits_small {m : Int} (h0 : 0 < m) (h1 : m < 10 ^ 100) : Builtin.Int.intBits m ≤ 340 := by
  refine intBits_le (k := 340) ?_
  have e : (10 : Int) ^ 100 < 2 ^ 340 := by decide
  have e2 : m < 2 ^ 340 := Int.lt_trans h1 e
  have e3 : ((m.natAbs : Nat) : Int) = m := Int.natAbs_of_nonneg (by omega)
  have e4 : ((m.natAbs : Nat) : Int) < ((2 ^ 340 : Nat) : Int) := by
    rw [e3]
    exact e2
  exact Int.ofNat_lt.mp e4
theorem ok_rand (F : FnP K "_law_random" sRand f fd) (oHash : Ok P w K mg base "_law_hash" 1 ["_law_seed", "_law_index"] spHash) (z_int : mg "int" = none) (z_range : mg "range" = none) :
    FnOk P w K mg base CX0 2 f fd ["_law_generator_here", "_law_bound"] spRand := by
  have nd := scRand.nd
  refine F.ok scRand (fun vs H Q E h => ?_) (fun cdv A outer s H vs Q E hr h => ?_)
  · obtain ⟨g, n, m, rfl, _⟩ := h
    rfl
  · obtain ⟨g, n, m, rfl, ⟨a, b, c, hg, a0, a1, b0, b1, c0, c1⟩, hn, m0, m1, q⟩ := h
    refine ⟨_, PSs.nox (pss_cons (ps_if (pt_cmpR op_gt (pe_ix ix_list (pv 0) pe_int (fun _ _ => rfl)) pe_int (nomark _))
        (pss_cons (ps_set (i := 2) nd rfl (Or.inl rfl) (pe_op op_mod (pe_callTy call_int1 (by rfl) z_int (by decide +kernel) (pa_cons (pe_ix ix_list (pv 0) pe_int (fun _ _ => rfl)) pa_nil)) (pv 1)))
          (pss_cons (ps_asg (pe_op op_fdivW (pe_ix ix_list (pv 0) pe_int (fun _ _ => rfl)) (pv 1)) (pg_sub (pv 0) pe_int set_list))
            (pss_one (ps_ret (pv 2))))) pss_nil)
      (pss_cons (ps_set (i := 2) nd rfl (Or.inl rfl) pe_int)
      (pss_cons (ps_for PassesOwn.never rfl (pi_range1 (by rfl) z_range (pa_cons (pe_op op_add pe_int (pe_op op_fdiv (pe_bits (pv 1)) pe_int)) pa_nil)) (pg_name (i := 3) nd rfl (Or.inl rfl))
        (pss_cons (ps_asg (pe_op op_add (pe_ix ix_list (pv 0) pe_int (fun _ _ => rfl)) pe_int) (pg_sub (pv 0) pe_int set_list))
          (pss_one (ps_set (i := 2) nd rfl (Or.inl rfl) (pe_op op_add (pe_op op_mul (pv 2) pe_int)
            (pe_callO oHash (hr.mono (by decide)) (by rfl) (pa_cons (pe_ix ix_list (pv 0) pe_int (fun _ _ => rfl)) (pa_cons (pe_ix ix_list (pv 0) pe_int (fun _ _ => rfl)) pa_nil))))))))
      (pss_one (ps_ret (pe_op op_mod (pe_callTy call_int1 (by rfl) z_int (by decide +kernel) (pa_cons (pv 2) pa_nil)) (pv 1))))))), ?_⟩
    refine ⟨.ref g, rfl, g, _, 0, _, rfl, rfl, SqL.of hg, rfl, _, _, rfl, rfl, _, rfl, ite2 (fun e => ?_) (fun e => ?_)⟩
    · have ap : 0 < a := of_decide_eq_true e
      refine ⟨.ref g, rfl, g, _, 0, _, rfl, rfl, SqL.of hg, rfl, .inl ⟨_, rfl, _, rfl, _, _, rfl, rfl, m0, ?_⟩⟩
      have e1 : (10 : Int) ^ 100 < 2 ^ 340 := by decide
      have mb : m.natAbs < 2 ^ 340 := by
        have e3 : ((m.natAbs : Nat) : Int) = m := Int.natAbs_of_nonneg (by omega)
        have e4 : ((m.natAbs : Nat) : Int) < ((2 ^ 340 : Nat) : Int) := by
          rw [e3]
          exact Int.lt_trans m1 e1
        exact Int.ofNat_lt.mp e4
      refine ⟨.ref g, rfl, g, _, 0, _, rfl, rfl, SqL.of hg, rfl, _, rfl, _, _, rfl, rfl, wide_div m0 mb (by decide) (by decide), .ref g, rfl, g, _, 0, 0, rfl, rfl, hg, rfl, _, rfl, ?_⟩
      obtain ⟨r0, r1⟩ := mod_in a m0
      refine q _ _ r0 r1 But.upd ⟨a / m, b, c, upd_same, Int.ediv_nonneg a0 (by omega), ?_, b0, b1, c0, by omega⟩
      exact Int.lt_of_le_of_lt (Int.ediv_le_self m a0) a1
    · have hb := bits_small m0 m1
      refine ⟨_, rfl, m, rfl, _, _, rfl, rfl, ⟨by decide, by decide⟩, _, _, rfl, rfl, _, rfl, by omega, by omega, ?_⟩
      refine for_range (lo := 0) (n := (1 + ((Builtin.Int.intBits m : Nat) : Int) / 30).toNat)
        (fun i σ H' => ∃ (d : Int) (y : Option V), σ = [some (.ref g), some (.int m), some (.int d), y] ∧ But H H' g ∧ H' g = some (.lst [.int a, .int b, .int (c + i)]))
        ⟨0, none, rfl, But.refl H g, by rw [hg]; simp⟩ ?_ ?_
      · rintro i σ H' hi ⟨d, y, rfl, bt, eg⟩
        refine ⟨.ref g, rfl, g, _, 2, _, rfl, rfl, SqL.of eg, rfl, _, _, rfl, rfl, .ref g, rfl, g, _, 2, 2, rfl, rfl, eg, rfl, ?_⟩
        have e2 : (upd H' g (.lst ([V.int a, .int b, .int (c + i)].set 2 (.int (c + i + 1))))) g = some (.lst [.int a, .int b, .int (c + i + 1)]) := upd_same
        refine ⟨_, rfl, _, _, rfl, rfl, .inr ⟨by decide, by decide⟩, .ref g, rfl, g, _, 1, _, rfl, rfl, SqL.of e2, rfl, .ref g, rfl, g, _, 2, _, rfl, rfl, SqL.of e2, rfl, ?_⟩
        refine ⟨b, c + i + 1, rfl, b0, b1, by omega, ?_, fun r r0 r1 => ?_⟩
        · have : i < 13 := by omega
          omega
        · refine ⟨_, _, rfl, rfl, _, _, rfl, bt.trans But.upd, ?_⟩
          have ec : c + ((i : Nat) : Int) + 1 = c + ((i + 1 : Nat) : Int) := by omega
          rw [e2, ec]
      · rintro σ H' ⟨d, y, rfl, bt, eg⟩
        refine ⟨_, rfl, .inl ⟨_, rfl, _, rfl, _, _, rfl, rfl, m0, ?_⟩⟩
        obtain ⟨r0, r1⟩ := mod_in d m0
        refine q _ _ r0 r1 bt ⟨a, b, _, eg, a0, a1, b0, b1, by omega, ?_⟩
        have : (1 + ((Builtin.Int.intBits m : Nat) : Int) / 30).toNat ≤ 13 := by omega
        omega

theorem cut_first (ns : List Int) : cutV (ns.map V.int) none (some 1) = (ns.take 1).map V.int := by
  unfold cutV
  rw [HT.sIx_none, show HT.sIx (ns.map V.int).length (ns.map V.int).length (some 1) = min 1 (ns.map V.int).length from HT.sIx_nat _ _ 1]
  cases ns with
  | nil => rfl
  | cons x r =>
    rw [List.map_cons, List.length_cons, show min 1 ((r.map V.int).length + 1) = 1 by omega]
    rfl
def spGen (K : PySem.W.Frag) : Sp := fun vs H Q _ => ∃ (a : Addr) (ns : List Int) (k : Nat), vs = [.ref a, .int k] ∧ SqL K H a (ns.map V.int) ∧ k < 100 ∧
  ∀ (H' : Hp) (g : Addr), Same H H' → H g = none → Dr H' g (1000 * k) → Q (.ref g) H'
theorem ok_gen (F : FnP K "_law_generator" sGen f fd) (z_int : mg "int" = none) (z_len : mg "len" = none) (z_sum : mg "sum" = none) (z_max : mg "max" = none) :
    FnOk P w K mg base CX0 1 f fd ["_law_script", "_law_index"] (spGen K) := by
  have nd := scGen.nd
  refine F.ok scGen (fun vs H Q E h => ?_) (fun cdv A outer s H vs Q E hr h => ?_)
  · obtain ⟨a, ns, k, rfl, _⟩ := h
    rfl
  · obtain ⟨a, ns, k, rfl, hS, hk, q⟩ := h
    refine ⟨_, PSs.nox (pss_cons (ps_set (i := 2) nd rfl (Or.inl rfl) (pe_ifExp (pt_cmpR op_lt (pv 1) (pe_callB call_len (by rfl) z_len boot_len (pa_cons (pv 0) pa_nil)) (nomark _)) (pe_ix ix_list (pv 0) (pv 1) (fun _ _ => rfl)) (pe_op op_mod (pe_callB (cr_sum rfl) (by rfl) z_sum (by decide +kernel) (pa_cons (pe_slice sl_list (pv 0) po_none (po_some pe_int)) pa_nil)) pe_int)))
 (pss_one (ps_ret (pe_lst (pa_cons (pe_op op_mod (pe_callTy call_int1 (by rfl) z_int (by decide +kernel) (pa_cons (pe_callB (call_max2 rfl) (by rfl) z_max (by decide +kernel) (pa_cons (pe_op op_sub (pv 2) (pe_op op_pow pe_int pe_int)) (pa_cons pe_int pa_nil))) pa_nil)) (pe_op op_powW (pe_op op_pow pe_int pe_int) pe_int)) (pa_cons (pe_op op_mod (pe_callTy call_int1 (by rfl) z_int (by decide +kernel) (pa_cons (pv 2) pa_nil)) pe_int) (pa_cons (pe_op op_mul pe_int (pv 1)) pa_nil))))))), ?_⟩
    have last : ∀ (H' : Hp) (sd : Int), Same H H' → (∀ g, H' g = none → H g = none) → tRet (tLst (tCons (tOp (rI (fun _ j => 0 < j) fun i j => .int (i % j)) (tCB (fun xs H Q => (∃ i, xs = [.int i] ∧ Q (.int i) H) ∨ ∃ k, xs = [.bl k] ∧ Q (.int (if k then 1 else 0)) H) (tCons (tCB (fun xs H Q => ∃ i j, xs = [.int i, .int j] ∧ Q (.int (if j > i then j else i)) H) (tCons (tOp (rI0 fun i j => .int (i - j)) (tVar 2) (tOp (rI CPow fun i j => .int (i ^ j.toNat)) (tC (.int 10)) (tC (.int 18)))) (tCons (tC (.int 0)) tNil))) tNil)) (tOp (rI CPowW fun i j => .int (i ^ j.toNat)) (tOp (rI CPow fun i j => .int (i ^ j.toNat)) (tC (.int 10)) (tC (.int 60))) (tC (.int 10)))) (tCons (tOp (rI (fun _ j => 0 < j) fun i j => .int (i % j)) (tCB (fun xs H Q => (∃ i, xs = [.int i] ∧ Q (.int i) H) ∨ ∃ k, xs = [.bl k] ∧ Q (.int (if k then 1 else 0)) H) (tCons (tVar 2) tNil)) (tC (.int 2147483647))) (tCons (tOp (rI CMul fun i j => .int (i * j)) (tC (.int 1000)) (tVar 1)) tNil)))) { nx := fun _ H' => Q .non H', rt := Q } [some (.ref a), some (.int k), some (.int sd)] H' := by
      intro H' sd sm fr
      refine ⟨_, rfl, _, _, rfl, rfl, ⟨by decide, by decide, by decide⟩, _, _, rfl, rfl, _, _, rfl, .inl ⟨_, rfl, _, _, rfl, rfl, ⟨by decide, by decide, by decide⟩, _, _, rfl, rfl, ⟨by decide, by decide +kernel⟩, _, _, rfl, rfl, (by show (0 : Int) < ((10 : Int) ^ (60 : Int).toNat) ^ (10 : Int).toNat; decide +kernel), ?_⟩⟩
      refine ⟨_, rfl, .inl ⟨_, rfl, _, _, rfl, rfl, (by show (0 : Int) < 2147483647; decide), _, rfl, _, _, rfl, rfl, .inl ⟨by decide, by decide⟩, by show 3 ≤ sizeLine; decide, fun p np => ?_⟩⟩
      obtain ⟨m0, m1⟩ := mod_in sd (m := 2147483647) (by decide)
      have e600 : ((10 : Int) ^ (60 : Int).toNat) ^ (10 : Int).toNat = 10 ^ 600 := by decide +kernel
      have p600 : (0 : Int) < 10 ^ 600 := by decide +kernel
      refine q _ p (sm.trans (same_new np)) (fr p np) ⟨_, _, _, upd_same, ?_, ?_, m0, m1, by omega, by omega⟩
      · rw [e600]
        exact (mod_in _ p600).1
      · rw [e600]
        exact (mod_in _ p600).2
    refine ⟨_, rfl, .ref a, rfl, _, (ns.map V.int).length, rfl, Or.inl ⟨_, hS, rfl⟩, _, _, rfl, rfl, _, rfl, ite2 (fun e => ?_) (fun e => ?_)⟩
    · have lt : (k : Int) < ((ns.map V.int).length : Nat) := of_decide_eq_true e
      have lt2 : k < ns.length := by
        rw [List.length_map] at lt
        omega
      have g : (ns.map V.int)[k]? = some (.int ns[k]) := by
        rw [List.getElem?_map, List.getElem?_eq_getElem lt2]
        rfl
      exact ⟨.ref a, rfl, _, rfl, a, _, _, _, rfl, rfl, hS, atI_nat g, last H _ (Same.refl H) fun _ z => z⟩
    · refine ⟨.ref a, rfl, _, rfl, a, _, rfl, hS, fun p np => ?_⟩
      rw [cut_first]
      refine ⟨p, ns.take 1, rfl, SqL.of upd_same, _, _, rfl, rfl, (by show (0 : Int) < 1000003; decide), ?_⟩
      refine last _ _ (same_new np) fun g ng => ?_
      by_cases eg : g = p
      · rw [eg]
        exact np
      · rw [upd_ne eg] at ng
        exact ng
end
end KJ
set_option Elab.async false
set_option linter.all false
set_option maxRecDepth 100000
set_option maxHeartbeats 4000000
namespace XV
open PySem PySem.Spec PyProof.Rows L2
/-- any(t), t a tuple of flat data -/
def rAnyT (K : PySem.W.Frag) : List V → Hp → VK → Prop := fun vs H Q => ∃ (a : Addr) (xs : List V) (ds : List PyData), vs = [V.ref a] ∧ SqT K H a xs ∧ DpAll K H xs ds ∧ PyData.plainAll ds = true ∧ (∀ d ∈ ds, d.fits63) ∧ Q (.bl (ds.any PyData.truthy)) H
theorem call_anyT {X : Cx} (hc : X.calm = true) : CallR X (.builtin "any") (rAnyT X.K) := by
  intro pins s σ H vs us Q I r h
  obtain ⟨a, xs, ds, rfl, hs, hd, hp, hf, q⟩ := h
  obtain ⟨its, rv, ht, _⟩ := I.tuple hs
  rw [Vals.ref1 r]
  obtain ⟨as, hr⟩ := Dp.readsAll I ds xs its hd rv
  refine PySem.W.any_tuple_data (as := as) (I.ok.hd hc) (vs := its.toArray) (l := a) ?_ (xs := ds) (by simpa using hr) hp hf fun h' tk k => ?_
  · exact ht
  · exact ⟨.bl _, H, I.kept (t' := tk) k, rfl, q⟩
/-- a text times a number -/
theorem op_mulS {X : Cx} : OpR X (binaryOp .Mult) (fun x y H Q => ∃ (z : Str) (i : Int), x = .str z ∧ y = .int i ∧ MulOk z i ∧ Q (.str (Txt.mul z i)) H) := by
  intro pins s σ H x y v u Q I rx ry h
  obtain ⟨z, i, rfl, rfl, hok, q⟩ := h
  obtain ⟨t, rfl⟩ := rx
  obtain ⟨t2, rfl⟩ := ry
  exact SB.mul hok fun t' k => ⟨.str _, H, I.tok k, ⟨t', rfl⟩, q⟩
theorem ip_addS {X : Cx} : PIp X .Add (fun x y H Q => ∃ i j : Str, x = .str i ∧ y = .str j ∧ i.length + j.length ≤ sizeLine ∧ Q (.str (i ++ j)) H) := by
  intro pins s σ H x y v u Q I rx ry h
  exact iop_add_str pins s σ H x y v u Q I rx ry h
end XV
set_option Elab.async false
set_option linter.all false
set_option maxRecDepth 100000
set_option maxHeartbeats 2000000
/-! zip of a tuple (first) and a list (second). -/
namespace XV
open PySem PySem.Spec PyProof.Rows L2
/-- the tuple at a and the list at b, as they are when a turn begins; each turn's two items come in a pair of their own -/
def ItzM (K : PySem.W.Frag) (a b : Addr) : It where
  go := fun i H => ∃ (xs ys : List V) (x y : V), SqT K H a xs ∧ SqL K H b ys ∧ xs[i]? = some x ∧ ys[i]? = some y
  yld := fun i H v H' => ∃ T x y, v = .ref T ∧ H T = none ∧ H' = upd H T (.tup [x, y]) ∧ (∀ xs, SqT K H a xs → xs[i]? = some x) ∧ ∀ ys, SqL K H b ys → ys[i]? = some y
  stop := fun i H => ∃ xs ys : List V, (SqT K H a xs ∧ SqL K H b ys) ∧ (xs.length = i ∨ ys.length = i) ∧ i ≤ xs.length ∧ i ≤ ys.length
/-- where such a zip's parts stand, ahead of turn i -/
def AtM (a b z tI tO j k : Addr) (i : Nat) (h : Heap) : Prop :=
  IsZip h z tI tO .none ∧ IsPair h tI (.ref j) (.ref k) ∧ (∃ p q, IsPair h tO p q) ∧ h.IsTupleIter j a i ∧ h.IsListIter k b i
theorem sep_of {z tI tO j k a b : Addr} (D : ZipApart z tI tO j k a b) : ZipSep2 z tI tO j k [j, a] [k, b] where
  TIz := D.TIz
  TOz := D.TOz
  TITO := D.TITO
  TIi1 := D.TIi1
  mem1 := List.mem_cons_self
  zf1 := by simp [D.i1z.symm, D.l1z.symm]
  Tf1 := by simp [D.TOi1, D.l1TO.symm]
  TIi2 := D.TIi2
  mem2 := List.mem_cons_self
  zf2 := by simp [D.i2z.symm, D.l2z.symm]
  Tf2 := by simp [D.TOi2, D.l2TO.symm]
  sep1_2 := by simp [D.i12, D.l2i1.symm]
  sep2_1 := by simp [D.i12.symm, D.l1i2.symm]
theorem turnM {P : Program} {w : World} {K : PySem.W.Frag} {es : List Expr} {kk : Nat} {tp : Pos} {a b z tI tO j k : Addr} (D : ZipApart z tI tO j k a b) :
    Turn P w K (.Tuple es kk tp) (ItzM K a b) [z, tI, tO, j, k] z (AtM a b z tI tO j k) where
  mem := List.mem_cons_self
  obj := fun i h ⟨s1, s2, ⟨p, q, s3⟩, ⟨o1, e1, _, d1⟩, ⟨o2, e2, _, d2⟩⟩ c hc => by
    simp only [List.mem_cons, List.not_mem_nil, or_false] at hc
    rcases hc with rfl | rfl | rfl | rfl | rfl
    · exact ⟨_, s1, fun _ x => nomatch x⟩
    · exact ⟨_, s2, fun _ x => nomatch x⟩
    · exact ⟨_, s3, fun _ x => nomatch x⟩
    · exact ⟨o1, e1, fun _ x => by rw [d1] at x; cases x⟩
    · exact ⟨o2, e2, fun _ x => by rw [d2] at x; cases x⟩
  keep := fun i h h' ⟨s1, s2, ⟨p, q, s3⟩, s4, s5⟩ kp =>
    ⟨kp z (by simp) _ s1, kp tI (by simp) _ s2, ⟨p, q, kp tO (by simp) _ s3⟩, s4.at (fun o e => kp j (by simp) o e), s5.at (fun o e => kp k (by simp) o e)⟩
  item := by
    intro X eP ew eK calm i pins s σ H E I fp st gg
    subst eP ew eK
    obtain ⟨s1, s2, ⟨p0, q0, s3⟩, s4, s5⟩ := st
    obtain ⟨xs, ys, x, y, tx, ly, ex, ey⟩ := gg
    obtain ⟨us, ru, pu, _⟩ := I.tuple tx
    obtain ⟨vs, rv, pw, _⟩ := I.list ly
    obtain ⟨u, eu, rux⟩ := ru.get ex
    obtain ⟨v, ev, rvy⟩ := rv.get ey
    have zlt : z < s.heap.objs.size := Heap.lt_size s1
    have hu : i < us.toArray.size := by
      have := (List.getElem?_eq_some_iff.mp eu).1
      simpa using this
    have hv : i < vs.toArray.size := by
      have := (List.getElem?_eq_some_iff.mp ev).1
      simpa using this
    have hh : X.A.in1.handled = none := I.ok.hd calm
    refine wpAny_pyNext_zipD2_item (sep_of D) (Draws.tuple hh j a D.l1i1 us.toArray) (Draws.list hh k b D.l2i2 vs.toArray) s1 s2 s3 ⟨s4, pu⟩ ⟨s5, pw.isList⟩ hu hv fun x1 x2 h' tk d1 d2 z1 t1 n1 n2 new sz kp => ?_
    have e1 : x1 = u := Option.some.inj (d1.symm.trans (by simpa using eu))
    have e2 : x2 = v := Option.some.inj (d2.symm.trans (by simpa using ev))
    subst e1 e2
    refine ⟨_, rfl, wpAny_letOwnedTupleGo_zip (s := { s with heap := h', toks := tk }) z1 fun g z2 sb => ?_⟩
    have far : ∀ c, c = z ∨ c = tI ∨ c = tO ∨ c = j ∨ c = k → c < s.heap.objs.size := fun c hc => by
      rcases hc with rfl | rfl | rfl | rfl | rfl
      · exact zlt
      · exact Heap.lt_size s2
      · exact Heap.lt_size s3
      · obtain ⟨_, q, _⟩ := s4
        exact Heap.lt_size q
      · obtain ⟨_, q, _⟩ := s5
        exact Heap.lt_size q
    have fresh : g.get? s.heap.objs.size = some { cls := .type "tuple", data := .seq #[x1, x2] } := (sb.2 _ (Nat.ne_of_gt zlt)).trans new
    have ok2 : ObjOk X.prog X.w (upd H s.heap.objs.size (.tup [x, y])) g s.heap.objs.size (.tup [x, y]) := ⟨(by show 2 ≤ sizeLine; decide), [x1, x2], .cons rux (.cons rvy .nil), ⟨_, fresh, rfl, _, rfl⟩⟩
    have J := I.turnedNew (t' := tk) (h' := g) (ch := [z, tI, tO, j, k]) (fun c o out q => (sb.2 c (fun e => out (by simp [e]))).trans (kp c o (fun e => out (by simp [e])) (fun e => out (by simp [e])) (fun e => out (by simp [e])) (fun e => out (by simp [e])) q)) fp (Nat.le_refl _) ok2
    refine ⟨.ref s.heap.objs.size, _, J, rfl, ⟨_, x, y, rfl, I.hok.fresh (Nat.le_refl _), rfl, fun l hl => (I.tuple_inj hl tx) ▸ ex, fun l hl => (I.list_inj hl ly) ▸ ey⟩, ⟨z2, (sb.2 _ D.TIz).trans (kp _ _ D.TIz D.TITO D.TIi1 D.TIi2 s2), ⟨x1, x2, (sb.2 _ D.TOz).trans t1⟩, n1.1.at (fun o q => (sb.2 _ D.i1z).trans q), n2.1.at (fun o q => (sb.2 _ D.i2z).trans q)⟩, fun c hc => ?_⟩
    simp only [List.mem_cons, List.not_mem_nil, or_false] at hc
    rw [upd_ne (Nat.ne_of_lt (far c hc))]
    exact (fp c (by simpa using hc)).1
  done := by
    intro X eP ew eK calm i pins s σ H E I fp st gg
    subst eP ew eK
    obtain ⟨s1, s2, ⟨p0, q0, s3⟩, s4, s5⟩ := st
    obtain ⟨xs, ys, ⟨tx, ly⟩, stop, l1, l2⟩ := gg
    obtain ⟨us, ru, pu, _⟩ := I.tuple tx
    obtain ⟨vs, rv, pw, _⟩ := I.list ly
    have n1 := ru.length
    have n2 := rv.length
    have hh : X.A.in1.handled = none := I.ok.hd calm
    refine wpAny_pyNext_zipD2_end (sep_of D) (Draws.tuple hh j a D.l1i1 us.toArray) (Draws.list hh k b D.l2i2 vs.toArray) s1 s2 s3 ⟨s4, pu⟩ ⟨s5, pw.isList⟩ (by simp; omega) (by simp; omega) (by simp; omega) fun h' tk kp => ⟨rfl, ?_⟩
    exact I.turnedL (t' := tk) (ch := [z, tI, tO, j, k]) (fun c o out q => kp c o (fun e => out (by simp [e])) (fun e => out (by simp [e])) (fun e => out (by simp [e])) (fun e => out (by simp [e])) q) fp
  self := fun A i s Q E st q => wpAny_pyIter_zip st.1 q
/-- .. in zip(e, e2) -/
def iZipM (K : PySem.W.Frag) (ta : TA) : TI := fun σ H R => ta σ H fun vs H1 => ∃ a b xs ys, vs = [.ref a, .ref b] ∧ (SqT K H1 a xs ∧ SqL K H1 b ys) ∧ R (ItzM K a b) H1
theorem pi_zipM {X : Cx} {e e2 : Expr} {ta : TA} {p pos tp : Pos} {es : List Expr} {kk : Nat} (gl : Gl X "zip") (z_zip : X.mg "zip" = none) (ha : PA X [e, e2] ta)
    (hs : starEach [e, e2] X.env = (false, eval e X.env) :: starEach [e2] X.env := by rfl) (np : (backTo pos (starEach [e2] X.env)).any (·.1) = false := by rfl) :
    PI X (.Tuple es kk tp) (.Call (.Name "zip" p) [e, e2] [] pos) (iZipM X.K ta) := by
  refine ⟨fun pins s σ H R I h => Call_ (ld_blt I gl z_zip PyProof.Rows.boot_zip (PyProof.Rows.callWith_type1 (thn (ha.run pos pins s σ H _ I h) fun us s1 ⟨vs, H1, J, rv, q⟩ => ?_) hs np))⟩
  obtain ⟨a, b, xs, ys, rfl, ⟨tx, ly⟩, q⟩ := q
  obtain ⟨u1, u2, rfl, r1, r2⟩ := vals2 rv
  cases r1
  cases r2
  obtain ⟨ps, _, pu, _⟩ := J.tuple tx
  obtain ⟨qs, _, pw, _⟩ := J.list ly
  have lt1 : a < s1.heap.objs.size := by
    obtain ⟨o, ho, _⟩ := id pu
    exact Heap.lt_size ho
  have lt2 : b < s1.heap.objs.size := pw.lt
  refine zip_begins2 (begins_tuple a ps.toArray) (begins_list b qs.toArray) pu pw.isList fun h' z1 t1 t2 g1 g2 sz kp => wpAny_pyIter_zip z1 ?_
  have J2 : Inv X pins σ H1 { s1 with heap := h' } := J.kept (t' := s1.toks) kp
  refine ⟨s1.heap.objs.size + 4, [s1.heap.objs.size + 4, s1.heap.objs.size + 2, s1.heap.objs.size + 3, s1.heap.objs.size, s1.heap.objs.size + 1], _, _, H1, rfl, J2, turnM (PySem.W.ktu_apart s1.heap.objs.size a b lt1 lt2), ⟨z1, t1, ⟨_, _, t2⟩, ⟨_, g1, rfl, rfl⟩, ⟨_, g2, rfl, rfl⟩⟩, fun c hc => ?_, q⟩
  have le : s1.heap.objs.size ≤ c := by
    simp only [List.mem_cons, List.not_mem_nil, or_false] at hc
    rcases hc with rfl | rfl | rfl | rfl | rfl
    · exact Nat.le_add_right _ 4
    · exact Nat.le_add_right _ 2
    · exact Nat.le_add_right _ 3
    · exact Nat.le_refl _
    · exact Nat.le_add_right _ 1
  exact J.fpOk le (J.hok.fresh le)
end XV
set_option Elab.async false
set_option linter.all false
set_option maxRecDepth 100000
set_option maxHeartbeats 2000000
namespace XV
open PySem PySem.Spec PyProof.Rows L2
/-- a comprehension over zip of a tuple and a list of one length -/
theorem lc_zipM {K : PySem.W.Frag} {a b : Addr} {xs ys : List V} {g : TG} {tt : TT} {te : TE} {vs : List Nat} {σ : L2.St} {H1 : Hp} {D : Addr} {Qd : Hp → Prop} (hl : xs.length = ys.length) (Pv : Nat → Hp → Prop) (h0 : Pv 0 (upd H1 D (.lst [])))
    (hq : ∀ i H, Pv i H → SqT K H a xs ∧ SqL K H b ys)
    (hs : ∀ (i : Nat) (x y : V) (T : Addr) (H : Hp), xs[i]? = some x → ys[i]? = some y → Pv i H → H T = none → g (.ref T) (wipe σ vs) (upd H T (.tup [x, y])) fun σ2 H2 => wipe σ2 vs = wipe σ vs ∧ tt σ2 H2 fun c H3 =>
      if c = true then te σ2 H3 fun r H4 => ∃ acc, H4 D = some (.lst acc) ∧ acc.length < sizeLine ∧ Pv (i + 1) (upd H4 D (.lst (acc ++ [r]))) else Pv (i + 1) H3)
    (hd : ∀ H, Pv xs.length H → Qd H) :
    ∃ W : Nat → Nat → Hp → Prop, (∃ m, W 0 m (upd H1 D (.lst []))) ∧ ∀ i m H, W i m H →
      ((ItzM K a b).stop i H ∧ Qd H) ∨ ((ItzM K a b).go i H ∧ ∃ Nx : Hp → Prop, (∀ H', Nx H' → ∃ m', m' < m ∧ W (i + 1) m' H') ∧ ∀ x H', (ItzM K a b).yld i H x H' → g x (wipe σ vs) H' fun σ2 H2 => wipe σ2 vs = wipe σ vs ∧ tt σ2 H2 fun c H3 =>
        if c = true then te σ2 H3 fun r H4 => ∃ acc, H4 D = some (.lst acc) ∧ acc.length < sizeLine ∧ Nx (upd H4 D (.lst (acc ++ [r]))) else Nx H3) := by
  refine ⟨fun i m H => m + i = xs.length ∧ Pv i H, ⟨xs.length, rfl, h0⟩, ?_⟩
  rintro i m H ⟨em, p⟩
  obtain ⟨q1, q2⟩ := hq i H p
  cases m with
  | zero =>
    have e : i = xs.length := by omega
    subst e
    exact .inl ⟨⟨xs, ys, ⟨q1, q2⟩, .inl rfl, Nat.le_refl _, by omega⟩, hd H p⟩
  | succ m =>
    have l1 : i < xs.length := by omega
    have l2 : i < ys.length := by omega
    have g1 := List.getElem?_eq_getElem l1
    have g2 := List.getElem?_eq_getElem l2
    refine .inr ⟨⟨xs, ys, _, _, q1, q2, g1, g2⟩, Pv (i + 1), fun H' p' => ⟨m, Nat.lt_succ_self m, by omega, p'⟩, ?_⟩
    rintro v H' ⟨T, x, y, rfl, nT, rfl, f1, f2⟩
    exact hs i x y T H (f1 xs q1) (f2 ys q2) p nT
/-- ix of a tuple, len of a text: where the part of the heap must be told -/
theorem ix_tupK {X : Cx} {K : PySem.W.Frag} (e : X.K = K) : IxR X (rIxT K) := by
  subst e
  exact ix_tup
theorem ix_listK {X : Cx} {K : PySem.W.Frag} (e : X.K = K) : IxR X (rIxL K) := by
  subst e
  exact ix_list
theorem cr_sumK {X : Cx} {K : PySem.W.Frag} (e : X.K = K) (hc : X.calm = true) : CallR X (.builtin "sum") (rSum K) := by
  subst e
  exact cr_sum hc
theorem pi_listK {X : Cx} {K : PySem.W.Frag} {tg l : Expr} {tl : TE} (e : X.K = K) (hl : PE X l tl) : PI X tg l (iList K tl) := by
  subst e
  exact pi_list hl
end XV
set_option Elab.async false
set_option linter.all false
set_option maxRecDepth 100000
set_option maxHeartbeats 4000000
/-! Defs that are called where no repr is under way: what is around them has no guards. -/
namespace XV
open PySem PySem.Spec PyProof.Rows L2
structure FnG (P : Program) (w : World) (K : PySem.W.Frag) (mg : Str → Option Value) (base : Heap) (Z : CXT) (k : Nat) (f : Addr) (fd : FuncData) (ps : List Str) (sp : Sp) : Prop where
  gl : ∀ l H Q E, sp l H Q E → l.length = ps.length
  go : ∀ (A : Around) (o : List Env) (s : Shared) (H : Hp) (ar : Args) (us : List Value) (l : List V) (Q : VK) (E : XK), A.guards = some [] → Room k A → Env0 P w K mg base A o s H → BindsTo s fd ar (ps.zip us) → Vals l us → sp l H Q E →
    codeAny (model P w) A (.call (.ref f) ar) (CR Z o P w H s Q E) s
theorem FnG.of {P : Program} {w : World} {K : PySem.W.Frag} {mg : Str → Option Value} {base : Heap} {Z : CXT} {k : Nat} {f : Addr} {fd : FuncData} {ps : List Str} {sp : Sp} (F : FnOk P w K mg base Z k f fd ps sp) : FnG P w K mg base Z k f fd ps sp :=
  ⟨F.len, fun A o s H ar us l Q E _ => F.run A o s H ar us l Q E⟩
section
variable {P : Program} {w : World} {K : PySem.W.Frag} {mg : Str → Option Value} {base : Heap} {x qual : Str} {params : Arguments} {body : List Stmt} {scope : Scope} {dvs : List V} {kws : List (Str × V)} {f : Addr} {fd : FuncData}
/-- a def by its body, where nothing guards -/
theorem okG {Z : CXT} {N ps : List Str} {k : Nat} {sp : Sp} (F : FunD K x qual params body scope dvs kws f fd) (S : FnScope N ps scope) (gl : ∀ l H Q E, sp l H Q E → l.length = ps.length)
    (bd : ∀ (cdv : Value) (A : Around) (o : List Env) (s : Shared) (H : Hp) (l : List V) (Q : VK) (E : XK), (A.deeper (envOfC qual scope s.heap.objs.size f cdv)).guards = some [] → Room k (A.deeper (envOfC qual scope s.heap.objs.size f cdv)) → sp l H Q E →
      ∃ t, PSs (cxOf Z P w K mg base N qual scope f cdv A o s H E) body t ∧ t { nx := fun _ H' => Q .non H', rt := Q } (start N l) H) : FnG P w K mg base Z (k + 1) f fd ps sp := by
  obtain ⟨oc, od, dV, kV, doc, pm, an, cdv, ct, osl, rfl, lk, hcd, _, _⟩ := F.ex
  refine ⟨gl, fun A o s H ar us l Q E ag hr e0 hb r hs => ?_⟩
  have hlen := gl _ _ _ _ hs
  have inK : K.In s.heap := e0.mod.kin.keeps fun b ob e => (e0.bs b ob e).1
  have nol : s.heap.NoLimit := e0.mod.nolimit.keeps fun b ob e => (e0.bs b ob e).1
  have kinds : ∀ y ∈ ps.zip us, scope.names.lookup y.1 = some .local ∨ (scope.names.lookup y.1 = some .cell ∧ ((cellsFrom (s.heap.objs.size + 1) scope.names []).lookup y.1).isSome = true) := by
    rintro ⟨n, v⟩ hy
    exact (S.par n (List.of_mem_zip hy).1).imp id fun q => ⟨q, PySem.W.cellsFrom_some _ _ _ (.inl q)⟩
  refine codeAny_call_function hr.depth (inK _ _ lk) rfl S.co S.gen rfl (PySem.W.codeRec_of inK hcd) (hb _ _ _ _ ?_)
  refine wpAny_newFunctionEnv_cells S.kind kinds fun env he s1 xx => ?_
  subst he
  refine ⟨nol.keeps xx.toInCall.keep, codeAny_func ?_⟩
  obtain ⟨t, ht, hq⟩ := bd cdv A o s H l Q E (show A.guards = some [] from ag) (hr.deeper _) hs
  have J0 := inv_start (CX := Z) (E := E) S hr.hd e0 hlen r xx
  refine wpAny_mono (ht.run [] s1 (start N l) H _ J0 hq) (fun fl s' z => ?_) fun e s' z => z
  have done : ∀ {τ : L2.St} {H' : Hp} {v : V} {u : Value}, Inv (cxOf Z P w K mg base N qual scope f cdv A o s H E) [] τ H' s' → RelV v u → Q v H' → CE o P w H s Q u s' := fun J rv q => ⟨_, _, J.os, J.bare, J.base, J.hok, rv, q⟩
  cases fl with
  | next =>
    obtain ⟨τ, H', J, q⟩ := z
    exact done (v := V.non) (u := Value.none) J rfl q
  | ret u =>
    obtain ⟨v, τ, H', J, rv, q⟩ := z
    exact done J rv q
  | brk =>
    obtain ⟨_, _, _, q⟩ := z
    exact q.elim
  | cont =>
    obtain ⟨_, _, _, q⟩ := z
    exact q.elim
end
/-- the module's name x is a def that keeps sp where nothing guards -/
structure OkG (P : Program) (w : World) (K : PySem.W.Frag) (mg : Str → Option Value) (base : Heap) (x : Str) (k : Nat) (ps : List Str) (sp : Sp) : Prop where
  ex : ∃ f fd, FnG P w K mg base CX0 k f fd ps sp ∧ mg x = some (.ref f) ∧ PySem.W.keepIn K (.ref f) = true ∧ Binds K fd ps []
section
variable {X : Cx} {k : Nat} {f : Addr} {fd : FuncData} {ps : List Str} {sp : Sp} {x : Str} {e : Expr} {es : List Expr} {t : TA} {p pos : Pos}
theorem run_g {pins : List (Addr × Obj)} {σ : L2.St} {H : Hp} {s : Shared} {Q : VK} {us : List Value} {l : List V} (F : FnG X.prog X.w X.K X.mg X.base CX0 k f fd ps sp) (ag : X.A.guards = some []) (hr : Room k X.A) (hb : Binds X.K fd ps [])
    (I : Inv X pins σ H s) (r : Vals l us) (h : sp l H Q E0) : wpAny (model X.prog X.w) X.A (call (.ref f) us) (EP X pins σ Q) X.xe s := by
  have hl : us.length = ps.length := r.length ▸ F.gl _ _ _ _ h
  have b := hb s us I.kIn (by rw [List.append_nil]; exact hl)
  rw [List.append_nil] at b
  refine wpAny_call (codeAny_mono (F.go X.A X.stack s H ⟨us, []⟩ us l Q E0 ag hr I.env0 b r h) fun r' s' hq => ?_)
  cases r' with
  | error er => exact hq.elim
  | ok fl => cases fl with
    | ret u => exact I.after hq
    | next => exact hq.elim
    | brk => exact hq.elim
    | cont => exact hq.elim
theorem pe_callG (o : OkG X.prog X.w X.K X.mg X.base x k ps sp) (ag : X.A.guards = some []) (hr : Room k X.A) (hg : Gl X x) (ha : PA X (e :: es) t) (hdb : (x == ("__debug__" : Str)) = false := by decide)
    (he : starEach (e :: es) X.env = (false, eval e X.env) :: starEach es X.env := by rfl) (hpl : (backTo pos (starEach es X.env)).any (·.1) = false := by rfl) :
    PE X (.Call (.Name x p) (e :: es) [] pos) (fun σ H Q => t σ H fun l H1 => sp l H1 Q E0) := by
  obtain ⟨f, fd, F, hm, hk, b⟩ := o.ex
  refine ⟨fun pins s σ H Q I h => ?_⟩
  refine wpAny_Call_Name_kw (ld_glob I hg hm ?_ hdb)
  refine PySem.W.callWith_K (h₀ := X.base) I.ok.mod.kin hk (thn (ha.run pos pins s σ H _ I h) fun us s1 z => ?_) he hpl
  obtain ⟨l, H1, I1, r, q⟩ := z
  exact ⟨I1.kIn, run_g F ag hr b I1 r q⟩
theorem pe_callG0 (o : OkG X.prog X.w X.K X.mg X.base x k ps sp) (ag : X.A.guards = some []) (hr : Room k X.A) (hg : Gl X x) (hdb : (x == ("__debug__" : Str)) = false := by decide) :
    PE X (.Call (.Name x p) [] [] pos) (fun σ H Q => sp [] H Q E0) := by
  obtain ⟨f, fd, F, hm, hk, b⟩ := o.ex
  refine ⟨fun pins s σ H Q I h => ?_⟩
  refine wpAny_Call_Name_kw (ld_glob I hg hm ?_ hdb)
  exact PySem.W.callWith_K0 I.kIn hk (run_g (us := []) F ag hr b I .nil h)
end
theorem OkG.mk' {P : Program} {w : World} {K : PySem.W.Frag} {mg : Str → Option Value} {base : Heap} {x : Str} {k : Nat} {ps : List Str} {sp : Sp} {body : List Stmt} {params : Arguments} {scope : Scope} {f : Addr} {fd : FuncData}
    (F : FunD K x x params body scope [] [] f fd) (g : mg x = some (.ref f)) (b : ∀ (kV doc pm : Value) (an : Option Addr) (cdv ct : Value) (us : List Value), us.length = ps.length → bindArgs (PySem.W.fnOf x x params body scope .none kV doc pm an cdv ct) ⟨us, []⟩ = pure (ps.zip us))
    (ok : FnG P w K mg base CX0 k f fd ps sp) : OkG P w K mg base x k ps sp := ⟨f, fd, ok, g, F.kp, F.bindsN b⟩
end XV
set_option Elab.async false
set_option linter.all false
set_option maxRecDepth 100000
set_option maxHeartbeats 4000000
/-! The end of a law whose def is told of where nothing guards. -/
namespace XV
open PySem PySem.Spec PyProof.Rows L2
theorem law_g {P : Program} {w : World} {K : PySem.W.Frag} {mg mb : Str → Option Value} {k : Nat} {fa a : Addr} {fd : FuncData} {x : Str} {sp : Sp} {s : Shared} {us : List Value} {ns : List Int}
    (KX : K.In s.heap) (gn : s.heap.Ns mainGlobals mg) (bn : s.heap.Ns builtinsNs mb) (bb : ∀ y : Str, y ≠ "__name__" → mb y = bootBuiltins y) (nl : s.heap.NoLimit) (g0 : s.gens = #[])
    (ha : s.heap.get? a = some { cls := .type "list", data := .seq us.toArray }) (hi : IntsAre us ns) (hl : ns.length ≤ sizeLine) (hr : Room k callerA)
    (F : ∀ base : Heap, K.In base → base.Ns mainGlobals mg → FnG P w K mg base CX0 k fa fd [x] sp) (hb : ∀ (s' : Shared) (u : Value), BindsTo s' fd ⟨[u], []⟩ [(x, u)])
    (hsp : ∀ H : Hp, Only H → SqL K H a (ns.map V.int) → sp [.ref a] H (fun v _ => v = .bl true) fun _ _ _ => False) :
    codeAny (model P w) callerA (.call (.ref fa) ⟨[.ref a], []⟩) (fun r s' => r = .ok (.ret (.bool true)) ∧ OldK s.heap s'.heap ∧ s'.os = s.os ∧ AllBare s'.gens) s := by
  have rv := vals_ints hi
  have len := hi.length
  -- H tells of the script alone, or of nothing
  have main : ∀ H : Hp, Only H → SqL K H a (ns.map V.int) → HOk P w H s.heap → (∀ b, H b ≠ none → b = a) → (H a ≠ none → K.lookup a = none) →
      codeAny (model P w) callerA (.call (.ref fa) ⟨[.ref a], []⟩) (fun r s' => r = .ok (.ret (.bool true)) ∧ OldK s.heap s'.heap ∧ s'.os = s.os ∧ AllBare s'.gens) s := by
    intro H only told ok alone notK
    have part : ∀ {b : Addr} {o : Obj}, s.heap.get? b = some o → H b = none → (hidT s.heap H).get? b = some o := fun e n => hidT_get e n
    have dictN : ∀ {b : Addr} {o : Obj} {es : Array DictEntry} {ep : Nat}, s.heap.get? b = some o → o.data = .dict es ep → H b = none := by
      intro b o es ep e d
      by_cases q : H b = none
      · exact q
      · obtain rfl := alone b q
        rw [ha] at e
        cases e
        exact nomatch (show Data.seq us.toArray _ = Data.dict es ep from d)
    have nsP : ∀ {b : Addr} {m : Str → Option Value}, s.heap.Ns b m → (hidT s.heap H).Ns b m := by
      rintro b m ⟨o, es, ep, e, d, r⟩
      exact ⟨o, es, ep, part e (dictN e d), d, r⟩
    have KP : K.In (hidT s.heap H) := fun b o e => part (KX b o e) (by
      by_cases q : H b = none
      · exact q
      · obtain rfl := alone b q
        rw [notK q] at e
        cases e)
    have md : Mod K mg (hidT s.heap H) := ⟨KP, nsP gn, ⟨mb, nsP bn, bb⟩, nl.imp fun _ z => ⟨nsP z.1, z.2⟩⟩
    have st : Env0 P w K mg (hidT s.heap H) callerA [] s H := { frames := rfl, mod := md, bs := fun b o e => of_hidT e, bsz := Nat.le_of_eq (hidT_size _ _), funs := trivial, frf := fun b z => absurd (show b ∈ ([] : List Addr) from z) (by simp), hok := ok, bare := .of_eq g0 }
    refine codeAny_mono ((F _ KP (nsP gn)).go callerA [] s H ⟨[.ref a], []⟩ [.ref a] [.ref a] _ _ rfl hr st (hb s (.ref a)) (.cons rfl .nil) (hsp H only told)) fun r s' h => ?_
    cases r with
    | error er => exact h.elim
    | ok fl => cases fl with
      | next => exact h.elim
      | brk => exact h.elim
      | cont => exact h.elim
      | ret u =>
        obtain ⟨v, H', os, bare, un, ok', r', q⟩ := h
        obtain rfl : v = .bl true := q
        obtain rfl : u = Value.bool true := r'
        refine ⟨rfl, OldK.of_keep fun b o e => ?_, os, bare⟩
        by_cases q : H b = none
        · exact un.keep b o e q (fun z => nomatch (show b ∈ ([] : List Addr) from z)) (by simp)
        · rcases only b with z | ⟨ob, xs, z⟩
          · exact absurd z q
          · obtain ⟨e1, _⟩ := ok b _ z
            obtain ⟨e2, _⟩ := ok' b _ (un.frzs b ob _ z)
            rw [e] at e1
            cases e1
            exact e2
  cases hk : K.lookup a with
  | some o =>
    obtain rfl := Option.some.inj (ha.symm.trans (KX a o hk))
    exact main (fun _ => none) (fun _ => .inl rfl) (.inr ⟨_, us.toArray, _, hk, rfl, rfl, rfl, by rw [List.size_toArray, len]; exact hl, by simpa using rv⟩) (fun b u z => nomatch (show (none : Option HO) = some u from z)) (fun b z => absurd rfl z) fun z => absurd rfl z
  | none =>
    let o1 : Obj := { cls := .type "list", data := .seq us.toArray }
    have at_ : ∀ b : Addr, b = a → (fun b : Addr => if b = a then some (HO.frz o1 (.lst (ns.map V.int))) else none) b = some (.frz o1 (.lst (ns.map V.int))) := fun b e => if_pos e
    have off : ∀ b : Addr, b ≠ a → (fun b : Addr => if b = a then some (HO.frz o1 (.lst (ns.map V.int))) else none) b = none := fun b e => if_neg e
    refine main (fun b => if b = a then some (.frz o1 (.lst (ns.map V.int))) else none) (fun b => ?_) (.inl (.inr ⟨o1, if_pos rfl⟩)) (fun b u z => ?_) (fun b z => ?_) fun _ => hk
    · by_cases e : b = a
      · exact .inr ⟨_, _, at_ b e⟩
      · exact .inl (off b e)
    · by_cases e : b = a
      · cases (at_ b e).symm.trans z
        subst e
        exact ⟨ha, by rw [List.length_map]; exact hl, us, _, rv, ha⟩
      · cases (off b e).symm.trans z
    · by_cases e : b = a
      · exact e
      · exact absurd (off b e) z
theorem walk_ofG {l : PySem.W.OpenLaw} {n k : Nat} {q : Program} {loose : List Str} {XP : (Str → Option Value) → Heap → Prop} {YP : World → Heap → Prop} {d : DefRec} {x : Str}
    (hn : l.most = some n) (hz : n ≤ sizeLine) (hd : d.params.defaults = []) (hr : Room k callerA)
    (F : ∀ (w : World) (mg : Str → Option Value) (fa : Addr) (h : Heap), YP w h → h.Ns mainGlobals mg → mg d.name = some (.ref fa) →
      ∃ (K : PySem.W.Frag) (fd : FuncData) (sp : Sp), K.In h ∧ (∀ (s : Shared) (u : Value), BindsTo s fd ⟨[u], []⟩ [(x, u)]) ∧
        (∀ (H : Hp) (a : Addr) (ns : List Int), ns.length ≤ n → Only H → SqL K H a (ns.map V.int) → sp [.ref a] H (fun v _ => v = .bl true) fun _ _ _ => False) ∧
        ∀ base : Heap, K.In base → base.Ns mainGlobals mg → FnG l.prog w K mg base CX0 k fa fd [x] sp) :
    PySem.W.WalkO q loose XP YP l.row.toRowW d [] (fun f vs => PySem.call f vs) := by
  refine Att.attach_call hn hd fun w s₀ s₁ mg mb fa o pm cd doc a us ns G Y ho hd' hcd hmg hobj hints hlen hg => ?_
  obtain ⟨K, fd, sp, KX, hb, hsp, hF⟩ := F w mg fa _ Y G.T.g hmg
  exact law_g KX G.T.g G.T.b G.T.builtins G.T.nolimit hg hobj hints (Nat.le_trans hlen hz) hr hF hb fun H hO hS => hsp H a ns hlen hO hS
end XV
set_option Elab.async false
set_option linter.all false
set_option maxRecDepth 100000
set_option maxHeartbeats 4000000
/-! An error that an except suite has caught, held in a name behind the suite. -/
namespace XV
open PySem PySem.Spec PyProof.Rows L2
/-- at a: an error of the class cls that was raised and caught, its dict at d -/
def exz (a : Addr) (cls : Value) (d : Option Addr) : HO := .ext fun h => ∃ (oe : Obj) (vs : Array Value), h.get? a = some oe ∧ Zc cls d oe ∧ oe.data = .fields vs
theorem exz_ok {P : Program} {w : World} {H : Hp} {h : Heap} {a : Addr} {cls : Value} {d : Option Addr} {oe : Obj} {vs : Array Value} (e : h.get? a = some oe) (z : Zc cls d oe) (f : oe.data = .fields vs) : ObjOk P w H h a (exz a cls d) :=
  ⟨⟨oe, vs, e, z, f⟩, ⟨oe, e⟩, fun _ _ y k => y.elim fun o y => y.elim fun v y => ⟨o, v, k o y.1, y.2⟩⟩
theorem exz_at {P : Program} {w : World} {H : Hp} {h : Heap} {a : Addr} {cls : Value} {d : Option Addr} (hok : HOk P w H h) (e : H a = some (exz a cls d)) : ∃ (oe : Obj) (vs : Array Value), h.get? a = some oe ∧ Zc cls d oe ∧ oe.data = .fields vs := by
  have x : ObjOk P w H h a (.ext fun h => ∃ (oe : Obj) (vs : Array Value), h.get? a = some oe ∧ Zc cls d oe ∧ oe.data = .fields vs) := hok a _ e
  exact x.1
/-- what is there, new since the entry and not told of, is told of -/
theorem tell {X : Cx} {pins : List (Addr × Obj)} {σ : L2.St} {H : Hp} {s : Shared} {a : Addr} {cls : Value} {d : Option Addr} {oe : Obj} {vs : Array Value} (I : Inv X pins σ H s) (e : s.heap.get? a = some oe) (z : Zc cls d oe) (f : oe.data = .fields vs)
    (na : H a = none) (n0 : X.s_0.heap.get? a = none) (nL : a ≠ X.env.locals) (np : ∀ p ∈ X.pn ++ pins, p.1 ≠ a) : Inv X pins σ (upd H a (exz a cls d)) s := by
  have nc : ∀ x c, X.env.cells.lookup x = some c → c ≠ a := fun x c l q => by
    obtain ⟨v, o, ho, hd⟩ := I.cell x c l
    rw [q, e] at ho
    cases ho
    rw [f] at hd
    cases hd
  refine { ok := I.ok, os := I.os, bare := I.bare, base := ?_, loc := I.loc, cell := I.cell, free := ?_, freeC := fun x c l => ?_, pin := fun p hp => ?_, hok := fun b o q => ?_, len := I.len }
  · refine { keep := I.base.keep, slot := I.base.slot, free := fun b o q n hx => ?_, there := I.base.there, tups := fun b xs q => ?_, frzs := fun b o u q => ?_, tbls := fun b ps q => ?_ }
    · rw [upd_ne (fun y => by rw [y, n0] at q; cases q)]
      exact I.base.free b o q n hx
    · have y := I.base.tups b xs q
      rw [upd_ne (ne_of_none y na)]
      exact y
    · have y := I.base.frzs b o u q
      rw [upd_ne (ne_of_none y na)]
      exact y
    · obtain ⟨m, y⟩ := I.base.tbls b ps q
      exact ⟨m, by rw [upd_ne (ne_of_none y na)]; exact y⟩
  · rw [upd_ne (Ne.symm nL)]
    exact I.free
  · rw [upd_ne (nc x c l)]
    exact I.freeC x c l
  · obtain ⟨p1, p2, p3⟩ := I.pin p hp
    exact ⟨p1, by rw [upd_ne (np p hp)]; exact p2, p3⟩
  · by_cases hb : b = a
    · subst hb
      rw [upd_same] at q
      cases q
      exact exz_ok e z f
    · rw [upd_ne hb] at q
      exact (I.hok b o q).stay (fun c w' _ y => y) (fun c y => by rw [upd_ne (ne_of_none y na)]; exact y) fun c xs y => by
        rw [upd_ne (ne_of_none y na)]
        exact y
/-- the clause's wish: behind its suite the error is told of -/
def wKeep (K : PySem.W.Frag) (c : Value) (i : Nat) (ts : Addr → Value → Option Addr → TS) (Wout : WX) (D : Ends) : WX := fun cls d σ H => ∃ b, PySem.W.exmOne K cls c = some b ∧
  (b = true → ∀ a, H a = none → ts a cls d { nx := fun σ' H' => H' a = none → D.nx (σ'.set i none) (upd H' a (exz a cls d)), rt := fun _ _ => False, bk := fun _ _ => False, ct := fun _ _ => False } (σ.set i (some (.ref a))) H) ∧ (b = false → Wout cls d σ H)
section
variable {X : Cx} {x n : Str} {c : Value} {i : Nat} {body suite : List Stmt} {b₀ : Stmt} {np pos pos' : Pos} {tb : WX → TS} {ts : Addr → Value → Option Addr → TS} {Wout : WX}
theorem ps_try_keep (hs : X.stack = X.env :: X.outer) (hf : X.env.frame = some X.env.locals) (hex : X.ex = []) (nd : X.N.Nodup) (hi : X.N[i]? = some n) (hln : X.env.kindOf n = some .local) (hc : Names X x c) (tk : Takes X Wout)
    (hb : ∀ (W : WX) (pn : List (Addr × Obj)) (xe : Value → Shared → Prop), Takes (X.tr pn xe) W → PassesOwn (model X.prog X.w) X.A X.env xe → PSs (X.tr pn xe) body (tb W))
    (hsu : ∀ (a : Addr) (oe : Obj) (cls : Value) (d : Option Addr) (pn : List (Addr × Obj)), Zc cls d oe → (∃ vs, oe.data = .fields vs) → PSs (X.suite a ((a, oe) :: pn)) (b₀ :: suite) (ts a cls d)) :
    PS X (.Try body [.ExceptHandler (some (.Name x np)) (some n) (b₀ :: suite) pos'] [] [] pos) (fun D σ H => tb (wKeep X.K c i ts Wout D) D σ H) := by
  refine ⟨fun pins s σ H D I h => ?_⟩
  have ok := I.ok
  have fr : X.A.frames = some (X.env :: X.outer) := ok.frames.trans (congrArg some hs)
  have lc : Loc X.env.scope n := .inl hln
  let catch_ : Value → Shared → Prop := fun e s₁ => wpAny (model X.prog X.w) X.A (noteFrame e X.env) (fun _ s₂ => wpAny (model X.prog X.w) X.A (setFlight e none) (fun _ s₃ =>
    wpAny (model X.prog X.w) X.A (handleBy e X.env [.ExceptHandler (some (.Name x np)) (some n) (b₀ :: suite) pos']) (SP X pins D) X.xe s₃) X.xe s₂) X.xe s₁
  refine wpAny_Try_except ?_
  refine wpAny_mono ((hb (wKeep X.K c i ts Wout D) (X.pn ++ pins) catch_ (fun u s' air => ?_) PassesOwn.looking).run [] s σ H D (I.toTry _) h) (fun fl s1 out => ?_) (fun e s1 z => z)
  · obtain ⟨a, B, sI, pins1, σ1, H1, cls, d, rfl, J1, nb, up, sky, na, os, ag, b, known, yes, no⟩ := air
    have J : Inv X pins σ1 H1 sI := J1.ofTry ok
    have skyE : Sky B (X.env :: X.outer) a (Zc cls d) X.env.locals s'.heap := hs ▸ sky
    -- the error is new since the entry
    have nB : B.get? a = none := by
      rcases skyE with q | q | q
      · exact q.2.1
      · exact q.2.1
      · exact q.2.1
    show wpAny (model X.prog X.w) X.A (noteFrame (.ref a) X.env) _ _ _
    refine Sky.land Zc.steady fr hf skyE fun h3 fly3 up3 => ?_
    have J3 : Inv X pins σ1 H1 { s' with heap := h3 } := J.landed nb fly3.1 (up.trans up3) os ag
    obtain ⟨oe3, vs3, e3, z3, f3⟩ := fly3.there
    have nfr : a ∉ frs (X.env :: X.outer) := fun m => by
      obtain ⟨_, o, e, nf⟩ := fly3.2.2.1.mem m
      rw [e3] at e
      cases e
      exact nf _ f3
    have nL : a ≠ X.env.locals := fun q => nfr (List.mem_filterMap.mpr ⟨X.env, List.mem_cons_self, q ▸ hf⟩)
    have nF : a ∉ X.fs := fun m => (List.mem_filterMap.mp m).elim fun y q => nfr (List.mem_filterMap.mpr ⟨y, List.mem_cons_of_mem _ q.1, q.2⟩)
    have nI : sI.heap.get? a = none := by
      cases q : sI.heap.get? a with
      | none => rfl
      | some o =>
        have y := nb a o q (by rw [hs]; exact nfr)
        rw [nB] at y
        cases y
    have n0 : X.s_0.heap.get? a = none := by
      cases q : X.s_0.heap.get? a with
      | none => rfl
      | some o =>
        obtain ⟨o', y⟩ := J.base.there a o q (by rw [hex]; exact fun z => nomatch z)
        rw [nI] at y
        cases y
    have npin : ∀ p ∈ X.pn ++ pins, p.1 ≠ a := fun p hp q => by
      have y := (J.pin p hp).1
      rw [q, nI] at y
      cases y
    have S3 := J3.suite e3 f3 na nL nF
    refine wpAny_handleBy_cons (codeAny_handlers_test ?_) (by intro q; cases q)
    have tyLook : PySem.W.Looks (model X.prog X.w) h3 (typeOf (.ref a)) cls := fun A Q E s k q => wpAny_typeOf_ref (k _ _ e3) (by rw [z3.1]; exact q)
    have match_ := PySem.W.exm_one (M := model X.prog X.w) J3.kIn tyLook known
    have clause : ∀ {Q : Value → Shared → Prop} {E : Value → Shared → Prop}, Q c { s' with heap := h3 } → wpAny (model X.prog X.w) (X.A.mark (some (.ref a))) (eval (.Name x np) X.env) Q E { s' with heap := h3 } := by
      intro Q E q
      obtain ⟨hg, hdb, hm | ⟨hm, hv, hnn⟩⟩ := hc
      · exact ld_glob (X := X.suite a ((a, oe3) :: (X.pn ++ pins))) S3 hg hm q hdb
      · exact ld_blt (X := X.suite a ((a, oe3) :: (X.pn ++ pins))) S3 hg hm hv q hnn hdb
    refine clause (match_.here ?_)
    cases b with
    | false =>
      show wpAny _ X.A (handleBy (.ref a) X.env []) _ _ _
      refine wpAny_handleBy_nil ?_
      obtain ⟨k1, k2, k3, oe, vs, T, oT, ts', he, hz, hd, h1, hr⟩ := id fly3
      unfold PySem.passOn
      refine wpAny_bind (wpAny_field he hd h1 ?_)
      rw [if_neg (show ¬ ((Value.ref T == Value.none) = true) from by simp)]
      have fin : wpAny (model X.prog X.w) X.A (setFlight (.ref a) X.env.frame) (fun _ s4 => wpAny (model X.prog X.w) X.A (throw (.ref a) : Sem Flow) (SP X pins D) X.xe s4) X.xe { s' with heap := h3 } := by
        rw [hf]
        exact HandSPX.setFlight_upZ fly3 fun h4 held4 up4 => wpAny_throw (tk _ _ ⟨a, B, sI, pins, σ1, H1, cls, d, rfl, J, nb, (up.trans up3).trans up4, .inr (.inr (by rw [hs]; exact held4)), na, os, ag, no rfl⟩)
      first
        | exact wpAny_bind (wpAny_pure (wpAny_bind fin))
        | exact wpAny_bind fin
    | true =>
      refine codeAny_handlers_suite_as ?_
      refine HandSPX.lands_againZ fly3 fun h4 fly4 up4 => ?_
      have J4 : Inv X pins σ1 H1 { s' with heap := h4 } := J.landed nb fly4.1 ((up.trans up3).trans up4) os ag
      obtain ⟨oe4, vs4, e4, z4, f4⟩ := fly4.there
      refine store_ok (X := X.suite a ((a, oe4) :: (X.pn ++ pins))) (v := .ref a) (J4.suite e4 f4 na nL nF) nd hi lc rfl (fun s5 S5 => ?_) (.inr hln)
      refine wpAny_mono ((hsu a oe4 cls d (X.pn ++ pins) z4 ⟨_, f4⟩).run [] s5 _ H1 _ S5 (yes rfl a na)) (fun fl s6 out => ?_) (fun _ _ z => z.elim)
      cases fl with
      | next =>
        obtain ⟨σ6, H6, S6, q6⟩ := out
        obtain ⟨p1, p2, _⟩ := S6.pin (a, oe4) (List.mem_append_left _ List.mem_cons_self)
        have T6 := tell (S6.unsuite ok) p1 z4 f4 p2 n0 nL npin
        exact gone_ok T6 nd hi hln fun s7 J7 => ⟨_, _, J7, q6 p2⟩
      | brk =>
        obtain ⟨_, _, _, q6⟩ := out
        exact q6.elim
      | cont =>
        obtain ⟨_, _, _, q6⟩ := out
        exact q6.elim
      | ret u =>
        obtain ⟨_, _, _, _, _, q6⟩ := out
        exact q6.elim
  · cases fl with
    | next => exact out.elim fun σ' z => z.elim fun H' z => wpAny_execs_nil ⟨σ', H', z.1.ofTry ok, z.2⟩
    | brk => exact out.elim fun σ' z => z.elim fun H' z => ⟨σ', H', z.1.ofTry ok, z.2⟩
    | cont => exact out.elim fun σ' z => z.elim fun H' z => ⟨σ', H', z.1.ofTry ok, z.2⟩
    | ret u =>
      obtain ⟨v, σ', H', J', r, q⟩ := out
      exact ⟨v, σ', H', J'.ofTry ok, r, q⟩
end
/-! ### e.f and isinstance(e, C) of such an error -/
section
variable {X : Cx}
theorem pe_zget {e : Expr} {te : TE} {pos : Pos} {n : Str} (he : PE X e te) (hb : attributeBase e n X.env (eval e X.env) = eval e X.env := by rfl) :
    PE X (.Attribute e n pos) (fun σ H Q => te σ H fun x H1 => ∃ a C d fs v, x = .ref a ∧ H1 a = some (exz a (.ref C) (some d)) ∧ H1 d = some (.xd fs) ∧ XF X.K C n ∧ fs.lookup n = some v ∧ Q v H1) := by
  refine ⟨fun pins s σ H Q I h => ?_⟩
  refine attr_of hb (thn (he.run pins s σ H _ I h) fun u s1 hh => ?_)
  obtain ⟨x, H1, I1, rx, a, C, d, fs, v, ex, ea, ed, T, l, q⟩ := hh
  subst ex
  obtain rfl : u = Value.ref a := rx
  obtain ⟨oe, vs, ho, hz, hf⟩ := exz_at I1.hok ea
  have hx : ObjOk X.prog X.w H1 s1.heap d (.xd fs) := I1.hok d _ ed
  obtain ⟨mA, hns, hrel⟩ := hx
  obtain ⟨od, hod, hl⟩ := lookIn_ns hns
  obtain ⟨w1, hw, rw1⟩ := RelO.some_of (v := v) (o := mA n) (by rw [← l]; exact hrel n)
  have J : PySem.W.InstAt s1.heap a oe C (some od) := ⟨ho, hz.1, by unfold PySem.W.notCls; rw [hf] <;> rfl, by rw [hz.2]; exact hod⟩
  exact HandSPX.exc_get I1.kIn J T.xf.ga T.xf.gg T.xf.exC (PySem.W.findObj_own T.xf.hdC T.no rfl (by rw [hl, hw])) (handed_of rw1) ⟨v, H1, I1.tok _, rw1, q⟩
def rIsZ (K : PySem.W.Frag) : List V → Hp → VK → Prop := fun xs H Q => ∃ (a : Addr) (c : V) (D d : Addr) (fs : List (Str × V)) (cv : Value) (b : Bool), xs = [.ref a, c] ∧ H a = some (exz a (.ref D) (some d)) ∧ H d = some (.xd fs) ∧ ExcC K D ∧ (∀ u, RelV c u → u = cv) ∧ PySem.W.kitOne K (.ref D) cv = some b ∧ Q (.bl b) H
theorem call_isZ : CallR X (.builtin "isinstance") (rIsZ X.K) := by
  intro pins s σ H xs us Q I r h
  obtain ⟨a, c, D, d, fs, cv, b, rfl, ea, ed, C, hcv, e, q⟩ := h
  cases r with
  | cons rx rr =>
    cases rr with
    | cons rt rr =>
      cases rr
      cases rx
      obtain rfl := hcv _ rt
      obtain ⟨oe, vs, ho, hz, hf⟩ := exz_at I.hok ea
      have hx : ObjOk X.prog X.w H s.heap d (.xd fs) := I.hok d _ ed
      obtain ⟨mA, hns, _⟩ := hx
      obtain ⟨od, hod, _⟩ := lookIn_ns hns
      have J : PySem.W.InstAt s.heap a oe D (some od) := ⟨ho, hz.1, by unfold PySem.W.notCls; rw [hf] <;> rfl, by rw [hz.2]; exact hod⟩
      exact PySem.W.kia_one (kitErr C) I.kIn J e (fun z => nomatch z) fun tk => ⟨.bl b, H, I.kept (t' := tk) fun _ _ z => z, rfl, q⟩
end
end XV
set_option Elab.async false
set_option linter.all false
set_option maxRecDepth 100000
set_option maxHeartbeats 4000000
/-! repr of data, where nothing guards; written data. -/
namespace XV
open PySem PySem.Spec PyProof.Rows L2
section
variable {X : Cx}
def rRepr (K : PySem.W.Frag) : List V → Hp → VK → Prop := fun xs H Q => ∃ (v : V) (d : PyData), xs = [v] ∧ Dp K H v d ∧ d.showable = true ∧ d.hasDict = false ∧ d.depth ≤ 60 ∧ d.shown.length ≤ sizeLine ∧ Q (.str d.shown) H
theorem call_reprD (ag : X.A.guards = some []) (hu : X.A.units + 64 < cLine) : CallR X (.builtin "repr") (rRepr X.K) := by
  intro pins s σ H xs us Q I r h
  obtain ⟨v, d, rfl, hd, sh, nd, dp, sz, q⟩ := h
  have deep : ∀ a : Addr, ∀ as, Reads s.heap (.ref a) d as → wpAny (model X.prog X.w) X.A (call (.builtin "repr") [.ref a]) (EP X pins σ Q) X.xe s := fun a as rd =>
    repr_of_reads' rd sh (fun z => by rw [nd] at z; cases z) ag (by omega) (fun _ _ e => e) (fun h' u tk k => ⟨.str d.shown, H, I.kept (t' := tk) k, ⟨u, rfl⟩, q⟩) sz
  cases r with
  | cons rv rr =>
    cases rr
    cases hd with
    | non =>
      cases rv
      exact PySem.P.repr_of_none ⟨.str _, H, I.tok _, ⟨_, rfl⟩, q⟩
    | bl b =>
      cases rv
      exact PySem.P.repr_of_bool ⟨.str _, H, I.tok _, ⟨_, rfl⟩, q⟩
    | int i =>
      obtain ⟨t, rfl⟩ := rv
      exact PySem.P.repr_of_int (of_decide_eq_true (by simpa [PyData.showable] using sh)) ⟨.str _, H, I.tok _, ⟨_, rfl⟩, q⟩
    | str x =>
      obtain ⟨t, rfl⟩ := rv
      exact PySem.P.repr_of_str ⟨.str _, H, I.tok _, ⟨_, rfl⟩, q⟩ sz
    | lst hs ha =>
      cases rv
      obtain ⟨as, rd⟩ := Dp.reads I _ _ _ (Dp.lst hs ha) rfl
      exact deep _ as rd
    | tup hs ha =>
      cases rv
      obtain ⟨as, rd⟩ := Dp.reads I _ _ _ (Dp.tup hs ha) rfl
      exact deep _ as rd
end
/-! ### data that is tracked throughout -/
mutual
inductive Da (H : Hp) : V → PyData → Prop
  | non : Da H .non .none
  | bl (b : Bool) : Da H (.bl b) (.bool b)
  | int (i : Int) : Da H (.int i) (.int i)
  | str (x : Str) : Da H (.str x) (.str x)
  | lst {a : Addr} {xs : List V} {ds : List PyData} : H a = some (.lst xs) → DaAll H xs ds → Da H (.ref a) (.list ds)
  | tup {a : Addr} {xs : List V} {ds : List PyData} : H a = some (.tup xs) → DaAll H xs ds → Da H (.ref a) (.tuple ds)
inductive DaAll (H : Hp) : List V → List PyData → Prop
  | nil : DaAll H [] []
  | cons {v : V} {vs : List V} {d : PyData} {ds : List PyData} : Da H v d → DaAll H vs ds → DaAll H (v :: vs) (d :: ds)
end
mutual
theorem Da.keep {H H' : Hp} (s : Same H H') : ∀ {d : PyData} {v : V}, Da H v d → Da H' v d
  | _, _, .non => .non
  | _, _, .bl b => .bl b
  | _, _, .int i => .int i
  | _, _, .str x => .str x
  | _, _, .lst h a => .lst (s _ _ h) (DaAll.keep s a)
  | _, _, .tup h a => .tup (s _ _ h) (DaAll.keep s a)
theorem DaAll.keep {H H' : Hp} (s : Same H H') : ∀ {ds : List PyData} {vs : List V}, DaAll H vs ds → DaAll H' vs ds
  | _, _, .nil => .nil
  | _, _, .cons h r => .cons (Da.keep s h) (DaAll.keep s r)
end
mutual
theorem Da.dp {K : PySem.W.Frag} {H : Hp} : ∀ {d : PyData} {v : V}, Da H v d → Dp K H v d
  | _, _, .non => .non
  | _, _, .bl b => .bl b
  | _, _, .int i => .int i
  | _, _, .str x => .str x
  | _, _, .lst h a => .lst (SqL.of h) (DaAll.dp a)
  | _, _, .tup h a => .tup (SqT.of h) (DaAll.dp a)
theorem DaAll.dp {K : PySem.W.Frag} {H : Hp} : ∀ {ds : List PyData} {vs : List V}, DaAll H vs ds → DpAll K H vs ds
  | _, _, .nil => .nil
  | _, _, .cons h r => .cons (Da.dp h) (DaAll.dp r)
end
theorem DaAll.length {H : Hp} : ∀ {ds : List PyData} {vs : List V}, DaAll H vs ds → vs.length = ds.length
  | _, _, .nil => rfl
  | _, _, .cons _ r => congrArg (· + 1) (DaAll.length r)
theorem DaAll.get {H : Hp} : ∀ {ds : List PyData} {vs : List V} {i : Nat} {v : V}, DaAll H vs ds → vs[i]? = some v → ∃ d, ds[i]? = some d ∧ Da H v d
  | _, _, i, v, .nil, h => by simp at h
  | _, _, 0, v, .cons a r, h => by
    cases h
    exact ⟨_, rfl, a⟩
  | _, _, i + 1, v, .cons a r, h => by
    obtain ⟨d, e, x⟩ := DaAll.get (i := i) r (by simpa using h)
    exact ⟨d, by simpa using e, x⟩
/-! ### written data -/
def litsN (f : Expr → Option PyData) : List Expr → Option (List PyData)
  | [] => some []
  | e :: es => match f e, litsN f es with
    | some d, some ds => some (d :: ds)
    | _, _ => none
def litN : Nat → Expr → Option PyData
  | 0, _ => none
  | n + 1, e => match e with
    | .Constant .none _ _ => some .none
    | .Constant (.bool b) _ _ => some (.bool b)
    | .Constant (.int i) _ _ => some (.int i)
    | .Constant (.str x) _ _ => some (.str x)
    | .UnaryOp .USub (.Constant (.int i) _ _) _ => some (.int (-i))
    | .List es _ => if es.length ≤ 1000 then (litsN (litN n) es).map .list else none
    | .Tuple es _ _ => if es.length ≤ 1000 then (litsN (litN n) es).map .tuple else none
    | _ => none
/-- the reading of written data -/
def tLit (d : PyData) : TE := fun _ H Q => ∀ (v : V) (H' : Hp), Same H H' → Da H' v d → Q v H'
def tLits (ds : List PyData) : TA := fun _ H Q => ∀ (vs : List V) (H' : Hp), Same H H' → DaAll H' vs ds → vs.length = ds.length → Q vs H'
theorem PE.le {X : Cx} {e : Expr} {t t' : TE} (h : PE X e t) (i : ∀ σ H Q, t' σ H Q → t σ H Q) : PE X e t' := ⟨fun pins s σ H Q I z => h.run pins s σ H Q I (i _ _ _ z)⟩
theorem PA.le {X : Cx} {es : List Expr} {t t' : TA} (h : PA X es t) (i : ∀ σ H Q, t' σ H Q → t σ H Q) : PA X es t' := ⟨fun p pins s σ H Q I z => h.run p pins s σ H Q I (i _ _ _ z)⟩
theorem litsN_len {f : Expr → Option PyData} : ∀ (es : List Expr) (ds : List PyData), litsN f es = some ds → ds.length = es.length
  | [], ds, h => by
    cases h
    rfl
  | e :: es, ds, h => by
    unfold litsN at h
    split at h
    · rename_i d ds' h1 h2
      cases h
      rw [List.length_cons, List.length_cons, litsN_len es ds' h2]
    · cases h
theorem lits_ok {X : Cx} {f : Expr → Option PyData} (hf : ∀ e d, f e = some d → PE X e (tLit d)) (hs : ∀ e d es, f e = some d → starEach (e :: es) X.env = (false, eval e X.env) :: starEach es X.env) :
    ∀ (es : List Expr) (ds : List PyData), litsN f es = some ds → PA X es (tLits ds)
  | [], ds, h => by
    cases h
    exact PA.le pa_nil fun σ H Q z => z [] H (fun _ _ e => e) .nil rfl
  | e :: es, ds, h => by
    unfold litsN at h
    split at h
    · rename_i d ds' h1 h2
      cases h
      exact PA.le (pa_cons (hf e d h1) (lits_ok hf hs es ds' h2) (hs e d es h1)) fun σ H Q z v H1 s1 p1 vs H2 s2 p2 l2 => z (v :: vs) H2 (s1.trans s2) (.cons (p1.keep s2) p2) (by rw [List.length_cons, List.length_cons, l2])
    · cases h
theorem lit_star {n : Nat} {e : Expr} {d : PyData} {es : List Expr} {env : Env} (h : litN n e = some d) : starEach (e :: es) env = (false, eval e env) :: starEach es env := by
  cases n with
  | zero => cases h
  | succ n => cases e <;> first | rfl | cases h
theorem lit_ok {X : Cx} : ∀ (n : Nat) (e : Expr) (d : PyData), litN n e = some d → PE X e (tLit d)
  | 0, _, _, h => by cases h
  | n + 1, e, d, h => by
    have small : ∀ m : Nat, m ≤ 1000 → m ≤ sizeLine := fun m hm => by
      rw [sizeLine_eq]
      omega
    unfold litN at h
    split at h
    · cases h
      exact PE.le pe_non fun σ H Q z => z _ H (fun _ _ e => e) .non
    · cases h
      exact PE.le pe_bl fun σ H Q z => z _ H (fun _ _ e => e) (.bl _)
    · cases h
      exact PE.le pe_int fun σ H Q z => z _ H (fun _ _ e => e) (.int _)
    · cases h
      exact PE.le pe_str fun σ H Q z => z _ H (fun _ _ e => e) (.str _)
    · cases h
      exact PE.le (pe_un un_neg pe_int) fun σ H Q z => ⟨_, rfl, z _ H (fun _ _ e => e) (.int _)⟩
    · rename_i es p
      split at h
      · rename_i hl
        cases q : litsN (litN n) es with
        | none =>
          rw [q] at h
          cases h
        | some ds =>
          rw [q] at h
          cases h
          exact PE.le (pe_lst (lits_ok (lit_ok n) (fun _ _ _ => lit_star) es ds q)) fun σ H Q z vs H1 s1 p1 l1 => ⟨by rw [l1, litsN_len _ _ q]; exact small _ hl, fun p np =>
            z _ _ (s1.trans (same_new np)) (.lst (upd_same) (p1.keep (same_new np)))⟩
      · cases h
    · rename_i es k p
      split at h
      · rename_i hl
        cases q : litsN (litN n) es with
        | none =>
          rw [q] at h
          cases h
        | some ds =>
          rw [q] at h
          cases h
          exact PE.le (pe_tup (lits_ok (lit_ok n) (fun _ _ _ => lit_star) es ds q)) fun σ H Q z vs H1 s1 p1 l1 => ⟨by rw [l1, litsN_len _ _ q]; exact small _ hl, fun p np =>
            z _ _ (s1.trans (same_new np)) (.tup (upd_same) (p1.keep (same_new np)))⟩
      · cases h
    · cases h
theorem pe_lit {X : Cx} (n : Nat) {e : Expr} {d : PyData} (h : litN n e = some d) : PE X e (tLit d) := lit_ok n e d h
end XV
set_option Elab.async false
set_option linter.all false
set_option maxRecDepth 100000
set_option maxHeartbeats 4000000
/-! raise C(e), C an error class with one field. -/
namespace XV
open PySem PySem.Spec PyProof.Rows L2
theorem XCls.binds {P : Program} {w : World} {K : PySem.W.Frag} {mg : Str → Option Value} {base : Heap} {nm fld : Str} {C fI : Addr} {fd : FuncData} (T : XCls P w K mg base nm fld C fI fd) : Binds K fd ["self", fld] [] := fun s us X hl => by
  rw [List.append_nil] at hl ⊢
  match us, hl with
  | [x, u], _ => exact T.b1 s x u X
/-- a reading that may be weakened -/
def tMono (te : TE) : TE := fun σ H Q => ∃ q : VK, te σ H q ∧ ∀ v H', q v H' → Q v H'
theorem pe_mono {X : Cx} {e : Expr} {te : TE} (he : PE X e te) : PE X e (tMono te) := ⟨fun pins s σ H Q I h => by
  obtain ⟨q, h, i⟩ := h
  exact thn (he.run pins s σ H q I h) fun u s1 ⟨v, H1, I1, r, z⟩ => ⟨v, H1, I1, r, i v H1 z⟩⟩
section
variable {X : Cx} {nm fld : Str} {C fI : Addr} {fd : FuncData} {e : Expr} {te : TE} {p pos pos2 : Pos}
theorem pmk_x (T : XCls X.prog X.w X.K X.mg X.base nm fld C fI fd) (hr : Room 2 X.A) (hg : Gl X nm) (he : PE X e te) (hdb : (nm == ("__debug__" : Str)) = false := by decide)
    (hs : starEach (e :: []) X.env = (false, eval e X.env) :: starEach [] X.env := by rfl) (hpl : (backTo pos (starEach [] X.env)).any (·.1) = false := by rfl) :
    PMk X (.Call (.Name nm p) [e] [] pos) (fun σ H Q => te σ H fun v H1 => ∀ d, H1 d = none → Q (.ref C) (some d) (upd H1 d (.xd [(fld, v)]))) := by
  have low := pmk_oex (X := X) (p := p) (pos := pos) T.ox T.iC T.tI T.ini hr T.binds .nil pass0 hg T.g (pa_cons (pe_mono he) pa_nil hs) hdb hs hpl
  intro pins s σ H Q I h
  refine low pins s σ H Q I ⟨_, h, fun v H1 q => ⟨(by show 1 ≤ 1000; decide), fun a na => ⟨a, v, rfl, upd_same, fun d nd ne => ⟨rfl, d, [(fld, v)], upd_same, ?_, ?_, ?_⟩⟩⟩⟩
  · rw [upd_ne ne, upd_same]
  · rw [upd_ne ne] at nd
    exact nd
  · rw [upd_ne ne] at nd
    have e1 : upd (del (upd (upd (upd H1 a (exo a C none)) d (exd d [(fld, v)])) a (exo a C (some d))) a) d (.xd [(fld, v)]) = upd H1 d (.xd [(fld, v)]) := by
      funext b
      by_cases q1 : b = d
      · rw [q1, upd_same, upd_same]
      · rw [upd_ne q1, upd_ne q1]
        by_cases q2 : b = a
        · rw [q2, del_same, na]
        · rw [del_ne q2, upd_ne q2, upd_ne q1, upd_ne q2]
    rw [e1]
    exact q d nd
theorem ps_raiseX {W : WX} (hc : X.calm = true) (T : XCls X.prog X.w X.K X.mg X.base nm fld C fI fd) (hr : Room 2 X.A) (tk : Takes X W) (hg : Gl X nm) (he : PE X e te) (hdb : (nm == ("__debug__" : Str)) = false := by decide)
    (hs : starEach (e :: []) X.env = (false, eval e X.env) :: starEach [] X.env := by rfl) (hpl : (backTo pos (starEach [] X.env)).any (·.1) = false := by rfl) :
    PS X (.Raise (some (.Call (.Name nm p) [e] [] pos)) none pos2) (fun _ σ H => te σ H fun v H1 => ∀ d, H1 d = none → W (.ref C) (some d) σ (upd H1 d (.xd [(fld, v)]))) :=
  ps_raise hc tk (pmk_x T hr hg he hdb hs hpl)
end
/-- the module's name x is a def that keeps sp and may raise -/
structure OkX (P : Program) (w : World) (K : PySem.W.Frag) (mg : Str → Option Value) (base : Heap) (x : Str) (k : Nat) (ps : List Str) (sp : Sp) : Prop where
  ex : ∃ f fd, FnOk P w K mg base (L2.CX P w) k f fd ps sp ∧ mg x = some (.ref f) ∧ PySem.W.keepIn K (.ref f) = true ∧ Binds K fd ps []
theorem OkX.mk' {P : Program} {w : World} {K : PySem.W.Frag} {mg : Str → Option Value} {base : Heap} {x : Str} {k : Nat} {ps : List Str} {sp : Sp} {body : List Stmt} {params : Arguments} {scope : Scope} {f : Addr} {fd : FuncData}
    (F : FunD K x x params body scope [] [] f fd) (g : mg x = some (.ref f)) (b : ∀ (kV doc pm : Value) (an : Option Addr) (cdv ct : Value) (us : List Value), us.length = ps.length → bindArgs (PySem.W.fnOf x x params body scope .none kV doc pm an cdv ct) ⟨us, []⟩ = pure (ps.zip us))
    (ok : FnOk P w K mg base (L2.CX P w) k f fd ps sp) : OkX P w K mg base x k ps sp := ⟨f, fd, ok, g, F.kp, F.bindsN b⟩
section
variable {X : Cx} {k : Nat} {ps : List Str} {sp : Sp} {x : Str} {e : Expr} {es : List Expr} {t : TA} {p pos : Pos} {E : XK} {W : WX}
/-- a call within a def that lets out what the callee lets out -/
theorem pe_callX (o : OkX X.prog X.w X.K X.mg X.base x k ps sp) (tk : Takes X fun cls d _ H => E cls d H) (hr : Room k X.A) (hg : Gl X x) (ha : PA X (e :: es) t) (hdb : (x == ("__debug__" : Str)) = false := by decide)
    (he : starEach (e :: es) X.env = (false, eval e X.env) :: starEach es X.env := by rfl) (hpl : (backTo pos (starEach es X.env)).any (·.1) = false := by rfl) :
    PE X (.Call (.Name x p) (e :: es) [] pos) (tCall sp [] E t) := by
  obtain ⟨f, fd, F, hm, hk, b⟩ := o.ex
  exact pe_call F hr hg hm hk b .nil (passes_call tk fun _ _ _ _ h => h) ha hdb he hpl
/-- a call within a try -/
theorem pe_callT (o : OkX X.prog X.w X.K X.mg X.base x k ps sp) (tk : Takes X W) (hr : Room k X.A) (hg : Gl X x) (ha : PA X (e :: es) t) (hdb : (x == ("__debug__" : Str)) = false := by decide)
    (he : starEach (e :: es) X.env = (false, eval e X.env) :: starEach es X.env := by rfl) (hpl : (backTo pos (starEach es X.env)).any (·.1) = false := by rfl) :
    PE X (.Call (.Name x p) (e :: es) [] pos) (tCallS sp (WE W) t) := by
  obtain ⟨f, fd, F, hm, hk, b⟩ := o.ex
  exact pe_callS F hr hg hm hk b (fun σ => passAt tk σ) ha hdb he hpl
end
end XV
set_option Elab.async false
set_option linter.all false
set_option maxRecDepth 100000
set_option maxHeartbeats 4000000
/-! f(k = v, ..), all by keywords, the names in the parameters' order turned round. -/
namespace XV
open PySem PySem.Spec PyProof.Rows L2
theorem vals_rev : ∀ {vs : List V} {us : List Value}, Vals vs us → Vals vs.reverse us.reverse
  | _, _, .nil => .nil
  | _, _, .cons r rr => by
    rw [List.reverse_cons, List.reverse_cons]
    exact (vals_rev rr).append (.cons r .nil)
structure OkK (P : Program) (w : World) (K : PySem.W.Frag) (mg : Str → Option Value) (base : Heap) (x : Str) (k : Nat) (ps : List Str) (sp : Sp) : Prop where
  ex : ∃ f fd, FnOk P w K mg base CX0 k f fd ps sp ∧ mg x = some (.ref f) ∧ PySem.W.keepIn K (.ref f) = true ∧ KBn K fd ps 0 ps.reverse (fun _ ws => ws.reverse) (fun _ zs => zs.reverse)
theorem OkK.mk' {P : Program} {w : World} {K : PySem.W.Frag} {mg : Str → Option Value} {base : Heap} {x : Str} {k : Nat} {ps : List Str} {sp : Sp} {body : List Stmt} {params : Arguments} {scope : Scope} {f : Addr} {fd : FuncData}
    (F : FunD K x x params body scope [] [] f fd) (g : mg x = some (.ref f)) (b : ∀ (kV doc pm : Value) (an : Option Addr) (cdv ct : Value) (ws : List Value), ws.length = ps.length → bindArgs (PySem.W.fnOf x x params body scope .none kV doc pm an cdv ct) ⟨[], ps.reverse.zip ws⟩ = pure (ps.zip ws.reverse))
    (ok : FnOk P w K mg base CX0 k f fd ps sp) : OkK P w K mg base x k ps sp := by
  refine ⟨f, fd, ok, g, F.kp, ⟨fun s us ws _ l1 l2 => ?_, fun _ r => vals_rev r⟩⟩
  obtain ⟨oc, od, dV, kV, doc, pm, an, cdv, ct, osl, rfl, lk, hcd, hD, hK⟩ := F.ex
  rcases hD with ⟨_, rfl⟩ | ⟨e, _⟩
  · obtain rfl := List.length_eq_zero_iff.mp l1
    exact .of_eq (b kV doc pm an cdv ct ws (by rw [l2, List.length_reverse]))
  · exact absurd rfl e
section
variable {X : Cx} {k : Nat} {ps : List Str} {sp : Sp} {x : Str} {kws : List Keyword} {tk : TA} {p pos : Pos}
theorem pe_callK (o : OkK X.prog X.w X.K X.mg X.base x k ps sp) (hr : Room k X.A) (hg : Gl X x) (hk : PK X kws tk) (hdb : (x == ("__debug__" : Str)) = false := by decide)
    (hall : (backToKw pos (keywordEach kws X.env)).all (·.1.isSome) = true := by rfl) (hks : (backToKw pos (keywordEach kws X.env)).filterMap (·.1) = ps.reverse := by rfl)
    (hpl : ((backTo pos (starEach [] X.env)).any (·.1) || (backToKw pos (keywordEach kws X.env)).any (·.1.isNone)) = false := by rfl) :
    PE X (.Call (.Name x p) [] kws pos) (fun σ H Q => tk σ H fun zs H1 => zs.length = ps.reverse.length ∧ sp zs.reverse H1 Q E0) := by
  obtain ⟨f, fd, F, hm, kp, B⟩ := o.ex
  refine ⟨fun pins s σ H Q I h => ?_⟩
  refine wpAny_Call_Name_kw (ld_glob I hg hm ?_ hdb)
  refine PySem.W.callWith_KW0 (h₀ := X.base) I.ok.mod.kin kp hall (thn (hk.run pos pins s σ H _ I h) fun ws s1 z => ?_) hpl
  obtain ⟨zs, H1, I1, r, l, q⟩ := z
  refine ⟨I1.kIn, ?_⟩
  rw [hks]
  exact run_fnN (us := []) (vs := []) F hr B pass0 I1 .nil r rfl l q
end
end XV
set_option Elab.async false
set_option linter.all false
set_option maxRecDepth 100000
set_option maxHeartbeats 4000000
/-! lcm; == by an own __eq__ of an instance with a dict, whatever stands on the right; defs that may raise where they don't; keywords in order; != of lists that end in the same object. -/
namespace XV
open PySem PySem.Spec PyProof.Rows L2
section
variable {X : Cx}
def rLcm : List V → Hp → VK → Prop := fun vs H Q => ∃ a b : Int, vs = [.int a, .int b] ∧ a.natAbs < 2 ^ 64 ∧ b.natAbs < 2 ^ 64 ∧ Q (.int ((Nat.lcm a.natAbs b.natAbs : Nat) : Int)) H
theorem cr_lcm : CallR X (.builtin "math.lcm") rLcm := by
  intro pins s σ H vs us Q I r h
  obtain ⟨a, b, rfl, ha, hb, q⟩ := h
  obtain ⟨t, u, rfl⟩ := Vals.int2 r
  exact PySem.W.mc_lcm ha hb fun _ => ⟨.int _, H, I.tok _, ⟨_, rfl⟩, q⟩
end
section
variable {X : Cx} {CX : CXT} {C g : Addr} {n : Nat} {fd : FuncData} {ps : List Str} {sp : Sp} {E : XK}
/-- x == y, x an instance of the class at C whose __eq__ is at g -/
def rOwnE (K : PySem.W.Frag) (C : Addr) (sp : Sp) (E : XK) : R2 := fun x y H Q => ∃ a dx fs t, x = .ref a ∧ H a = some (.ins C dx fs) ∧ TyX K H y t ∧ PySem.W.notFirst K C t = true ∧ sp [x, y] H Q E
theorem op_ownE (hs : PySem.W.findIn X.K (.ref C) "__eq__" = some (some (.ref g))) (hf : PySem.W.isFn X.K (.ref g) = true) (F : FnOk X.prog X.w X.K X.mg X.base CX n g fd ps sp) (hr : Room n X.A) (hb : Binds X.K fd ps []) (hx : Passes CX X E) :
    OpR X (compareOp .Eq) (rOwnE X.K C sp E) := by
  intro pins s σ H x y v u Q I rx ry h
  obtain ⟨a, dx, fs, t, rfl, ha, hy, hn, q⟩ := h
  cases (show v = Value.ref a from rx)
  obtain ⟨mA, J, _⟩ := ins_get I.hok ha
  obtain ⟨od, J, _⟩ := J.look
  obtain ⟨P, Z, p, _⟩ := kit_of I ry hy
  obtain ⟨m, hF⟩ := I.fr
  show wpAny (model X.prog X.w) X.A (richCompare .Eq (.ref a) u) (EP X pins σ Q) X.xe s
  refine PySem.W.cmp_K (op := .Eq) (tb := t) hr.units0 hF I.ok.mod.kin J (Z.ty _ _ I.kIn p) hn hs hf ?_
  refine wpAny_mono (run_fn (us := [.ref a, u]) (vs := [.ref a, y]) F hr hb .nil hx I (.cons rfl (.cons ry .nil)) (by rw [List.append_nil]; exact q)) (fun w s' z => ?_) fun _ _ x => x
  obtain ⟨z', H', I', rz, qz⟩ := z
  exact SlX.cmpback rz ⟨z', H', I', rz, qz⟩
end
/-- a def that may raise, where it doesn't -/
theorem FnOk.calm {P : Program} {w : World} {K : PySem.W.Frag} {mg : Str → Option Value} {base : Heap} {k : Nat} {f : Addr} {fd : FuncData} {ps : List Str} {sp : Sp} (F : FnOk P w K mg base (L2.CX P w) k f fd ps sp) :
    FnOk P w K mg base CX0 k f fd ps (fun vs H Q _ => sp vs H Q fun _ _ _ => False) :=
  ⟨fun vs H Q _ h => F.len vs H Q _ h, fun A outer s H args us vs Q E hr he hb hv hs => codeAny_mono (F.run A outer s H args us vs Q (fun _ _ _ => False) hr he hb hv hs) fun r s' h => by
    cases r with
    | error e =>
      obtain ⟨_, _, _, _, _, _, _, _, _, _, _, _, z⟩ := (show L2.CX P w outer H s (fun _ _ _ => False) e s' from h)
      exact z.elim
    | ok fl => cases fl <;> exact h⟩
abbrev cm (sp : Sp) : Sp := fun vs H Q _ => sp vs H Q fun _ _ _ => False
theorem OkX.calm {P : Program} {w : World} {K : PySem.W.Frag} {mg : Str → Option Value} {base : Heap} {x : Str} {k : Nat} {ps : List Str} {sp : Sp} (o : OkX P w K mg base x k ps sp) : Ok P w K mg base x k ps (cm sp) := by
  obtain ⟨f, fd, F, h1, h2, h3⟩ := o.ex
  exact ⟨f, fd, FnOk.calm F, h1, h2, h3⟩
/-! keywords in the parameters' order -/
structure OkF (P : Program) (w : World) (K : PySem.W.Frag) (mg : Str → Option Value) (base : Heap) (x : Str) (k : Nat) (ps : List Str) (sp : Sp) : Prop where
  ex : ∃ f fd, FnOk P w K mg base CX0 k f fd ps sp ∧ mg x = some (.ref f) ∧ PySem.W.keepIn K (.ref f) = true ∧ KBn K fd ps 0 ps (fun _ ws => ws) (fun _ zs => zs)
theorem OkF.mk' {P : Program} {w : World} {K : PySem.W.Frag} {mg : Str → Option Value} {base : Heap} {x : Str} {k : Nat} {ps : List Str} {sp : Sp} {body : List Stmt} {params : Arguments} {scope : Scope} {f : Addr} {fd : FuncData}
    (F : FunD K x x params body scope [] [] f fd) (g : mg x = some (.ref f)) (b : ∀ (kV doc pm : Value) (an : Option Addr) (cdv ct : Value) (ws : List Value), ws.length = ps.length → bindArgs (PySem.W.fnOf x x params body scope .none kV doc pm an cdv ct) ⟨[], ps.zip ws⟩ = pure (ps.zip ws))
    (ok : FnOk P w K mg base CX0 k f fd ps sp) : OkF P w K mg base x k ps sp := by
  refine ⟨f, fd, ok, g, F.kp, ⟨fun s us ws _ l1 l2 => ?_, fun _ r => r⟩⟩
  obtain ⟨oc, od, dV, kV, doc, pm, an, cdv, ct, osl, rfl, lk, hcd, hD, hK⟩ := F.ex
  rcases hD with ⟨_, rfl⟩ | ⟨e, _⟩
  · obtain rfl := List.length_eq_zero_iff.mp l1
    exact .of_eq (b kV doc pm an cdv ct ws l2)
  · exact absurd rfl e
section
variable {X : Cx} {k : Nat} {ps : List Str} {sp : Sp} {x : Str} {kws : List Keyword} {tk : TA} {p pos : Pos}
theorem pe_callF (o : OkF X.prog X.w X.K X.mg X.base x k ps sp) (hr : Room k X.A) (hg : Gl X x) (hk : PK X kws tk) (hdb : (x == ("__debug__" : Str)) = false := by decide)
    (hall : (backToKw pos (keywordEach kws X.env)).all (·.1.isSome) = true := by rfl) (hks : (backToKw pos (keywordEach kws X.env)).filterMap (·.1) = ps := by rfl)
    (hpl : ((backTo pos (starEach [] X.env)).any (·.1) || (backToKw pos (keywordEach kws X.env)).any (·.1.isNone)) = false := by rfl) :
    PE X (.Call (.Name x p) [] kws pos) (fun σ H Q => tk σ H fun zs H1 => zs.length = ps.length ∧ sp zs H1 Q E0) := by
  obtain ⟨f, fd, F, hm, kp, B⟩ := o.ex
  refine ⟨fun pins s σ H Q I h => ?_⟩
  refine wpAny_Call_Name_kw (ld_glob I hg hm ?_ hdb)
  refine PySem.W.callWith_KW0 (h₀ := X.base) I.ok.mod.kin kp hall (thn (hk.run pos pins s σ H _ I h) fun ws s1 z => ?_) hpl
  obtain ⟨zs, H1, I1, r, l, q⟩ := z
  refine ⟨I1.kIn, ?_⟩
  rw [hks]
  exact run_fnN (us := []) (vs := []) F hr B pass0 I1 .nil r rfl l q
end
section
variable {X : Cx}
/-- [v, g] != [w, g], g the same object -/
def rNeI (K : PySem.W.Frag) : R2 := fun x y H Q => ∃ (a b : Addr) (v w z : V) (d e : PyData), x = .ref a ∧ y = .ref b ∧ H a = some (.lst [v, z]) ∧ H b = some (.lst [w, z]) ∧ (∃ g, z = .ref g) ∧ Dp K H v d ∧ Dp K H w e ∧ SeqAt.shaped d = true ∧ SeqAt.shaped e = true ∧ Q (.bl (!(PyData.eqv d e))) H
theorem op_neI (hu : X.A.units + 66 < cLine) : OpR X (compareOp .NotEq) (rNeI X.K) := by
  intro pins s σ H x y v u Q I rx ry h
  obtain ⟨a, b, v1, w1, z, d, e, rfl, rfl, ha, hb, ⟨g, rfl⟩, hd, he, sd, se, q⟩ := h
  cases (show v = Value.ref a from rx)
  cases (show u = Value.ref b from ry)
  obtain ⟨_, its, n, r, h1⟩ := (show ObjOk X.prog X.w H s.heap a (.lst [v1, .ref g]) from I.hok a _ ha)
  obtain ⟨_, its2, n2, r2, h2⟩ := (show ObjOk X.prog X.w H s.heap b (.lst [w1, .ref g]) from I.hok b _ hb)
  obtain ⟨u1, u2, rfl, rv, rg⟩ := vals2 r
  obtain ⟨u3, u4, rfl, rw1, rg2⟩ := vals2 r2
  cases (show u2 = Value.ref g from rg)
  cases (show u4 = Value.ref g from rg2)
  obtain ⟨as, r3⟩ := Dp.reads I d v1 u1 hd rv
  obtain ⟨bs, r4⟩ := Dp.reads I e w1 u3 he rw1
  have hl : s.heap.IsList a ([u1, Value.ref g].toArray) := ⟨_, h1, rfl, _, rfl⟩
  have hl2 : s.heap.IsList b ([u3, Value.ref g].toArray) := ⟨_, h2, rfl, _, rfl⟩
  have key := SeqAt.RcNeAt.lists (A := X.A) (e := fun j => if j = 0 then PyData.eqv d e else true) hl hl2 rfl (by omega) (fun j j1 j2 => by
    match j, j1, j2 with
    | 0, _, _ =>
      refine SeqAt.eqAt_reads d e X.A.in1 s u1 u3 as bs r3 r4 (SeqAt.canLay_of_shaped sd) (SeqAt.canLay_of_shaped se) (SeqAt.room_of_shaped sd ?_)
      show X.A.units + 1 + 64 < cLine
      omega
    | 1, _, _ => exact SeqAt.EqAt.same _
    | j + 2, j1, _ => exact absurd j1 (by show ¬ (j + 2 < 2); omega))
  show wpAny (model X.prog X.w) X.A (richCompare .NotEq (.ref a) (.ref b)) (EP X pins σ Q) X.xe s
  have e1 : (!(List.range ([u1, Value.ref g].toArray).size).all fun j => if j = 0 then PyData.eqv d e else true) = !(PyData.eqv d e) := by
    show (!((if (0 : Nat) = 0 then PyData.eqv d e else true) && ((if (1 : Nat) = 0 then PyData.eqv d e else true) && true))) = _
    rw [if_pos rfl, if_neg (by decide)]
    cases PyData.eqv d e <;> rfl
  rw [e1] at key
  exact key X.prog X.w _ _ ⟨.bl _, H, I, rfl, q⟩
end
end XV
set_option Elab.async false
set_option linter.all false
set_option maxRecDepth 100000
set_option maxHeartbeats 4000000
/-! f(k = v, ..) in a try, the names in the parameters' order turned round; f may raise. -/
namespace XV
open PySem PySem.Spec PyProof.Rows L2
structure OkKX (P : Program) (w : World) (K : PySem.W.Frag) (mg : Str → Option Value) (base : Heap) (x : Str) (k : Nat) (ps : List Str) (sp : Sp) : Prop where
  ex : ∃ f fd, FnOk P w K mg base (L2.CX P w) k f fd ps sp ∧ mg x = some (.ref f) ∧ PySem.W.keepIn K (.ref f) = true ∧ KBn K fd ps 0 ps.reverse (fun _ ws => ws.reverse) (fun _ zs => zs.reverse)
theorem OkKX.mk' {P : Program} {w : World} {K : PySem.W.Frag} {mg : Str → Option Value} {base : Heap} {x : Str} {k : Nat} {ps : List Str} {sp : Sp} {body : List Stmt} {params : Arguments} {scope : Scope} {f : Addr} {fd : FuncData}
    (F : FunD K x x params body scope [] [] f fd) (g : mg x = some (.ref f)) (b : ∀ (kV doc pm : Value) (an : Option Addr) (cdv ct : Value) (ws : List Value), ws.length = ps.length → bindArgs (PySem.W.fnOf x x params body scope .none kV doc pm an cdv ct) ⟨[], ps.reverse.zip ws⟩ = pure (ps.zip ws.reverse))
    (ok : FnOk P w K mg base (L2.CX P w) k f fd ps sp) : OkKX P w K mg base x k ps sp := by
  refine ⟨f, fd, ok, g, F.kp, ⟨fun s us ws _ l1 l2 => ?_, fun _ r => vals_rev r⟩⟩
  obtain ⟨oc, od, dV, kV, doc, pm, an, cdv, ct, osl, rfl, lk, hcd, hD, hK⟩ := F.ex
  rcases hD with ⟨_, rfl⟩ | ⟨e, _⟩
  · obtain rfl := List.length_eq_zero_iff.mp l1
    exact .of_eq (b kV doc pm an cdv ct ws (by rw [l2, List.length_reverse]))
  · exact absurd rfl e
theorem OkKX.calm {P : Program} {w : World} {K : PySem.W.Frag} {mg : Str → Option Value} {base : Heap} {x : Str} {k : Nat} {ps : List Str} {sp : Sp} (o : OkKX P w K mg base x k ps sp) : OkK P w K mg base x k ps (cm sp) := by
  obtain ⟨f, fd, F, h1, h2, h3⟩ := o.ex
  exact ⟨f, fd, FnOk.calm F, h1, h2, h3⟩
section
variable {X : Cx} {CX : CXT} {k n : Nat} {f : Addr} {fd : FuncData} {ps ks : List Str} {sp : Sp} {E : L2.St → XK} {x : Str} {p pos : Pos} {kws : List Keyword} {tk : TA} {g : List Value → List Value → List Value} {gV : List V → List V → List V} {W : WX}
theorem run_fnNS {pins : List (Addr × Obj)} {σ : L2.St} {H : Hp} {s : Shared} {Q : VK} {us ws : List Value} {vs zs : List V} (F : FnOk X.prog X.w X.K X.mg X.base CX k f fd ps sp) (hr : Room k X.A) (hb : KBn X.K fd ps n ks g gV) (hx : PassesAt CX X σ (E σ))
    (I : Inv X pins σ H s) (r : Vals vs us) (rz : Vals zs ws) (l1 : vs.length = n) (l2 : zs.length = ks.length) (h : sp (gV vs zs) H Q (E σ)) : wpAny (model X.prog X.w) X.A (call (.ref f) us (ks.zip ws)) (EP X pins σ Q) X.xe s := by
  have r2 := hb.rel r rz
  refine wpAny_call (codeAny_mono (F.run X.A X.stack s H ⟨us, ks.zip ws⟩ (g us ws) (gV vs zs) Q (E σ) hr I.env0 (hb.to s us ws I.kIn (r.length.symm.trans l1) (rz.length.symm.trans l2)) r2 h) fun r s' hq => ?_)
  cases r with
  | error e => exact hx pins H s e s' I hq
  | ok fl =>
    cases fl with
    | ret u => exact I.after hq
    | next => exact False.elim hq
    | brk => exact False.elim hq
    | cont => exact False.elim hq
theorem pe_callKT (o : OkKX X.prog X.w X.K X.mg X.base x k ps sp) (tk_ : Takes X W) (hr : Room k X.A) (hg : Gl X x) (hk : PK X kws tk) (hdb : (x == ("__debug__" : Str)) = false := by decide)
    (hall : (backToKw pos (keywordEach kws X.env)).all (·.1.isSome) = true := by rfl) (hks : (backToKw pos (keywordEach kws X.env)).filterMap (·.1) = ps.reverse := by rfl)
    (hpl : ((backTo pos (starEach [] X.env)).any (·.1) || (backToKw pos (keywordEach kws X.env)).any (·.1.isNone)) = false := by rfl) :
    PE X (.Call (.Name x p) [] kws pos) (fun σ H Q => tk σ H fun zs H1 => zs.length = ps.reverse.length ∧ sp zs.reverse H1 Q (WE W σ)) := by
  obtain ⟨f, fd, F, hm, kp, B⟩ := o.ex
  refine ⟨fun pins s σ H Q I h => ?_⟩
  refine wpAny_Call_Name_kw (ld_glob I hg hm ?_ hdb)
  refine PySem.W.callWith_KW0 (h₀ := X.base) I.ok.mod.kin kp hall (thn (hk.run pos pins s σ H _ I h) fun ws s1 z => ?_) hpl
  obtain ⟨zs, H1, I1, r, l, q⟩ := z
  refine ⟨I1.kIn, ?_⟩
  rw [hks]
  exact run_fnNS (E := WE W) (us := []) (vs := []) F hr B (passAt tk_ σ) I1 .nil r rfl l q
end
end XV
set_option Elab.async false
set_option linter.all false
set_option maxRecDepth 100000
set_option maxHeartbeats 4000000
namespace KJ
open PySem PySem.Spec PyProof.Rows L2 XV
abbrev sWhole : Stmt := top 10
abbrev sCount : Stmt := top 11
abbrev sBelow : Stmt := top 12
abbrev sLetters : Stmt := top 13
abbrev sIsWord : Stmt := top 14
theorem scWhole : FnScope ["value"] ["value"] (defScope sWhole) := ⟨rfl, rfl, rfl, by decide +kernel, rfl, by decide +kernel, by decide +kernel⟩
theorem scCount : FnScope ["value"] ["value"] (defScope sCount) := ⟨rfl, rfl, rfl, by decide +kernel, rfl, by decide +kernel, by decide +kernel⟩
theorem scBelow : FnScope ["bound", "value"] ["bound", "value"] (defScope sBelow) := ⟨rfl, rfl, rfl, by decide +kernel, rfl, by decide +kernel, by decide +kernel⟩
theorem scLetters : FnScope ["value"] ["value"] (defScope sLetters) := ⟨rfl, rfl, rfl, by decide +kernel, rfl, by decide +kernel, by decide +kernel⟩
theorem scIsWord : FnScope ["value"] ["value"] (defScope sIsWord) := ⟨rfl, rfl, rfl, by decide +kernel, rfl, by decide +kernel, by decide +kernel⟩
/-- a value whose kind is known -/
inductive Kn (H : Hp) : V → Prop
  | int (i : Int) : Kn H (.int i)
  | non : Kn H .non
  | bl (b : Bool) : Kn H (.bl b)
  | str (z : Str) : Kn H (.str z)
  | lst {a : Addr} {xs : List V} (h : H a = some (.lst xs)) : Kn H (.ref a)
  | tup {a : Addr} {xs : List V} (h : H a = some (.tup xs)) : Kn H (.ref a)
theorem Kn.keep {H H' : Hp} (s : Same H H') {v : V} (h : Kn H v) : Kn H' v := by
  cases h with
  | int i => exact .int i
  | non => exact .non
  | bl b => exact .bl b
  | str z => exact .str z
  | lst h => exact .lst (s _ _ h)
  | tup h => exact .tup (s _ _ h)
/-- a whole number, a count -/
def whV : V → Bool
  | .int _ => true
  | _ => false
def cntV : V → Bool
  | .int i => decide (0 ≤ i)
  | _ => false
def belV (b : Int) : V → Bool
  | .int i => decide (0 ≤ i) && decide (i < b)
  | _ => false
def spWhole : Sp := fun vs H Q _ => ∃ v, vs = [v] ∧ Kn H v ∧ Q (.bl (whV v)) H
def spCount : Sp := fun vs H Q _ => ∃ v, vs = [v] ∧ Kn H v ∧ Q (.bl (cntV v)) H
def spBelow : Sp := fun vs H Q _ => ∃ b v, vs = [.int b, v] ∧ Kn H v ∧ Q (.bl (belV b v)) H
def lowS (z : Str) : Bool := decide (z = "") || (Txt.isascii z && (Txt.isalpha z && Txt.islower z))
def lowV : L2.V → Bool
  | .str z => lowS z
  | _ => false
def spLow : Sp := fun vs H Q _ => ∃ v, vs = [v] ∧ Kn H v ∧ Q (.bl (lowV v)) H
/-- a word of the program: letters, at most 20000 -/
def wordV : L2.V → Bool
  | .str z => lowS z && decide (z.length ≤ 20000)
  | _ => false
def spIsWord : Sp := fun vs H Q _ => ∃ v, vs = [v] ∧ Kn H v ∧ (∀ z, v = .str z → z.length ≤ 100000) ∧ Q (.bl (wordV v)) H
section
variable {P : Program} {w : World} {K : PySem.W.Frag} {mg : Str → Option Value} {base : Heap} {f : Addr} {fd : FuncData}
theorem ok_whole (F : FnP K "is_whole" sWhole f fd) (z_isinstance : mg "isinstance" = none) (z_int : mg "int" = none) (z_bool : mg "bool" = none) : FnOk P w K mg base CX0 1 f fd ["value"] spWhole := by
  refine F.ok scWhole (fun vs H Q E h => ?_) (fun cdv A outer s H vs Q E hr h => ?_)
  · obtain ⟨v, rfl, _⟩ := h
    rfl
  · obtain ⟨v, rfl, kv, q⟩ := h
    refine ⟨_, PSs.nox (pss_one (ps_ret (pe_and (pe_callB call_isi (by rfl) z_isinstance (by decide +kernel) (pa_cons (pv 0) (pa_cons (pe_bltn (v := .ty "int") (by rfl) z_int (by decide +kernel) rfl) pa_nil))) (pe_one (pe_not (pe_callB call_isi (by rfl) z_isinstance (by decide +kernel) (pa_cons (pv 0) (pa_cons (pe_bltn (v := .ty "bool") (by rfl) z_bool (by decide +kernel) rfl) pa_nil)))))))), ?_⟩
    cases kv with
    | int i => exact ⟨_, rfl, _, _, _, _, true, rfl, .ty "int", .base (.int i), kit_ty (by decide +kernel), true, rfl, _, rfl, _, _, _, _, false, rfl, .ty "bool", .base (.int i), kit_ty (by decide +kernel), false, rfl, q⟩
    | bl b => exact ⟨_, rfl, _, _, _, _, true, rfl, .ty "int", .base (.bl b), kit_ty (by decide +kernel), true, rfl, _, rfl, _, _, _, _, true, rfl, .ty "bool", .base (.bl b), kit_ty (by decide +kernel), true, rfl, q⟩
    | non => exact ⟨_, rfl, _, _, _, _, false, rfl, .ty "int", .base .non, kit_ty (by decide +kernel), false, rfl, iteF q⟩
    | str z => exact ⟨_, rfl, _, _, _, _, false, rfl, .ty "int", .base (.str z), kit_ty (by decide +kernel), false, rfl, iteF q⟩
    | lst h => exact ⟨_, rfl, _, _, _, _, false, rfl, .ty "int", .base (.lst h), kit_ty (by decide +kernel), false, rfl, iteF q⟩
    | tup h => exact ⟨_, rfl, _, _, _, _, false, rfl, .ty "int", .base (.tup h), kit_ty (by decide +kernel), false, rfl, iteF q⟩
theorem ok_count (F : FnP K "is_count" sCount f fd) (o_is_whole : Ok P w K mg base "is_whole" 1 ["value"] spWhole) : FnOk P w K mg base CX0 2 f fd ["value"] spCount := by
  refine F.ok scCount (fun vs H Q E h => ?_) (fun cdv A outer s H vs Q E hr h => ?_)
  · obtain ⟨v, rfl, _⟩ := h
    rfl
  · obtain ⟨v, rfl, kv, q⟩ := h
    refine ⟨_, PSs.nox (pss_one (ps_ret (pe_and (pe_callO o_is_whole (hr.mono (by decide)) (by rfl) (pa_cons (pv 0) pa_nil)) (pe_one (pe_cmpR op_ge (pv 0) pe_int (nomark _)))))), ?_⟩
    have k2 := kv
    cases kv with
    | int i => exact ⟨_, rfl, _, rfl, k2, true, rfl, _, rfl, _, _, rfl, rfl, q⟩
    | bl b => exact ⟨_, rfl, _, rfl, k2, false, rfl, iteF q⟩
    | non => exact ⟨_, rfl, _, rfl, k2, false, rfl, iteF q⟩
    | str z => exact ⟨_, rfl, _, rfl, k2, false, rfl, iteF q⟩
    | lst h => exact ⟨_, rfl, _, rfl, k2, false, rfl, iteF q⟩
    | tup h => exact ⟨_, rfl, _, rfl, k2, false, rfl, iteF q⟩
theorem ok_below (F : FnP K "is_count_below" sBelow f fd) (o_is_count : Ok P w K mg base "is_count" 2 ["value"] spCount) : FnOk P w K mg base CX0 3 f fd ["bound", "value"] spBelow := by
  refine F.ok scBelow (fun vs H Q E h => ?_) (fun cdv A outer s H vs Q E hr h => ?_)
  · obtain ⟨b, v, rfl, _⟩ := h
    rfl
  · obtain ⟨b, v, rfl, kv, q⟩ := h
    refine ⟨_, PSs.nox (pss_one (ps_ret (pe_and (pe_callO o_is_count (hr.mono (by decide)) (by rfl) (pa_cons (pv 1) pa_nil)) (pe_one (pe_cmpR op_lt (pv 1) (pv 0) (nomark _)))))), ?_⟩
    have k2 := kv
    cases kv with
    | int i =>
      refine ⟨_, rfl, _, rfl, k2, _, rfl, ?_⟩
      by_cases c : 0 ≤ i
      · have e : cntV (.int i) = true := decide_eq_true c
        rw [e]
        have e2 : belV b (.int i) = decide (i < b) := by
          show (decide (0 ≤ i) && decide (i < b)) = _
          rw [decide_eq_true c]
          rfl
        rw [e2] at q
        exact iteT ⟨_, rfl, _, rfl, _, _, rfl, rfl, q⟩
      · have e : cntV (.int i) = false := decide_eq_false c
        rw [e]
        have e2 : belV b (.int i) = false := by
          show (decide (0 ≤ i) && decide (i < b)) = _
          rw [decide_eq_false c]
          rfl
        rw [e2] at q
        exact iteF q
    | bl z => exact ⟨_, rfl, _, rfl, k2, false, rfl, iteF q⟩
    | non => exact ⟨_, rfl, _, rfl, k2, false, rfl, iteF q⟩
    | str z => exact ⟨_, rfl, _, rfl, k2, false, rfl, iteF q⟩
    | lst h => exact ⟨_, rfl, _, rfl, k2, false, rfl, iteF q⟩
    | tup h => exact ⟨_, rfl, _, rfl, k2, false, rfl, iteF q⟩
theorem ok_low (F : FnP K "is_string_of_letters" sLetters f fd) (z_isinstance : mg "isinstance" = none) (z_str : mg "str" = none) : FnOk P w K mg base CX0 1 f fd ["value"] spLow := by
  refine F.ok scLetters (fun vs H Q E h => ?_) (fun cdv A outer s H vs Q E hr h => ?_)
  · obtain ⟨v, rfl, _⟩ := h
    rfl
  · obtain ⟨v, rfl, kv, q⟩ := h
    refine ⟨_, PSs.nox (pss_cons (ps_if (pt_not (pt_val (pe_callB call_isi (by rfl) z_isinstance (by decide +kernel) (pa_cons (pv 0) (pa_cons (pe_bltn (v := .ty "str") (by rfl) z_str (by decide +kernel) rfl) pa_nil))))) (pss_one (ps_ret pe_bl)) pss_nil)
 (pss_one (ps_ret (pe_or (pe_cmpR op_eq (pv 0) pe_str (nomark _)) (pe_one (pe_and (pe_m0 PySem.F.slot_str_isascii PySem.F.type_str_isascii mt_isascii (pv 0)) (pe_and (pe_m0 PySem.F.slot_str_isalpha PySem.F.type_str_isalpha mt_isalpha (pv 0)) (pe_one (pe_m0 PySem.F.slot_str_islower PySem.F.type_str_islower mt_islower (pv 0)))))))))), ?_⟩
    cases kv with
    | int i => exact ⟨_, rfl, _, _, _, _, false, rfl, .ty "str", .base (.int i), kit_ty (by decide +kernel), false, rfl, iteT q⟩
    | bl b => exact ⟨_, rfl, _, _, _, _, false, rfl, .ty "str", .base (.bl b), kit_ty (by decide +kernel), false, rfl, iteT q⟩
    | non => exact ⟨_, rfl, _, _, _, _, false, rfl, .ty "str", .base .non, kit_ty (by decide +kernel), false, rfl, iteT q⟩
    | lst h => exact ⟨_, rfl, _, _, _, _, false, rfl, .ty "str", .base (.lst h), kit_ty (by decide +kernel), false, rfl, iteT q⟩
    | tup h => exact ⟨_, rfl, _, _, _, _, false, rfl, .ty "str", .base (.tup h), kit_ty (by decide +kernel), false, rfl, iteT q⟩
    | str z =>
      refine ⟨_, rfl, _, _, _, _, true, rfl, .ty "str", .base (.str z), kit_ty (by decide +kernel), true, rfl, iteF ⟨_, rfl, rfl, decide (V.str z = V.str ""), rfl, ?_⟩⟩
      by_cases e : z = ""
      · subst e
        rw [decide_eq_true rfl]
        exact iteT q
      · have ne : ¬ V.str z = V.str "" := fun x => e (V.str.inj x)
        have el : lowV (.str z) = (Txt.isascii z && (Txt.isalpha z && Txt.islower z)) := by
          show (decide (z = "") || _) = _
          rw [decide_eq_false e, Bool.false_or]
        rw [el] at q
        rw [decide_eq_false ne]
        refine iteF ⟨_, rfl, ⟨_, rfl⟩, _, rfl, rfl, trivial, Txt.isascii z, rfl, ?_⟩
        cases ea : Txt.isascii z with
        | false =>
          rw [ea] at q
          exact iteF q
        | true =>
          rw [ea, Bool.true_and] at q
          refine iteT ⟨_, rfl, ⟨_, rfl⟩, _, rfl, rfl, trivial, Txt.isalpha z, rfl, ?_⟩
          cases eb : Txt.isalpha z with
          | false =>
            rw [eb] at q
            exact iteF q
          | true =>
            rw [eb, Bool.true_and] at q
            exact iteT ⟨_, rfl, ⟨_, rfl⟩, _, rfl, rfl, trivial, q⟩
theorem ok_isWord (F : FnP K "is_word" sIsWord f fd) (o_low : Ok P w K mg base "is_string_of_letters" 1 ["value"] spLow) (z_len : mg "len" = none) {tM : Tok} (h_LW : mg "LONGEST_WORD" = some (.int 20000 tM)) : FnOk P w K mg base CX0 2 f fd ["value"] spIsWord := by
  refine F.ok scIsWord (fun vs H Q E h => ?_) (fun cdv A outer s H vs Q E hr h => ?_)
  · obtain ⟨v, rfl, _⟩ := h
    rfl
  · obtain ⟨v, rfl, kv, lv, q⟩ := h
    have r1 : Room 1 (A.deeper (envOfC "is_word" (defScope sIsWord) s.heap.objs.size f cdv)) := hr
    have szl := sizeLine_eq
    refine ⟨_, PSs.nox (pss_one (ps_ret (pe_and (pe_callO o_low r1 (by rfl) (pa_cons (pv 0) pa_nil)) (pe_one (pe_cmpR op_le (pe_callB call_len_str (by rfl) z_len boot_len (pa_cons (pv 0) pa_nil)) (pe_glob (v := .int 20000) (by rfl) h_LW ⟨_, rfl⟩) (nomark _)))))), ?_⟩
    refine ⟨_, rfl, v, rfl, kv, ?_⟩
    cases v with
    | str z =>
      have lz := lv z rfl
      have e : wordV (.str z) = (lowS z && decide (z.length ≤ 20000)) := rfl
      rw [e] at q
      show ∃ b, V.bl (lowS z) = .bl b ∧ _
      cases c : lowS z with
      | false =>
        rw [c] at q
        exact ⟨false, rfl, iteF q⟩
      | true =>
        rw [c, Bool.true_and] at q
        refine ⟨true, rfl, iteT ⟨_, rfl, z, rfl, by omega, _, _, rfl, rfl, ?_⟩⟩
        have e2 : decide ((z.length : Int) ≤ 20000) = decide (z.length ≤ 20000) := decide_eq_decide.mpr ⟨fun h => by omega, fun h => by omega⟩
        show Q (.bl (decide ((z.length : Int) ≤ 20000))) H
        rw [e2]
        exact q
    | _ => exact ⟨false, rfl, iteF q⟩
end
end KJ
set_option Elab.async false
set_option linter.all false
set_option maxRecDepth 100000
set_option maxHeartbeats 4000000
/-! Least thresholds and periods of a sequence that repeats: of lists and numbers, no program. -/
namespace NQ
section
variable {β : Type} [DecidableEq β]
/-- the steps that lead a cycle to itself -/
def isPer (cy : List β) (k : Nat) : Bool := decide (cy.length % k = 0) && decide (cy.drop k = cy.take (cy.length - k))
def pers (cy : List β) : List Nat := (List.range' 1 cy.length).filter (isPer cy)
def per1 (cy : List β) : Nat := (pers cy).headD 0
/-- s repeats by d from t on -/
def Rep (s : Nat → β) (t d : Nat) : Prop := ∀ c, t ≤ c → s (c + d) = s c
theorem Rep.mul {s : Nat → β} {t d : Nat} (h : Rep s t d) : ∀ n c, t ≤ c → s (c + d * n) = s c
  | 0, c, _ => by rw [Nat.mul_zero, Nat.add_zero]
  | n + 1, c, hc => by
    rw [Nat.mul_succ, ← Nat.add_assoc, h (c + d * n) (by omega), Rep.mul h n c hc]
theorem Rep.later {s : Nat → β} {t t' d : Nat} (h : Rep s t d) (l : t ≤ t') : Rep s t' d := fun c hc => h c (by omega)
/-- a repeat from somewhere on holds from where another one begins -/
theorem Rep.back {s : Nat → β} {t p T d : Nat} (hp : 1 ≤ p) (h : Rep s t p) (k : Rep s T d) : Rep s t d := fun c hc => by
  have a : T ≤ c + p * T := by
    have := Nat.mul_le_mul_right T hp
    omega
  have e1 := h.mul T c hc
  have e2 := h.mul T (c + d) (by omega)
  have e3 := k (c + p * T) a
  rw [← e2, ← e1, ← e3]
  congr 1
  omega
/-- what is left of one repeat behind another -/
theorem Rep.mod {s : Nat → β} {t p d : Nat} (h : Rep s t p) (k : Rep s t d) : Rep s t (p % d) := fun c hc => by
  have e1 := k.mul (p / d) (c + p % d) (by omega)
  have e2 := h c hc
  rw [← e1, ← e2]
  congr 1
  have := Nat.mod_add_div p d
  omega
/-- the table of one cycle -/
def cyc (s : Nat → β) (t p : Nat) : List β := (List.range p).map fun i => s (t + i)
theorem cyc_len (s : Nat → β) (t p : Nat) : (cyc s t p).length = p := by simp [cyc]
theorem cyc_get (s : Nat → β) (t p i : Nat) (h : i < p) : (cyc s t p)[i]? = some (s (t + i)) := by simp [cyc, h]
theorem isPer_iff {s : Nat → β} {t p k : Nat} (hk : 1 ≤ k) (hkp : k ≤ p) (h : Rep s t p) : isPer (cyc s t p) k = true ↔ p % k = 0 ∧ Rep s t k := by
  unfold isPer
  rw [Bool.and_eq_true, decide_eq_true_eq, decide_eq_true_eq, cyc_len]
  constructor
  · rintro ⟨e, hl⟩
    refine ⟨e, ?_⟩
    have base : ∀ i, i + k < p → s (t + i + k) = s (t + i) := fun i hi => by
      have := congrArg (fun l => l[i]?) hl
      simp only [List.getElem?_drop, List.getElem?_take] at this
      rw [cyc_get _ _ _ _ (by omega), if_pos (by omega), cyc_get _ _ _ _ (by omega)] at this
      have := Option.some.inj this
      rw [← this]
      congr 1
      omega
    -- within the cycle by steps of k
    have up : ∀ n i, i + k * n < p → s (t + i + k * n) = s (t + i) := by
      intro n
      induction n with
      | zero => intro i _; rw [Nat.mul_zero, Nat.add_zero]
      | succ n ih =>
        intro i hi
        rw [Nat.mul_succ] at hi ⊢
        have e1 := base (i + k * n) (by omega)
        have e2 := ih i (by omega)
        have e3 : t + i + (k * n + k) = t + (i + k * n) + k := by omega
        rw [← e2, e3, e1, ← Nat.add_assoc]
    have one : ∀ i, i < p → s (t + i + k) = s (t + i) := fun i hi => by
      by_cases c : i + k < p
      · exact base i c
      · have hj : i + k - p < k := by omega
        have e3 := h (t + (i + k - p)) (by omega)
        have e4 : t + i + k = t + (i + k - p) + p := by omega
        rw [e4, e3]
        -- i = (i + k - p) + k * n
        obtain ⟨n, hn⟩ : ∃ n, p = k * n := ⟨p / k, by have := Nat.mod_add_div p k; omega⟩
        have n1 : 1 ≤ n := by
          rcases n with _ | n
          · rw [Nat.mul_zero] at hn; omega
          · omega
        have e5 : k * (n - 1) + k = p := by
          rw [hn, ← Nat.mul_succ]
          congr 1
          omega
        have e6 := up (n - 1) (i + k - p) (by omega)
        rw [← e6]
        congr 1
        omega
    intro c hc
    have e7 : c = t + (c - t) % p + p * ((c - t) / p) := by
      have := Nat.mod_add_div (c - t) p
      omega
    have lt : (c - t) % p < p := Nat.mod_lt _ (by omega)
    have e8 := h.mul ((c - t) / p) (t + (c - t) % p) (by omega)
    have e9 := h.mul ((c - t) / p) (t + (c - t) % p + k) (by omega)
    rw [e7, e8, ← one _ lt, ← e9]
    congr 1
    omega
  · rintro ⟨e, hr⟩
    refine ⟨e, ?_⟩
    apply List.ext_getElem?
    intro i
    rw [List.getElem?_drop, List.getElem?_take]
    by_cases c : i < p - k
    · rw [if_pos c, cyc_get _ _ _ _ (by omega), cyc_get _ _ _ _ (by omega)]
      have := hr (t + i) (by omega)
      rw [← this]
      congr 2
      omega
    · rw [if_neg c]
      exact List.getElem?_eq_none (by rw [cyc_len]; omega)
theorem mem_pers {s : Nat → β} {t p k : Nat} (h : Rep s t p) : k ∈ pers (cyc s t p) ↔ 1 ≤ k ∧ k ≤ p ∧ p % k = 0 ∧ Rep s t k := by
  unfold pers
  rw [List.mem_filter, List.mem_range'_1, cyc_len]
  constructor
  · rintro ⟨⟨a, b⟩, c⟩
    exact ⟨a, by omega, (isPer_iff a (by omega) h).mp c⟩
  · rintro ⟨a, b, c⟩
    exact ⟨⟨a, by omega⟩, (isPer_iff a b h).mpr c⟩
theorem head_least : ∀ {l : List Nat}, l.Pairwise (· < ·) → ∀ x ∈ l, l.headD 0 ∈ l ∧ l.headD 0 ≤ x
  | [], _, _, h => by cases h
  | a :: l, h, x, hx => by
    refine ⟨List.mem_cons_self, ?_⟩
    rcases List.mem_cons.mp hx with rfl | hx
    · exact Nat.le_refl _
    · exact Nat.le_of_lt ((List.pairwise_cons.mp h).1 x hx)
theorem pers_lt (cy : List β) : (pers cy).Pairwise (· < ·) := List.Pairwise.filter _ List.pairwise_lt_range'
/-- the least period is one, and the least of all -/
theorem per1_ok {s : Nat → β} {t p : Nat} (hp : 1 ≤ p) (h : Rep s t p) : 1 ≤ per1 (cyc s t p) ∧ per1 (cyc s t p) ≤ p ∧ p % per1 (cyc s t p) = 0 ∧ Rep s t (per1 (cyc s t p)) := by
  have hm : p ∈ pers (cyc s t p) := (mem_pers h).mpr ⟨hp, Nat.le_refl _, Nat.mod_self p, h⟩
  exact (mem_pers h).mp (head_least (pers_lt _) p hm).1
theorem per1_le0 {s : Nat → β} {t p : Nat} (hp : 1 ≤ p) (h : Rep s t p) : ∀ d, 1 ≤ d → Rep s t d → per1 (cyc s t p) ≤ d := by
  intro d
  induction d using Nat.strongRecOn with
  | _ d ih =>
    intro hd k
    by_cases c : p % d = 0
    · by_cases l : d ≤ p
      · exact (head_least (pers_lt _) d ((mem_pers h).mpr ⟨hd, l, c, k⟩)).2
      · exact Nat.le_trans (per1_ok hp h).2.1 (by omega)
    · have lt : p % d < d := Nat.mod_lt _ (by omega)
      exact Nat.le_trans (ih (p % d) lt (by omega) (h.mod k)) (by omega)
theorem per1_le {s : Nat → β} {t p T d : Nat} (hp : 1 ≤ p) (h : Rep s t p) (hd : 1 ≤ d) (k : Rep s T d) : per1 (cyc s t p) ≤ d := per1_le0 hp h d hd (Rep.back hp h k)
/-- where the repeat begins -/
def thr (s : Nat → β) (q : Nat) : Nat → Nat
  | 0 => 0
  | t + 1 => if s t = s (t + q) then thr s q t else t + 1
theorem thr_le (s : Nat → β) (q : Nat) : ∀ t, thr s q t ≤ t
  | 0 => Nat.le_refl 0
  | t + 1 => by
    unfold thr
    split
    · exact Nat.le_succ_of_le (thr_le s q t)
    · exact Nat.le_refl _
theorem thr_rep (s : Nat → β) (q : Nat) : ∀ t, Rep s t q → Rep s (thr s q t) q
  | 0, h => h
  | t + 1, h => by
    unfold thr
    split
    · rename_i e
      refine thr_rep s q t fun c hc => ?_
      by_cases l : t = c
      · rw [← l, e]
      · exact h c (by omega)
    · exact h
theorem thr_least (s : Nat → β) (q : Nat) : ∀ t T, Rep s T q → thr s q t ≤ T
  | 0, _, _ => Nat.zero_le _
  | t + 1, T, k => by
    unfold thr
    split
    · exact thr_least s q t T k
    · rename_i e
      apply Nat.le_of_not_lt
      intro l
      exact e (k t (by omega)).symm
/-- the least limit of a sequence: its threshold and its period -/
def lim1 (s : Nat → β) (t p : Nat) : Nat × Nat := (thr s (per1 (cyc s t p)) t, per1 (cyc s t p))
theorem lim1_ok {s : Nat → β} {t p : Nat} (hp : 1 ≤ p) (h : Rep s t p) : (lim1 s t p).1 ≤ t ∧ 1 ≤ (lim1 s t p).2 ∧ p % (lim1 s t p).2 = 0 ∧ Rep s (lim1 s t p).1 (lim1 s t p).2 := by
  obtain ⟨h1, _, h3, h4⟩ := per1_ok hp h
  exact ⟨thr_le _ _ _, h1, h3, thr_rep _ _ _ h4⟩
end
/-- two sequences that tell the same places apart have the same least limit -/
theorem lim1_eq {β γ : Type} [DecidableEq β] [DecidableEq γ] {s : Nat → β} {u : Nat → γ} {t p t2 p2 : Nat} (hp : 1 ≤ p) (h : Rep s t p) (hp2 : 1 ≤ p2) (h2 : Rep u t2 p2) (e : ∀ c d, s c = s d ↔ u c = u d) : lim1 s t p = lim1 u t2 p2 := by
  have su : ∀ {T d}, Rep s T d ↔ Rep u T d := fun {T d} => ⟨fun k c hc => (e _ _).mp (k c hc), fun k c hc => (e _ _).mpr (k c hc)⟩
  obtain ⟨a1, _, _, a4⟩ := per1_ok hp h
  obtain ⟨b1, _, _, b4⟩ := per1_ok hp2 h2
  have ep : per1 (cyc s t p) = per1 (cyc u t2 p2) := Nat.le_antisymm (per1_le hp h b1 (su.mpr b4)) (per1_le hp2 h2 a1 (su.mp a4))
  have r1 := thr_rep s _ t a4
  have r2 := thr_rep u _ t2 b4
  have et : thr s (per1 (cyc s t p)) t = thr u (per1 (cyc u t2 p2)) t2 := Nat.le_antisymm (thr_least _ _ _ _ (su.mpr (by rw [ep]; exact r2))) (thr_least _ _ _ _ (su.mp (by rw [← ep]; exact r1)))
  exact Prod.ext et ep
end NQ
set_option Elab.async false
set_option linter.all false
set_option maxRecDepth 100000
set_option maxHeartbeats 4000000
/-! A map of at most 12 states, taken often: when it first repeats, and that its period is at most 60: of numbers, no program. -/
namespace NM
open NQ
/-- f, k times -/
def it (f : Nat → Nat) : Nat → Nat → Nat
  | 0, s => s
  | k + 1, s => f (it f k s)
theorem it_add (f : Nat → Nat) (a : Nat) : ∀ b s, it f (a + b) s = it f b (it f a s)
  | 0, _ => rfl
  | b + 1, s => congrArg f (it_add f a b s)
theorem it_comm (f : Nat → Nat) (a b s : Nat) : it f a (it f b s) = it f b (it f a s) := by
  rw [← it_add, ← it_add, Nat.add_comm]
theorem it_mul {f : Nat → Nat} {d u : Nat} (h : it f d u = u) : ∀ k, it f (d * k) u = u
  | 0 => rfl
  | k + 1 => by rw [Nat.mul_succ, it_add, it_mul h k, h]
theorem nodup_len : ∀ (l D : List Nat), l.Nodup → (∀ x ∈ l, x ∈ D) → l.length ≤ D.length
  | [], _, _, _ => Nat.zero_le _
  | a :: l, D, h, k => by
    obtain ⟨h1, h2⟩ := List.nodup_cons.mp h
    have ha := k a List.mem_cons_self
    have := nodup_len l (D.erase a) h2 fun x hx => by
      have hx' := k x (List.mem_cons_of_mem _ hx)
      exact (List.mem_erase_of_ne (fun e => h1 (by rw [← e]; exact hx))).mpr hx'
    rw [List.length_erase_of_mem ha] at this
    have := List.length_pos_of_mem ha
    rw [List.length_cons]
    omega
section
variable {f : Nat → Nat} {n : Nat} (hf : ∀ s, s < n → f s < n)
include hf
theorem it_lt : ∀ (k : Nat) {s : Nat}, s < n → it f k s < n
  | 0, _, h => h
  | k + 1, _, h => hf _ (it_lt k h)
/-- two of the first n + 1 states are the same -/
theorem pigeon {s : Nat} (hs : s < n) : ∃ i j, i < j ∧ j ≤ n ∧ it f i s = it f j s := by
  apply Classical.byContradiction
  intro h
  have nd : ((List.range (n + 1)).map fun k => it f k s).Nodup := by
    rw [List.Nodup, List.pairwise_map]
    refine List.Pairwise.imp_of_mem (fun {a b} ha hb hab e => ?_) List.pairwise_lt_range
    exact h ⟨a, b, hab, by have := List.mem_range.mp hb; omega, e⟩
  have := nodup_len _ (List.range n) nd fun x hx => by
    obtain ⟨k, _, rfl⟩ := List.mem_map.mp hx
    exact List.mem_range.mpr (it_lt hf k hs)
  rw [List.length_map, List.length_range, List.length_range] at this
  omega
end
/-- the length of the cycle that a state is on, 0 if it is on none -/
def per (f : Nat → Nat) (n u : Nat) : Nat := ((List.range' 1 n).find? fun d => decide (it f d u = u)).getD 0
theorem find_least {P : Nat → Bool} : ∀ (k lo p : Nat), (List.range' lo k).find? P = some p → lo ≤ p ∧ p < lo + k ∧ P p = true ∧ ∀ q, lo ≤ q → q < p → P q = false
  | 0, lo, p, h => by simp at h
  | k + 1, lo, p, h => by
    rw [List.range'_succ, List.find?_cons] at h
    cases e : P lo with
    | true =>
      rw [e] at h
      cases h
      exact ⟨Nat.le_refl _, by omega, e, fun q h1 h2 => by omega⟩
    | false =>
      rw [e] at h
      obtain ⟨h1, h2, h3, h4⟩ := find_least k (lo + 1) p h
      refine ⟨by omega, by omega, h3, fun q q1 q2 => ?_⟩
      by_cases c : q = lo
      · rw [c, e]
      · exact h4 q (by omega) q2
theorem per_some {f : Nat → Nat} {n u d : Nat} (h1 : 1 ≤ d) (h2 : d ≤ n) (h : it f d u = u) : 1 ≤ per f n u ∧ per f n u ≤ d ∧ it f (per f n u) u = u ∧ ∀ q, 1 ≤ q → q < per f n u → it f q u ≠ u := by
  unfold per
  cases e : (List.range' 1 n).find? fun d => decide (it f d u = u) with
  | none =>
    have := List.find?_eq_none.mp e d (List.mem_range'_1.mpr ⟨h1, by omega⟩)
    exact absurd (decide_eq_true h) this
  | some p =>
    obtain ⟨a, b, c, l⟩ := find_least _ _ _ e
    refine ⟨a, ?_, of_decide_eq_true c, fun q q1 q2 => of_decide_eq_false (l q q1 q2)⟩
    apply Nat.le_of_not_lt
    intro lt
    exact of_decide_eq_false (l d h1 lt) h
/-- sums of the lengths of different cycles -/
theorem count_sum {g : Nat → Nat} : ∀ (xs : List Nat) (l : List Nat), l.Nodup → (l.map fun d => xs.countP fun x => decide (g x = d)).sum ≤ xs.length
  | [], l, _ => by
    have : ∀ l : List Nat, (l.map fun d => ([] : List Nat).countP fun x => decide (g x = d)).sum = 0 := fun l => by
      induction l with
      | nil => rfl
      | cons a l ih => rw [List.map_cons, List.sum_cons, ih]; rfl
    rw [this]
    exact Nat.zero_le _
  | x :: xs, l, h => by
    have ih := count_sum (g := g) xs l h
    have e : ∀ l : List Nat, (l.map fun d => (x :: xs).countP fun x => decide (g x = d)).sum = (l.map fun d => xs.countP fun x => decide (g x = d)).sum + l.countP fun d => decide (g x = d) := fun l => by
      induction l with
      | nil => rfl
      | cons a l ih =>
        rw [List.map_cons, List.sum_cons, ih, List.map_cons, List.sum_cons, List.countP_cons, List.countP_cons]
        omega
    have one : l.countP (fun d => decide (g x = d)) ≤ 1 := by
      have := nodup_len (l.filter fun d => decide (g x = d)) [g x] (h.filter _) fun y hy => by
        have := of_decide_eq_true (List.mem_filter.mp hy).2
        rw [this]
        exact List.mem_singleton.mpr rfl
      rw [List.countP_eq_length_filter]
      exact this
    rw [e, List.length_cons]
    omega
/-- all lists of different lengths with a small sum have a small common multiple -/
def chk : List Nat → Nat → Nat → Bool
  | [], s, m => decide (12 < s) || decide (m ≤ 60)
  | x :: r, s, m => decide (12 < s) || (chk r s m && chk r (s + x) (Nat.lcm m x))
theorem chk_ok (b : Nat → Bool) : ∀ (l : List Nat) (s m : Nat), chk l s m = true → s + (l.filter b).sum ≤ 12 → (l.filter b).foldl Nat.lcm m ≤ 60
  | [], s, m, h, k => by
    simp only [chk, Bool.or_eq_true, decide_eq_true_eq] at h
    simp only [List.filter_nil, List.sum_nil, Nat.add_zero, List.foldl_nil] at k ⊢
    omega
  | x :: r, s, m, h, k => by
    simp only [chk, Bool.or_eq_true, Bool.and_eq_true, decide_eq_true_eq] at h
    cases e : b x with
    | true =>
      rw [List.filter_cons_of_pos e] at k ⊢
      rw [List.sum_cons] at k
      rw [List.foldl_cons]
      rcases h with h | h
      · omega
      · exact chk_ok b r (s + x) (Nat.lcm m x) h.2 (by omega)
    | false =>
      rw [List.filter_cons_of_neg (by rw [e]; exact Bool.false_ne_true)] at k ⊢
      rcases h with h | h
      · omega
      · exact chk_ok b r s m h.1 k
theorem chk12 : chk (List.range' 1 12) 0 1 = true := by decide +kernel
theorem foldl_dvd : ∀ (l : List Nat) (m : Nat), m ∣ l.foldl Nat.lcm m ∧ ∀ d ∈ l, d ∣ l.foldl Nat.lcm m
  | [], m => ⟨Nat.dvd_refl m, fun d hd => by cases hd⟩
  | x :: l, m => by
    rw [List.foldl_cons]
    obtain ⟨h1, h2⟩ := foldl_dvd l (Nat.lcm m x)
    refine ⟨Nat.dvd_trans (Nat.dvd_lcm_left m x) h1, fun d hd => ?_⟩
    rcases List.mem_cons.mp hd with rfl | hd
    · exact Nat.dvd_trans (Nat.dvd_lcm_right m d) h1
    · exact h2 d hd
theorem foldl_pos : ∀ (l : List Nat) (m : Nat), 0 < m → (∀ d ∈ l, 0 < d) → 0 < l.foldl Nat.lcm m
  | [], _, h, _ => h
  | x :: l, m, h, k => by
    rw [List.foldl_cons]
    exact foldl_pos l _ (Nat.lcm_pos h (k x List.mem_cons_self)) fun d hd => k d (List.mem_cons_of_mem _ hd)
section
variable {f : Nat → Nat} {n : Nat} (hf : ∀ s, s < n → f s < n) (hn : n ≤ 12)
include hf hn
/-- the lengths that occur -/
def lens (f : Nat → Nat) (n : Nat) : List Nat := (List.range' 1 12).filter fun d => (List.range n).any fun u => decide (per f n u = d)
omit hf hn in
theorem mem_lens {d : Nat} : d ∈ lens f n ↔ 1 ≤ d ∧ d ≤ 12 ∧ ∃ u, u < n ∧ per f n u = d := by
  unfold lens
  rw [List.mem_filter, List.mem_range'_1, List.any_eq_true]
  constructor
  · rintro ⟨⟨a, b⟩, u, hu, e⟩
    exact ⟨a, by omega, u, List.mem_range.mp hu, of_decide_eq_true e⟩
  · rintro ⟨a, b, u, hu, e⟩
    exact ⟨⟨a, by omega⟩, u, List.mem_range.mpr hu, decide_eq_true e⟩
/-- on a cycle of length d there are d states of that length -/
theorem cycle_len {u d : Nat} (hu : u < n) (h1 : 1 ≤ d) (e : per f n u = d) : d ≤ (List.range n).countP fun x => decide (per f n x = d) := by
  have ex : ∃ q, (List.range' 1 n).find? (fun d => decide (it f d u = u)) = some q := by
    cases z : (List.range' 1 n).find? fun d => decide (it f d u = u) with
    | none =>
      unfold per at e
      rw [z] at e
      have e : (0 : Nat) = d := e
      omega
    | some q => exact ⟨q, rfl⟩
  obtain ⟨q, hq⟩ := ex
  obtain ⟨a1, a2, a3, _⟩ := find_least _ _ _ hq
  obtain ⟨b1, b2, b3, b4⟩ := per_some (n := n) (d := q) a1 (by omega) (of_decide_eq_true a3)
  have dn : d ≤ n := by omega
  rw [e] at b3 b4
  -- back to u
  have up : ∀ i, i ≤ d → it f (d - i) (it f i u) = u := fun i hi => by
    rw [← it_add, show i + (d - i) = d by omega, b3]
  have nd : ((List.range d).map fun i => it f i u).Nodup := by
    rw [List.Nodup, List.pairwise_map]
    refine List.Pairwise.imp_of_mem (fun {i j} hi hj hij ee => ?_) List.pairwise_lt_range
    have hj := List.mem_range.mp hj
    refine b4 (j - i) (by omega) (by omega) ?_
    have e1 := up i (by omega)
    rw [ee, ← it_add, show j + (d - i) = d + (j - i) by omega, it_add, b3] at e1
    exact e1
  have key := nodup_len _ ((List.range n).filter fun x => decide (per f n x = d)) nd fun x hx => by
    obtain ⟨i, hi, rfl⟩ := List.mem_map.mp hx
    have hi := List.mem_range.mp hi
    refine List.mem_filter.mpr ⟨List.mem_range.mpr (it_lt hf i hu), decide_eq_true ?_⟩
    have back : it f d (it f i u) = it f i u := by rw [it_comm, b3]
    obtain ⟨c1, c2, c3, c4⟩ := per_some h1 dn back
    apply Nat.le_antisymm c2
    apply Nat.le_of_not_lt
    intro lt
    refine b4 _ c1 lt ?_
    have e1 := up i (by omega)
    rw [← c3, it_comm f (d - i), up i (by omega)] at e1
    exact e1
  rw [List.length_map, List.length_range] at key
  rw [List.countP_eq_length_filter]
  exact key
theorem lens_sum : (lens f n).sum ≤ 12 := by
  have nd : (lens f n).Nodup := List.Pairwise.filter _ (List.nodup_range' ..)
  have a := count_sum (g := per f n) (List.range n) (lens f n) nd
  rw [List.length_range] at a
  have b : ∀ l : List Nat, (∀ d ∈ l, d ≤ (List.range n).countP fun x => decide (per f n x = d)) → l.sum ≤ (l.map fun d => (List.range n).countP fun x => decide (per f n x = d)).sum := fun l => by
    induction l with
    | nil => intro _; exact Nat.le_refl _
    | cons x l ih =>
      intro h
      rw [List.map_cons, List.sum_cons, List.sum_cons]
      have := h x List.mem_cons_self
      have := ih fun d hd => h d (List.mem_cons_of_mem _ hd)
      omega
  have := b (lens f n) fun d hd => by
    obtain ⟨h1, _, u, hu, e⟩ := mem_lens.mp hd
    exact cycle_len hf hn hu h1 e
  omega
/-- a common period of all states -/
def big (f : Nat → Nat) (n : Nat) : Nat := (lens f n).foldl Nat.lcm 1
theorem big_le : big f n ≤ 60 := chk_ok _ _ 0 1 chk12 (by rw [Nat.zero_add]; exact lens_sum hf hn)
omit hf hn in
theorem big_pos : 1 ≤ big f n := foldl_pos _ _ (by decide) fun d hd => (mem_lens.mp hd).1
theorem big_rep {s : Nat} (hs : s < n) : ∀ c, n - 1 ≤ c → it f (c + big f n) s = it f c s := by
  obtain ⟨i, j, hij, hj, e⟩ := pigeon hf hs
  -- the state on the cycle
  have hu : it f (n - 1) s < n := it_lt hf _ hs
  have on : it f (j - i) (it f (n - 1) s) = it f (n - 1) s := by
    rw [← it_add, show n - 1 + (j - i) = j + (n - 1 - i) by omega, it_add, ← e, ← it_add, show i + (n - 1 - i) = n - 1 by omega]
  obtain ⟨b1, b2, b3, _⟩ := per_some (n := n) (by omega) (by omega) on
  have hm : per f n (it f (n - 1) s) ∈ lens f n := mem_lens.mpr ⟨b1, by omega, _, hu, rfl⟩
  obtain ⟨k, hk⟩ := (foldl_dvd (lens f n) 1).2 _ hm
  have hk : big f n = per f n (it f (n - 1) s) * k := hk
  intro c hc
  rw [show c + big f n = (n - 1) + (big f n + (c - (n - 1))) by omega, it_add, it_add, hk, it_mul b3, ← it_add, show n - 1 + (c - (n - 1)) = c by omega]
end
end NM
set_option Elab.async false
set_option linter.all false
set_option maxRecDepth 100000
set_option maxHeartbeats 4000000
/-! Where the powers of a map first repeat: of lists, no program. -/
namespace NM
open NQ
/-- a map of states, written as the list of its values -/
def MapOk (st : List Nat) : Prop := 1 ≤ st.length ∧ st.length ≤ 12 ∧ ∀ x ∈ st, x < st.length
def fn (st : List Nat) (s : Nat) : Nat := st.getD s 0
/-- the states that all states are led to by k times -/
def pwS (st : List Nat) (k : Nat) : List Nat := (List.range st.length).map (it (fn st) k)
theorem fn_lt {st : List Nat} (h : MapOk st) : ∀ s, s < st.length → fn st s < st.length := fun s hs => by
  unfold fn
  rw [List.getD_eq_getElem?_getD, List.getElem?_eq_getElem hs]
  exact h.2.2 _ (List.getElem_mem hs)
theorem pwS_len (st : List Nat) (k : Nat) : (pwS st k).length = st.length := by simp [pwS]
theorem pwS_zero (st : List Nat) : pwS st 0 = List.range st.length := by
  unfold pwS
  exact (List.map_congr_left fun s _ => rfl).trans (List.map_id _)
theorem pwS_succ (st : List Nat) (k : Nat) : pwS st (k + 1) = (pwS st k).map (fn st) := by
  unfold pwS
  rw [List.map_map]
  rfl
theorem pwS_lt {st : List Nat} (h : MapOk st) (k : Nat) : ∀ x ∈ pwS st k, x < st.length := fun x hx => by
  obtain ⟨s, hs, rfl⟩ := List.mem_map.mp hx
  exact it_lt (fn_lt h) k (List.mem_range.mp hs)
theorem pwS_go {st : List Nat} {a b : Nat} (h : pwS st a = pwS st b) : ∀ c, pwS st (a + c) = pwS st (b + c)
  | 0 => h
  | c + 1 => by rw [← Nat.add_assoc, ← Nat.add_assoc, pwS_succ, pwS_succ, pwS_go h c]
/-- all powers below k are different -/
def Diff (st : List Nat) (k : Nat) : Prop := ∀ a b, a < b → b < k → pwS st a ≠ pwS st b
theorem big_powers {st : List Nat} (h : MapOk st) : Rep (pwS st) (st.length - 1) (big (fn st) st.length) := fun c hc => by
  unfold pwS
  exact List.map_congr_left fun s hs => big_rep (fn_lt h) h.2.1 (List.mem_range.mp hs) c hc
theorem diff_le {st : List Nat} (h : MapOk st) {k : Nat} (d : Diff st k) : k ≤ 71 := by
  have b := big_powers h (st.length - 1) (Nat.le_refl _)
  have b1 := big_le (fn_lt h) h.2.1
  have b0 := big_pos (f := fn st) (n := st.length)
  have h2 := h.2.1
  apply Nat.le_of_not_lt
  intro lt
  exact d (st.length - 1) (st.length - 1 + big (fn st) st.length) (by omega) (by omega) b.symm
/-- the threshold and the period of the first repeat -/
theorem first_ok {st : List Nat} (h : MapOk st) {j k : Nat} (d : Diff st k) (hj : j < k) (e : pwS st j = pwS st k) : j ≤ st.length - 1 ∧ 1 ≤ k - j ∧ k - j ≤ 60 := by
  have b1 := big_le (fn_lt h) h.2.1
  have b0 := big_pos (f := fn st) (n := st.length)
  have rp : Rep (pwS st) j (k - j) := fun c hc => by
    have := pwS_go e (c - j)
    rw [show j + (c - j) = c by omega] at this
    rw [this]
    congr 1
    omega
  have rb := big_powers h
  refine ⟨?_, by omega, Nat.le_trans ?_ b1⟩
  · apply Nat.le_of_not_lt
    intro lt
    have r := Rep.back b0 rb rp (j - 1) (by omega)
    exact d (j - 1) (k - 1) (by omega) (by omega) (by rw [← r]; congr 1; omega)
  · apply Nat.le_of_not_lt
    intro lt
    have r := Rep.back (show 1 ≤ k - j by omega) rp rb j (Nat.le_refl _)
    exact d j (j + big (fn st) st.length) (by omega) (by omega) r.symm
end NM
set_option Elab.async false
set_option linter.all false
set_option maxRecDepth 100000
set_option maxHeartbeats 4000000
namespace KJ
open PySem PySem.Spec PyProof.Rows L2 XV
def IsPt (H : Hp) (x : V) (p : List Int) : Prop := ∃ a, x = .ref a ∧ H a = some (.lst (p.map V.int))
inductive Pts (H : Hp) : List V → List (List Int) → Prop
  | nil : Pts H [] []
  | cons {x : V} {xs : List V} {p : List Int} {P : List (List Int)} : IsPt H x p → Pts H xs P → Pts H (x :: xs) (p :: P)
theorem Pts.keep {H H' : Hp} (s : Same H H') : ∀ {xs : List V} {P : List (List Int)}, Pts H xs P → Pts H' xs P
  | _, _, .nil => .nil
  | _, _, .cons h r => .cons (by
      obtain ⟨a, e, t⟩ := h
      exact ⟨a, e, s _ _ t⟩) (Pts.keep s r)
theorem Pts.len {H : Hp} : ∀ {xs : List V} {P : List (List Int)}, Pts H xs P → xs.length = P.length
  | _, _, .nil => rfl
  | _, _, .cons _ r => congrArg (· + 1) (Pts.len r)
theorem Pts.get {H : Hp} : ∀ {xs : List V} {P : List (List Int)} {i : Nat} {x : V}, Pts H xs P → xs[i]? = some x → ∃ p, P[i]? = some p ∧ IsPt H x p
  | _, _, i, x, .nil, h => by simp at h
  | _, _, 0, x, .cons a r, h => by
    cases h
    exact ⟨_, rfl, a⟩
  | _, _, i + 1, x, .cons a r, h => by
    obtain ⟨l, e, z⟩ := Pts.get (i := i) r (by simpa using h)
    exact ⟨l, by simpa using e, z⟩
theorem Pts.snoc {H : Hp} {y : V} {m : List Int} (hy : IsPt H y m) : ∀ {xs : List V} {P : List (List Int)}, Pts H xs P → Pts H (xs ++ [y]) (P ++ [m])
  | _, _, .nil => .cons hy .nil
  | _, _, .cons h r => .cons h (Pts.snoc hy r)
theorem Pts.updL {H : Hp} {D : Addr} {o : HO} : ∀ {xs : List V} {P : List (List Int)}, (∀ x ∈ xs, x ≠ .ref D) → Pts H xs P → Pts (upd H D o) xs P
  | _, _, _, .nil => .nil
  | _, _, n, .cons h r => .cons (by
      obtain ⟨a, e, t⟩ := h
      refine ⟨a, e, ?_⟩
      rw [upd_ne (fun z => n _ List.mem_cons_self (by rw [e, z]))]
      exact t) (Pts.updL (fun x hx => n x (List.mem_cons_of_mem _ hx)) r)
theorem dp_ints {K : PySem.W.Frag} {H : Hp} : ∀ l : List Int, DpAll K H (l.map V.int) (l.map PyData.int)
  | [] => .nil
  | x :: l => .cons (.int x) (dp_ints l)
theorem lay_ints : ∀ l : List Int, PyData.canLayAll0 (l.map PyData.int) = true
  | [] => by simp [PyData.canLayAll0]
  | x :: l => by simp [PyData.canLayAll0, PyData.canLay0, lay_ints l]
theorem depth_ints : ∀ l : List Int, PyData.depthAll (l.map PyData.int) = 0
  | [] => by simp [PyData.depthAll]
  | x :: l => by simp [PyData.depthAll, PyData.depth, depth_ints l]
theorem eqv_intsA : ∀ p q : List Int, PyData.eqvAll (p.map PyData.int) (q.map PyData.int) = decide (p = q)
  | [], [] => by simp [PyData.eqvAll]
  | [], m :: M => by simp [PyData.eqvAll]
  | l :: L, [] => by simp [PyData.eqvAll]
  | l :: L, m :: M => by
    have ih := eqv_intsA L M
    simp only [List.map_cons, PyData.eqvAll, PyData.eqv, ih, List.cons.injEq]
    by_cases h1 : l = m <;> by_cases h2 : L = M <;> simp [h1, h2]
theorem eqv_ints (p q : List Int) : PyData.eqv (.list (p.map PyData.int)) (.list (q.map PyData.int)) = decide (p = q) := by
  simp only [PyData.eqv]
  exact eqv_intsA p q
def ptD (p : List Int) : PyData := .list (p.map PyData.int)
def PD (F : List (List Int)) : PyData := .list (F.map ptD)
theorem lay_P : ∀ F : List (List Int), PyData.canLayAll0 (F.map ptD) = true
  | [] => by simp [PyData.canLayAll0]
  | l :: F => by
    have ih := lay_P F
    simp [PyData.canLayAll0, PyData.canLay0, ptD, ih, lay_ints]
theorem depth_P : ∀ F : List (List Int), PyData.depthAll (F.map ptD) ≤ 1
  | [] => by simp [PyData.depthAll]
  | l :: F => by
    have ih := depth_P F
    simp only [List.map_cons, PyData.depthAll, ptD, PyData.depth, depth_ints]
    omega
theorem shaped_P (F : List (List Int)) : SeqAt.shaped (PD F) = true := by
  have h := depth_P F
  have e : (PD F).depth ≤ 64 := by
    simp only [PD, PyData.depth]
    omega
  have e2 : (PD F).canLay0 = true := by
    simp only [PD, PyData.canLay0]
    exact lay_P F
  unfold SeqAt.shaped
  rw [e2, decide_eq_true e]
  rfl
theorem eqv_PA : ∀ F G : List (List Int), PyData.eqvAll (F.map ptD) (G.map ptD) = decide (F = G)
  | [], [] => by simp [PyData.eqvAll]
  | [], m :: M => by simp [PyData.eqvAll]
  | l :: L, [] => by simp [PyData.eqvAll]
  | l :: L, m :: M => by
    have ih := eqv_PA L M
    simp only [List.map_cons, PyData.eqvAll, ptD, PyData.eqv, eqv_intsA, List.cons.injEq]
    rw [show (List.map ptD L) = L.map ptD from rfl, ih]
    by_cases h1 : l = m <;> by_cases h2 : L = M <;> simp [h1, h2]
theorem eqv_P (F G : List (List Int)) : PyData.eqv (PD F) (PD G) = decide (F = G) := by
  show PyData.eqv (.list _) (.list _) = _
  simp only [PyData.eqv]
  exact eqv_PA F G
theorem Pts.dp {K : PySem.W.Frag} {H : Hp} : ∀ {xs : List V} {F : List (List Int)}, Pts H xs F → DpAll K H xs (F.map ptD)
  | _, _, .nil => .nil
  | _, _, .cons h r => .cons (by
      obtain ⟨a, rfl, t⟩ := h
      exact .lst (SqL.of t) (dp_ints _)) (Pts.dp r)
def natI (st : List Nat) : List Int := st.map fun n : Nat => ((n : Nat) : Int)
theorem natI_inj {a b : List Nat} : natI a = natI b ↔ a = b := by
  constructor
  · intro h
    have := congrArg (List.map Int.toNat) h
    unfold natI at this
    rw [List.map_map, List.map_map] at this
    have e : ∀ l : List Nat, l.map (Int.toNat ∘ fun n : Nat => ((n : Nat) : Int)) = l := fun l => by
      rw [show (Int.toNat ∘ fun n : Nat => ((n : Nat) : Int)) = id from funext fun n => Int.toNat_natCast n, List.map_id]
    rw [e, e] at this
    exact this
  · intro h
    rw [h]
theorem natI_len (st : List Nat) : (natI st).length = st.length := by simp [natI]
theorem natI_get (st : List Nat) (i : Nat) : (natI st)[i]? = st[i]?.map fun n : Nat => ((n : Nat) : Int) := by simp only [natI, List.getElem?_map]
theorem pt_shaped (p : List Int) : SeqAt.shaped (ptD p) = true := by
  have e : (ptD p).depth ≤ 64 := by
    simp only [ptD, PyData.depth, depth_ints]
    omega
  have e2 : (ptD p).canLay0 = true := by simp [ptD, PyData.canLay0, lay_ints]
  unfold SeqAt.shaped
  rw [e2, decide_eq_true e]
  rfl
theorem IsPt.dp {K : PySem.W.Frag} {H : Hp} {x : V} {p : List Int} (h : IsPt H x p) : Dp K H x (ptD p) := by
  obtain ⟨a, rfl, t⟩ := h
  exact .lst (SqL.of t) (dp_ints _)
theorem any_pts (P : List (List Int)) (q : List Int) : ((P.map ptD).any fun z => PyData.eqv z (ptD q)) = decide (q ∈ P) := by
  induction P with
  | nil => simp
  | cons p P ih =>
    rw [List.map_cons, List.any_cons, ih, show PyData.eqv (ptD p) (ptD q) = decide (p = q) from eqv_ints p q]
    by_cases h : p = q
    · subst h
      simp
    · have h3 : ¬ q = p := fun e => h e.symm
      by_cases h2 : q ∈ P <;> simp [h, h3, h2]
end KJ
set_option Elab.async false
set_option linter.all false
set_option maxRecDepth 100000
set_option maxHeartbeats 400000
/-! next of a zip of two or three lists, whatever became of the tuple that it handed out last. -/
namespace XV
open PySem
open PySem.Sem (wp)
theorem ad {a b : Nat} (h : a ≠ b) : @Ne Addr a b := h
/-- a zip's cell: what it keeps of the tuple that it handed out last, whether it was seen to be held -/
abbrev ZS (h : Heap) (q a b : Addr) (f0 : Value) (f1 : Bool) : Prop := h.get? q = some { cls := .type "zip", dict := none, data := .fields #[f0, .bool f1, .bool false, .ref a, .ref b], slots := #[] }
def OwnV (f0 : Value) : Prop := f0 = .none ∨ ∃ a : Nat, f0 = rawInt a
section
variable {prog : Program} {w : World} {A : Around} {E : Value → Shared → Prop} {s : Shared}
theorem alive_any {a : Addr} {Q : Option Obj → Shared → Prop} (h : Q (s.heap.get? a) s) : wpAny (model prog w) A (loadIfAlive a) Q E s := fun _ _ _ => h
theorem own_free {q a b : Addr} {f0 : Value} {f1 : Bool} {Q : Bool → Shared → Prop} (hz : ZS s.heap q a b f0 f1) (hf : OwnV f0) (h1 : Q true s)
    (h2 : ∀ h, ZS h q a b f0 true → Heap.SameBut q s.heap h → Q false { s with heap := h }) : wpAny (model prog w) A (Builtin.SmallTypes.ownedTupleIsFree (.ref q)) Q E s := by
  unfold Builtin.SmallTypes.ownedTupleIsFree
  refine wpAny_bind (wpAny_field (x := f0) hz rfl rfl ?_)
  rcases hf with rfl | ⟨t, rfl⟩
  · exact wpAny_pure h1
  · show wpAny _ _ (loadIfAlive _ >>= _) _ _ _
    refine wpAny_bind (alive_any ?_)
    cases s.heap.get? ((t : Int).toNat) with
    | none => exact wpAny_pure h1
    | some o =>
      refine wpAny_bind (wpAny_field (x := .bool f1) hz rfl rfl ?_)
      cases f1 with
      | true => exact wpAny_pure (h2 s.heap hz (Heap.SameBut.refl _ _))
      | false => exact wpAny_bind (wpAny_setField_rec hz (by simp) fun h hh hs => wpAny_pure (h2 h hh hs))
theorem zip2_item {N l1 l2 i : Nat} {f0 : Value} {f1 : Bool} {q1 q2 x1 x2 : Value} {us1 us2 : Array Value} {Q : Value → Shared → Prop} (b1 : l1 < N) (b2 : l2 < N)
    (hz : ZS s.heap (N + 4) (N + 2) (N + 3) f0 f1) (hf : OwnV f0) (hI : s.heap.get? (N + 2) = some { cls := .type "tuple", data := .seq #[.ref (N + 0), .ref (N + 1)] }) (hO : s.heap.get? (N + 3) = some { cls := .type "tuple", data := .seq #[q1, q2] })
    (t1 : s.heap.IsListIter (N + 0) l1 i) (L1 : s.heap.IsList l1 us1) (t2 : s.heap.IsListIter (N + 1) l2 i) (L2 : s.heap.IsList l2 us2) (e1 : us1[i]? = some x1) (e2 : us2[i]? = some x2)
    (hQ : ∀ h, (∃ g0 g1, OwnV g0 ∧ ZS h (N + 4) (N + 2) (N + 3) g0 g1) → (∃ q1 q2, h.get? (N + 3) = some { cls := .type "tuple", data := .seq #[q1, q2] }) → h.IsListIter (N + 0) l1 (i + 1) → h.IsListIter (N + 1) l2 (i + 1) → h.get? s.heap.objs.size = some { cls := .type "tuple", data := .seq #[x1, x2] } → h.objs.size = s.heap.objs.size + 1 →
      (∀ c o, c ≠ (N + 4) → c ≠ (N + 3) → c ≠ (N + 0) → c ≠ (N + 1) → s.heap.get? c = some o → h.get? c = some o) → Q (.ref s.heap.objs.size) { s with heap := h }) :
    wpAny (model prog w) A (Builtin.«zip.__next__» ⟨[.ref (N + 4)], []⟩) (fun fin s' => ∃ v, fin = .done (.ret v) ∧ Q v s') E s := by
  obtain ⟨hp, g, d, tk, os⟩ := s
  have zlt : (N + 4) < hp.objs.size := Heap.lt_size hz
  show wpAny _ _ (field (.ref (N + 4)) 2 >>= _) _ _ _
  refine wpAny_bind (wpAny_field hz rfl (x := .bool false) rfl ?_)
  show wpAny _ _ (field (.ref (N + 4)) 3 >>= _) _ _ _
  refine wpAny_bind (wpAny_field hz rfl (x := .ref (N + 2)) rfl (wpAny_bind (wpAny_seqItems hI rfl ?_)))
  show wpAny _ _ (Builtin.SmallTypes.ownedTupleIsFree (.ref (N + 4)) >>= _) _ _ _
  refine wpAny_bind (own_free hz hf ?_ fun g0 hz0 hs0 => ?_)
  · rw [if_pos rfl]
    refine wpAny_bind (wpAny_rule (wpAny_bind (wpAny_field hz rfl (x := .ref (N + 3)) rfl ?_)))
    refine wpAny_bind (wpAny_setField_rec hz (by simp) fun g0 hz0 hs0 => ?_)
    replace hz0 : ZS g0 (N + 4) (N + 2) (N + 3) .ellipsis f1 := hz0
    replace hs0 : Heap.SameBut (N + 4) hp g0 := hs0
    simp only [List.forIn_cons, List.forIn_nil, List.zipIdx_cons, List.zipIdx_nil]
    refine wpAny_bind (wpAny_bind (wpAny_bind (wpAny_onRaise ?_)))
    show wpAny _ _ (Builtin.SmallTypes.nextOf (.ref (N + 0)) >>= _) _ _ (Shared.mk g0 g d tk os)
    refine wpAny_bind (wpAny_nextOf_list_item (t1.at fun o e => (hs0.2 (N + 0) (ad (by omega))).trans (e)) (L1.at fun o e => (hs0.2 l1 (ad (by omega))).trans (e)) e1 fun p1 r1 hp1 => wpAny_pure ?_)
    replace hp1 : Heap.SameBut (N + 0) g0 p1 := hp1
    have hU1 : p1.get? (N + 3) = some { cls := .type "tuple", data := .seq #[q1, q2] } := (hp1.2 (N + 3) (ad (by omega))).trans ((hs0.2 (N + 3) (ad (by omega))).trans (hO))
    refine wpAny_bind (wpAny_seqItems (s := ⟨p1, g, d, tk, os⟩) hU1 rfl ?_)
    refine wpAny_bind (wpAny_updateSeq (s := ⟨p1, g, d, tk, os⟩) (f := fun a => a.setIfInBounds 0 x1) hU1 rfl ?_)
    have hT1 : (p1.update (N + 3) (Obj.mapSeq fun a => a.setIfInBounds 0 x1)).get? (N + 3) = some { cls := .type "tuple", data := .seq #[x1, q2] } := by
      rw [Heap.get?_update_self _ hU1 rfl]
      simp [Obj.mapSeq]
    have hs1 : Heap.SameBut (N + 3) p1 (p1.update (N + 3) (Obj.mapSeq fun a => a.setIfInBounds 0 x1)) := Heap.SameBut.update ..
    generalize p1.update (N + 3) (Obj.mapSeq fun a => a.setIfInBounds 0 x1) = g1 at hT1 hs1
    refine wpAny_bind (wpAny_letGo (wpAny_pure ?_))
    refine wpAny_bind (wpAny_bind (wpAny_onRaise ?_))
    show wpAny _ _ (Builtin.SmallTypes.nextOf (.ref (N + 1)) >>= _) _ _ (Shared.mk g1 g d tk os)
    refine wpAny_bind (wpAny_nextOf_list_item (t2.at fun o e => (hs1.2 (N + 1) (ad (by omega))).trans ((hp1.2 (N + 1) (ad (by omega))).trans ((hs0.2 (N + 1) (ad (by omega))).trans (e)))) (L2.at fun o e => (hs1.2 l2 (ad (by omega))).trans ((hp1.2 l2 (ad (by omega))).trans ((hs0.2 l2 (ad (by omega))).trans (e)))) e2 fun p2 r2 hp2 => wpAny_pure ?_)
    replace hp2 : Heap.SameBut (N + 1) g1 p2 := hp2
    have hU2 : p2.get? (N + 3) = some { cls := .type "tuple", data := .seq #[x1, q2] } := (hp2.2 (N + 3) (ad (by omega))).trans (hT1)
    refine wpAny_bind (wpAny_seqItems (s := ⟨p2, g, d, tk, os⟩) hU2 rfl ?_)
    refine wpAny_bind (wpAny_updateSeq (s := ⟨p2, g, d, tk, os⟩) (f := fun a => a.setIfInBounds 1 x2) hU2 rfl ?_)
    have hT2 : (p2.update (N + 3) (Obj.mapSeq fun a => a.setIfInBounds 1 x2)).get? (N + 3) = some { cls := .type "tuple", data := .seq #[x1, x2] } := by
      rw [Heap.get?_update_self _ hU2 rfl]
      simp [Obj.mapSeq]
    have hs2 : Heap.SameBut (N + 3) p2 (p2.update (N + 3) (Obj.mapSeq fun a => a.setIfInBounds 1 x2)) := Heap.SameBut.update ..
    generalize p2.update (N + 3) (Obj.mapSeq fun a => a.setIfInBounds 1 x2) = g2 at hT2 hs2
    refine wpAny_bind (wpAny_letGo (wpAny_pure ?_))
    have hsz : g2.objs.size = hp.objs.size := by rw [hs2.1, hp2.1, hs1.1, hp1.1, hs0.1]
    have hzz : ZS g2 (N + 4) (N + 2) (N + 3) .ellipsis f1 := (hs2.2 (N + 4) (ad (by omega))).trans ((hp2.2 (N + 4) (ad (by omega))).trans ((hs1.2 (N + 4) (ad (by omega))).trans ((hp1.2 (N + 4) (ad (by omega))).trans (hz0))))
    refine wpAny_bind (wpAny_pure ?_)
    refine wpAny_pure ?_
    show wpAny _ _ (seqItems? (.ref (N + 3)) >>= _) _ _ (Shared.mk g2 g d tk os)
    refine wpAny_bind (wpAny_seqItems (s := ⟨g2, g, d, tk, os⟩) hT2 rfl ?_)
    refine wpAny_bind (wpAny_newTuple ?_)
    show wpAny _ _ (Builtin.SmallTypes.ownedTupleHandOut (.ref (N + 4)) (.ref g2.objs.size) >>= _) _ _ (Shared.mk (g2.push { cls := .type "tuple", data := .seq #[x1, x2] }) g d tk os)
    unfold Builtin.SmallTypes.ownedTupleHandOut
    refine wpAny_bind (wpAny_bind (wpAny_setField_rec (Heap.get?_push_of_some _ hzz) (by simp) fun m1 hm1 hn1 => ?_))
    replace hm1 : ZS m1 (N + 4) (N + 2) (N + 3) (rawInt g2.objs.size) f1 := hm1
    refine wpAny_setField_rec hm1 (by simp) fun m2 hm2 hn2 => wpAny_pure ⟨_, rfl, ?_⟩
    replace hm2 : ZS m2 (N + 4) (N + 2) (N + 3) (rawInt g2.objs.size) false := hm2
    replace hn1 : Heap.SameBut (N + 4) (g2.push { cls := .type "tuple", data := .seq #[x1, x2] }) m1 := hn1
    replace hn2 : Heap.SameBut (N + 4) m1 m2 := hn2
    have up : ∀ c o, c ≠ (N + 4) → g2.get? c = some o → m2.get? c = some o := fun c o c1 e => (hn2.2 c c1).trans ((hn1.2 c c1).trans (Heap.get?_push_of_some _ e))
    show Q (.ref g2.objs.size) ⟨m2, g, d, tk, os⟩
    have hnew : m2.get? g2.objs.size = some { cls := .type "tuple", data := .seq #[x1, x2] } := (hn2.2 _ (by rw [hsz]; exact Nat.ne_of_gt zlt)).trans ((hn1.2 _ (by rw [hsz]; exact Nat.ne_of_gt zlt)).trans (Heap.get?_push_size _ rfl))
    have hms : m2.objs.size = g2.objs.size + 1 := by rw [hn2.1, hn1.1, Heap.size_push]
    rw [hsz] at hnew hms ⊢
    refine hQ m2 ⟨_, _, .inr ⟨_, rfl⟩, hm2⟩ ⟨_, _, up _ _ (ad (by omega)) hT2⟩ (r1.at fun o e => up _ _ (ad (by omega)) ((hs2.2 (N + 0) (ad (by omega))).trans ((hp2.2 (N + 0) (ad (by omega))).trans ((hs1.2 (N + 0) (ad (by omega))).trans (e))))) (r2.at fun o e => up _ _ (ad (by omega)) ((hs2.2 (N + 1) (ad (by omega))).trans (e))) hnew hms fun c o cz cO c1 c2 e => up c o cz ((hs2.2 c cO).trans ((hp2.2 c c2).trans ((hs1.2 c cO).trans ((hp1.2 c c1).trans ((hs0.2 c cz).trans (e))))))
  · rw [if_neg (by decide)]
    replace hz0 : ZS g0 (N + 4) (N + 2) (N + 3) f0 true := hz0
    replace hs0 : Heap.SameBut (N + 4) hp g0 := hs0
    simp only [← Array.forIn_toList, List.forIn_cons, List.forIn_nil]
    refine wpAny_bind (wpAny_bind (wpAny_bind (wpAny_holding ?_)))
    show wpAny _ _ (Builtin.SmallTypes.nextOf (.ref (N + 0)) >>= _) _ _ (Shared.mk g0 g d tk os)
    refine wpAny_bind (wpAny_nextOf_list_item (t1.at fun o e => (hs0.2 (N + 0) (ad (by omega))).trans (e)) (L1.at fun o e => (hs0.2 l1 (ad (by omega))).trans (e)) e1 fun p1 r1 hp1 => wpAny_pure (wpAny_pure ?_))
    replace hp1 : Heap.SameBut (N + 0) g0 p1 := hp1
    refine wpAny_bind (wpAny_bind (wpAny_holding ?_))
    show wpAny _ _ (Builtin.SmallTypes.nextOf (.ref (N + 1)) >>= _) _ _ (Shared.mk p1 g d tk os)
    refine wpAny_bind (wpAny_nextOf_list_item (t2.at fun o e => (hp1.2 (N + 1) (ad (by omega))).trans ((hs0.2 (N + 1) (ad (by omega))).trans (e))) (L2.at fun o e => (hp1.2 l2 (ad (by omega))).trans ((hs0.2 l2 (ad (by omega))).trans (e))) e2 fun p2 r2 hp2 => wpAny_pure (wpAny_pure ?_))
    replace hp2 : Heap.SameBut (N + 1) p1 p2 := hp2
    have hsz : p2.objs.size = hp.objs.size := by rw [hp2.1, hp1.1, hs0.1]
    refine wpAny_bind (wpAny_pure ?_)
    refine wpAny_pure ?_
    show wpAny _ _ (newTuple [x1, x2] >>= _) _ _ (Shared.mk p2 g d tk os)
    refine wpAny_bind (wpAny_newTuple ?_)
    refine wpAny_pure ⟨_, rfl, ?_⟩
    show Q (.ref p2.objs.size) ⟨p2.push { cls := .type "tuple", data := .seq #[x1, x2] }, g, d, tk, os⟩
    have hnew : (p2.push { cls := .type "tuple", data := .seq #[x1, x2] }).get? p2.objs.size = some { cls := .type "tuple", data := .seq #[x1, x2] } := Heap.get?_push_size _ rfl
    have hms : (p2.push { cls := .type "tuple", data := .seq #[x1, x2] }).objs.size = p2.objs.size + 1 := Heap.size_push ..
    have up : ∀ c o, p2.get? c = some o → (p2.push { cls := .type "tuple", data := .seq #[x1, x2] }).get? c = some o := fun c o e => Heap.get?_push_of_some _ e
    rw [hsz] at hnew hms ⊢
    refine hQ _ ⟨_, _, hf, up _ _ ((hp2.2 (N + 4) (ad (by omega))).trans ((hp1.2 (N + 4) (ad (by omega))).trans (hz0)))⟩ ⟨_, _, up _ _ ((hp2.2 (N + 3) (ad (by omega))).trans ((hp1.2 (N + 3) (ad (by omega))).trans ((hs0.2 (N + 3) (ad (by omega))).trans (hO))))⟩ (r1.at fun o e => up _ _ ((hp2.2 (N + 0) (ad (by omega))).trans (e))) (r2.at fun o e => up _ _ (e)) hnew hms fun c o cz cO c1 c2 e => up c o ((hp2.2 c c2).trans ((hp1.2 c c1).trans ((hs0.2 c cz).trans (e))))
theorem zip2_end {N l1 l2 i : Nat} {f0 : Value} {f1 : Bool} {us1 : Array Value} {Q : Fin → Shared → Prop} (b1 : l1 < N) (hh : A.handled = none)
    (hz : ZS s.heap (N + 4) (N + 2) (N + 3) f0 f1) (hf : OwnV f0) (hI : s.heap.get? (N + 2) = some { cls := .type "tuple", data := .seq #[.ref (N + 0), .ref (N + 1)] }) (t1 : s.heap.IsListIter (N + 0) l1 i) (L1 : s.heap.IsList l1 us1) (e1 : us1[i]? = none)
    (hE : ∀ h x, (∀ c o, c ≠ (N + 4) → c ≠ (N + 3) → c ≠ (N + 0) → c ≠ (N + 1) → s.heap.get? c = some o → h.get? c = some o) → (∃ o, h.get? x = some o ∧ o.cls = .type "StopIteration") → E (.ref x) { s with heap := h }) :
    wpAny (model prog w) A (Builtin.«zip.__next__» ⟨[.ref (N + 4)], []⟩) Q E s := by
  obtain ⟨hp, g, d, tk, os⟩ := s
  show wpAny _ _ (field (.ref (N + 4)) 2 >>= _) _ _ _
  refine wpAny_bind (wpAny_field hz rfl (x := .bool false) rfl ?_)
  show wpAny _ _ (field (.ref (N + 4)) 3 >>= _) _ _ _
  refine wpAny_bind (wpAny_field hz rfl (x := .ref (N + 2)) rfl (wpAny_bind (wpAny_seqItems hI rfl ?_)))
  show wpAny _ _ (Builtin.SmallTypes.ownedTupleIsFree (.ref (N + 4)) >>= _) _ _ _
  refine wpAny_bind (own_free hz hf ?_ fun g0 hz0 hs0 => ?_)
  · rw [if_pos rfl]
    refine wpAny_bind (wpAny_rule (wpAny_bind (wpAny_field hz rfl (x := .ref (N + 3)) rfl ?_)))
    refine wpAny_bind (wpAny_setField_rec hz (by simp) fun g0 hz0 hs0 => ?_)
    replace hz0 : ZS g0 (N + 4) (N + 2) (N + 3) .ellipsis f1 := hz0
    replace hs0 : Heap.SameBut (N + 4) hp g0 := hs0
    simp only [List.forIn_cons, List.forIn_nil, List.zipIdx_cons, List.zipIdx_nil]
    refine wpAny_bind (wpAny_bind (wpAny_bind (wpAny_onRaise ?_)))
    show wpAny _ _ (Builtin.SmallTypes.nextOf (.ref (N + 0)) >>= _) _ _ (Shared.mk g0 g d tk os)
    refine wpAny_bind (wpAny_nextOf_list_end hh (t1.at fun o e => (hs0.2 (N + 0) (ad (by omega))).trans (e)) (L1.at fun o e => (hs0.2 l1 (ad (by omega))).trans (e)) e1 fun p x hp1 hx => ?_)
    replace hp1 : Heap.ExtBut (N + 0) g0 p := hp1
    obtain ⟨ox, hox, hcx⟩ := hx
    replace hox : p.get? x = some ox := hox
    have hzp : ZS p (N + 4) (N + 2) (N + 3) .ellipsis f1 := hp1 _ _ (ad (by omega)) hz0
    have xz : x ≠ (N + 4) := fun y => by
      rw [y, hzp] at hox
      cases hox
      simp at hcx
    refine wpAny_setField_rec (s := ⟨p, g, d, tk, os⟩) hzp (by simp) fun m _ hm => ?_
    replace hm : Heap.SameBut (N + 4) p m := hm
    exact hE m x (fun c o cz cO c1 c2 e => (hm.2 c cz).trans (hp1 c o c1 ((hs0.2 c cz).trans e))) ⟨ox, (hm.2 x xz).trans hox, hcx⟩
  · rw [if_neg (by decide)]
    replace hs0 : Heap.SameBut (N + 4) hp g0 := hs0
    simp only [← Array.forIn_toList, List.forIn_cons, List.forIn_nil]
    refine wpAny_bind (wpAny_bind (wpAny_bind (wpAny_holding ?_)))
    show wpAny _ _ (Builtin.SmallTypes.nextOf (.ref (N + 0)) >>= _) _ _ (Shared.mk g0 g d tk os)
    refine wpAny_bind (wpAny_nextOf_list_end hh (t1.at fun o e => (hs0.2 (N + 0) (ad (by omega))).trans (e)) (L1.at fun o e => (hs0.2 l1 (ad (by omega))).trans (e)) e1 fun p x hp1 hx => ?_)
    exact hE p x (fun c o cz cO c1 c2 e => hp1 c o c1 ((hs0.2 c cz).trans e)) hx
theorem zip3_item {N l1 l2 l3 i : Nat} {f0 : Value} {f1 : Bool} {q1 q2 q3 x1 x2 x3 : Value} {us1 us2 us3 : Array Value} {Q : Value → Shared → Prop} (b1 : l1 < N) (b2 : l2 < N) (b3 : l3 < N)
    (hz : ZS s.heap (N + 5) (N + 3) (N + 4) f0 f1) (hf : OwnV f0) (hI : s.heap.get? (N + 3) = some { cls := .type "tuple", data := .seq #[.ref (N + 0), .ref (N + 1), .ref (N + 2)] }) (hO : s.heap.get? (N + 4) = some { cls := .type "tuple", data := .seq #[q1, q2, q3] })
    (t1 : s.heap.IsListIter (N + 0) l1 i) (L1 : s.heap.IsList l1 us1) (t2 : s.heap.IsListIter (N + 1) l2 i) (L2 : s.heap.IsList l2 us2) (t3 : s.heap.IsListIter (N + 2) l3 i) (L3 : s.heap.IsList l3 us3) (e1 : us1[i]? = some x1) (e2 : us2[i]? = some x2) (e3 : us3[i]? = some x3)
    (hQ : ∀ h, (∃ g0 g1, OwnV g0 ∧ ZS h (N + 5) (N + 3) (N + 4) g0 g1) → (∃ q1 q2 q3, h.get? (N + 4) = some { cls := .type "tuple", data := .seq #[q1, q2, q3] }) → h.IsListIter (N + 0) l1 (i + 1) → h.IsListIter (N + 1) l2 (i + 1) → h.IsListIter (N + 2) l3 (i + 1) → h.get? s.heap.objs.size = some { cls := .type "tuple", data := .seq #[x1, x2, x3] } → h.objs.size = s.heap.objs.size + 1 →
      (∀ c o, c ≠ (N + 5) → c ≠ (N + 4) → c ≠ (N + 0) → c ≠ (N + 1) → c ≠ (N + 2) → s.heap.get? c = some o → h.get? c = some o) → Q (.ref s.heap.objs.size) { s with heap := h }) :
    wpAny (model prog w) A (Builtin.«zip.__next__» ⟨[.ref (N + 5)], []⟩) (fun fin s' => ∃ v, fin = .done (.ret v) ∧ Q v s') E s := by
  obtain ⟨hp, g, d, tk, os⟩ := s
  have zlt : (N + 5) < hp.objs.size := Heap.lt_size hz
  show wpAny _ _ (field (.ref (N + 5)) 2 >>= _) _ _ _
  refine wpAny_bind (wpAny_field hz rfl (x := .bool false) rfl ?_)
  show wpAny _ _ (field (.ref (N + 5)) 3 >>= _) _ _ _
  refine wpAny_bind (wpAny_field hz rfl (x := .ref (N + 3)) rfl (wpAny_bind (wpAny_seqItems hI rfl ?_)))
  show wpAny _ _ (Builtin.SmallTypes.ownedTupleIsFree (.ref (N + 5)) >>= _) _ _ _
  refine wpAny_bind (own_free hz hf ?_ fun g0 hz0 hs0 => ?_)
  · rw [if_pos rfl]
    refine wpAny_bind (wpAny_rule (wpAny_bind (wpAny_field hz rfl (x := .ref (N + 4)) rfl ?_)))
    refine wpAny_bind (wpAny_setField_rec hz (by simp) fun g0 hz0 hs0 => ?_)
    replace hz0 : ZS g0 (N + 5) (N + 3) (N + 4) .ellipsis f1 := hz0
    replace hs0 : Heap.SameBut (N + 5) hp g0 := hs0
    simp only [List.forIn_cons, List.forIn_nil, List.zipIdx_cons, List.zipIdx_nil]
    refine wpAny_bind (wpAny_bind (wpAny_bind (wpAny_onRaise ?_)))
    show wpAny _ _ (Builtin.SmallTypes.nextOf (.ref (N + 0)) >>= _) _ _ (Shared.mk g0 g d tk os)
    refine wpAny_bind (wpAny_nextOf_list_item (t1.at fun o e => (hs0.2 (N + 0) (ad (by omega))).trans (e)) (L1.at fun o e => (hs0.2 l1 (ad (by omega))).trans (e)) e1 fun p1 r1 hp1 => wpAny_pure ?_)
    replace hp1 : Heap.SameBut (N + 0) g0 p1 := hp1
    have hU1 : p1.get? (N + 4) = some { cls := .type "tuple", data := .seq #[q1, q2, q3] } := (hp1.2 (N + 4) (ad (by omega))).trans ((hs0.2 (N + 4) (ad (by omega))).trans (hO))
    refine wpAny_bind (wpAny_seqItems (s := ⟨p1, g, d, tk, os⟩) hU1 rfl ?_)
    refine wpAny_bind (wpAny_updateSeq (s := ⟨p1, g, d, tk, os⟩) (f := fun a => a.setIfInBounds 0 x1) hU1 rfl ?_)
    have hT1 : (p1.update (N + 4) (Obj.mapSeq fun a => a.setIfInBounds 0 x1)).get? (N + 4) = some { cls := .type "tuple", data := .seq #[x1, q2, q3] } := by
      rw [Heap.get?_update_self _ hU1 rfl]
      simp [Obj.mapSeq]
    have hs1 : Heap.SameBut (N + 4) p1 (p1.update (N + 4) (Obj.mapSeq fun a => a.setIfInBounds 0 x1)) := Heap.SameBut.update ..
    generalize p1.update (N + 4) (Obj.mapSeq fun a => a.setIfInBounds 0 x1) = g1 at hT1 hs1
    refine wpAny_bind (wpAny_letGo (wpAny_pure ?_))
    refine wpAny_bind (wpAny_bind (wpAny_onRaise ?_))
    show wpAny _ _ (Builtin.SmallTypes.nextOf (.ref (N + 1)) >>= _) _ _ (Shared.mk g1 g d tk os)
    refine wpAny_bind (wpAny_nextOf_list_item (t2.at fun o e => (hs1.2 (N + 1) (ad (by omega))).trans ((hp1.2 (N + 1) (ad (by omega))).trans ((hs0.2 (N + 1) (ad (by omega))).trans (e)))) (L2.at fun o e => (hs1.2 l2 (ad (by omega))).trans ((hp1.2 l2 (ad (by omega))).trans ((hs0.2 l2 (ad (by omega))).trans (e)))) e2 fun p2 r2 hp2 => wpAny_pure ?_)
    replace hp2 : Heap.SameBut (N + 1) g1 p2 := hp2
    have hU2 : p2.get? (N + 4) = some { cls := .type "tuple", data := .seq #[x1, q2, q3] } := (hp2.2 (N + 4) (ad (by omega))).trans (hT1)
    refine wpAny_bind (wpAny_seqItems (s := ⟨p2, g, d, tk, os⟩) hU2 rfl ?_)
    refine wpAny_bind (wpAny_updateSeq (s := ⟨p2, g, d, tk, os⟩) (f := fun a => a.setIfInBounds 1 x2) hU2 rfl ?_)
    have hT2 : (p2.update (N + 4) (Obj.mapSeq fun a => a.setIfInBounds 1 x2)).get? (N + 4) = some { cls := .type "tuple", data := .seq #[x1, x2, q3] } := by
      rw [Heap.get?_update_self _ hU2 rfl]
      simp [Obj.mapSeq]
    have hs2 : Heap.SameBut (N + 4) p2 (p2.update (N + 4) (Obj.mapSeq fun a => a.setIfInBounds 1 x2)) := Heap.SameBut.update ..
    generalize p2.update (N + 4) (Obj.mapSeq fun a => a.setIfInBounds 1 x2) = g2 at hT2 hs2
    refine wpAny_bind (wpAny_letGo (wpAny_pure ?_))
    refine wpAny_bind (wpAny_bind (wpAny_onRaise ?_))
    show wpAny _ _ (Builtin.SmallTypes.nextOf (.ref (N + 2)) >>= _) _ _ (Shared.mk g2 g d tk os)
    refine wpAny_bind (wpAny_nextOf_list_item (t3.at fun o e => (hs2.2 (N + 2) (ad (by omega))).trans ((hp2.2 (N + 2) (ad (by omega))).trans ((hs1.2 (N + 2) (ad (by omega))).trans ((hp1.2 (N + 2) (ad (by omega))).trans ((hs0.2 (N + 2) (ad (by omega))).trans (e)))))) (L3.at fun o e => (hs2.2 l3 (ad (by omega))).trans ((hp2.2 l3 (ad (by omega))).trans ((hs1.2 l3 (ad (by omega))).trans ((hp1.2 l3 (ad (by omega))).trans ((hs0.2 l3 (ad (by omega))).trans (e)))))) e3 fun p3 r3 hp3 => wpAny_pure ?_)
    replace hp3 : Heap.SameBut (N + 2) g2 p3 := hp3
    have hU3 : p3.get? (N + 4) = some { cls := .type "tuple", data := .seq #[x1, x2, q3] } := (hp3.2 (N + 4) (ad (by omega))).trans (hT2)
    refine wpAny_bind (wpAny_seqItems (s := ⟨p3, g, d, tk, os⟩) hU3 rfl ?_)
    refine wpAny_bind (wpAny_updateSeq (s := ⟨p3, g, d, tk, os⟩) (f := fun a => a.setIfInBounds 2 x3) hU3 rfl ?_)
    have hT3 : (p3.update (N + 4) (Obj.mapSeq fun a => a.setIfInBounds 2 x3)).get? (N + 4) = some { cls := .type "tuple", data := .seq #[x1, x2, x3] } := by
      rw [Heap.get?_update_self _ hU3 rfl]
      simp [Obj.mapSeq]
    have hs3 : Heap.SameBut (N + 4) p3 (p3.update (N + 4) (Obj.mapSeq fun a => a.setIfInBounds 2 x3)) := Heap.SameBut.update ..
    generalize p3.update (N + 4) (Obj.mapSeq fun a => a.setIfInBounds 2 x3) = g3 at hT3 hs3
    refine wpAny_bind (wpAny_letGo (wpAny_pure ?_))
    have hsz : g3.objs.size = hp.objs.size := by rw [hs3.1, hp3.1, hs2.1, hp2.1, hs1.1, hp1.1, hs0.1]
    have hzz : ZS g3 (N + 5) (N + 3) (N + 4) .ellipsis f1 := (hs3.2 (N + 5) (ad (by omega))).trans ((hp3.2 (N + 5) (ad (by omega))).trans ((hs2.2 (N + 5) (ad (by omega))).trans ((hp2.2 (N + 5) (ad (by omega))).trans ((hs1.2 (N + 5) (ad (by omega))).trans ((hp1.2 (N + 5) (ad (by omega))).trans (hz0))))))
    refine wpAny_bind (wpAny_pure ?_)
    refine wpAny_pure ?_
    show wpAny _ _ (seqItems? (.ref (N + 4)) >>= _) _ _ (Shared.mk g3 g d tk os)
    refine wpAny_bind (wpAny_seqItems (s := ⟨g3, g, d, tk, os⟩) hT3 rfl ?_)
    refine wpAny_bind (wpAny_newTuple ?_)
    show wpAny _ _ (Builtin.SmallTypes.ownedTupleHandOut (.ref (N + 5)) (.ref g3.objs.size) >>= _) _ _ (Shared.mk (g3.push { cls := .type "tuple", data := .seq #[x1, x2, x3] }) g d tk os)
    unfold Builtin.SmallTypes.ownedTupleHandOut
    refine wpAny_bind (wpAny_bind (wpAny_setField_rec (Heap.get?_push_of_some _ hzz) (by simp) fun m1 hm1 hn1 => ?_))
    replace hm1 : ZS m1 (N + 5) (N + 3) (N + 4) (rawInt g3.objs.size) f1 := hm1
    refine wpAny_setField_rec hm1 (by simp) fun m2 hm2 hn2 => wpAny_pure ⟨_, rfl, ?_⟩
    replace hm2 : ZS m2 (N + 5) (N + 3) (N + 4) (rawInt g3.objs.size) false := hm2
    replace hn1 : Heap.SameBut (N + 5) (g3.push { cls := .type "tuple", data := .seq #[x1, x2, x3] }) m1 := hn1
    replace hn2 : Heap.SameBut (N + 5) m1 m2 := hn2
    have up : ∀ c o, c ≠ (N + 5) → g3.get? c = some o → m2.get? c = some o := fun c o c1 e => (hn2.2 c c1).trans ((hn1.2 c c1).trans (Heap.get?_push_of_some _ e))
    show Q (.ref g3.objs.size) ⟨m2, g, d, tk, os⟩
    have hnew : m2.get? g3.objs.size = some { cls := .type "tuple", data := .seq #[x1, x2, x3] } := (hn2.2 _ (by rw [hsz]; exact Nat.ne_of_gt zlt)).trans ((hn1.2 _ (by rw [hsz]; exact Nat.ne_of_gt zlt)).trans (Heap.get?_push_size _ rfl))
    have hms : m2.objs.size = g3.objs.size + 1 := by rw [hn2.1, hn1.1, Heap.size_push]
    rw [hsz] at hnew hms ⊢
    refine hQ m2 ⟨_, _, .inr ⟨_, rfl⟩, hm2⟩ ⟨_, _, _, up _ _ (ad (by omega)) hT3⟩ (r1.at fun o e => up _ _ (ad (by omega)) ((hs3.2 (N + 0) (ad (by omega))).trans ((hp3.2 (N + 0) (ad (by omega))).trans ((hs2.2 (N + 0) (ad (by omega))).trans ((hp2.2 (N + 0) (ad (by omega))).trans ((hs1.2 (N + 0) (ad (by omega))).trans (e))))))) (r2.at fun o e => up _ _ (ad (by omega)) ((hs3.2 (N + 1) (ad (by omega))).trans ((hp3.2 (N + 1) (ad (by omega))).trans ((hs2.2 (N + 1) (ad (by omega))).trans (e))))) (r3.at fun o e => up _ _ (ad (by omega)) ((hs3.2 (N + 2) (ad (by omega))).trans (e))) hnew hms fun c o cz cO c1 c2 c3 e => up c o cz ((hs3.2 c cO).trans ((hp3.2 c c3).trans ((hs2.2 c cO).trans ((hp2.2 c c2).trans ((hs1.2 c cO).trans ((hp1.2 c c1).trans ((hs0.2 c cz).trans (e))))))))
  · rw [if_neg (by decide)]
    replace hz0 : ZS g0 (N + 5) (N + 3) (N + 4) f0 true := hz0
    replace hs0 : Heap.SameBut (N + 5) hp g0 := hs0
    simp only [← Array.forIn_toList, List.forIn_cons, List.forIn_nil]
    refine wpAny_bind (wpAny_bind (wpAny_bind (wpAny_holding ?_)))
    show wpAny _ _ (Builtin.SmallTypes.nextOf (.ref (N + 0)) >>= _) _ _ (Shared.mk g0 g d tk os)
    refine wpAny_bind (wpAny_nextOf_list_item (t1.at fun o e => (hs0.2 (N + 0) (ad (by omega))).trans (e)) (L1.at fun o e => (hs0.2 l1 (ad (by omega))).trans (e)) e1 fun p1 r1 hp1 => wpAny_pure (wpAny_pure ?_))
    replace hp1 : Heap.SameBut (N + 0) g0 p1 := hp1
    refine wpAny_bind (wpAny_bind (wpAny_holding ?_))
    show wpAny _ _ (Builtin.SmallTypes.nextOf (.ref (N + 1)) >>= _) _ _ (Shared.mk p1 g d tk os)
    refine wpAny_bind (wpAny_nextOf_list_item (t2.at fun o e => (hp1.2 (N + 1) (ad (by omega))).trans ((hs0.2 (N + 1) (ad (by omega))).trans (e))) (L2.at fun o e => (hp1.2 l2 (ad (by omega))).trans ((hs0.2 l2 (ad (by omega))).trans (e))) e2 fun p2 r2 hp2 => wpAny_pure (wpAny_pure ?_))
    replace hp2 : Heap.SameBut (N + 1) p1 p2 := hp2
    refine wpAny_bind (wpAny_bind (wpAny_holding ?_))
    show wpAny _ _ (Builtin.SmallTypes.nextOf (.ref (N + 2)) >>= _) _ _ (Shared.mk p2 g d tk os)
    refine wpAny_bind (wpAny_nextOf_list_item (t3.at fun o e => (hp2.2 (N + 2) (ad (by omega))).trans ((hp1.2 (N + 2) (ad (by omega))).trans ((hs0.2 (N + 2) (ad (by omega))).trans (e)))) (L3.at fun o e => (hp2.2 l3 (ad (by omega))).trans ((hp1.2 l3 (ad (by omega))).trans ((hs0.2 l3 (ad (by omega))).trans (e)))) e3 fun p3 r3 hp3 => wpAny_pure (wpAny_pure ?_))
    replace hp3 : Heap.SameBut (N + 2) p2 p3 := hp3
    have hsz : p3.objs.size = hp.objs.size := by rw [hp3.1, hp2.1, hp1.1, hs0.1]
    refine wpAny_bind (wpAny_pure ?_)
    refine wpAny_pure ?_
    show wpAny _ _ (newTuple [x1, x2, x3] >>= _) _ _ (Shared.mk p3 g d tk os)
    refine wpAny_bind (wpAny_newTuple ?_)
    refine wpAny_pure ⟨_, rfl, ?_⟩
    show Q (.ref p3.objs.size) ⟨p3.push { cls := .type "tuple", data := .seq #[x1, x2, x3] }, g, d, tk, os⟩
    have hnew : (p3.push { cls := .type "tuple", data := .seq #[x1, x2, x3] }).get? p3.objs.size = some { cls := .type "tuple", data := .seq #[x1, x2, x3] } := Heap.get?_push_size _ rfl
    have hms : (p3.push { cls := .type "tuple", data := .seq #[x1, x2, x3] }).objs.size = p3.objs.size + 1 := Heap.size_push ..
    have up : ∀ c o, p3.get? c = some o → (p3.push { cls := .type "tuple", data := .seq #[x1, x2, x3] }).get? c = some o := fun c o e => Heap.get?_push_of_some _ e
    rw [hsz] at hnew hms ⊢
    refine hQ _ ⟨_, _, hf, up _ _ ((hp3.2 (N + 5) (ad (by omega))).trans ((hp2.2 (N + 5) (ad (by omega))).trans ((hp1.2 (N + 5) (ad (by omega))).trans (hz0))))⟩ ⟨_, _, _, up _ _ ((hp3.2 (N + 4) (ad (by omega))).trans ((hp2.2 (N + 4) (ad (by omega))).trans ((hp1.2 (N + 4) (ad (by omega))).trans ((hs0.2 (N + 4) (ad (by omega))).trans (hO)))))⟩ (r1.at fun o e => up _ _ ((hp3.2 (N + 0) (ad (by omega))).trans ((hp2.2 (N + 0) (ad (by omega))).trans (e)))) (r2.at fun o e => up _ _ ((hp3.2 (N + 1) (ad (by omega))).trans (e))) (r3.at fun o e => up _ _ (e)) hnew hms fun c o cz cO c1 c2 c3 e => up c o ((hp3.2 c c3).trans ((hp2.2 c c2).trans ((hp1.2 c c1).trans ((hs0.2 c cz).trans (e)))))
theorem zip3_end {N l1 l2 l3 i : Nat} {f0 : Value} {f1 : Bool} {us1 : Array Value} {Q : Fin → Shared → Prop} (b1 : l1 < N) (hh : A.handled = none)
    (hz : ZS s.heap (N + 5) (N + 3) (N + 4) f0 f1) (hf : OwnV f0) (hI : s.heap.get? (N + 3) = some { cls := .type "tuple", data := .seq #[.ref (N + 0), .ref (N + 1), .ref (N + 2)] }) (t1 : s.heap.IsListIter (N + 0) l1 i) (L1 : s.heap.IsList l1 us1) (e1 : us1[i]? = none)
    (hE : ∀ h x, (∀ c o, c ≠ (N + 5) → c ≠ (N + 4) → c ≠ (N + 0) → c ≠ (N + 1) → c ≠ (N + 2) → s.heap.get? c = some o → h.get? c = some o) → (∃ o, h.get? x = some o ∧ o.cls = .type "StopIteration") → E (.ref x) { s with heap := h }) :
    wpAny (model prog w) A (Builtin.«zip.__next__» ⟨[.ref (N + 5)], []⟩) Q E s := by
  obtain ⟨hp, g, d, tk, os⟩ := s
  show wpAny _ _ (field (.ref (N + 5)) 2 >>= _) _ _ _
  refine wpAny_bind (wpAny_field hz rfl (x := .bool false) rfl ?_)
  show wpAny _ _ (field (.ref (N + 5)) 3 >>= _) _ _ _
  refine wpAny_bind (wpAny_field hz rfl (x := .ref (N + 3)) rfl (wpAny_bind (wpAny_seqItems hI rfl ?_)))
  show wpAny _ _ (Builtin.SmallTypes.ownedTupleIsFree (.ref (N + 5)) >>= _) _ _ _
  refine wpAny_bind (own_free hz hf ?_ fun g0 hz0 hs0 => ?_)
  · rw [if_pos rfl]
    refine wpAny_bind (wpAny_rule (wpAny_bind (wpAny_field hz rfl (x := .ref (N + 4)) rfl ?_)))
    refine wpAny_bind (wpAny_setField_rec hz (by simp) fun g0 hz0 hs0 => ?_)
    replace hz0 : ZS g0 (N + 5) (N + 3) (N + 4) .ellipsis f1 := hz0
    replace hs0 : Heap.SameBut (N + 5) hp g0 := hs0
    simp only [List.forIn_cons, List.forIn_nil, List.zipIdx_cons, List.zipIdx_nil]
    refine wpAny_bind (wpAny_bind (wpAny_bind (wpAny_onRaise ?_)))
    show wpAny _ _ (Builtin.SmallTypes.nextOf (.ref (N + 0)) >>= _) _ _ (Shared.mk g0 g d tk os)
    refine wpAny_bind (wpAny_nextOf_list_end hh (t1.at fun o e => (hs0.2 (N + 0) (ad (by omega))).trans (e)) (L1.at fun o e => (hs0.2 l1 (ad (by omega))).trans (e)) e1 fun p x hp1 hx => ?_)
    replace hp1 : Heap.ExtBut (N + 0) g0 p := hp1
    obtain ⟨ox, hox, hcx⟩ := hx
    replace hox : p.get? x = some ox := hox
    have hzp : ZS p (N + 5) (N + 3) (N + 4) .ellipsis f1 := hp1 _ _ (ad (by omega)) hz0
    have xz : x ≠ (N + 5) := fun y => by
      rw [y, hzp] at hox
      cases hox
      simp at hcx
    refine wpAny_setField_rec (s := ⟨p, g, d, tk, os⟩) hzp (by simp) fun m _ hm => ?_
    replace hm : Heap.SameBut (N + 5) p m := hm
    exact hE m x (fun c o cz cO c1 c2 c3 e => (hm.2 c cz).trans (hp1 c o c1 ((hs0.2 c cz).trans e))) ⟨ox, (hm.2 x xz).trans hox, hcx⟩
  · rw [if_neg (by decide)]
    replace hs0 : Heap.SameBut (N + 5) hp g0 := hs0
    simp only [← Array.forIn_toList, List.forIn_cons, List.forIn_nil]
    refine wpAny_bind (wpAny_bind (wpAny_bind (wpAny_holding ?_)))
    show wpAny _ _ (Builtin.SmallTypes.nextOf (.ref (N + 0)) >>= _) _ _ (Shared.mk g0 g d tk os)
    refine wpAny_bind (wpAny_nextOf_list_end hh (t1.at fun o e => (hs0.2 (N + 0) (ad (by omega))).trans (e)) (L1.at fun o e => (hs0.2 l1 (ad (by omega))).trans (e)) e1 fun p x hp1 hx => ?_)
    exact hE p x (fun c o cz cO c1 c2 c3 e => hp1 c o c1 ((hs0.2 c cz).trans e)) hx
end
end XV
set_option Elab.async false
set_option linter.all false
set_option maxRecDepth 100000
set_option maxHeartbeats 400000
/-! next of an enumerate over any iterator whose own next is told. -/
namespace XV
open PySem
open PySem.Sem (wp)
section
variable {prog : Program} {w : World} {A : Around} {E : Value → Shared → Prop} {s : Shared}
theorem enum_over {e q : Addr} {c : Int} {old x : Value} {NX : Heap → Prop} {Q : Value → Shared → Prop} (he : IsEnum s.heap e q c old)
    (hn : ∀ Q' : Value → Shared → Prop, (∀ h, NX h → Q' x { s with heap := h }) → wpAny (model prog w) A (Builtin.SmallTypes.nextOf (.ref q)) Q' E s) (hk : ∀ h, NX h → IsEnum h e q c old)
    (hQ : ∀ h1 h2, NX h1 → IsEnumOut h2 e q (c + 1) x h1.objs.size → h2.get? h1.objs.size = some { cls := .type "tuple", data := .seq #[.int c s.toks, x] } → h2.objs.size = h1.objs.size + 1 →
      (∀ b o, b ≠ e → h1.get? b = some o → h2.get? b = some o) → Q (.ref h1.objs.size) { s with heap := h2, toks := s.toks + 1 }) :
    wpAny (model prog w) A (Builtin.«enumerate.__next__» ⟨[.ref e], []⟩) (fun fin s' => ∃ v, fin = .done (.ret v) ∧ Q v s') E s := by
  obtain ⟨hp, gs, dr, tk, os⟩ := s
  show wpAny _ _ (field (.ref e) 2 >>= _) _ _ _
  refine wpAny_bind (wpAny_field he rfl (x := .ref q) rfl (wpAny_bind (hn _ fun h1 n1 => ?_)))
  have u1 := hk h1 n1
  show wpAny _ _ (field (.ref e) 3 >>= _) _ _ (Shared.mk h1 gs dr tk os)
  refine wpAny_bind (wpAny_field u1 rfl (x := rawInt c) rfl ?_)
  show wpAny _ _ (field (.ref e) 4 >>= _) _ _ (Shared.mk h1 gs dr tk os)
  refine wpAny_bind (wpAny_field u1 rfl (x := .none) rfl ?_)
  show wpAny _ _ (mkInt c >>= _) _ _ (Shared.mk h1 gs dr tk os)
  refine wpAny_bind (wpAny_mkInt ?_)
  show wpAny _ _ (setField (.ref e) 3 (rawInt (c + 1)) >>= _) _ _ (Shared.mk h1 gs dr (tk + 1) os)
  refine wpAny_bind (wpAny_setField_rec u1 (by simp) fun h2 u2 s2 => ?_)
  replace s2 : Heap.SameBut e h1 h2 := s2
  replace u2 : IsEnum h2 e q (c + 1) old := u2
  show wpAny _ _ (setField (.ref e) 4 .none >>= _) _ _ (Shared.mk h2 gs dr (tk + 1) os)
  refine wpAny_bind (wpAny_setField_rec u2 (by simp) fun h3 u3 s3 => ?_)
  replace s3 : Heap.SameBut e h2 h3 := s3
  replace u3 : IsEnum h3 e q (c + 1) old := u3
  show wpAny _ _ (newTuple [.int c tk, x] >>= _) _ _ (Shared.mk h3 gs dr (tk + 1) os)
  refine wpAny_bind (wpAny_newTuple ?_)
  have sz : h3.objs.size = h1.objs.size := by rw [s3.1, s2.1]
  have el : e < h1.objs.size := Heap.lt_size u1
  have u4 : IsEnum (h3.push { cls := .type "tuple", data := .seq #[.int c tk, x] }) e q (c + 1) old := Heap.get?_push_of_some _ u3
  have t4 : (h3.push { cls := .type "tuple", data := .seq #[.int c tk, x] }).get? h1.objs.size = some { cls := .type "tuple", data := .seq #[.int c tk, x] } := by
    rw [← sz]
    exact Heap.get?_push_size _ rfl
  have z4 : (h3.push { cls := .type "tuple", data := .seq #[.int c tk, x] }).objs.size = h1.objs.size + 1 := by rw [Heap.size_push, sz]
  have k4 : ∀ b o, b ≠ e → h1.get? b = some o → (h3.push { cls := .type "tuple", data := .seq #[.int c tk, x] }).get? b = some o := fun b o n y => Heap.get?_push_of_some _ ((s3.2 b n).trans ((s2.2 b n).trans y))
  show wpAny _ _ (Builtin.SmallTypes.ownedTupleIsFree (.ref e) >>= _) _ _ (Shared.mk (h3.push { cls := .type "tuple", data := .seq #[.int c tk, x] }) gs dr (tk + 1) os)
  rw [sz]
  generalize h3.push { cls := .type "tuple", data := .seq #[.int c tk, x] } = h4 at u4 t4 z4 k4
  refine wpAny_bind ?_
  unfold Builtin.SmallTypes.ownedTupleIsFree
  refine wpAny_bind (wpAny_field u4 rfl (x := .none) rfl (wpAny_pure ?_))
  rw [if_pos rfl]
  refine wpAny_bind (wpAny_rule (wpAny_bind (wpAny_field u4 rfl (x := old) rfl ?_)))
  refine wpAny_bind (wpAny_setField_rec u4 (by simp) fun h5 u5 s5 => ?_)
  replace s5 : Heap.SameBut e h4 h5 := s5
  replace u5 : IsEnum h5 e q (c + 1) x := u5
  show wpAny _ _ (Builtin.SmallTypes.ownedTupleHandOut (.ref e) (.ref h1.objs.size) >>= _) _ _ (Shared.mk h5 gs dr (tk + 1) os)
  refine wpAny_bind ?_
  unfold Builtin.SmallTypes.ownedTupleHandOut
  refine wpAny_bind (wpAny_setField_rec u5 (by simp) fun h6 u6 s6 => ?_)
  replace s6 : Heap.SameBut e h5 h6 := s6
  replace u6 : IsEnumOut h6 e q (c + 1) x h1.objs.size := u6
  refine wpAny_setField_rec u6 (by simp) fun h7 u7 s7 => ?_
  replace s7 : Heap.SameBut e h6 h7 := s7
  replace u7 : IsEnumOut h7 e q (c + 1) x h1.objs.size := u7
  have up : ∀ b, b ≠ e → h7.get? b = h4.get? b := fun b n => (s7.2 b n).trans ((s6.2 b n).trans (s5.2 b n))
  exact wpAny_bind (wpAny_letGo (wpAny_pure ⟨_, rfl, hQ h1 h7 n1 u7 ((up _ (Nat.ne_of_gt el)).trans t4) (by rw [s7.1, s6.1, s5.1, z4]) fun b o n y => (up b n).trans (k4 b o n y)⟩))
theorem pyNext_enum_over {e q : Addr} {c : Int} {old x : Value} {NX : Heap → Prop} {Q : Option Value → Shared → Prop} (he : IsEnum s.heap e q c old)
    (hn : ∀ (E' : Value → Shared → Prop) (Q' : Value → Shared → Prop), (∀ h, NX h → Q' x { s with heap := h }) → wpAny (model prog w) A.in1 (Builtin.SmallTypes.nextOf (.ref q)) Q' E' s) (hk : ∀ h, NX h → IsEnum h e q c old)
    (hQ : ∀ h1 h2, NX h1 → IsEnumOut h2 e q (c + 1) x h1.objs.size → h2.get? h1.objs.size = some { cls := .type "tuple", data := .seq #[.int c s.toks, x] } → h2.objs.size = h1.objs.size + 1 →
      (∀ b o, b ≠ e → h1.get? b = some o → h2.get? b = some o) → Q (some (.ref h1.objs.size)) { s with heap := h2, toks := s.toks + 1 }) :
    wpAny (model prog w) A (pyNext (.ref e)) Q E s := by
  have ty : s.TypeIs (.ref e) "enumerate" := ⟨_, he, rfl⟩
  unfold pyNext
  exact wpAny_bind (wpAny_attempt (wpAny_callSpecial?_slot (name := Str.ofString "__next__") ty F.slot_enumerate_next (wpAny_call_entry F.slot_enumerate_next ty F.entry_enumerate_next
    (enum_over he (hn _) hk fun h1 h2 n1 a b c d => wpAny_pure (hQ h1 h2 n1 a b c d)) (F.args_enumerate_next_1 _))))
theorem pyNext_enum_stop {e q : Addr} {c : Int} {old : Value} {Q : Option Value → Shared → Prop} {ST : Heap → Prop} (he : IsEnum s.heap e q c old)
    (hn : ∀ (E' : Value → Shared → Prop) (Q' : Value → Shared → Prop), (∀ h x, ST h → (∃ o, h.get? x = some o ∧ o.cls = .type "StopIteration") → E' (.ref x) { s with heap := h }) → wpAny (model prog w) A.in1 (Builtin.SmallTypes.nextOf (.ref q)) Q' E' s)
    (hQ : ∀ h, ST h → Q none { s with heap := h }) : wpAny (model prog w) A (pyNext (.ref e)) Q E s := by
  have ty : s.TypeIs (.ref e) "enumerate" := ⟨_, he, rfl⟩
  unfold pyNext
  refine wpAny_bind (wpAny_attempt (wpAny_callSpecial?_slot (name := Str.ofString "__next__") ty F.slot_enumerate_next (wpAny_call_entry F.slot_enumerate_next ty F.entry_enumerate_next ?_ (F.args_enumerate_next_1 _))))
  show wpAny _ _ (field (.ref e) 2 >>= _) _ _ _
  refine wpAny_bind (wpAny_field he rfl (x := .ref q) rfl (wpAny_bind (hn _ _ fun h x st y => ?_)))
  obtain ⟨o, ho, hc⟩ := y
  exact wpAny_bind (wpAny_isInstance (T := "StopIteration") (b := true) ⟨o, ho, hc⟩ isSubtype_stop (wpAny_pure (hQ h st)))
end
end XV
set_option Elab.async false
set_option linter.all false
set_option maxRecDepth 100000
set_option maxHeartbeats 4000000
/-! enumerate over a text: for at, letter in enumerate(letters), in comprehensions of dicts. -/
namespace XV
open PySem
open PySem.Sem (wp)
section
variable {prog : Program} {w : World} {A : Around} {E : Value → Shared → Prop} {s : Shared}
theorem enum_overT {e q : Addr} {c : Int} {old x : Value} {NX : Heap → Nat → Prop} {Q : Value → Shared → Prop} (he : IsEnum s.heap e q c old)
    (hn : ∀ Q' : Value → Shared → Prop, (∀ h k, NX h k → Q' x { s with heap := h, toks := k }) → wpAny (model prog w) A (Builtin.SmallTypes.nextOf (.ref q)) Q' E s) (hk : ∀ h k, NX h k → IsEnum h e q c old)
    (hQ : ∀ h1 k h2, NX h1 k → IsEnumOut h2 e q (c + 1) x h1.objs.size → h2.get? h1.objs.size = some { cls := .type "tuple", data := .seq #[.int c k, x] } → h2.objs.size = h1.objs.size + 1 →
      (∀ b o, b ≠ e → h1.get? b = some o → h2.get? b = some o) → Q (.ref h1.objs.size) { s with heap := h2, toks := k + 1 }) :
    wpAny (model prog w) A (Builtin.«enumerate.__next__» ⟨[.ref e], []⟩) (fun fin s' => ∃ v, fin = .done (.ret v) ∧ Q v s') E s := by
  obtain ⟨hp, gs, dr, tk0, os⟩ := s
  show wpAny _ _ (field (.ref e) 2 >>= _) _ _ _
  refine wpAny_bind (wpAny_field he rfl (x := .ref q) rfl (wpAny_bind (hn _ fun h1 tk n1 => ?_)))
  have u1 := hk h1 tk n1
  show wpAny _ _ (field (.ref e) 3 >>= _) _ _ (Shared.mk h1 gs dr tk os)
  refine wpAny_bind (wpAny_field u1 rfl (x := rawInt c) rfl ?_)
  show wpAny _ _ (field (.ref e) 4 >>= _) _ _ (Shared.mk h1 gs dr tk os)
  refine wpAny_bind (wpAny_field u1 rfl (x := .none) rfl ?_)
  show wpAny _ _ (mkInt c >>= _) _ _ (Shared.mk h1 gs dr tk os)
  refine wpAny_bind (wpAny_mkInt ?_)
  show wpAny _ _ (setField (.ref e) 3 (rawInt (c + 1)) >>= _) _ _ (Shared.mk h1 gs dr (tk + 1) os)
  refine wpAny_bind (wpAny_setField_rec u1 (by simp) fun h2 u2 s2 => ?_)
  replace s2 : Heap.SameBut e h1 h2 := s2
  replace u2 : IsEnum h2 e q (c + 1) old := u2
  show wpAny _ _ (setField (.ref e) 4 .none >>= _) _ _ (Shared.mk h2 gs dr (tk + 1) os)
  refine wpAny_bind (wpAny_setField_rec u2 (by simp) fun h3 u3 s3 => ?_)
  replace s3 : Heap.SameBut e h2 h3 := s3
  replace u3 : IsEnum h3 e q (c + 1) old := u3
  show wpAny _ _ (newTuple [.int c tk, x] >>= _) _ _ (Shared.mk h3 gs dr (tk + 1) os)
  refine wpAny_bind (wpAny_newTuple ?_)
  have sz : h3.objs.size = h1.objs.size := by rw [s3.1, s2.1]
  have el : e < h1.objs.size := Heap.lt_size u1
  have u4 : IsEnum (h3.push { cls := .type "tuple", data := .seq #[.int c tk, x] }) e q (c + 1) old := Heap.get?_push_of_some _ u3
  have t4 : (h3.push { cls := .type "tuple", data := .seq #[.int c tk, x] }).get? h1.objs.size = some { cls := .type "tuple", data := .seq #[.int c tk, x] } := by
    rw [← sz]
    exact Heap.get?_push_size _ rfl
  have z4 : (h3.push { cls := .type "tuple", data := .seq #[.int c tk, x] }).objs.size = h1.objs.size + 1 := by rw [Heap.size_push, sz]
  have k4 : ∀ b o, b ≠ e → h1.get? b = some o → (h3.push { cls := .type "tuple", data := .seq #[.int c tk, x] }).get? b = some o := fun b o n y => Heap.get?_push_of_some _ ((s3.2 b n).trans ((s2.2 b n).trans y))
  show wpAny _ _ (Builtin.SmallTypes.ownedTupleIsFree (.ref e) >>= _) _ _ (Shared.mk (h3.push { cls := .type "tuple", data := .seq #[.int c tk, x] }) gs dr (tk + 1) os)
  rw [sz]
  generalize h3.push { cls := .type "tuple", data := .seq #[.int c tk, x] } = h4 at u4 t4 z4 k4
  refine wpAny_bind ?_
  unfold Builtin.SmallTypes.ownedTupleIsFree
  refine wpAny_bind (wpAny_field u4 rfl (x := .none) rfl (wpAny_pure ?_))
  rw [if_pos rfl]
  refine wpAny_bind (wpAny_rule (wpAny_bind (wpAny_field u4 rfl (x := old) rfl ?_)))
  refine wpAny_bind (wpAny_setField_rec u4 (by simp) fun h5 u5 s5 => ?_)
  replace s5 : Heap.SameBut e h4 h5 := s5
  replace u5 : IsEnum h5 e q (c + 1) x := u5
  show wpAny _ _ (Builtin.SmallTypes.ownedTupleHandOut (.ref e) (.ref h1.objs.size) >>= _) _ _ (Shared.mk h5 gs dr (tk + 1) os)
  refine wpAny_bind ?_
  unfold Builtin.SmallTypes.ownedTupleHandOut
  refine wpAny_bind (wpAny_setField_rec u5 (by simp) fun h6 u6 s6 => ?_)
  replace s6 : Heap.SameBut e h5 h6 := s6
  replace u6 : IsEnumOut h6 e q (c + 1) x h1.objs.size := u6
  refine wpAny_setField_rec u6 (by simp) fun h7 u7 s7 => ?_
  replace s7 : Heap.SameBut e h6 h7 := s7
  replace u7 : IsEnumOut h7 e q (c + 1) x h1.objs.size := u7
  have up : ∀ b, b ≠ e → h7.get? b = h4.get? b := fun b n => (s7.2 b n).trans ((s6.2 b n).trans (s5.2 b n))
  exact wpAny_bind (wpAny_letGo (wpAny_pure ⟨_, rfl, hQ h1 tk h7 n1 u7 ((up _ (Nat.ne_of_gt el)).trans t4) (by rw [s7.1, s6.1, s5.1, z4]) fun b o n y => (up b n).trans (k4 b o n y)⟩))
theorem pyNext_enum_overT {e q : Addr} {c : Int} {old x : Value} {NX : Heap → Nat → Prop} {Q : Option Value → Shared → Prop} (he : IsEnum s.heap e q c old)
    (hn : ∀ (E' : Value → Shared → Prop) (Q' : Value → Shared → Prop), (∀ h k, NX h k → Q' x { s with heap := h, toks := k }) → wpAny (model prog w) A.in1 (Builtin.SmallTypes.nextOf (.ref q)) Q' E' s) (hk : ∀ h k, NX h k → IsEnum h e q c old)
    (hQ : ∀ h1 k h2, NX h1 k → IsEnumOut h2 e q (c + 1) x h1.objs.size → h2.get? h1.objs.size = some { cls := .type "tuple", data := .seq #[.int c k, x] } → h2.objs.size = h1.objs.size + 1 →
      (∀ b o, b ≠ e → h1.get? b = some o → h2.get? b = some o) → Q (some (.ref h1.objs.size)) { s with heap := h2, toks := k + 1 }) :
    wpAny (model prog w) A (pyNext (.ref e)) Q E s := by
  have ty : s.TypeIs (.ref e) "enumerate" := ⟨_, he, rfl⟩
  unfold pyNext
  exact wpAny_bind (wpAny_attempt (wpAny_callSpecial?_slot (name := Str.ofString "__next__") ty F.slot_enumerate_next (wpAny_call_entry F.slot_enumerate_next ty F.entry_enumerate_next
    (enum_overT he (hn _) hk fun h1 k h2 n1 a b c d => wpAny_pure (hQ h1 k h2 n1 a b c d)) (F.args_enumerate_next_1 _))))
end
end XV
namespace XV
open PySem PySem.Spec PyProof.Rows L2
/-- the letters of a text, each in a new pair with its place -/
def ItEs (x : Str) : It := ⟨fun i _ => i < x.cps.size, fun i H v H' => ∃ T c, v = .ref T ∧ H T = none ∧ H' = upd H T (.tup [.int (i : Nat), .str ⟨#[c]⟩]) ∧ x.cps[i]? = some c, fun i _ => x.cps.size ≤ i⟩
theorem turn_enumS {P : Program} {w : World} {K : PySem.W.Frag} {elts : List Expr} {kk : Nat} {tpos : Pos} (e it : Addr) (x : Str) (t : Tok) :
    Turn P w K (.Tuple elts kk tpos) (ItEs x) [e, it] e (fun i h => (∃ old, IsEnum h e it ((i : Nat) : Int) old) ∧ h.IsStrIter it "str_ascii_iterator" x t i ∧ e ≠ it) where
  mem := by simp
  obj := fun i h st b hb => by
    obtain ⟨⟨old, he⟩, ⟨o, ho, hc, hd⟩, _⟩ := st
    have e' : b = e ∨ b = it := by simpa using hb
    rcases e' with z | z
    · rw [z]; exact ⟨_, he, fun v q => nomatch q⟩
    · rw [z]; exact ⟨o, ho, fun v q => by rw [hd] at q; cases q⟩
  keep := fun i h h' st k => let ⟨⟨old, he⟩, ⟨o, ho, r⟩, hne⟩ := st; ⟨⟨old, k e (by simp) _ he⟩, ⟨o, k it (by simp) o ho, r⟩, hne⟩
  item := by
    intro X hP hw hK hc i pins s σ H E I hf st hg
    subst hP hw hK
    obtain ⟨⟨old, he⟩, hit, hne⟩ := st
    have hg : i < x.cps.size := hg
    have hx : x.cps[i]? = some x.cps[i] := Array.getElem?_eq_getElem hg
    generalize x.cps[i] = c at hx
    have hel : e < s.heap.objs.size := Heap.lt_size he
    have hil : it < s.heap.objs.size := by obtain ⟨_, q, _⟩ := hit; exact Heap.lt_size q
    refine pyNext_enum_overT (c := (i : Int)) (x := .str ⟨#[c]⟩ s.toks) (NX := fun h k => h.IsStrIter it "str_ascii_iterator" x t (i + 1) ∧ Heap.SameBut it s.heap h ∧ k = s.toks + 1) he
      (fun E' Q' q => wpAny_nextOf_ascii_item hit hx fun h' a b => q h' _ ⟨a, b, rfl⟩) (fun h k n => (n.2.1.2 e hne).trans he) fun h1 k h2 n1 o2 t2 z2 k2 => ?_
    obtain ⟨n1, n2, rfl⟩ := n1
    have sz : h1.objs.size = s.heap.objs.size := n2.1
    refine ⟨_, rfl, wpAny_letOwnedTupleGo_enum (s := { s with heap := h2, toks := s.toks + 1 + 1 }) o2 fun h'' he' sb => ?_⟩
    rw [sz] at t2 z2 o2 ⊢
    have hT2 : h''.get? s.heap.objs.size = some { cls := .type "tuple", data := .seq #[.int i (s.toks + 1), .str ⟨#[c]⟩ s.toks] } := (sb.2 _ (Nat.ne_of_gt hel)).trans t2
    have new : ObjOk X.prog X.w (upd H s.heap.objs.size (.tup [.int (i : Nat), .str ⟨#[c]⟩])) h'' s.heap.objs.size (.tup [.int (i : Nat), .str ⟨#[c]⟩]) :=
      ⟨by show 2 ≤ sizeLine; decide, [.int i (s.toks + 1), .str ⟨#[c]⟩ s.toks], .cons ⟨_, rfl⟩ (.cons ⟨_, rfl⟩ .nil), ⟨_, hT2, rfl, _, rfl⟩⟩
    have I1 : Inv X pins σ (upd H s.heap.objs.size (.tup [.int (i : Nat), .str ⟨#[c]⟩])) { s with heap := h'', toks := s.toks + 1 + 1 } :=
      I.turnedNew (ch := [e, it]) (fun b ob hb q => (sb.2 b (fun z => hb (by simp [z]))).trans (k2 b ob (fun z => hb (by simp [z])) ((n2.2 b (fun z => hb (by simp [z]))).trans q))) hf (Nat.le_refl _) new
    refine ⟨.ref s.heap.objs.size, _, I1, rfl, ⟨_, c, rfl, I.hok.fresh (Nat.le_refl _), rfl, hx⟩, ⟨⟨.str ⟨#[c]⟩ s.toks, ?_⟩, ?_, hne⟩, fun b hb => ?_⟩
    · have e1 : ((i + 1 : Nat) : Int) = (i : Int) + 1 := by omega
      rw [e1]; exact he'
    · obtain ⟨o, ho, r⟩ := n1
      exact ⟨o, (sb.2 it (Ne.symm hne)).trans (k2 it o (Ne.symm hne) ho), r⟩
    · have hb' : b < s.heap.objs.size := by
        have e' : b = e ∨ b = it := by simpa using hb
        rcases e' with z | z
        · rw [z]; exact hel
        · rw [z]; exact hil
      rw [upd_ne (Nat.ne_of_lt hb')]
      exact (hf b hb).1
  done := by
    intro X hP hw hK hc i pins s σ H E I hf st hg
    subst hP hw hK
    obtain ⟨⟨old, he⟩, hit, hne⟩ := st
    obtain ⟨f0, f1, f2, f3, f4, f5⟩ := hf it (by simp)
    have hx : x.cps[i]? = none := Array.getElem?_eq_none hg
    exact pyNext_enum_stop (ST := fun h => Heap.ExtBut it s.heap h) he (fun E' Q' q => wpAny_nextOf_ascii_end (I.ok.hd hc) hit hx fun h' y a b => q h' y a b) fun h a => ⟨rfl, I.turned (t' := s.toks) (fun b o hb q => a b o hb q) f0 f1 f3 f4 f5⟩
  self := fun A i s Q E st h => let ⟨⟨_, he⟩, _⟩ := st; wpAny_pyIter_enum he h
def iEnumS (te : TE) : TI := fun σ H R => te σ H fun v H1 => ∃ x, v = .str x ∧ x.cps.all (· < 128) = true ∧ R (ItEs x) H1
theorem pi_enumS {X : Cx} {e : Expr} {te : TE} {p pos tpos : Pos} {elts : List Expr} {kk : Nat} (hg : Gl X "enumerate") (hm : X.mg "enumerate" = none) (ha : PE X e te) (hs : starEach [e] X.env = (false, eval e X.env) :: starEach [] X.env := by rfl) :
    PI X (.Tuple elts kk tpos) (.Call (.Name "enumerate" p) [e] [] pos) (iEnumS te) := by
  refine ⟨fun pins s σ H R I h => ?_⟩
  refine Call_ (ld_blt I hg hm boot_enumerate (PyProof.Rows.callWith_type1 (one_arg ha I h (fun v s1 y H1 I1 r q => ?_) hs) hs))
  obtain ⟨x, rfl, ax, q⟩ := q
  obtain ⟨t, rfl⟩ := r
  refine call_enumerate_str fun h' he hit hsz hk => wpAny_pyIter_enum he ?_
  rw [show strIterType x = "str_ascii_iterator" from if_pos ax] at hit
  have I2 : Inv X pins σ H1 { s1 with heap := h' } := I1.kept (t' := s1.toks) hk
  refine ⟨s1.heap.objs.size + 1, [s1.heap.objs.size + 1, s1.heap.objs.size], _, _, H1, rfl, I2, turn_enumS (s1.heap.objs.size + 1) s1.heap.objs.size x t, ⟨⟨.none, he⟩, hit, Nat.succ_ne_self _⟩, fun b hb => ?_, q⟩
  have e' : b = s1.heap.objs.size + 1 ∨ b = s1.heap.objs.size := by simpa using hb
  have hle : s1.heap.objs.size ≤ b := by
    rcases e' with z | z
    · rw [z]; exact Nat.le_add_right _ _
    · rw [z]; exact Nat.le_refl _
  exact I1.fpOk hle (I1.hok.fresh hle)
end XV
set_option Elab.async false
set_option linter.all false
set_option maxRecDepth 100000
set_option maxHeartbeats 4000000
/-! comprehensions of dicts over anything that walks; enumerate over a text walks. -/
namespace XV
open PySem PySem.Spec PyProof.Rows L2
theorem walk_enumS {x : Str} : Walk (ItEs x) x.cps.size (fun _ => True) (YPair (fun i => some (.int (i : Nat))) (fun i => (x.cps[i]?).map fun c => .str ⟨#[c]⟩)) :=
  ⟨fun _ _ hi _ => hi, fun _ _ => Nat.le_refl _, fun i H v H' _ _ y => by
    obtain ⟨T, c, h1, h2, h3, h4⟩ := y
    exact ⟨T, .int (i : Nat), .str ⟨#[c]⟩, h1, h2, h3, rfl, by show (x.cps[i]?).map _ = _; rw [h4]; rfl⟩⟩
section
variable {J : It} {n : Nat} {G : Hp → Prop} {Y : Nat → Hp → V → Hp → Prop}
/-- a comprehension of a dict over it -/
theorem dc_it (w : Walk J n G Y) {g : TG} {tt : TT} {tk tv : TE} {vs : List Nat} {σ : L2.St} {H1 : Hp} {D : Addr} {Qd : Hp → Prop} (Pv : Nat → Hp → Prop) (h0 : Pv 0 (upd H1 D (.dK []))) (hG : ∀ i H, i ≤ n → Pv i H → G H)
    (hs : ∀ i x H H', i < n → Pv i H → Y i H x H' → g x (wipe σ vs) H' fun σ2 H2 => wipe σ2 vs = wipe σ vs ∧ tt σ2 H2 fun b H3 =>
      if b = true then tk σ2 H3 fun y H4 => tv σ2 H4 fun z H5 => ∃ kvs k, y = kV k ∧ H5 D = some (.dK kvs) ∧ kvs.length < sizeLine ∧ Pv (i + 1) (upd H5 D (.dK (putK kvs k z))) else Pv (i + 1) H3) (hd : ∀ H, Pv n H → Qd H) :
    ∃ W : Nat → Nat → Hp → Prop, (∃ m, W 0 m (upd H1 D (.dK []))) ∧ ∀ i m H, W i m H →
      (J.stop i H ∧ Qd H) ∨ (J.go i H ∧ ∃ Nx : Hp → Prop, (∀ H', Nx H' → ∃ m', m' < m ∧ W (i + 1) m' H') ∧ ∀ x H', J.yld i H x H' → g x (wipe σ vs) H' fun σ2 H2 => wipe σ2 vs = wipe σ vs ∧ tt σ2 H2 fun b H3 =>
        if b = true then tk σ2 H3 fun y H4 => tv σ2 H4 fun z H5 => ∃ kvs k, y = kV k ∧ H5 D = some (.dK kvs) ∧ kvs.length < sizeLine ∧ Nx (upd H5 D (.dK (putK kvs k z))) else Nx H3) := by
  refine ⟨fun i m H => m = n - i ∧ i ≤ n ∧ Pv i H, ⟨n, by simp, Nat.zero_le _, h0⟩, ?_⟩
  rintro i m H ⟨rfl, hi, p⟩
  have q := hG i H hi p
  by_cases hlt : i < n
  · exact .inr ⟨w.goes i H hlt q, Pv (i + 1), fun H' p' => ⟨n - (i + 1), by omega, rfl, hlt, p'⟩, fun x H' y => hs i x H H' hlt p (w.yields i H x H' hlt q y)⟩
  · have e : i = n := by omega
    subst e
    exact .inl ⟨w.stops H q, hd H p⟩
end
end XV
set_option Elab.async false
set_option linter.all false
set_option maxRecDepth 100000
set_option maxHeartbeats 400000
namespace XT
open PySem PySem.Spec PyProof.Rows L2
/-! ### sets of texts: made, added to, their members in order -/
def kS (v : Value) : Str := match v with
  | .str k _ => k
  | _ => Str.empty
def kE (e : Int × Value) : Str := kS e.2
def GdE (w : World) (e : Int × Value) : Prop := ∃ k u, e.2 = Value.str k u ∧ e.1 = hashStr w k
/-- the texts S, n of them, are the set at a; its table can be walked -/
def SetS (w : World) (h : Heap) (a : Addr) (S : Str → Bool) (n : Nat) : Prop :=
  ∃ o es ep t, h.get? a = some o ∧ o.ExactSet ∧ o.data = .set es ep t ∧ (∀ e ∈ es.toList, GdE w e) ∧ (es.toList.map kE).Nodup ∧ (∀ k, S k = true ↔ k ∈ es.toList.map kE) ∧
    es.size < scanBound ∧ t.fits es.size = true ∧ es.size = n ∧ Ris t.place.toList ∧ (w.params.followText "set-order" = true ∨ t.led = true)
section
variable {P : Program} {w : World} {h h' : Heap} {a : Addr} {S : Str → Bool} {n : Nat}
theorem SetS.at (R : SetS w h a S n) (k : ∀ o, h.get? a = some o → h'.get? a = some o) : SetS w h' a S n := by
  obtain ⟨o, es, ep, t, ho, rest⟩ := R
  exact ⟨o, es, ep, t, k o ho, rest⟩
theorem SetS.congr {S2 : Str → Bool} (R : SetS w h a S n) (e : ∀ k, S2 k = S k) : SetS w h a S2 n := by
  rw [show S2 = S from funext e]
  exact R
theorem gd_elems {l : List (Int × Value)} (g : ∀ e ∈ l, GdE w e) : ElemsOf (PySem.strKind P w) l := fun e he => by
  obtain ⟨k, u, h1, h2⟩ := g e he
  exact ⟨⟨k, by rw [h1]; exact strKind_is P w k u, h2⟩, by rw [h1] <;> rfl⟩
theorem gd_is {e : Int × Value} (g : GdE w e) (k : Str) : (PySem.strKind P w).is k e.2 = true ↔ kE e = k := by
  obtain ⟨k0, u, h1, _⟩ := g
  unfold kE
  rw [h1]
  show Value.isStrOf k (.str k0 u) = true ↔ k0 = k
  simp only [Value.isStrOf, beq_iff_eq]
theorem gd_mem {l : List (Int × Value)} (g : ∀ e ∈ l, GdE w e) (k : Str) : k ∈ l.map kE ↔ ∃ e ∈ l, (PySem.strKind P w).is k e.2 = true := by
  rw [List.mem_map]
  exact ⟨fun ⟨e, he, q⟩ => ⟨e, he, (gd_is (g e he) k).2 q⟩, fun ⟨e, he, q⟩ => ⟨e, he, (gd_is (g e he) k).1 q⟩⟩
end
section
variable {P : Program} {w : World} {A : Around} {E : Value → Shared → Prop} {s : Shared} {a : Addr} {S : Str → Bool} {n : Nat}
theorem setS_tail {g : Bool → Sem Unit} (hg : ∀ (b : Bool) (s1 : Shared) (Q1 : Unit → Shared → Prop), Q1 () s1 → wpAny (model P w) A (g b) Q1 E s1)
    {o : Obj} {es : Array (Int × Value)} {ep : Nat} {t : SetTable} (ho : s.heap.get? a = some o) (hex : o.ExactSet) (hd : o.data = .set es ep t)
    {es1 : Array (Int × Value)} {t2 : SetTable} {S2 : Str → Bool} (g1 : ∀ e ∈ es1.toList, GdE w e) (nd1 : (es1.toList.map kE).Nodup) (m1 : ∀ k, S2 k = true ↔ k ∈ es1.toList.map kE)
    (hb1 : es1.size < scanBound) (hf2 : t2.fits es1.size = true) (hr : Ris t2.place.toList) (hl : w.params.followText "set-order" = true ∨ t2.led = true) {wasDummy : Bool} {R : Option Bool → Shared → Prop}
    (hR : ∀ h', Heap.SameBut a s.heap h' → SetS w h' a S2 es1.size → R (some true) { s with heap := h' }) :
    wpAny (model P w) A (do
        storeSet a es1 t2
        if (!wasDummy && t2.tooFull) = true then do
            g (relayAll t2 es1 (SetTable.grown es1.size)).2.2
            storeSet a (relayAll t2 es1 (SetTable.grown es1.size)).1 (relayAll t2 es1 (SetTable.grown es1.size)).2.1
            pure (some true)
          else pure (some true)) R E s := by
  have ho1 := store_at (es' := es1) (t' := t2) ho hd
  have sb1 := Heap.SameBut.update s.heap a (Obj.putSet es1 t2)
  refine wpAny_bind (wpAny_storeSet_of ho hd ?_ (fits_of_scanBound hb1))
  split
  · have pm := relayAll_perm t2 es1 (SetTable.grown es1.size)
    have f3 := relayAll_fits t2 es1 (SetTable.grown es1.size)
    have r3 := relayAll_ris t2 es1 (SetTable.grown es1.size)
    have l3 := relayAll_led t2 es1 (SetTable.grown es1.size)
    generalize relayAll t2 es1 (SetTable.grown es1.size) = Z at pm f3 r3 l3 ⊢
    obtain ⟨es2, t3, gv⟩ := Z
    dsimp only at pm f3 r3 l3 ⊢
    have z2 : es2.size = es1.size := by rw [← Array.length_toList, pm.length_eq, Array.length_toList]
    have hb2 : es2.size < scanBound := z2 ▸ hb1
    refine wpAny_bind (hg _ _ _ (wpAny_bind (wpAny_storeSet_of ho1 rfl ?_ (fits_of_scanBound hb2))))
    have ho2 := store_at (es' := es2) (t' := t3) ho1 rfl
    refine wpAny_pure (hR _ (sb1.trans (Heap.SameBut.update _ a _)) ?_)
    exact ⟨_, es2, _, t3, ho2, hex, rfl, fun e he => g1 e (pm.mem_iff.mp he), (pm.map kE).nodup_iff.mpr nd1, fun k => (m1 k).trans (pm.map kE).mem_iff.symm, hb2, f3, z2, r3,
      hl.imp id fun z => by rw [l3]; exact z⟩
  · exact wpAny_pure (hR _ sb1 ⟨_, es1, _, t2, ho1, hex, rfl, g1, nd1, m1, hb1, hf2, rfl, hr, hl⟩)
theorem setS_add {k : Str} {u : Tok} {Q : Bool → Shared → Prop} (R : SetS w s.heap a S n) (room : n + 1 < scanBound)
    (hQ : ∀ h', Heap.SameBut a s.heap h' → SetS w h' a (fun j => S j || decide (j = k)) (if S k = true then n else n + 1) → Q (!S k) { s with heap := h' }) :
    wpAny (model P w) A (setAddHashed a (.str k u) ((PySem.strKind P w).hash k)) Q E s := by
  obtain ⟨o, es, ep, t, ho, hex, hd, g, nd, hm, hb, hf, hn, hr, hl⟩ := R
  have key : (PySem.strKind P w).is k (.str k u) = true := strKind_is P w k u
  have sc : (Value.str k u).scannable = true := rfl
  have el : ElemsOf (PySem.strKind P w) es.toList := gd_elems g
  unfold setAddHashed setAddHashedIn
  refine wpAny_holding (wpAny_bind (wpAny_setState_of ho hd hf ?_))
  dsimp only
  rw [byScan_of sc hb el]
  simp only [↓reduceIte]
  unfold setAddByScan
  refine wpAny_bind (wpAny_bind (wpAny_rule (wpAny_bind (wpAny_setScan_of key ho hd hf el ?_))))
  cases hfi : List.findIdx? (fun e => (PySem.strKind P w).is k e.2) es.toList with
  | some j =>
    dsimp only
    obtain ⟨hj, pj, _⟩ := List.findIdx?_eq_some_iff_getElem.mp hfi
    have hSk : S k = true := (hm k).2 ((gd_mem (P := P) (w := w) g k).2 ⟨es.toList[j], List.getElem_mem hj, pj⟩)
    refine wpAny_pure (wpAny_pure ?_)
    have q := hQ s.heap (Heap.SameBut.refl a s.heap) ⟨o, es, ep, t, ho, hex, hd, g, nd, fun i => by
      rw [Bool.or_eq_true, decide_eq_true_eq, ← hm i]
      exact ⟨fun z => z.elim id (fun e => e ▸ hSk), .inl⟩, hb, hf, by rw [if_pos hSk]; exact hn, hr, hl⟩
    rw [hSk] at q
    exact q
  | none =>
    dsimp only
    have nk : k ∉ es.toList.map kE := fun z => by
      obtain ⟨e, he, q⟩ := (gd_mem (P := P) (w := w) g k).1 z
      have c := List.findIdx?_eq_none_iff.mp hfi e he
      rw [q] at c
      cases c
    have hSk : S k = false := Bool.eq_false_iff.mpr fun q => nk ((hm k).1 q)
    have gw : ∀ (b : Bool) {s1 : Shared} {Q1 : Unit → Shared → Prop}, Q1 () s1 → wpAny (model P w) A (match b with | true => rule "set.scan.the-table-gave-way" | false => pure ()) Q1 E s1 :=
      fun b s1 Q1 q => by cases b <;> first | exact wpAny_pure q | exact wpAny_rule q
    have pm := layNew_perm t es ((PySem.strKind P w).hash k) (.str k u)
    have f1 := layNew_fits t es ((PySem.strKind P w).hash k) (.str k u)
    have r1 := layNew_ris t es ((PySem.strKind P w).hash k) (.str k u) hr
    have l1 := layNew_led t es ((PySem.strKind P w).hash k) (.str k u)
    generalize layNew t es ((PySem.strKind P w).hash k) (.str k u) = Z at pm f1 r1 l1 ⊢
    obtain ⟨es1, t1, wd, gv⟩ := Z
    dsimp only at pm f1 r1 l1 ⊢
    rw [Array.toList_push] at pm
    have pc : es1.toList.Perm (((PySem.strKind P w).hash k, Value.str k u) :: es.toList) := pm.trans (List.perm_append_singleton _ _)
    have pk : (es1.toList.map kE).Perm (k :: es.toList.map kE) := pc.map kE
    have g1 : ∀ e ∈ es1.toList, GdE w e := fun e he => by
      rcases List.mem_cons.mp (pc.mem_iff.mp he) with z | z
      · rw [z]; exact ⟨k, u, rfl, rfl⟩
      · exact g e z
    have nd1 : (es1.toList.map kE).Nodup := pk.nodup_iff.mpr (List.nodup_cons.mpr ⟨nk, nd⟩)
    have m1 : ∀ i, (S i || decide (i = k)) = true ↔ i ∈ es1.toList.map kE := fun i => by
      rw [Bool.or_eq_true, decide_eq_true_eq, hm i, pk.mem_iff, List.mem_cons]
      exact Or.comm
    have sz1 : es1.size = n + 1 := by rw [← Array.length_toList, pc.length_eq, List.length_cons, Array.length_toList, hn]
    have hb1 : es1.size < scanBound := by rw [sz1]; exact room
    have led1 : w.params.followText "set-order" = true ∨ t1.led = true := hl.imp id fun z => by rw [l1]; exact z
    have fin : ∀ h', Heap.SameBut a s.heap h' → SetS w h' a (fun j => S j || decide (j = k)) es1.size → Q true { s with heap := h' } := fun h' sb r => by
      have q := hQ h' sb
      rw [hSk] at q
      rw [sz1] at r
      exact q r
    refine wpAny_bind (gw _ ?_)
    split
    · refine wpAny_bind ?_
      rw [hashByValue_scannable 8 sc]
      refine wpAny_pure (setS_tail ?_ ho hex hd g1 nd1 m1 hb1 ?_ ?_ ?_ ?_)
      · intro b s1 Q1 q; cases b <;> first | exact wpAny_pure q | exact wpAny_rule q
      · first | (split <;> first | exact f1 | exact SetTable.fits_plain_off f1) | exact f1
      · first | (split <;> exact r1) | exact r1
      · first | (split <;> exact led1) | exact led1
      · intro h' sb r; dsimp only; exact wpAny_pure (fin h' sb r)
    · refine wpAny_bind (wpAny_pure ?_)
      simp only [↓reduceIte]
      refine setS_tail ?_ ho hex hd g1 nd1 m1 hb1 f1 r1 led1 ?_
      · intro b s1 Q1 q; cases b <;> first | exact wpAny_pure q | exact wpAny_rule q
      · intro h' sb r; dsimp only; exact wpAny_pure (fin h' sb r)
theorem nd_len : ∀ (l m : List Str), l.Nodup → (∀ x ∈ l, x ∈ m) → l.length ≤ m.length
  | [], m, _, _ => Nat.zero_le _
  | x :: l, m, nd, h => by
    obtain ⟨h1, h2⟩ := List.nodup_cons.mp nd
    have hx := h x List.mem_cons_self
    have e := List.length_erase_of_mem hx
    have ih := nd_len l (m.erase x) h2 fun y hy => (List.mem_erase_of_ne (fun z : y = x => h1 (by rw [← z]; exact hy))).mpr (h y (List.mem_cons_of_mem _ hy))
    have := List.length_pos_of_mem hx
    rw [List.length_cons]
    omega
abbrev frs (w : World) : Obj := { cls := .type "set", dict := none, data := .set #[] 0 (.fresh 0 0 (!w.params.followText "set-order")) }
theorem setS_at0 {h : Heap} (ho : h.get? a = some (frs w)) : SetS w h a (fun _ => false) 0 :=
  ⟨_, #[], 0, _, ho, ⟨rfl, rfl, rfl⟩, rfl, (fun e he => by simp at he), (by simp), (fun k => by simp), (by decide), (by rfl), rfl, List.Pairwise.nil, by
    show _ ∨ (!w.params.followText "set-order") = true
    cases w.params.followText "set-order"
    · exact .inr rfl
    · exact .inl rfl⟩
/-- set.update's loop over texts -/
theorem upd_texts {I : Addr} {fp wr : List Addr} {G : Array GenState → Array GenState → Prop} {n : Nat} {Pv : Nat → Value → Prop} {St : Nat → Shared → Prop} {R : Result → Shared → Prop}
    (W : WalksS P w A.in1 I fp wr G n Pv St) (D : Addr) (nf : D ∉ fp) (xs : List Str) (hn : n = xs.length) (Ws : List Str) (hF : ∀ x ∈ xs, x ∈ Ws) (hb : Ws.length + 1 < scanBound) (hval : ∀ i v, Pv i v → ∃ k t, xs[i]? = some k ∧ v = .str k t) :
    ∀ (k i : Nat) (s : Shared), n - i = k → i ≤ n → St i s → (∃ c, c ≤ Ws.length ∧ SetS w s.heap D (fun j => decide (j ∈ xs.take i)) c) →
      (∀ s' c, Moved (D :: wr) G s s' → c ≤ Ws.length → SetS w s'.heap D (fun j => decide (j ∈ xs)) c → R (.ok (.ret .none)) s') →
      codeAny (model P w) A (.builtin "set.update.loop" ⟨[.ref D, .ref I], []⟩) R s := by
  have nw : D ∉ wr := fun h => nf (W.sub _ h)
  have sub : ∀ b ∈ wr, b ∈ D :: wr := fun b hb => List.mem_cons_of_mem _ hb
  intro k
  induction k with
  | zero =>
    intro i s hk hi hst ⟨c, hc, hS⟩ hR
    obtain rfl : i = n := by omega
    refine codeAny_builtin F.entry_set_update_loop ?_
    rw [Around.under_plainId F.plain_set_update_loop _]
    show wpAny _ A.in1 (pyNext (.ref I) >>= _) _ _ s
    refine wpAny_bind (W.done s _ _ hst fun s' hm => ?_)
    show wpAny _ A.in1 (ret Value.none) _ _ s'
    have e : xs.take i = xs := List.take_of_length_le (by omega)
    rw [e] at hS
    exact wpAny_pure (hR s' c (hm.mono sub) hc (hS.at fun o e => hm.heap D o nw e))
  | succ k ih =>
    intro i s hk hi hst ⟨c, hc, hS⟩ hR
    have lt : i < n := by omega
    refine codeAny_builtin F.entry_set_update_loop ?_
    rw [Around.under_plainId F.plain_set_update_loop _]
    show wpAny _ A.in1 (pyNext (.ref I) >>= _) _ _ s
    refine wpAny_bind (W.item i s _ _ lt hst fun v s' hP hst2 hm => ?_)
    obtain ⟨z, t, hz, rfl⟩ := hval i v hP
    have hS2 : SetS w s'.heap D (fun j => decide (j ∈ xs.take i)) c := hS.at fun o e => hm.heap D o nw e
    show wpAny _ A.in1 (holding [Value.str z t] (setAdd D (.str z t)) >>= _) _ _ s'
    unfold setAdd
    refine wpAny_bind (wpAny_holding (wpAny_holding (wpAny_bind ((PySem.strKind P w).pyHash (k := z) (strKind_is _ _ _ _) ?_))))
    refine setS_add (s := { s' with toks := s'.toks + 1 }) hS2 (by omega) fun h' hsb hS3 => ?_
    have hS4 : SetS w h' D (fun j => decide (j ∈ xs.take (i + 1))) (if decide (z ∈ xs.take i) = true then c else c + 1) := hS3.congr fun j => by
      rw [List.take_add_one, hz]
      simp [List.mem_append]
    have hc4 : (if decide (z ∈ xs.take i) = true then c else c + 1) ≤ Ws.length := by
      obtain ⟨o, es, ep, t4, _, _, _, _, nd4, m4, _, _, n4, _⟩ := hS4
      rw [← n4, ← Array.length_toList, ← List.length_map (f := kE)]
      exact nd_len _ Ws nd4 fun x hx => hF x (List.mem_of_mem_take (of_decide_eq_true ((m4 x).2 hx)))
    refine wpAny_pure ⟨plainId_quiet F.plain_set_update_loop _, ih (i + 1) _ (by omega) lt (W.frame _ s' _ _ hst2 (Nat.le_succ _) fun b hb o e => ?_) ⟨_, hc4, hS4⟩ fun s3 c2 hm3 hc3 hS5 => ?_⟩
    · rw [hsb.2 b (fun h : b = D => nf (by rw [← h]; exact hb))]; exact e
    · refine hR s3 c2 (Moved.trans W.gtrans ((hm.mono sub).then_heap (Nat.le_succ _) fun b o hb e => ?_) hm3) hc3 hS5
      rw [hsb.2 b (fun h : b = D => hb (by rw [h]; exact List.mem_cons_self))]; exact e
end
end XT
set_option Elab.async false
set_option linter.all false
set_option maxRecDepth 100000
set_option maxHeartbeats 400000
namespace XT
open PySem PySem.Spec PyProof.Rows L2
/-! ### set(x): the call up to its update -/
section
variable {P : Program} {w : World} {A : Around} {E : Value → Shared → Prop} {s : Shared}
set_option maxHeartbeats 3200000 in
theorem call_set_by {x : Value} {Q : Value → Shared → Prop}
    (core : ∀ (A1 : Around) (E1 : Value → Shared → Prop) (Q1 : Unit → Shared → Prop), A1.handled = A.handled → (∀ s2, Q (.ref s.heap.objs.size) s2 → Q1 () s2) →
      wpAny (model P w) A1 (Builtin.Frozenset.updateFrom "set.__init__" s.heap.objs.size x) Q1 E1 { s with heap := s.heap.push (frs w) }) :
    wpAny (model P w) A (call (.type "set") [x]) Q E s := by
  obtain ⟨c, tl, hmro⟩ := F.called_set.mro
  have mk := F.called_set.made
  have sb := F.called_set.sub
  refine wpAny_call (codeAny_of_tree ?_)
  show wpAny _ _ (callAny (.type "set") _) _ _ _
  refine wpAny_pure ⟨Code.quiet_builtin _ (by decide +kernel), codeAny_builtin F.entry_type_call ?_⟩
  rw [Around.under_plain (weight_type_call_type "set" [x] []) rfl]
  have n1 := F.called_set.notType
  have n2 := F.called_set.canCreate
  have ct := F.typeCall_set_1 x
  repeat (any_goals (first | assumption | wp_step))
  refine codeAny_mono (code_set_led1 x (E := E) (Q₁ := fun obj s1 => obj = .ref s.heap.objs.size ∧ s1 = { s with heap := s.heap.push (frs w) }) ⟨rfl, rfl⟩) fun r s1 hr => ?_
  cases r with
  | error e => exact hr
  | ok fl =>
    cases fl with
    | ret obj =>
      obtain ⟨rfl, rfl⟩ := hr
      have hS : (s.heap.push (frs w)).get? s.heap.objs.size = some (frs w) := Heap.get?_push_size _ rfl
      have hT : Shared.TypeIs { s with heap := s.heap.push (frs w) } (.ref s.heap.objs.size) "set" := ⟨_, hS, rfl⟩
      have li := F.called_set.init.lookup
      have bi := F.called_set.init.bind (.ref s.heap.objs.size)
      repeat (any_goals (first | assumption | wp_step))
      refine codeAny_mono (codeAny_call_builtin (R := wants (fun r s2 => r = .none ∧ Q (.ref s.heap.objs.size) s2) E) F.called_set.init.plain F.entry_set_init (check_set_init_1 hT ?_)) fun r2 s2 hr2 => ?_
      · unfold Builtin.«set.__init__» noKeywords
        generalize hU : Builtin.Frozenset.updateFrom "set.__init__" = U
        wp_walk
        subst hU
        refine core _ _ _ (by simp) fun s2 q => ?_
        show wpAny _ _ (ret Value.none) _ _ _
        exact wpAny_pure ⟨rfl, q⟩
      · cases r2 with
        | error e => exact hr2
        | ok fl2 =>
          cases fl2 with
          | ret r =>
            obtain ⟨rfl, q⟩ := hr2
            repeat (any_goals (first | assumption | wp_step))
          | _ => exact hr2.elim
    | _ => exact hr.elim
end
end XT
set_option Elab.async false
set_option linter.all false
set_option maxRecDepth 100000
set_option maxHeartbeats 800000
namespace XT
open PySem PySem.Spec PyProof.Rows L2
/-- the signs of a text, each a text -/
def sgs (x : Str) : List Str := x.cps.toList.map fun c => ⟨#[c]⟩
theorem sgs_at {x : Str} {i c : Nat} (h : x.cps[i]? = some c) : (sgs x)[i]? = some ⟨#[c]⟩ := by
  unfold sgs
  rw [List.getElem?_map, Array.getElem?_toList, h]
  rfl
theorem sgs_len (x : Str) : x.cps.size = (sgs x).length := by simp [sgs]
section
variable {P : Program} {w : World} {A : Around} {E : Value → Shared → Prop} {s : Shared}
/-- set(text) -/
theorem call_set_str {x : Str} {u : Tok} (Ws : List Str) {Q : Value → Shared → Prop} (hh : A.handled = none) (hW : ∀ y ∈ sgs x, y ∈ Ws) (hb : Ws.length + 1 < scanBound)
    (h : ∀ (h' : Heap) (tk c : Nat), SetS w h' s.heap.objs.size (fun j => decide (j ∈ sgs x)) c → c ≤ Ws.length → (∀ b o, s.heap.get? b = some o → h'.get? b = some o) → Q (.ref s.heap.objs.size) { s with heap := h', toks := tk }) :
    wpAny (model P w) A (call (.type "set") [.str x u]) Q E s := by
  refine call_set_by fun A1 E1 Q1 h1 hq => ?_
  have hh1 : A1.handled = none := h1.trans hh
  have hS : (s.heap.push (frs w)).get? s.heap.objs.size = some (frs w) := Heap.get?_push_size _ rfl
  unfold Builtin.Frozenset.updateFrom
  refine wpAny_bind (Fz.anySet ?_)
  simp only [Bool.false_eq_true, if_false]
  refine wpAny_bind (wpAny_typeOf (typeIs_str _ _ _) ?_)
  rw [show (Value.type "str" == Value.type "dict") = false by decide]
  simp only [Bool.false_eq_true, if_false]
  refine wpAny_bind (wpAny_pyIter_strU ?_)
  have z1 : (s.heap.push (frs w)).objs.size = s.heap.objs.size + 1 := Heap.size_push ..
  have go : ∀ {St : Nat → Heap → Prop}, Walks P w A1.in1 (s.heap.push (frs w)).objs.size [(s.heap.push (frs w)).objs.size] [(s.heap.push (frs w)).objs.size] x.cps.size (SignAt x) St →
      St 0 ((s.heap.push (frs w)).push { cls := .type (strIterType x), data := .fields #[.str x u, .int 0 0] }) →
      wpAny (model P w) A1 (runValue (.builtin "set.update.loop" ⟨[.ref s.heap.objs.size, .ref (s.heap.push (frs w)).objs.size], []⟩) >>= fun _ => pure ()) Q1 E1
        { s with heap := (s.heap.push (frs w)).push { cls := .type (strIterType x), data := .fields #[.str x u, .int 0 0] } } := by
    intro St W h0
    refine wpAny_bind (wpAny_runValue ?_)
    have ns : s.heap.objs.size ∉ [(s.heap.push (frs w)).objs.size] := by
      rw [z1, List.mem_singleton]
      omega
    refine upd_texts W.toS s.heap.objs.size ns (sgs x) (sgs_len x) Ws hW hb (fun i v hv => ?_) (x.cps.size - 0) 0 _ (by omega) (Nat.zero_le _) h0 ⟨0, Nat.zero_le _, ?_⟩ fun s' c' hm hc' hS' => ?_
    · obtain ⟨c, t, hc, rfl⟩ := hv
      exact ⟨_, t, sgs_at hc, rfl⟩
    · exact (setS_at0 (Heap.get?_push_of_some _ hS)).congr fun k => by simp
    · obtain ⟨h', g2, d', tk', os'⟩ := s'
      obtain rfl : g2 = s.gens := hm.gens
      obtain rfl : d' = s.drawn := hm.drawn
      obtain rfl : os' = s.os := hm.os
      refine wpAny_pure (hq _ (h h' tk' c' hS' hc' fun b o e => ?_))
      have b0 : b < s.heap.objs.size := Heap.lt_size e
      refine hm.heap b o (fun hb2 => ?_) (Heap.get?_push_of_some _ (Heap.get?_push_of_some _ e))
      rcases List.mem_cons.mp hb2 with z | z
      · exact Nat.ne_of_lt b0 z
      · rw [z1, List.mem_singleton] at z
        exact Nat.ne_of_lt (Nat.lt_succ_of_lt b0) z
  unfold strIterType at *
  cases ha : x.cps.all (· < 128)
  · rw [ha] at go
    exact go (Walks.strWide (A := A1.in1) hh1 _ x u) ⟨_, Heap.get?_push_size _ rfl, rfl, rfl⟩
  · rw [ha] at go
    exact go (Walks.strAscii (A := A1.in1) hh1 _ x u) ⟨_, Heap.get?_push_size _ rfl, rfl, rfl⟩
/-- set(list of ints) -/
theorem call_set_ints {l : Addr} {its : Array Value} (ns : List Int) {Q : Value → Shared → Prop} (hh : A.handled = none) (hl : s.heap.IsList l its) (hi : IntsAre its.toList ns) (hb : ns.length + 1 < scanBound)
    (h : ∀ (h' : Heap) (tk c : Nat), SetR w h' s.heap.objs.size (fun j => decide (j ∈ ns)) c → c ≤ ns.length → (∀ b o, s.heap.get? b = some o → h'.get? b = some o) → Q (.ref s.heap.objs.size) { s with heap := h', toks := tk }) :
    wpAny (model P w) A (call (.type "set") [.ref l]) Q E s := by
  have zi : its.size = ns.length := by
    have q := IntsAre.length hi
    rw [Array.length_toList] at q
    exact q
  refine call_set_by fun A1 E1 Q1 h1 hq => ?_
  have hh1 : A1.handled = none := h1.trans hh
  have hS : (s.heap.push (frs w)).get? s.heap.objs.size = some (frs w) := Heap.get?_push_size _ rfl
  have z1 : (s.heap.push (frs w)).objs.size = s.heap.objs.size + 1 := Heap.size_push ..
  have hl1 : (s.heap.push (frs w)).IsList l its := hl.push _
  have lS : l < s.heap.objs.size := by
    obtain ⟨o, ho, _⟩ := hl
    exact Heap.lt_size ho
  unfold Builtin.Frozenset.updateFrom Builtin.Frozenset.isAnySet orM
  refine wpAny_bind (wpAny_bind (wpAny_isInstance hl1.typeIs F.sub_list_set ?_))
  refine wpAny_isInstance hl1.typeIs F.sub_list_frozenset ?_
  simp only [Bool.false_eq_true, if_false]
  refine wpAny_bind (wpAny_typeOf hl1.typeIs ?_)
  rw [show (Value.type "list" == Value.type "dict") = false by decide]
  simp only [Bool.false_eq_true, if_false]
  refine wpAny_bind (wpAny_pyIter_list hl1 (wpAny_bind (wpAny_runValue ?_)))
  have ne : l ≠ (s.heap.push (frs w)).objs.size := by
    rw [z1]
    exact Nat.ne_of_lt (Nat.lt_succ_of_lt lS)
  have nS : s.heap.objs.size ∉ [(s.heap.push (frs w)).objs.size, l] := by
    rw [z1]
    intro z
    rcases List.mem_cons.mp z with z | z
    · exact Nat.ne_of_lt (Nat.lt_succ_self _) z
    · rw [List.mem_singleton] at z
      exact Nat.ne_of_gt lS z
  have hval : ∀ (i : Nat) (v : Value), its[i]? = some v → ∃ k t, ns[i]? = some k ∧ v = .int k t := fun i v hv => by
    have li : i < ns.length := by rw [← zi]; exact (Array.getElem?_eq_some_iff.mp hv).1
    obtain ⟨t, e⟩ := PyProof.Rows.IntsAre.int_at hi i v (by rw [Array.getElem?_toList]; exact hv)
    refine ⟨ns[i], t, List.getElem?_eq_getElem li, ?_⟩
    rw [e, List.getD_eq_getElem?_getD, List.getElem?_eq_getElem li] <;> rfl
  refine set_update_ints ((Walks.list (A := A1.in1) hh1 _ l ne its).toS) s.heap.objs.size nS ns zi hb hval (its.size - 0) 0 _ (by omega) (Nat.zero_le _) ⟨⟨_, Heap.get?_push_size _ rfl, rfl, rfl⟩, hl1.push _⟩ ⟨0, Nat.le_refl 0, setR_new_at (Heap.get?_push_of_some _ hS)⟩ fun s' c' hm hc' hS' => ?_
  obtain ⟨h', g2, d', tk', os'⟩ := s'
  obtain rfl : g2 = s.gens := hm.gens
  obtain rfl : d' = s.drawn := hm.drawn
  obtain rfl : os' = s.os := hm.os
  refine wpAny_pure (hq _ (h h' tk' c' hS' (by omega) fun b o e => ?_))
  have b0 : b < s.heap.objs.size := Heap.lt_size e
  refine hm.heap b o (fun hb2 => ?_) (Heap.get?_push_of_some _ (Heap.get?_push_of_some _ e))
  rcases List.mem_cons.mp hb2 with z | z
  · exact Nat.ne_of_lt b0 z
  · rw [z1, List.mem_singleton] at z
    exact Nat.ne_of_lt (Nat.lt_succ_of_lt b0) z
end
/-! ### in the hand layer -/
def SetSO (w : World) (a : Addr) (S : Str → Bool) (n : Nat) : HO := .ext fun h => SetS w h a S n
section
variable {X : Cx}
theorem setSO_new {w : World} {P : Program} {H : Hp} {h : Heap} {a : Addr} {S : Str → Bool} {n : Nat} (R : SetS w h a S n) : ObjOk P w H h a (SetSO w a S n) := by
  have ⟨o, _, _, _, ho, _⟩ := R
  exact ⟨R, ⟨o, ho⟩, fun h1 h2 p k => SetS.at p k⟩
/-- set(text), set(list of ints) -/
def rSetStr (w : World) : List L2.V → Hp → VK → Prop := fun vs H Q => ∃ (x : Str) (Ws : List Str), vs = [.str x] ∧ (∀ y ∈ sgs x, y ∈ Ws) ∧ Ws.length < 1000 ∧ ∀ (p : Addr) (c : Nat), H p = none → c ≤ Ws.length → Q (.ref p) (upd H p (SetSO w p (fun j => decide (j ∈ sgs x)) c))
def rSetLI (K : PySem.W.Frag) (w : World) : List L2.V → Hp → VK → Prop := fun vs H Q => ∃ (a : Addr) (ns : List Int), vs = [.ref a] ∧ SqL K H a (ns.map V.int) ∧ ns.length < 1000 ∧ ∀ (p : Addr) (c : Nat), H p = none → c ≤ ns.length → Q (.ref p) (upd H p (SetO w p (fun j => decide (j ∈ ns)) c))
theorem scan1000 {n : Nat} (h : n < 1000) : n + 1 < scanBound := by
  unfold scanBound
  omega
theorem cr_setStr (hc : X.calm = true) : CallR X (.type "set") (rSetStr X.w) := by
  intro pins s σ H vs us Q I r h
  obtain ⟨x, Ws, rfl, hW, hb, q⟩ := h
  cases r with
  | cons r t =>
    cases t
    obtain ⟨tk, rfl⟩ := r
    refine call_set_str Ws (I.ok.hd hc) hW (scan1000 hb) fun h' tk c R hc k => ?_
    exact ⟨.ref _, upd H s.heap.objs.size (SetSO X.w s.heap.objs.size (fun j => decide (j ∈ sgs x)) c), I.laid (t' := tk) k (Nat.le_refl _) (setSO_new R), rfl, q _ c (I.hok.fresh (Nat.le_refl _)) hc⟩
theorem cr_setLI (hc : X.calm = true) : CallR X (.type "set") (rSetLI X.K X.w) := by
  intro pins s σ H vs us Q I r h
  obtain ⟨a, ns, rfl, hs, hb, q⟩ := h
  obtain ⟨its, rv, hl, _⟩ := I.list hs
  rw [Vals.ref1 r]
  refine call_set_ints ns (I.ok.hd hc) hl.isList (by simpa using rv.ints) (scan1000 hb) fun h' tk c R hc k => ?_
  exact ⟨.ref _, upd H s.heap.objs.size (SetO X.w s.heap.objs.size (fun j => decide (j ∈ ns)) c), I.laid (t' := tk) k (Nat.le_refl _) (setO_new R), rfl, q _ c (I.hok.fresh (Nat.le_refl _)) hc⟩
end
end XT
set_option Elab.async false
set_option linter.all false
set_option maxRecDepth 100000
set_option maxHeartbeats 800000
namespace XT
open PySem PySem.Spec PyProof.Rows L2
theorem strs_kS : ∀ (l : List Value), (∀ v ∈ l, ∃ k u, v = Value.str k u) → StrsAre l (l.map kS)
  | [], _ => .nil
  | v :: l, h => by
    obtain ⟨k, u, rfl⟩ := h v List.mem_cons_self
    exact .cons k u (strs_kS l fun y hy => h y (List.mem_cons_of_mem _ hy))
section
variable {P : Program} {w : World} {A : Around} {E : Value → Shared → Prop} {s : Shared} {a : Addr}
/-- sorted(set of texts) -/
theorem sorted_setS {S : Str → Bool} {n : Nat} {Q : Value → Shared → Prop} (R : SetS w s.heap a S n) (hh : A.handled = none) (h64 : n < 64)
    (hQ : ∀ s' p (out : Array Value) (c : Nat) (ks : List Str), (∀ b o, s.heap.get? b = some o → s'.heap.get? b = some o) → s'.gens = s.gens → s'.os = s.os → s.heap.objs.size ≤ p →
      s'.heap.get? p = some (seqObj "list" out c) → StrsAre out.toList ks → ks.Nodup → sortedS ks = true → (∀ k, k ∈ ks ↔ S k = true) → ks.length = n → Q (.ref p) s') :
    wpAny (model P w) A (call (.builtin "sorted") [.ref a]) Q E s := by
  obtain ⟨o, es, ep, t, ho, hex, hd, g, nd, hm, hb, hf, hn, hr, hl⟩ := R
  refine Calls.call_function_entry kind_sorted plain_sorted entry_sorted (args_sorted1 _) ?_
  unfold Builtin.«sorted»
  refine wpAny_bind (m := checkCount "sorted" 1 1 _) (wpAny_pure (wpAny_bind (collect_set (A := A.in1) hh ⟨o, ho, hex.1, hd⟩ hf hb hr hl fun s1 vs k1 hz g1 o1 pm => ?_)))
  have vl : vs.length = n := by rw [pm.length_eq, List.length_map, Array.length_toList]; exact hn
  have hI : StrsAre vs (vs.map kS) := strs_kS vs fun v hv => by
    obtain ⟨e, he, q⟩ := List.mem_map.mp (pm.mem_iff.mp hv)
    obtain ⟨k, u, h1, _⟩ := g e he
    exact ⟨k, u, by rw [← q]; exact h1⟩
  have pk : (vs.map kS).Perm (es.toList.map kE) := by
    have q := pm.map kS
    rw [List.map_map] at q
    exact q
  refine wpAny_bind (wpAny_newList ?_ (by rw [vl, sizeLine_eq]; omega))
  have hoL : (s1.heap.push (seqObj "list" vs.toArray 0)).get? s1.heap.objs.size = some (seqObj "list" vs.toArray 0) := Heap.get?_push_size _ rfl
  refine wpAny_bind (wpAny_holding (wpAny_call_entry slot_list_sort ⟨_, hoL, rfl⟩ entry_list_sort (list_sort_treeK strKind_oneLt hoL hI.keysOf (fun v1 v2 rest e => keyKind_strs (by rw [← e]; exact hI)) (by rw [vl]; exact h64) fun st2 a1 a2 => ⟨_, rfl, ?_⟩) (args_list_sort _)))
  obtain ⟨ks, b1, b2, b3⟩ := sorted_out_str hI a1 a2
  obtain ⟨c, hc⟩ := sortedHeap_at (vs := vs) (out := (arrOf st2).map (·.2)) hoL
  have pn : ks.Perm (es.toList.map kE) := b2.trans pk
  refine wpAny_pure ⟨_, rfl, hQ _ s1.heap.objs.size ((arrOf st2).map (·.2)) c ks (fun b u e => ?_) g1 o1 hz hc b1 (pn.nodup_iff.mpr nd) b3 (fun k => by rw [pn.mem_iff, ← hm k]) ?_⟩
  · have q := k1 b u e
    have lt := Heap.lt_size q
    show (sortedHeap (s1.heap.push (seqObj "list" vs.toArray 0)) s1.heap.objs.size vs ((arrOf st2).map (·.2))).get? b = some u
    rw [sortedHeap_old (Nat.ne_of_lt lt) (by rw [size_push']; exact Nat.lt_succ_of_lt lt)]
    exact Heap.get?_push_of_some _ q
  · rw [pn.length_eq, List.length_map, Array.length_toList]; exact hn
end
section
variable {X : Cx}
def rSortedSS (w : World) : List L2.V → Hp → VK → Prop := fun vs H Q => ∃ (a : Addr) (S : Str → Bool) (n : Nat), vs = [V.ref a] ∧ H a = some (SetSO w a S n) ∧ n < 64 ∧
  ∀ (ks : List Str) (p : Addr), ks.Nodup → sortedS ks = true → (∀ k : Str, k ∈ ks ↔ S k = true) → ks.length = n → H p = none → Q (.ref p) (upd H p (.lst (ks.map V.str)))
theorem cr_sortedSS (hc : X.calm = true) : CallR X (.builtin "sorted") (rSortedSS X.w) := by
  intro pins s σ H vs us Q I r h
  obtain ⟨a, S, n, rfl, ha, h64, q⟩ := h
  have R : SetS X.w s.heap a S n := (I.hok a _ ha).1
  rw [Vals.ref1 r]
  refine sorted_setS R (I.ok.hd hc) h64 fun s' p out c ks k g o hp hg hi hd hs hm hl => ?_
  have le : (ks.map V.str).length ≤ sizeLine := by rw [List.length_map, hl, sizeLine_eq]; omega
  have hn : H p = none := I.hok.fresh hp
  have J : Inv X pins σ (upd H p (.lst (ks.map V.str))) { s with heap := s'.heap, gens := s'.gens, drawn := s'.drawn, toks := s'.toks } :=
    I.call (ch := []) (Un.laid k hp hn) (I.hok.laid k hp ⟨le, out.toList, c, vals_of_strs hi, hg⟩) (by rw [g]; exact I.bare) (fun _ z => nomatch z)
  have e : s' = { s with heap := s'.heap, gens := s'.gens, drawn := s'.drawn, toks := s'.toks } := by
    cases s'
    cases s
    cases o
    rfl
  rw [e]
  exact ⟨.ref p, _, J, rfl, q ks p hd hs hm hl hn⟩
end
/-! ### the texts of one sign each, in order -/
theorem ltc1 (a b : Nat) : ltCps [a] [b] = decide (a < b) := by
  rw [ltCps_eq]
  apply decide_eq_decide.mpr
  constructor
  · intro h
    cases h with
    | rel h => exact h
    | cons h => cases h
  · exact fun h => List.Lex.rel h
/-- rising, strictly -/
def riseN : List Nat → Bool
  | [] => true
  | a :: r => (match r with
    | [] => true
    | b :: _ => decide (a < b)) && riseN r
theorem riseN_iff : ∀ l : List Nat, riseN l = true ↔ l.Pairwise (· < ·)
  | [] => by simp [riseN]
  | [a] => by simp [riseN]
  | a :: b :: r => by
    have ih := riseN_iff (b :: r)
    show (decide (a < b) && riseN (b :: r)) = true ↔ _
    rw [Bool.and_eq_true, decide_eq_true_eq, ih, List.pairwise_cons (a := a)]
    constructor
    · rintro ⟨h1, h2⟩
      refine ⟨fun x hx => ?_, h2⟩
      rcases List.mem_cons.mp hx with rfl | hx
      · exact h1
      · exact Nat.lt_trans h1 ((List.pairwise_cons.mp h2).1 x hx)
    · exact fun h => ⟨h.1 b List.mem_cons_self, h.2⟩
def sg (c : Nat) : Str := ⟨#[c]⟩
theorem sg_inj {a b : Nat} (h : sg a = sg b) : a = b := by
  have q : [a] = [b] := congrArg (fun y : Str => y.cps.toList) h
  exact (List.cons.inj q).1
theorem risingS_sg : ∀ (p : Nat) (ds : List Nat), risingS (sg p) (ds.map sg) = true → (p :: ds).Nodup → (p :: ds).Pairwise (· < ·)
  | _, [], _, _ => List.pairwise_singleton _ _
  | p, d :: ds, h, nd => by
    have h : (!ltCps [d] [p] && risingS (sg d) (ds.map sg)) = true := h
    rw [Bool.and_eq_true, ltc1] at h
    obtain ⟨h1, h2⟩ := h
    have h1 : ¬ d < p := fun z => by
      rw [decide_eq_true z] at h1
      cases h1
    obtain ⟨n1, n2⟩ := List.nodup_cons.mp nd
    have ih := risingS_sg d ds h2 n2
    have ne : p ≠ d := fun z => n1 (z ▸ List.mem_cons_self)
    refine List.pairwise_cons.mpr ⟨fun x hx => ?_, ih⟩
    rcases List.mem_cons.mp hx with rfl | hx
    · omega
    · have := (List.pairwise_cons.mp ih).1 x hx
      omega
theorem sortedS_sg (ds : List Nat) (h : sortedS (ds.map sg) = true) (nd : ds.Nodup) : ds.Pairwise (· < ·) := by
  cases ds with
  | nil => exact List.Pairwise.nil
  | cons d ds => exact risingS_sg d ds h nd
theorem of_sgs : ∀ (ks : List Str), (∀ k ∈ ks, ∃ c, k = sg c) → ∃ ds : List Nat, ks = ds.map sg
  | [], _ => ⟨[], rfl⟩
  | k :: ks, h => by
    obtain ⟨c, rfl⟩ := h k List.mem_cons_self
    obtain ⟨ds, rfl⟩ := of_sgs ks fun x hx => h x (List.mem_cons_of_mem _ hx)
    exact ⟨c :: ds, rfl⟩
theorem same_of_rise {a b : List Nat} (ha : a.Pairwise (· < ·)) (hb : b.Pairwise (· < ·)) (m : ∀ x, x ∈ a ↔ x ∈ b) : a = b := by
  have na : a.Nodup := ha.imp fun h => Nat.ne_of_lt h
  have nb : b.Nodup := hb.imp fun h => Nat.ne_of_lt h
  have p : a.Perm b := (List.perm_ext_iff_of_nodup na nb).mpr m
  exact List.Perm.eq_of_pairwise (fun x y _ _ h1 h2 => absurd h1 (Nat.lt_asymm h2)) ha hb p
/-- the members of a text, in order: as the text itself just if it rises -/
theorem sorted_sgs {x : Str} {ks : List Str} (nd : ks.Nodup) (hs : sortedS ks = true) (hm : ∀ k : Str, k ∈ ks ↔ decide (k ∈ sgs x) = true) :
    ∃ ds : List Nat, ks = ds.map sg ∧ ds.Pairwise (· < ·) ∧ decide (ds = x.cps.toList) = riseN x.cps.toList := by
  obtain ⟨ds, rfl⟩ := of_sgs ks fun k hk => by
    obtain ⟨c, _, e⟩ := List.mem_map.mp (of_decide_eq_true ((hm k).1 hk))
    exact ⟨c, e.symm⟩
  have nd2 : ds.Nodup := by
    rw [List.Nodup, List.pairwise_map] at nd
    exact nd.imp fun h z => h (congrArg sg z)
  have pw := sortedS_sg ds hs nd2
  refine ⟨ds, rfl, pw, ?_⟩
  apply Bool.eq_iff_iff.mpr
  rw [decide_eq_true_eq, riseN_iff]
  refine ⟨fun e => e ▸ pw, fun h => same_of_rise pw h fun c => ?_⟩
  constructor
  · intro hc
    obtain ⟨c2, h2, e⟩ := List.mem_map.mp (of_decide_eq_true ((hm (sg c)).1 (List.mem_map_of_mem hc)))
    rw [← sg_inj e]
    exact h2
  · intro hc
    have : sg c ∈ ds.map sg := (hm (sg c)).2 (decide_eq_true (List.mem_map_of_mem (f := sg) hc))
    obtain ⟨c2, h2, e⟩ := List.mem_map.mp this
    rw [← sg_inj e]
    exact h2
end XT
set_option Elab.async false
set_option linter.all false
set_option maxRecDepth 100000
set_option maxHeartbeats 4000000
/-! What pieces write, and that the normal ones write the same: of lists, no program. -/
namespace NP
section
variable {α : Type}
/-- w, n times -/
def pw (w : List α) (n : Nat) : List α := (List.replicate n w).flatten
theorem pw_zero (w : List α) : pw w 0 = [] := rfl
theorem pw_succ (w : List α) (n : Nat) : pw w (n + 1) = w ++ pw w n := by
  unfold pw
  rw [List.replicate_succ, List.flatten_cons]
theorem pw_one (w : List α) : pw w 1 = w := by rw [pw_succ, pw_zero, List.append_nil]
theorem pw_nil (n : Nat) : pw ([] : List α) n = [] := by
  induction n with
  | zero => rfl
  | succ n ih => rw [pw_succ, ih]; rfl
theorem pw_len (w : List α) (n : Nat) : (pw w n).length = n * w.length := by
  induction n with
  | zero => simp [pw_zero]
  | succ n ih => rw [pw_succ, List.length_append, ih, Nat.succ_mul, Nat.add_comm]
theorem pw_add (w : List α) (m n : Nat) : pw w (m + n) = pw w m ++ pw w n := by
  induction m with
  | zero => rw [Nat.zero_add, pw_zero, List.nil_append]
  | succ m ih => rw [Nat.succ_add, pw_succ, pw_succ, ih, List.append_assoc]
theorem pw_mul (w : List α) (m n : Nat) : pw (pw w m) n = pw w (m * n) := by
  induction n with
  | zero => rfl
  | succ n ih => rw [pw_succ, ih, ← pw_add, Nat.mul_succ, Nat.add_comm]
theorem pw_snoc (w : List α) (n : Nat) : pw w (n + 1) = pw w n ++ w := by rw [pw_add, pw_one]
/-- a letter moved over a power -/
theorem pw_swap (a b : List α) (v : Nat) : pw (a ++ b) v ++ a = a ++ pw (b ++ a) v := by
  induction v with
  | zero => simp [pw_zero]
  | succ v ih => rw [pw_succ, List.append_assoc, ih, pw_succ]; simp [List.append_assoc]
theorem pw_rev (w : List α) (n : Nat) : (pw w n).reverse = pw w.reverse n := by
  induction n with
  | zero => rfl
  | succ n ih => rw [pw_snoc, List.reverse_append, ih, pw_succ]
theorem pw_get (w : List α) : ∀ (n i : Nat), i < n * w.length → (pw w n)[i]? = w[i % w.length]? := by
  intro n
  induction n with
  | zero => intro i h; simp at h
  | succ n ih =>
    intro i h
    rw [pw_succ]
    by_cases c : i < w.length
    · rw [List.getElem?_append_left c, Nat.mod_eq_of_lt c]
    · rw [List.getElem?_append_right (by omega), ih _ (by rw [Nat.succ_mul] at h; omega)]
      congr 1
      rw [Nat.mod_eq_sub_mod (by omega : w.length ≤ i)]
/-! ### the root of a word -/
/-- w stands in w ++ w at p -/
def At (w : List α) (p : Nat) : Prop := ((w ++ w).drop p).take w.length = w
/-- turning w by p changes nothing -/
def Turn (w : List α) (p : Nat) : Prop := ∀ i, i < w.length → w[(i + p) % w.length]? = w[i]?
theorem turn_of_at {w : List α} {p : Nat} (hp : p ≤ w.length) (h : At w p) : Turn w p := by
  intro i hi
  have e := congrArg (fun l => l[i]?) h
  simp only [List.getElem?_take, List.getElem?_drop, hi, if_true] at e
  rw [← e]
  by_cases c : p + i < w.length
  · rw [List.getElem?_append_left c, Nat.add_comm i p, Nat.mod_eq_of_lt c]
  · rw [List.getElem?_append_right (by omega), Nat.add_comm i p, Nat.mod_eq_sub_mod (by omega), Nat.mod_eq_of_lt (by omega)]
theorem at_of_turn {w : List α} {p : Nat} (hp : p ≤ w.length) (h : Turn w p) : At w p := by
  unfold At
  apply List.ext_getElem?
  intro i
  by_cases hi : i < w.length
  · simp only [List.getElem?_take, List.getElem?_drop, hi, if_true]
    rw [← h i hi]
    by_cases c : p + i < w.length
    · rw [List.getElem?_append_left c, Nat.add_comm i p, Nat.mod_eq_of_lt c]
    · rw [List.getElem?_append_right (by omega), Nat.add_comm i p, Nat.mod_eq_sub_mod (by omega), Nat.mod_eq_of_lt (by omega)]
  · rw [List.getElem?_eq_none (by rw [List.length_take]; omega), List.getElem?_eq_none (by omega)]
theorem turn_all (w : List α) : Turn w w.length := by
  intro i hi
  rw [Nat.add_mod_right, Nat.mod_eq_of_lt hi]
theorem turn_add {w : List α} {p q : Nat} (h1 : Turn w p) (h2 : Turn w q) : Turn w (p + q) := by
  intro i hi
  have pos : 0 < w.length := by omega
  have z := h2 ((i + p) % w.length) (Nat.mod_lt _ pos)
  rw [Nat.mod_add_mod, Nat.add_assoc] at z
  rw [z]
  exact h1 i hi
theorem turn_mul {w : List α} {p : Nat} (h : Turn w p) : ∀ k, Turn w (k * p)
  | 0 => by
    intro i hi
    rw [Nat.zero_mul, Nat.add_zero, Nat.mod_eq_of_lt hi]
  | k + 1 => by
    rw [Nat.succ_mul]
    exact turn_add (turn_mul h k) h
theorem turn_rest {w : List α} {p r k : Nat} (h : Turn w p) (e : w.length = k * p + r) : Turn w r := by
  intro i hi
  have pos : 0 < w.length := by omega
  rw [← turn_mul h k _ (Nat.mod_lt (i + r) pos), Nat.mod_add_mod]
  rw [show i + r + k * p = i + w.length by omega]
  exact turn_all w i hi
/-- the least place p at which w stands in w ++ w: w is a power of its first p letters -/
theorem root_power {w : List α} {p : Nat} (h0 : 1 ≤ p) (hp : p ≤ w.length) (h : At w p) (least : ∀ q, 1 ≤ q → q < p → ¬ At w q) : w.length = (w.length / p) * p ∧ w = pw (w.take p) (w.length / p) := by
  have t := turn_of_at hp h
  have e : w.length = (w.length / p) * p + w.length % p := by
    have := Nat.div_add_mod w.length p
    rw [Nat.mul_comm] at this
    omega
  have r0 : w.length % p = 0 := by
    by_cases c : w.length % p = 0
    · exact c
    · have lt := Nat.mod_lt w.length (by omega : p > 0)
      exact absurd (at_of_turn (by omega) (turn_rest t e)) (least _ (by omega) lt)
  have e1 : w.length = (w.length / p) * p := by omega
  refine ⟨e1, ?_⟩
  have lt : (w.take p).length = p := by rw [List.length_take]; omega
  apply List.ext_getElem?
  intro i
  by_cases hi : i < w.length
  · rw [pw_get _ _ _ (by rw [lt]; omega), lt, List.getElem?_take, if_pos (Nat.mod_lt _ (by omega))]
    have m := Nat.mod_lt i (by omega : p > 0)
    have z := turn_mul t (i / p) (i % p) (by omega)
    have d := Nat.div_add_mod i p
    rw [Nat.mul_comm] at d
    rw [show i % p + i / p * p = i by omega, Nat.mod_eq_of_lt hi] at z
    exact z
  · rw [List.getElem?_eq_none (by omega), List.getElem?_eq_none (by rw [pw_len, lt]; omega)]
/-! ### the common end -/
/-- the last letters of u, so many as same, go on as w again and again, read from behind -/
theorem common_tail {u w : List α} {same : Nat} (hw : 0 < w.length) (hs : same ≤ u.length) (h : ∀ i, i < same → u[u.length - 1 - i]? = w[w.length - 1 - i % w.length]?) : u.drop (u.length - same) = w.drop (w.length - same % w.length) ++ pw w (same / w.length) := by
  have hm := Nat.mod_lt same hw
  have hd := Nat.div_add_mod same w.length
  rw [Nat.mul_comm] at hd
  have l1 : (u.drop (u.length - same)).length = same := by rw [List.length_drop]; omega
  have l2 : (w.drop (w.length - same % w.length)).length = same % w.length := by rw [List.length_drop]; omega
  apply List.ext_getElem?
  intro j
  by_cases hj : j < same
  · rw [List.getElem?_drop]
    have e := h (same - 1 - j) (by omega)
    rw [show u.length - 1 - (same - 1 - j) = u.length - same + j by omega] at e
    rw [e]
    by_cases c : j < same % w.length
    · rw [List.getElem?_append_left (by omega), List.getElem?_drop]
      congr 1
      have x : (same - 1 - j) % w.length = same % w.length - 1 - j := by
        rw [show same - 1 - j = (same % w.length - 1 - j) + same / w.length * w.length by omega, Nat.add_mul_mod_self_right, Nat.mod_eq_of_lt (by omega)]
      omega
    · rw [List.getElem?_append_right (by omega), l2, pw_get _ _ _ (by omega)]
      congr 1
      have y : same - 1 - j < same / w.length * w.length := by omega
      have x : (same - 1 - j) % w.length = w.length - 1 - (j - same % w.length) % w.length := by
        have dj := Nat.div_add_mod (j - same % w.length) w.length
        have mj := Nat.mod_lt (j - same % w.length) hw
        rw [Nat.mul_comm] at dj
        have q : (j - same % w.length) / w.length < same / w.length := Nat.div_lt_of_lt_mul (by rw [Nat.mul_comm]; omega)
        have f : same / w.length * w.length = (same / w.length - 1 - (j - same % w.length) / w.length) * w.length + ((j - same % w.length) / w.length) * w.length + w.length := by
          rw [← Nat.add_mul]
          have : same / w.length = (same / w.length - 1 - (j - same % w.length) / w.length + (j - same % w.length) / w.length) + 1 := by omega
          rw [← Nat.succ_mul]
          congr 1
        rw [show same - 1 - j = (w.length - 1 - (j - same % w.length) % w.length) + (same / w.length - 1 - (j - same % w.length) / w.length) * w.length by omega, Nat.add_mul_mod_self_right, Nat.mod_eq_of_lt (by omega)]
      have mj := Nat.mod_lt (j - same % w.length) hw
      omega
  · rw [List.getElem?_eq_none (by omega), List.getElem?_eq_none (by rw [List.length_append, l2, pw_len]; omega)]
/-- w turned by so many letters -/
def turnW (w : List α) (e : Nat) : List α := w.drop (w.length - e) ++ w.take (w.length - e)
/-- such an end is moved behind the power -/
theorem move_end {u w : List α} {same : Nat} (hw : 0 < w.length) (hs : same ≤ u.length) (h : ∀ i, i < same → u[u.length - 1 - i]? = w[w.length - 1 - i % w.length]?) (v : Nat) :
    u ++ pw w v = u.take (u.length - same) ++ (pw (turnW w (same % w.length)) v ++ u.drop (u.length - same)) := by
  have e := common_tail hw hs h
  have e2 : u = u.take (u.length - same) ++ u.drop (u.length - same) := (List.take_append_drop _ _).symm
  have sw := pw_swap (w.drop (w.length - same % w.length)) (w.take (w.length - same % w.length)) v
  rw [List.take_append_drop] at sw
  have k : u.drop (u.length - same) ++ pw w v = pw (turnW w (same % w.length)) v ++ u.drop (u.length - same) := by
    rw [e, List.append_assoc, ← pw_add, Nat.add_comm, pw_add, ← List.append_assoc, ← List.append_assoc]
    unfold turnW
    rw [sw]
  calc u ++ pw w v = u.take (u.length - same) ++ (u.drop (u.length - same) ++ pw w v) := by rw [← List.append_assoc, ← e2]
    _ = _ := by rw [k]
/-! ### what runs write, letter by letter -/
def wr (rs : List (List α × Nat)) : List α := rs.flatMap fun r => pw r.1 r.2
theorem wr_cons (r : List α × Nat) (rs : List (List α × Nat)) : wr (r :: rs) = pw r.1 r.2 ++ wr rs := List.flatMap_cons
theorem wr_append (rs ss : List (List α × Nat)) : wr (rs ++ ss) = wr rs ++ wr ss := List.flatMap_append
def lettersR (rs : List (List α × Nat)) : Nat := (rs.map fun r => r.1.length * r.2).sum
theorem wr_len (rs : List (List α × Nat)) : (wr rs).length = lettersR rs := by
  induction rs with
  | nil => rfl
  | cons r rs ih =>
    rw [wr_cons, List.length_append, ih, pw_len, Nat.mul_comm]
    rfl
/-- the letter at a place, run by run -/
def letterR : List (List α × Nat) → Nat → Option α
  | [], _ => none
  | r :: rs, i => if i < r.1.length * r.2 then r.1[i % r.1.length]? else letterR rs (i - r.1.length * r.2)
theorem letterR_eq : ∀ (rs : List (List α × Nat)) (i : Nat), letterR rs i = (wr rs)[i]?
  | [], i => rfl
  | r :: rs, i => by
    rw [wr_cons]
    unfold letterR
    by_cases c : i < r.1.length * r.2
    · rw [if_pos c, List.getElem?_append_left (by rw [pw_len, Nat.mul_comm]; exact c), pw_get _ _ _ (by rw [Nat.mul_comm]; exact c)]
    · rw [if_neg c, List.getElem?_append_right (by rw [pw_len, Nat.mul_comm]; omega), letterR_eq rs, pw_len, Nat.mul_comm r.2]
end
end NP
set_option Elab.async false
set_option linter.all false
set_option maxRecDepth 100000
set_option maxHeartbeats 4000000
namespace NP
open PySem PySem.StrLaws Builtin Builtin.Str
/-- the letters of a text -/
abbrev cs (z : Str) : List Nat := z.cps.toList
theorem cs_len (z : Str) : z.length = (cs z).length := by simp [cs, Str.length]
theorem cs_ext {x y : Str} (h : cs x = cs y) : x = y := Str.ext' (Array.toList_inj.mp h)
theorem cs_app (x y : Str) : cs (x ++ y) = cs x ++ cs y := by
  show (x ++ y).cps.toList = _
  rw [Str.cps_append, Array.toList_append]
theorem fold_rep (l : Array Nat) (n : Nat) (z : Array Nat) : ((List.replicate n l).foldl (· ++ ·) z).toList = z.toList ++ pw l.toList n := by
  induction n generalizing z with
  | zero => simp [pw_zero]
  | succ n ih => rw [List.replicate_succ, List.foldl_cons, ih, Array.toList_append, pw_succ, List.append_assoc]
theorem cs_mul (z : Str) {i : Int} (h : 0 ≤ i) : cs (Txt.mul z i) = pw (cs z) i.toNat := by
  unfold Txt.mul
  by_cases c : i < 1
  · rw [if_pos c, show i.toNat = 0 by omega, pw_zero]
    rfl
  · rw [if_neg c]
    by_cases d : (i == 1 || z.length == 0) = true
    · rw [if_pos d]
      rcases (Bool.or_eq_true _ _).mp d with e | e
      · have : i = 1 := beq_iff_eq.mp e
        subst this
        exact (pw_one _).symm
      · have e2 : (cs z).length = 0 := by rw [← cs_len]; exact beq_iff_eq.mp e
        rw [List.length_eq_zero_iff.mp e2, pw_nil]
    · rw [if_neg d]
      show ((List.replicate i.toNat z.cps).foldl (· ++ ·) #[]).toList = _
      rw [fold_rep]
      rfl
/-! ### the first place -/
theorem occ_full (s sub : Str) (hi : Nat) : ∀ (l : List Nat) (st : Array Nat × Nat), st.fst.size = 1 → (forIn l st (occBody s sub hi 1)).run.fst = st.fst
  | [], st, _ => rfl
  | a :: l, st, h => by
    rw [List.forIn_cons]
    unfold occBody
    have c : ¬ (((st.fst.size < 1 ∧ st.snd ≤ a) ∧ a + sub.length ≤ hi) ∧ subAt s sub a = true) := fun z => by omega
    rw [if_neg c]
    exact occ_full s sub hi l _ h
def hit (s sub : Str) (hi i : Nat) : Bool := decide (i + sub.length ≤ hi) && subAt s sub i
theorem occ_first (s sub : Str) (hi : Nat) : ∀ (l : List Nat) (free : Nat), (∀ i ∈ l, free ≤ i) →
    (forIn l ((#[] : Array Nat), free) (occBody s sub hi 1)).run.fst.toList = match l.find? (hit s sub hi) with
      | some i => [i]
      | none => []
  | [], free, _ => rfl
  | a :: l, free, hf => by
    rw [List.forIn_cons, List.find?_cons]
    have ha : free ≤ a := hf a (List.mem_cons_self ..)
    by_cases hc : hit s sub hi a = true
    · have hc2 := hc
      unfold hit at hc2
      rw [Bool.and_eq_true, decide_eq_true_eq] at hc2
      rw [hc]
      unfold occBody
      rw [if_pos ⟨⟨⟨by simp, ha⟩, hc2.1⟩, hc2.2⟩]
      show ((forIn l ((#[] : Array Nat).push a, a + sub.length) (occBody s sub hi 1)).run.fst).toList = [a]
      rw [occ_full s sub hi l _ (by simp)]
      rfl
    · have hc2 : ¬ (((((#[] : Array Nat), free).fst.size < 1 ∧ ((#[] : Array Nat), free).snd ≤ a) ∧ a + sub.length ≤ hi) ∧ subAt s sub a = true) := fun h => hc (by
        unfold hit
        rw [Bool.and_eq_true, decide_eq_true_eq]
        exact ⟨h.1.2, h.2⟩)
      rw [Bool.eq_false_iff.mpr hc]
      unfold occBody
      rw [if_neg hc2]
      exact occ_first s sub hi l free fun i hi' => hf i (List.mem_cons_of_mem _ hi')
theorem find_some {P : Nat → Bool} : ∀ (k lo p : Nat), (List.range' lo k).find? P = some p → lo ≤ p ∧ P p = true ∧ ∀ q, lo ≤ q → q < p → P q = false
  | 0, lo, p, h => by simp at h
  | k + 1, lo, p, h => by
    rw [List.range'_succ, List.find?_cons] at h
    cases e : P lo with
    | true =>
      rw [e] at h
      cases h
      exact ⟨Nat.le_refl _, e, fun q h1 h2 => by omega⟩
    | false =>
      rw [e] at h
      obtain ⟨h1, h2, h3⟩ := find_some k (lo + 1) p h
      refine ⟨by omega, h2, fun q q1 q2 => ?_⟩
      by_cases c : q = lo
      · rw [c]; exact e
      · exact h3 q (by omega) q2
theorem find_none {P : Nat → Bool} : ∀ (k lo : Nat), (List.range' lo k).find? P = none → ∀ q, lo ≤ q → q < lo + k → P q = false
  | 0, lo, _, q, h1, h2 => by omega
  | k + 1, lo, h, q, h1, h2 => by
    rw [List.range'_succ, List.find?_cons] at h
    cases e : P lo with
    | true =>
      rw [e] at h
      cases h
    | false =>
      rw [e] at h
      by_cases c : q = lo
      · rw [c]; exact e
      · exact find_none k (lo + 1) h q (by omega) (by omega)
theorem hit_at (w : Str) (i : Nat) : hit (w ++ w) w (w ++ w).length i = true ↔ i ≤ (cs w).length ∧ At (cs w) i := by
  unfold hit
  rw [Bool.and_eq_true, decide_eq_true_eq, subAt_eq, show (w ++ w).cps.toList = cs w ++ cs w from cs_app w w, cs_len (w ++ w), cs_app, List.length_append, cs_len w]
  unfold At
  constructor
  · rintro ⟨h1, h2⟩
    exact ⟨by omega, eq_of_beq h2⟩
  · rintro ⟨h1, h2⟩
    exact ⟨by omega, beq_iff_eq.mpr h2⟩
/-- (w + w).find(w, 1) -/
theorem root_find {w : Str} (hw : cs w ≠ []) : ∃ p : Nat, Txt.find3 (w ++ w) w 1 = (p : Int) ∧ 1 ≤ p ∧ p ≤ (cs w).length ∧ At (cs w) p ∧ ∀ q, 1 ≤ q → q < p → ¬ At (cs w) q := by
  have n0 : 0 < (cs w).length := List.length_pos_iff.mpr hw
  have lw : (w ++ w).length = (cs w).length + (cs w).length := by rw [cs_len, cs_app, List.length_append]
  have fi : fromIndex (w ++ w).length 1 = 1 := by
    unfold fromIndex
    rw [if_neg (by decide)]
    rfl
  unfold Txt.find3
  rw [fi, occ_eq, occ_first _ _ _ _ _ (fun i hi => by simp [List.mem_range'] at hi; omega)]
  cases e : (List.range' 1 ((w ++ w).length + 1 - 1)).find? (hit (w ++ w) w (w ++ w).length) with
  | none =>
    have z := find_none _ _ e (cs w).length (by omega) (by omega)
    have t : hit (w ++ w) w (w ++ w).length (cs w).length = true := (hit_at w _).mpr ⟨Nat.le_refl _, at_of_turn (Nat.le_refl _) (turn_all _)⟩
    rw [t] at z
    cases z
  | some p =>
    obtain ⟨h1, h2, h3⟩ := find_some _ _ _ e
    obtain ⟨h4, h5⟩ := (hit_at w p).mp h2
    refine ⟨p, rfl, h1, h4, h5, fun q q1 q2 hq => ?_⟩
    have := h3 q q1 q2
    rw [(hit_at w q).mpr ⟨by omega, hq⟩] at this
    cases this
end NP
set_option Elab.async false
set_option linter.all false
set_option maxRecDepth 100000
set_option maxHeartbeats 4000000
/-! the place of a letter in a text: of texts, no program. -/
namespace NP
open PySem PySem.StrLaws Builtin Builtin.Str
theorem idx_first {c : Nat} : ∀ {l : List Nat} {p : Nat}, l[p]? = some c → (∀ q, q < p → l[q]? ≠ some c) → l.idxOf c = p
  | [], _, h, _ => by simp at h
  | a :: l, 0, h, _ => by
    have : a = c := Option.some.inj h
    rw [this, List.idxOf_cons_self]
  | a :: l, p + 1, h, k => by
    have ne : a ≠ c := fun e => k 0 (by omega) (by rw [e]; rfl)
    have e : (a == c) = false := by simpa using ne
    rw [List.idxOf_cons, e, idx_first (l := l) (p := p) h fun q hq => k (q + 1) (by omega)]
    rfl
theorem idx_none {c : Nat} {l : List Nat} (h : ∀ q, q < l.length → l[q]? ≠ some c) : l.idxOf c = l.length := by
  apply List.idxOf_eq_length
  intro hm
  obtain ⟨i, hi⟩ := List.mem_iff_getElem?.mp hm
  exact h i (List.getElem?_eq_some_iff.mp hi).1 hi
theorem find_one (z : Str) (c : Nat) : Txt.find z ⟨#[c]⟩ = if (cs z).idxOf c < (cs z).length then (((cs z).idxOf c : Nat) : Int) else -1 := by
  have lz := cs_len z
  have hit1 : ∀ i, hit z ⟨#[c]⟩ z.length i = true ↔ (cs z)[i]? = some c := fun i => by
    unfold hit
    rw [Bool.and_eq_true, decide_eq_true_eq, subAt_eq]
    show (i + 1 ≤ z.length ∧ (((cs z).drop i).take 1 == [c]) = true) ↔ _
    rw [beq_iff_eq]
    constructor
    · rintro ⟨h1, h2⟩
      have := congrArg (fun l => l[0]?) h2
      simp only [List.getElem?_take, List.getElem?_drop] at this
      simpa using this
    · intro h
      have hi := (List.getElem?_eq_some_iff.mp h).1
      refine ⟨by omega, ?_⟩
      rw [List.drop_eq_getElem_cons hi, List.take_succ_cons, List.take_zero]
      rw [List.getElem?_eq_getElem hi] at h
      rw [Option.some.inj h]
  unfold Txt.find
  rw [occ_eq, occ_first _ _ _ _ _ (fun i hi => Nat.zero_le _)]
  cases e : (List.range' 0 (z.length + 1 - 0)).find? (hit z ⟨#[c]⟩ z.length) with
  | none =>
    have no : ∀ q, q < (cs z).length → (cs z)[q]? ≠ some c := fun q hq h => by
      have := find_none _ _ e q (Nat.zero_le _) (by omega)
      rw [(hit1 q).mpr h] at this
      cases this
    rw [idx_none no, if_neg (by omega)]
  | some p =>
    obtain ⟨h1, h2, h3⟩ := find_some _ _ _ e
    have hp := (hit1 p).mp h2
    have e2 := idx_first hp fun q hq h => by
      have := h3 q (Nat.zero_le _) hq
      rw [(hit1 q).mpr h] at this
      cases this
    rw [e2, if_pos (List.getElem?_eq_some_iff.mp hp).1]
end NP
set_option Elab.async false
set_option linter.all false
set_option maxRecDepth 100000
set_option maxHeartbeats 4000000
namespace KJ
open PySem PySem.Spec PyProof.Rows L2 XV NM XT
theorem call_list_ofK {X : Cx} {K : PySem.W.Frag} (e : X.K = K) : CallR X (.type "list") (fun xs H Q => ∃ p ys, xs = [.ref p] ∧ (SqL K H p ys ∨ SqT K H p ys) ∧ ∀ l, H l = none → Q (.ref l) (upd H l (.lst ys))) := by
  subst e
  exact call_list_of
def tysD : List String := ["NoneType", "int", "str", "list", "tuple"]
def RL (H : Hp) (r : Addr) (R : List (List Nat)) : Prop := ∃ xs, H r = some (.lst xs) ∧ Pts H xs (R.map natI)
theorem RL.keep {H H' : Hp} (s : Same H H') {r : Addr} {R : List (List Nat)} (h : RL H r R) : RL H' r R := by
  obtain ⟨xs, e, p⟩ := h
  exact ⟨xs, s _ _ e, p.keep s⟩
abbrev FnM (K : PySem.W.Frag) (m q : Str) (st : Stmt) (f : Addr) (fd : FuncData) : Prop := FunD K m q (defArgs st) (defBody st) (defScope st) [] [] f fd
theorem call_lenK {X : Cx} {K : PySem.W.Frag} (e : X.K = K) : CallR X (.builtin "len") (fun xs H Q => ∃ x n, xs = [x] ∧ LenV K x H n ∧ Q (.int n) H) := by
  subst e
  exact call_len
abbrev cz (z : Str) : List Nat := z.cps.toList
theorem cz_at (z : Str) (i : Nat) : z.cps[i]? = (cz z)[i]? := by simp
theorem cz_len (z : Str) : z.length = (cz z).length := by simp [Str.length]
def colsN (z w : Str) : List Nat := (cz w).map fun c => (cz z).idxOf c
theorem idx_at {l : List Nat} (h : l.Nodup) {i c : Nat} (e : l[i]? = some c) : l.idxOf c = i := by
  obtain ⟨hi, rfl⟩ := List.getElem?_eq_some_iff.mp e
  exact List.Nodup.idxOf_getElem h i hi
def NoA (K : PySem.W.Frag) (H : Hp) (v : L2.V) : Prop := ∃ T ∈ tysD, TyX K H v (.type T)
theorem join0 (ys : List Str) : cz (Txt.join "" ys) = ys.flatMap cz := by
  have e : ∀ L : List (List Nat), TL.joinL [] L = L.flatten := fun L => by
    induction L with
    | nil => rfl
    | cons p L ih =>
      cases L with
      | nil => simp [TL.joinL]
      | cons q r =>
        show p ++ ([] ++ TL.joinL [] (q :: r)) = _
        rw [ih]
        simp
  have h := TL.tl_join "" ys
  have t : TL.tl ("" : Str) = [] := by decide +kernel
  rw [TL.join_eq]
  show TL.tl (Str.join "" ys) = _
  rw [h, t, e, ← List.flatMap_def]
theorem sum_len (ys : List Str) : (ys.map (·.length)).sum = (ys.flatMap cz).length := by
  induction ys with
  | nil => rfl
  | cons y ys ih => rw [List.map_cons, List.sum_cons, ih, List.flatMap_cons, List.length_append, cz_len]
abbrev sAlph : Stmt := top 22
abbrev sLRows : Stmt := top 23
abbrev sRow : Stmt := top 24
abbrev sRis : Stmt := top 25
theorem scAlph : FnScope ["value"] ["value"] (defScope sAlph) := ⟨rfl, rfl, rfl, by decide +kernel, rfl, by decide +kernel, by decide +kernel⟩
theorem scLRows : FnScope ["value", "width", "item"] ["value", "width"] (defScope sLRows) := ⟨rfl, rfl, rfl, by decide +kernel, rfl, by decide +kernel, by decide +kernel⟩
theorem scRow : FnScope ["value", "width", "how_many", "state"] ["value", "width", "how_many"] (defScope sRow) := ⟨rfl, rfl, rfl, by decide +kernel, rfl, by decide +kernel, by decide +kernel⟩
theorem scRis : FnScope ["how_many", "value"] ["how_many", "value"] (defScope sRis) := ⟨rfl, rfl, rfl, by decide +kernel, rfl, by decide +kernel, by decide +kernel⟩
def alphV : L2.V → Bool
  | .str z => wordV (.str z) && riseN (cz z)
  | _ => false
def spAlph : Sp := fun vs H Q _ => ∃ v, vs = [v] ∧ Kn H v ∧ (∀ z, v = .str z → z.length < 64) ∧ ∀ H', Same H H' → Q (.bl (alphV v)) H'
def spRow : Sp := fun vs H Q _ => ∃ (a : Addr) (st : List Nat) (wd n : Nat), vs = [.ref a, .int wd, .int n] ∧ H a = some (.lst ((natI st).map V.int)) ∧ st.length ≤ 100 ∧ ∀ H', Same H H' → Q (.bl (decide (st.length = wd) && st.all fun x => decide (x < n))) H'
def spLRows : Sp := fun vs H Q _ => ∃ (a : Addr) (R : List (List Nat)) (wd : Nat), vs = [.ref a, .int wd] ∧ RL H a R ∧ 1 ≤ R.length ∧ R.length ≤ 12 ∧ (∀ r ∈ R, r.length = wd ∧ ∀ x ∈ r, x < R.length) ∧ wd ≤ 100 ∧ ∀ H', Same H H' → Q (.bl true) H'
def spRis : Sp := fun vs H Q _ => ∃ (a : Addr) (n : Nat) (es : List Nat), vs = [.int n, .ref a] ∧ H a = some (.lst ((natI es).map V.int)) ∧ es.length < 64 ∧ (∀ x ∈ es, x < n) ∧ es.Pairwise (· < ·) ∧ ∀ H', Same H H' → Q (.bl true) H'
theorem below_lt (n x : Nat) : belV (n : Int) (.int (x : Int)) = decide (x < n) := by
  show (decide (0 ≤ (x : Int)) && decide ((x : Int) < n)) = _
  rw [decide_eq_true (Int.natCast_nonneg x), Bool.true_and]
  exact decide_eq_decide.mpr ⟨fun h => by omega, fun h => by omega⟩
section
variable {P : Program} {w : World} {K : PySem.W.Frag} {mg : Str → Option Value} {base : Heap} {f : Addr} {fd : FuncData} {C : Addr}
theorem ok_alph (F : FnP K "is_alphabet" sAlph f fd) (o_word : Ok P w K mg base "is_word" 2 ["value"] spIsWord) (z_sorted : mg "sorted" = none) (z_set : mg "set" = none) : FnOk P w K mg base CX0 3 f fd ["value"] spAlph := by
  refine F.ok scAlph (fun vs H Q E h => ?_) (fun cdv A outer s H vs Q E hr h => ?_)
  · obtain ⟨v, rfl, _⟩ := h
    rfl
  · obtain ⟨v, rfl, kn, lv, q⟩ := h
    have szl := sizeLine_eq
    refine ⟨_, PSs.nox (pss_one (ps_ret (pe_and (pe_callO o_word hr (by rfl) (pa_cons (pv 0) pa_nil)) (pe_one (pe_cmpR op_eq (pe_join pe_str (pe_callB (cr_sortedSS rfl) (by rfl) z_sorted (by decide +kernel) (pa_cons (pe_callTy (cr_setStr rfl) (by rfl) z_set (by decide +kernel) (pa_cons (pv 0) pa_nil)) pa_nil))) (pv 0) (nomark _)))))), ?_⟩
    refine ⟨_, rfl, v, rfl, kn, fun z e => by have := lv z e; omega, ?_⟩
    have no : wordV v = false → ∃ b, V.bl (wordV v) = .bl b ∧ (if b = true then False else Q (.bl false) H) := fun e => ⟨false, by rw [e], by
      rw [if_neg (by decide)]
      have : alphV v = false := by
        cases v <;> first | rfl | (show (wordV _ && _) = false; rw [e]; rfl)
      rw [← this]
      exact q H (Same.refl _)⟩
    cases e : wordV v with
    | false =>
      obtain ⟨b, h1, h2⟩ := no e
      rw [e] at h1
      refine ⟨false, rfl, iteF ?_⟩
      have : alphV v = false := by
        cases v <;> first | rfl | (show (wordV _ && _) = false; rw [e]; rfl)
      have q1 := q H (Same.refl _)
      rw [this] at q1
      exact q1
    | true =>
      cases v with
      | str z =>
        have lz := lv z rfl
        refine ⟨true, rfl, iteT ?_⟩
        refine ⟨⟨_, rfl⟩, _, rfl, z, sgs z, rfl, fun y hy => hy, by rw [← sgs_len]; show z.length < 1000; omega, fun p c np lc => ?_⟩
        have lsg : (sgs z).length = z.length := (sgs_len z).symm
        refine ⟨p, _, c, rfl, upd_same, by omega, fun ks p2 knd ks1 km kl np2 => ?_⟩
        obtain ⟨ds, rfl, pw, ed⟩ := sorted_sgs knd ks1 km
        have sm := (same_new (o := SetSO w p (fun j => decide (j ∈ sgs z)) c) np).trans (same_new (o := .lst ((ds.map sg).map V.str)) np2)
        have hk : ∀ ds : List Nat, (ds.map sg).flatMap cz = ds := fun ds => by
          induction ds with
          | nil => rfl
          | cons d ds ih => rw [List.map_cons, List.flatMap_cons, ih]; rfl
        refine ⟨_, p2, ds.map sg, rfl, rfl, .inl (SqL.of upd_same), ?_, ?_⟩
        · rw [sum_len, hk, show ("" : Str).length = 0 by decide +kernel, Nat.mul_zero]
          rw [List.length_map] at kl
          omega
        · refine ⟨_, rfl, rfl, ?_⟩
          have e2 : decide (V.str (Txt.join "" (ds.map sg)) = V.str z) = riseN (cz z) := by
            rw [← ed]
            apply decide_eq_decide.mpr
            have ej : cz (Txt.join "" (ds.map sg)) = ds := by rw [join0, hk]
            constructor
            · intro h
              rw [← ej, V.str.inj h]
            · intro h
              rw [h] at ej
              have : Txt.join "" (ds.map sg) = z := by
                have e3 := congrArg List.toArray ej
                have ext : ∀ a b : Str, a.cps = b.cps → a = b := fun ⟨_⟩ ⟨_⟩ h => congrArg Str.mk h
                refine ext _ _ ?_
                rw [h]
                exact (by simpa using e3)
              rw [this]
          have q1 := q _ sm
          have e3 : alphV (.str z) = riseN (cz z) := by
            show (wordV (.str z) && riseN (cz z)) = _
            rw [e, Bool.true_and]
          rw [e3, ← e2] at q1
          exact q1
      | _ => cases e
theorem ok_row (F : FnP K "is_row" sRow f fd) (o_below : Ok P w K mg base "is_count_below" 3 ["bound", "value"] spBelow) (z_isinstance : mg "isinstance" = none) (z_list : mg "list" = none) (z_len : mg "len" = none) (z_all : mg "all" = none) : FnOk P w K mg base CX0 4 f fd ["value", "width", "how_many"] spRow := by
  have nd := scRow.nd
  refine F.ok scRow (fun vs H Q E h => ?_) (fun cdv A outer s H vs Q E hr h => ?_)
  · obtain ⟨a, st, wd, n, rfl, _⟩ := h
    rfl
  · obtain ⟨a, st, wd, n, rfl, ha, l100, q⟩ := h
    have r3 : Room 3 (A.deeper (envOfC "is_row" (defScope sRow) s.heap.objs.size f cdv)) := hr
    refine ⟨_, PSs.nox (pss_cons (ps_if (PW.pt (pw_or (pt_not (pt_val (pe_callB call_isi (by rfl) z_isinstance (by decide +kernel) (pa_cons (pv 0) (pa_cons (pe_bltn (v := .ty "list") (by rfl) z_list (by decide +kernel) rfl) pa_nil))))) (pw_or1 (pt_cmpR op_ne (pe_callB call_len (by rfl) z_len boot_len (pa_cons (pv 0) pa_nil)) (pv 1) (nomark _))))) (pss_one (ps_ret pe_bl)) pss_nil)
      (pss_one (ps_ret (pe_callB (cr_all rfl) (by rfl) z_all (by decide +kernel) (pa_cons
      (pe_lc (own := [("state", 3)]) (g := gName 3) (by rfl) nd (pi_list (pv 0)) (blkOk_by (N := ["value", "width", "how_many", "state"]) (sc := defScope sRow) (own := [("state", 3)]) (by decide +kernel)) (fun _ _ _ _ _ => pg_name (i := 3) nd rfl (Or.inl rfl)) (fun _ _ _ _ _ => pts_nil) (fun _ _ _ _ _ => pe_callO o_below r3 (by rfl) (pa_cons (pv 2) (pa_cons (pv 3) pa_nil)))) pa_nil))))), ?_⟩
    have ll : ((natI st).map V.int).length = st.length := by rw [List.length_map, natI_len]
    refine ⟨_, rfl, _, _, _, _, true, rfl, .ty "list", .base (.lst ha), kit_ty (by decide +kernel), true, rfl, iteF ⟨_, rfl, _, st.length, rfl, .inl ⟨_, SqL.of ha, ll.symm⟩, _, rfl, rfl, !decide (V.int (st.length : Int) = V.int (wd : Int)), rfl, ?_⟩⟩
    by_cases c : st.length = wd
    · have e : decide (V.int (st.length : Int) = V.int (wd : Int)) = true := decide_eq_true (by rw [c])
      rw [e]
      refine iteF ?_
      refine ⟨_, rfl, a, rfl, ⟨_, SqL.of ha⟩, fun D nD => lc_list (K := K) (a := a) (xs := (natI st).map V.int) (fun k H' => Same H H' ∧ H' D = some (.lst (((st.take k).map fun x => decide (x < n)).map V.bl))) ⟨same_new nD, upd_same⟩ (fun k H' _ p => SqL.of (p.1 _ _ ha)) ?_ ?_⟩
      · rintro k y H' hk ⟨sm, hD⟩
        rw [List.getElem?_map, natI_get, Option.map_map] at hk
        obtain ⟨x, ex, rfl⟩ := Option.map_eq_some_iff.mp hk
        have li := (List.getElem?_eq_some_iff.mp ex).1
        refine ⟨rfl, ?_⟩
        refine ⟨_, rfl, _, rfl, _, _, rfl, .int _, _, hD, ?_, fun b o e => ?_, ?_⟩
        · rw [List.length_map, List.length_map, List.length_take]
          exact small1000 (by omega)
        · rw [upd_ne (ne_of_none (H := H) e nD)]
          exact sm _ _ e
        · rw [upd_same, List.take_add_one, ex, List.map_append, List.map_append]
          show some (HO.lst (_ ++ [V.bl (belV (n : Int) (.int (x : Int)))])) = _
          rw [below_lt]
          rfl
      · rintro H' ⟨sm, hD⟩
        rw [ll, List.take_length] at hD
        refine ⟨D, _, rfl, SqL.of hD, ?_⟩
        have q1 := q H' sm
        rw [decide_eq_true c, Bool.true_and] at q1
        rw [List.all_map]
        exact q1
    · have e : decide (V.int (st.length : Int) = V.int (wd : Int)) = false := decide_eq_false fun z => c (by have := V.int.inj z; omega)
      rw [e]
      have q1 := q H (Same.refl _)
      rw [decide_eq_false c, Bool.false_and] at q1
      exact iteT q1
theorem ok_lrows (F : FnP K "is_list_of_rows" sLRows f fd) (o_row : Ok P w K mg base "is_row" 4 ["value", "width", "how_many"] spRow) (z_isinstance : mg "isinstance" = none) (z_list : mg "list" = none) (z_len : mg "len" = none) (z_all : mg "all" = none) {tM : Tok} (h_M : mg "MOST_STATES" = some (.int 12 tM)) : FnOk P w K mg base CX0 5 f fd ["value", "width"] spLRows := by
  have nd := scLRows.nd
  refine F.ok scLRows (fun vs H Q E h => ?_) (fun cdv A outer s H vs Q E hr h => ?_)
  · obtain ⟨a, R, wd, rfl, _⟩ := h
    rfl
  · obtain ⟨a, R, wd, rfl, ⟨xs, ha, hP⟩, r1, r12, hR, w100, q⟩ := h
    have r4 : Room 4 (A.deeper (envOfC "is_list_of_rows" (defScope sLRows) s.heap.objs.size f cdv)) := hr
    have lx := hP.len
    rw [List.length_map] at lx
    refine ⟨_, PSs.nox (pss_cons (ps_if (PW.pt (pw_or (pt_not (pt_val (pe_callB call_isi (by rfl) z_isinstance (by decide +kernel) (pa_cons (pv 0) (pa_cons (pe_bltn (v := .ty "list") (by rfl) z_list (by decide +kernel) rfl) pa_nil))))) (pw_or1 (pt_not (pt_chain op_le op_le pe_int (pe_callB call_len (by rfl) z_len boot_len (pa_cons (pv 0) pa_nil)) (pe_glob (v := .int 12) (by rfl) h_M ⟨_, rfl⟩)))))) (pss_one (ps_ret pe_bl)) pss_nil)
      (pss_one (ps_ret (pe_callB (cr_all rfl) (by rfl) z_all (by decide +kernel) (pa_cons
      (pe_lc (own := [("item", 2)]) (g := gName 2) (by rfl) nd (pi_list (pv 0)) (blkOk_by (N := ["value", "width", "item"]) (sc := defScope sLRows) (own := [("item", 2)]) (by decide +kernel)) (fun _ _ _ _ _ => pg_name (i := 2) nd rfl (Or.inl rfl)) (fun _ _ _ _ _ => pts_nil) (fun _ _ _ _ _ => pe_callO o_row r4 (by rfl) (pa_cons (pv 2) (pa_cons (pv 1) (pa_cons (pe_callB (call_lenK (K := K) rfl) (by rfl) z_len boot_len (pa_cons (pv 0) pa_nil)) pa_nil))))) pa_nil))))), ?_⟩
    refine ⟨_, rfl, _, _, _, _, true, rfl, .ty "list", .base (.lst ha), kit_ty (by decide +kernel), true, rfl, iteF ⟨_, rfl, _, R.length, rfl, .inl ⟨_, SqL.of ha, lx.symm⟩, ?_⟩⟩
    refine ⟨_, _, rfl, rfl, true, congrArg V.bl (decide_eq_true (by omega)), ⟨_, _, rfl, rfl, true, congrArg V.bl (decide_eq_true (by omega)), iteF ?_⟩⟩
    refine ⟨_, rfl, a, rfl, ⟨_, SqL.of ha⟩, fun D nD => lc_list (K := K) (a := a) (xs := xs) (fun k H' => Same H H' ∧ H' D = some (.lst ((List.replicate k true).map V.bl))) ⟨same_new nD, upd_same⟩ (fun k H' _ p => SqL.of (p.1 _ _ ha)) ?_ ?_⟩
    · rintro k y H' hk ⟨sm, hD⟩
      obtain ⟨p, ep, b, rfl, hb⟩ := hP.get hk
      rw [List.getElem?_map] at ep
      obtain ⟨row, er, rfl⟩ := Option.map_eq_some_iff.mp ep
      have li := (List.getElem?_eq_some_iff.mp er).1
      obtain ⟨w1, w2⟩ := hR row (List.mem_of_getElem? er)
      refine ⟨rfl, ?_⟩
      refine ⟨_, rfl, _, rfl, _, rfl, _, R.length, rfl, .inl ⟨_, SqL.of (sm _ _ ha), lx.symm⟩, b, row, wd, R.length, rfl, sm _ _ hb, by omega, fun H2 s2 => ?_⟩
      have e : (decide (row.length = wd) && row.all fun x => decide (x < R.length)) = true := by
        rw [decide_eq_true w1, Bool.true_and, List.all_eq_true]
        exact fun x hx => decide_eq_true (w2 x hx)
      rw [e]
      refine ⟨_, s2 _ _ hD, ?_, fun c o e => ?_, ?_⟩
      · rw [List.length_map, List.length_replicate]
        exact small1000 (by omega)
      · rw [upd_ne (ne_of_none (H := H) e nD)]
        exact s2 _ _ (sm _ _ e)
      · rw [upd_same, List.replicate_succ', List.map_append]
        rfl
    · rintro H' ⟨sm, hD⟩
      refine ⟨D, _, rfl, SqL.of hD, ?_⟩
      have e : ((List.replicate xs.length true).all id) = true := by
        rw [List.all_eq_true]
        intro x hx
        rw [(List.mem_replicate.mp hx).2]
        rfl
      rw [e]
      exact q H' sm
theorem ok_ris (F : FnP K "is_rising" sRis f fd) (o_row : Ok P w K mg base "is_row" 4 ["value", "width", "how_many"] spRow) (z_isinstance : mg "isinstance" = none) (z_list : mg "list" = none) (z_len : mg "len" = none) (z_sorted : mg "sorted" = none) (z_set : mg "set" = none) : FnOk P w K mg base CX0 5 f fd ["how_many", "value"] spRis := by
  refine F.ok scRis (fun vs H Q E h => ?_) (fun cdv A outer s H vs Q E hr h => ?_)
  · obtain ⟨a, n, es, rfl, _⟩ := h
    rfl
  · obtain ⟨a, n, es, rfl, ha, l64, hlt, pw, q⟩ := h
    have hu := hr.units
    have r4 : Room 4 (A.deeper (envOfC "is_rising" (defScope sRis) s.heap.objs.size f cdv)) := hr
    refine ⟨_, PSs.nox (pss_cons (ps_if (PW.pt (pw_or (pt_not (pt_val (pe_callB call_isi (by rfl) z_isinstance (by decide +kernel) (pa_cons (pv 1) (pa_cons (pe_bltn (v := .ty "list") (by rfl) z_list (by decide +kernel) rfl) pa_nil))))) (pw_or1 (pt_not (pt_val (pe_callO o_row r4 (by rfl) (pa_cons (pv 1) (pa_cons (pe_callB call_len (by rfl) z_len boot_len (pa_cons (pv 1) pa_nil)) (pa_cons (pv 0) pa_nil))))))))) (pss_one (ps_ret pe_bl)) pss_nil)
      (pss_one (ps_ret (pe_cmpR (op_eqD hu) (pv 1) (pe_callB (cr_sortedSet rfl) (by rfl) z_sorted (by decide +kernel) (pa_cons (pe_callTy (cr_setLI rfl) (by rfl) z_set (by decide +kernel) (pa_cons (pv 1) pa_nil)) pa_nil)) (nomark _))))), ?_⟩
    have ll : ((natI es).map V.int).length = es.length := by rw [List.length_map, natI_len]
    refine ⟨_, rfl, _, _, _, _, true, rfl, .ty "list", .base (.lst ha), kit_ty (by decide +kernel), true, rfl, iteF ⟨_, rfl, _, rfl, _, es.length, rfl, .inl ⟨_, SqL.of ha, ll.symm⟩, _, rfl, a, es, es.length, n, rfl, ha, by omega, fun H1 s1 => ?_⟩⟩
    have e : (decide (es.length = es.length) && es.all fun x => decide (x < n)) = true := by
      rw [decide_eq_true rfl, Bool.true_and, List.all_eq_true]
      exact fun x hx => decide_eq_true (hlt x hx)
    rw [e]
    refine ⟨true, rfl, iteF ?_⟩
    have ha1 := s1 _ _ ha
    refine ⟨_, rfl, _, rfl, a, natI es, rfl, SqL.of ha1, by rw [natI_len]; omega, fun p c np lc => ?_⟩
    rw [natI_len] at lc
    refine ⟨p, _, c, rfl, upd_same, by omega, fun ns p2 pn mn ln np2 => ?_⟩
    have en : ns = natI es := by
      have pe : (natI es).Pairwise (· < ·) := by
        unfold natI
        rw [List.pairwise_map]
        exact pw.imp fun h => by omega
      have na : ns.Nodup := pn.imp fun h => by omega
      have nb : (natI es).Nodup := pe.imp fun h => by omega
      have pm : ns.Perm (natI es) := (List.perm_ext_iff_of_nodup na nb).mpr fun x => by rw [mn x, decide_eq_true_eq]
      exact List.Perm.eq_of_pairwise (fun x y _ _ h1 h2 => by omega) pn pe pm
    subst en
    have s2 := (same_new (o := SetO w p (fun j => decide (j ∈ natI es)) c) np).trans (same_new (o := .lst ((natI es).map V.int)) np2)
    refine ⟨ptD (natI es), ptD (natI es), .lst (SqL.of (s2 _ _ ha1)) (dp_ints _), .lst (SqL.of upd_same) (dp_ints _), pt_shaped _, pt_shaped _, ?_⟩
    rw [SeqAt.eqv_refl _ (SeqAt.canLay_of_shaped (pt_shaped _))]
    exact q _ (s1.trans s2)
end
theorem Pts.updI {H : Hp} {x : Addr} {C dx : Addr} {fs : List (Str × V)} {o : HO} (hx : H x = some (.ins C dx fs)) : ∀ {xs : List V} {R : List (List Int)}, Pts H xs R → Pts (upd H x o) xs R
  | _, _, .nil => .nil
  | _, _, .cons h r => .cons (by
      obtain ⟨a, e, t⟩ := h
      refine ⟨a, e, ?_⟩
      rw [upd_ne (ne_of t hx (by intro z; cases z))]
      exact t) (Pts.updI hx r)
theorem RL.updI {H : Hp} {x r : Addr} {C dx : Addr} {fs : List (Str × V)} {o : HO} {R : List (List Nat)} (hx : H x = some (.ins C dx fs)) (h : RL H r R) : RL (upd H x o) r R := by
  obtain ⟨xs, e, p⟩ := h
  refine ⟨xs, ?_, p.updI hx⟩
  rw [upd_ne (ne_of e hx (by intro z; cases z))]
  exact e
end KJ
set_option Elab.async false
set_option linter.all false
set_option maxRecDepth 100000
set_option maxHeartbeats 2000000
/-! A lambda with parameters, handed to a def and called there. -/
namespace XA
open PySem PySem.Spec PyProof.Rows L2 LamX
/-- the maker's names, those of the parameters hidden -/
def hideN (ps l : List Str) : List Str := l.map fun y => if ps.contains y then "" else y
structure LamP (sc scope : Scope) (ps : List Str) : Prop where
  kind : scope.kind = .function
  co : scope.isCoroutine = false
  gen : scope.isGenerator = false
  nc : ∀ y ∈ scope.names, y.2 ≠ .cell
  par : ∀ x ∈ ps, scope.names.lookup x = some .local
  loc : ∀ y ∈ scope.names, y.2 = .local → y.1 ∈ ps
  nd : ps.Nodup
  noE : scope.names.lookup ("" : Str) = none
  free : ∀ y ∈ scope.names, y.2 = .free → sc.names.lookup y.1 = some .cell ∨ sc.names.lookup y.1 = some .free
def lamPB (sc scope : Scope) (ps : List Str) : Bool :=
  decide (scope.kind = .function) && (!scope.isCoroutine && (!scope.isGenerator && ((scope.names.all fun y => !decide (y.2 = .cell) && ((!decide (y.2 = .local) || decide (y.1 ∈ ps)) && (!decide (y.2 = .free) || (decide (sc.names.lookup y.1 = some .cell) || decide (sc.names.lookup y.1 = some .free))))) &&
    ((ps.all fun x => decide (scope.names.lookup x = some .local)) && (decide ps.Nodup && decide (scope.names.lookup ("" : Str) = none))))))
theorem lamP_by {sc scope : Scope} {ps : List Str} (h : lamPB sc scope ps = true) : LamP sc scope ps := by
  unfold lamPB at h
  simp only [Bool.and_eq_true, Bool.or_eq_true, Bool.not_eq_true', decide_eq_true_eq, decide_eq_false_iff_not, List.all_eq_true] at h
  obtain ⟨k1, k2, k3, k4, k5, k6, k7⟩ := h
  refine ⟨k1, k2, k3, fun y hy => (k4 y hy).1, k5, fun y hy e => ?_, k6, k7, fun y hy e => ?_⟩
  · exact (k4 y hy).2.1.elim (fun z => absurd e z) id
  · exact (k4 y hy).2.2.elim (fun z => absurd e z) id
theorem LamP.has {X : Cx} {scope : Scope} {ps : List Str} (L : LamP X.env.scope scope ps) (ok : X.Ok) : ∀ y ∈ scope.names, y.2 = .free → ∃ c, X.env.cells.lookup y.1 = some c := fun y hy e =>
  (L.free y hy e).elim (fun k => ok.has _ (.inl k)) fun k => ok.has _ (.inr k)
/-- the context of the body -/
def lamPx (X : Cx) (A : Around) (outer : List Env) (s : Shared) (H : Hp) (E : XK) (scope : Scope) (ps : List Str) (f c' : Addr) : Cx :=
  { lamCx X A outer s H E scope f c' with N := ps ++ hideN ps X.N }
section
variable {X : Cx} {pins : List (Addr × Obj)} {σ : L2.St} {H HZ : Hp} {s s1 : Shared}
theorem lam_startP {A : Around} {outer : List Env} {E : XK} {scope : Scope} {ps : List Str} {f c' : Addr} {h1 : Heap} {tk : Nat} {us : List Value} {vs : List L2.V} (I : Inv X pins σ H s) (L : LamP X.env.scope scope ps) (e0 : Env0 X.prog X.w X.K X.mg X.base A outer s1 HZ) (hd : A.handled = none)
    (un : Un (frs X.stack) [] H HZ s.heap s1.heap) (hl : vs.length = ps.length) (r : Vals vs us) (ns1 : h1.Ns s1.heap.objs.size fun y => (ps.zip us).reverse.lookup y) (kp : ∀ b o, s1.heap.get? b = some o → h1.get? b = some o) :
    Inv (lamPx X A outer s1 HZ E scope ps f c') [] (vs.map some ++ σ) HZ { s1 with heap := h1, toks := tk } := by
  have own := L.has I.ok
  have up : ∀ {y c}, (cloFrom X.env.cells scope.names []).lookup y = some c → X.env.cells.lookup y = some c := by
    intro y c e
    rcases cloFrom_mem (PySem.mem_of_lookup e) with hm | ⟨h2, h3⟩
    · cases hm
    · obtain ⟨c1, hc⟩ := own _ h2 rfl
      have hc : X.env.cells.lookup y = some c1 := hc
      rw [show c = c1 by rw [h3, hc] <;> rfl]
      exact hc
  have down : ∀ {y}, scope.names.lookup y = some .free → ∃ c, (cloFrom X.env.cells scope.names []).lookup y = some c := fun {y} q =>
    mem_lookup (cloFrom_has (cells := X.env.cells) (acc := []) (PySem.mem_of_lookup q))
  have celK : ∀ {c : Addr} {v : Option Value}, H c = none → s.heap.IsCell c v → h1.IsCell c v := by
    rintro c v n ⟨o, ho, hd2⟩
    obtain ⟨sl, q⟩ := un.any ho n (by simp)
    exact ⟨_, kp _ _ q, hd2⟩
  have nx : ∀ b : Addr, b ∉ (lamPx X A outer s1 HZ E scope ps f c').ex := fun b z => nomatch (show b ∈ ([] : List Addr) from z)
  have okL : (lamPx X A outer s1 HZ E scope ps f c').Ok := by
    refine ⟨e0.mod, L.kind, rfl, rfl, Nat.le_refl _, fun y z c e1 e2 => I.ok.inj y z c (up e1) (up e2), fun y hy => ?_, fun y c z _ => ?_, fun _ => hd, Around.frames_deeper e0.frames, .inr ⟨rfl, rfl⟩, fun b z => absurd z (nx b), e0.bs, e0.bsz, fun b _ _ => nx b,
      fun b z => absurd z (nx b), e0.funs, e0.frf⟩
    · rcases (show scope.names.lookup y = some .cell ∨ scope.names.lookup y = some .free from hy) with k | k
      · exact absurd rfl (L.nc _ (PySem.mem_of_lookup k))
      · exact down k
    · exact nomatch (show false = true from z)
  refine ⟨okL, rfl, e0.bare, Un.kept kp, ⟨_, ns1, fun i y v e1 e2 e3 => ?_⟩, fun y c e => ?_, e0.hok.fresh (Nat.le_refl _), fun y c e => ?_, fun q hq => (nomatch (show q ∈ ([] : List (Addr × Obj)) ++ [] from hq)), e0.hok.kept kp, ?_⟩
  · have e1 : (ps ++ hideN ps X.N)[i]? = some y := e1
    have e3 : Vis scope y := e3
    by_cases li : i < ps.length
    · rw [List.getElem?_append_left li] at e1
      rw [List.getElem?_append_left (by rw [List.length_map, hl]; exact li), List.getElem?_map] at e2
      obtain ⟨v', ev, e2⟩ := Option.map_eq_some_iff.mp e2
      cases e2
      obtain ⟨u, hu, rv⟩ := r.get ev
      exact ⟨u, rv, .inl ⟨L.par y (List.mem_of_getElem? e1), NdefX.zip_look L.nd e1 hu⟩⟩
    · rw [List.getElem?_append_right (by omega)] at e1
      rw [List.getElem?_append_right (by rw [List.length_map]; omega), List.length_map, hl] at e2
      unfold hideN at e1
      rw [List.getElem?_map] at e1
      obtain ⟨y0, ey, e1⟩ := Option.map_eq_some_iff.mp e1
      by_cases hp : ps.contains y0 = true
      · rw [if_pos hp] at e1
        subst e1
        rcases e3 with k | k | k <;> rw [L.noE] at k <;> cases k
      · rw [if_neg hp] at e1
        subst e1
        rcases e3 with k | k | k
        · exact absurd (List.contains_iff_mem.mpr (L.loc _ (PySem.mem_of_lookup k) rfl)) hp
        · exact absurd rfl (L.nc _ (PySem.mem_of_lookup k))
        · obtain ⟨m, hn, lks⟩ := I.loc
          have side := L.free _ (PySem.mem_of_lookup k) rfl
          obtain ⟨u, ru, q⟩ := lks _ y0 v ey e2 (side.elim (fun z => .inr (.inl z)) fun z => .inr (.inr z))
          obtain ⟨c2, h2⟩ := down k
          have c1 := up h2
          refine ⟨u, ru, .inr ⟨.inr k, c2, h2, ?_⟩⟩
          rcases q with ⟨k', _⟩ | ⟨_, c3, e', z⟩
          · have k' : X.env.scope.names.lookup y0 = some .local := k'
            rcases side with k2 | k2 <;> rw [show X.env.scope.names.lookup y0 = _ from k2] at k' <;> cases k'
          · cases c1.symm.trans e'
            exact celK (I.freeC y0 _ c1) z
  · obtain ⟨u, z⟩ := I.cell y c (up e)
    exact ⟨u, celK (I.freeC y c (up e)) z⟩
  · obtain ⟨v, o, ho, hd2⟩ := I.cell y c (up e)
    exact un.free c o ho (I.freeC y c (up e)) (by simp)
  · show (vs.map some ++ σ).length = (ps ++ hideN ps X.N).length
    unfold hideN
    rw [List.length_append, List.length_append, List.length_map, List.length_map, hl, I.len]
/-- x(e, ..), in the def that got the lambda -/
theorem pe_actP {CXg : CXT} {Eg : XK} {Ng : List Str} {qg : Str} {sg : Scope} {g f c' : Addr} {cdg pm ctv : Value} {params : Arguments} {body : Expr} {scope : Scope} {ps : List Str} {k i : Nat} {a : Str} {pn : List (Addr × Obj)} {xe : Value → Shared → Prop} {E : XK} {tb : TE} {p1 p2 : Pos} {e : Expr} {es : List Expr} {t : TA}
    (I : Inv X pins σ H s) (L : LamP X.env.scope scope ps) (hf : s.heap.get? f = some (PySem.W.kla_obj "<lambda>" (X.env.qual ++ "<lambda>") params body scope (cloFrom X.env.cells scope.names []) pm c' ctv)) (fn0 : H f = none) (fr0 : f ∉ frs X.stack)
    (hb : ∀ us : List Value, us.length = ps.length → bindArgs (PySem.W.kla_fn "<lambda>" (X.env.qual ++ "<lambda>") params body scope (cloFrom X.env.cells scope.names []) pm (.ref c') ctv) ⟨us, []⟩ = pure (ps.zip us))
    (hx : Passes (L2.CX X.prog X.w) ((cxOf CXg X.prog X.w X.K X.mg X.base Ng qg sg g cdg X.A X.stack s H Eg).tr pn xe) E) (hr : Room (k + 1) (X.A.deeper (envOfC qg sg s.heap.objs.size g cdg)))
    (bd : ∀ (A : Around) (outer : List Env) (s : Shared) (H : Hp), Room k (A.deeper (lamEnv X scope s.heap.objs.size f c')) → PE (lamPx X A outer s H E scope ps f c') body tb)
    (hN : Ng[i]? = some a) (hv : Vis sg a) (ha : PA ((cxOf CXg X.prog X.w X.K X.mg X.base Ng qg sg g cdg X.A X.stack s H Eg).tr pn xe) (e :: es) t)
    (he : starEach (e :: es) ((cxOf CXg X.prog X.w X.K X.mg X.base Ng qg sg g cdg X.A X.stack s H Eg).tr pn xe).env = (false, eval e ((cxOf CXg X.prog X.w X.K X.mg X.base Ng qg sg g cdg X.A X.stack s H Eg).tr pn xe).env) :: starEach es ((cxOf CXg X.prog X.w X.K X.mg X.base Ng qg sg g cdg X.A X.stack s H Eg).tr pn xe).env := by rfl)
    (hpl : (backTo p2 (starEach es ((cxOf CXg X.prog X.w X.K X.mg X.base Ng qg sg g cdg X.A X.stack s H Eg).tr pn xe).env)).any (·.1) = false := by rfl)
    (hd : (a == ("__debug__" : Str)) = false := by decide) (hcd : (a == ("__classdict__" : Str)) = false := by decide) :
    PE ((cxOf CXg X.prog X.w X.K X.mg X.base Ng qg sg g cdg X.A X.stack s H Eg).tr pn xe) (.Call (.Name a p1) (e :: es) [] p2)
      (fun σZ HZ Q => σZ[i]? = some (some (.ref f)) ∧ t σZ HZ fun vs HY => vs.length = ps.length ∧ HY c' = some (CodeO c' (X.env.qual ++ "<lambda>")) ∧ tb (vs.map some ++ σ) HY Q) := by
  refine ⟨fun pinsZ sZ σZ HZ Q IZ ⟨hs, ht⟩ => ?_⟩
  have here : ∀ {σY : L2.St} {HY : Hp} {sY : Shared} {pY : List (Addr × Obj)}, Inv ((cxOf CXg X.prog X.w X.K X.mg X.base Ng qg sg g cdg X.A X.stack s H Eg).tr pn xe) pY σY HY sY → sY.heap.get? f = some (PySem.W.kla_obj "<lambda>" (X.env.qual ++ "<lambda>") params body scope (cloFrom X.env.cells scope.names []) pm c' ctv) := fun IY =>
    IY.base.keep f _ hf fn0 fr0 (fun z => nomatch (show f ∈ ([] : List Addr) from z))
  refine wpAny_Call_Name_kw (thn ((pe_var (pos := p1) (i := i) hN hv hd hcd).run pinsZ sZ σZ HZ (fun v H1 => v = .ref f ∧ H1 = HZ) IZ ⟨.ref f, hs, rfl, rfl⟩) fun u s1 ⟨v, H1, I1, r1, q1⟩ => ?_)
  obtain ⟨rfl, rfl⟩ := q1
  obtain rfl : u = Value.ref f := r1
  refine PySem.W.callWith_F (first := []) ⟨_, _, _, _, here I1⟩ (thn (ha.run p2 pinsZ s1 σZ H1 _ I1 ht) fun us s2 ⟨vs, H2, I2, r, hl, hc, hq⟩ => ⟨⟨_, _, _, _, here I2⟩, ?_⟩) he hpl
  have un : Un (frs X.stack) [] H H2 s.heap s2.heap := I2.base
  obtain ⟨⟨oc, ws, tk, o1, o2, o3⟩, _, _⟩ := I2.hok c' _ hc
  have lu : us.length = ps.length := r.length ▸ hl
  have run : codeAny (model X.prog X.w) (X.A.deeper (envOfC qg sg s.heap.objs.size g cdg)) (.call (.ref f) ⟨us, []⟩) (CR (L2.CX X.prog X.w) (envOfC qg sg s.heap.objs.size g cdg :: X.stack) X.prog X.w H2 s2 Q E) s2 := by
    refine PySem.W.kla_callFunE hr.depth (here I2) rfl L.co L.gen rfl ⟨c', oc, ws, tk, rfl, o1, o2, o3⟩ ?_
    rw [hb us lu]
    refine wpAny_pure (wpAny_newFunctionEnv L.nc (fun y hy => L.par _ (List.of_mem_zip hy).1) (fun h1 ns1 sb => ⟨I2.nolimit.fresh _ sb, ?_⟩) L.kind)
    show codeAny _ _ (.expr body (lamEnv X scope s2.heap.objs.size f c')) _ _
    have kp : ∀ b o, s2.heap.get? b = some o → h1.get? b = some o := fun b o e => sb.extBut b o (Nat.ne_of_lt (Heap.lt_size e)) (Heap.get?_push_of_some _ e)
    have J : Inv (lamPx X (X.A.deeper (envOfC qg sg s.heap.objs.size g cdg)) (envOfC qg sg s.heap.objs.size g cdg :: X.stack) s2 H2 E scope ps f c') [] (vs.map some ++ σ) H2 { s2 with heap := h1, toks := s2.toks + (ps.zip us).length } :=
      lam_startP I L I2.env0 hr.hd un hl r ns1 kp
    refine PySem.W.kla_codeExpr (wpAny_mono ((bd _ _ s2 H2 (hr.deeper _)).run [] _ _ H2 Q J hq) (fun v s' z => ?_) fun e s' z => z)
    obtain ⟨w', H', J', rv, q⟩ := z
    exact ⟨w', H', J'.os, J'.bare, J'.base, J'.hok, rv, q⟩
  refine wpAny_call (codeAny_mono run fun r' s' z => ?_)
  cases r' with
  | error er => exact hx pinsZ σZ H2 s2 er s' I2 z
  | ok fl => cases fl with
    | ret u => exact I2.after z
    | next => exact z.elim
    | brk => exact z.elim
    | cont => exact z.elim
end
end XA
set_option Elab.async false
set_option linter.all false
set_option maxRecDepth 100000
set_option maxHeartbeats 2000000
/-! x(e, lambda ..: ..): the def x, told what the lambda does. -/
namespace XA
open PySem PySem.Spec PyProof.Rows L2 LamX
/-- the context of the def x that got the lambda, called out of X -/
abbrev inX (X : Cx) (Ng : List Str) (x : Str) (sg : Scope) (g : Addr) (cdg : Value) (s : Shared) (H : Hp) : Cx := cxOf C8.CX0 X.prog X.w X.K X.mg X.base Ng x sg g cdg X.A X.stack s H C8.E0
/-- what the call of the lambda does there; i: the place of its name -/
abbrev ActP (X : Cx) (Ng : List Str) (x : Str) (sg : Scope) (g : Addr) (cdg : Value) (a : Str) (i np : Nat) (f : Addr) (s : Shared) (H : Hp) (tl : List L2.V → Hp → VK → Prop) (C : Hp → Prop) : Prop :=
  ∀ (pn : List (Addr × Obj)) (xe : Value → Shared → Prop) (e : Expr) (es : List Expr) (t : TA) (p1 p2 : Pos), PA ((inX X Ng x sg g cdg s H).tr pn xe) (e :: es) t →
    starEach (e :: es) ((inX X Ng x sg g cdg s H).tr pn xe).env = (false, eval e ((inX X Ng x sg g cdg s H).tr pn xe).env) :: starEach es ((inX X Ng x sg g cdg s H).tr pn xe).env →
    (backTo p2 (starEach es ((inX X Ng x sg g cdg s H).tr pn xe).env)).any (·.1) = false →
    PE ((inX X Ng x sg g cdg s H).tr pn xe) (.Call (.Name a p1) (e :: es) [] p2) (fun σ HZ Q => σ[i]? = some (some (.ref f)) ∧ t σ HZ fun vs HY => vs.length = np ∧ C HY ∧ tl vs HY Q)
def Gives2 (X : Cx) (Ng : List Str) (x : Str) (sg : Scope) (g : Addr) (cdg : Value) (bg : List Stmt) (a : Str) (i np : Nat) (TT : L2.V → (List L2.V → Hp → VK → Prop) → Hp → VK → Prop) : Prop :=
  ∀ (f : Addr) (s : Shared) (H : Hp) (v : L2.V) (Q : VK) (tl : List L2.V → Hp → VK → Prop) (C : Hp → Prop), ActP X Ng x sg g cdg a i np f s H tl C → (∀ H1 H2, ExtN H1 H2 → C H1 → C H2) → C H → TT v tl H Q →
    ∃ t, PSs (inX X Ng x sg g cdg s H).nox bg t ∧ t { nx := fun _ H' => Q .non H', rt := Q } (L2.start Ng [v, .ref f]) H
def tLam2 (T : List (Addr × Str)) (TT : L2.V → (List L2.V → Hp → VK → Prop) → Hp → VK → Prop) (t1 tb : TE) : TE := fun σ H Q => t1 σ H fun v H0 => Tabs T H0 ∧ ∀ H1, ExtN H0 H1 → Tabs T H1 → TT v (fun vs HY Q' => tb (vs.map some ++ σ) HY Q') H1 Q
theorem codeO_ext {H1 H2 : Hp} {c : Addr} {q : Str} (e : ExtN H1 H2) (h : H1 c = some (CodeO c q)) : H2 c = some (CodeO c q) := e _ _ h fun ps => codeO_ne ps
section
variable {X : Cx}
theorem pe_lamcall2 {T : List (Addr × Str)} {TT : L2.V → (List L2.V → Hp → VK → Prop) → Hp → VK → Prop} {x a b : Str} {g c P : Addr} {k : Nat} {pg : Arguments} {bg : List Stmt} {sg : Scope} {fdg : FuncData} {Ng : List Str} {params : Arguments} {body : Expr} {scope : Scope} {ps : List Str} {e1 : Expr} {t1 tb : TE} {p lpos pos : Pos}
    (F : FunD X.K x x pg bg sg [] [] g fdg) (hm : X.mg x = some (.ref g)) (hg : Gl X x) (bnd : L2.Binds X.K fdg [b, a] []) (Sg : FnScope Ng [b, a] sg) (hNg : Ng[1]? = some a) (hva : Vis sg a) (h1 : PE X e1 t1)
    (hG : ∀ cdg, Gives2 X Ng x sg g cdg bg a 1 ps.length TT)
    (TB : TabB X.base X.mg c P) (hcode : X.env.code = .ref c) (hmT : (P, X.env.qual ++ "<lambda>") ∈ T) (hu : ∀ p ∈ T, p.1 = P → p.2 = X.env.qual ++ "<lambda>") (hr : Room (k + 2) X.A) (L : LamP X.env.scope scope ps) (hdef : defaultsOf params X.env = ([], []))
    (hb : ∀ (q : Str) (cl : List (Str × Addr)) (pm cv ctv : Value) (us : List Value), us.length = ps.length → bindArgs (PySem.W.kla_fn "<lambda>" q params body scope cl pm cv ctv) ⟨us, []⟩ = pure (ps.zip us))
    (bd : ∀ (A : Around) (outer : List Env) (s : Shared) (H : Hp) (E : XK) (f c' : Addr), Room k (A.deeper (lamEnv X scope s.heap.objs.size f c')) → PE (lamPx X A outer s H E scope ps f c') body tb)
    (hdb : (x == ("__debug__" : Str)) = false := by decide) (hd : (a == ("__debug__" : Str)) = false := by decide) (hcd : (a == ("__classdict__" : Str)) = false := by decide)
    (hst : starEach [e1, .Lambda params body scope lpos] X.env = (false, eval e1 X.env) :: (false, eval (.Lambda params body scope lpos) X.env) :: [] := by rfl) :
    PE X (.Call (.Name x p) [e1, .Lambda params body scope lpos] [] pos) (tLam2 T TT t1 tb) := by
  obtain ⟨oc, od, dV, kV, doc, pm0, an, cdv, ct, osl, rfl, lk, hcg, _, _⟩ := F.ex
  refine ⟨fun pins s σ H Q I h => ?_⟩
  refine wpAny_Call_Name_kw (ld_glob I hg hm ?_ hdb)
  refine PySem.W.callWith_K (h₀ := X.base) I.ok.mod.kin F.kp ?_ (by rw [hst]; rfl) (by rfl)
  rw [hst]
  show wpAny _ _ (spliced [(false, eval e1 X.env), (false, eval (.Lambda params body scope lpos) X.env)]) _ _ s
  refine Calls.spliced_cons (thn (h1.run pins s σ H _ I h) fun u1 s1 z1 => ?_)
  obtain ⟨v, H0, I0, rv, hT, hq⟩ := z1
  refine Calls.spliced_cons (lam_make2 I0 TB hcode hmT hu hT hdef (L.has I0.ok) fun f c' pm' ctv H1 s' I1 eN T1 hf fn0 fr0 hco => ?_)
  refine Calls.spliced_nil ⟨I1.kIn, ?_⟩
  have run : codeAny (model X.prog X.w) X.A (.call (.ref g) ⟨[u1, .ref f], []⟩) (CR C8.CX0 X.stack X.prog X.w H1 s' Q C8.E0) s' := by
    refine run_ofS (N := Ng) (ps := [b, a]) (us := [u1, .ref f]) (vs := [v, .ref f]) lk hcg Sg hr I1.env0 (bnd s' [u1, .ref f] I1.kIn rfl) (.cons rv (.cons rfl .nil)) rfl fun hr' => ?_
    obtain ⟨t', ht', hq'⟩ := hG cdv f s' H1 v Q (fun vs HY Q' => tb (vs.map some ++ σ) HY Q') (fun HY => HY c' = some (CodeO c' (X.env.qual ++ "<lambda>")))
      (fun pn xe e es t p1 p2 ha he hpl => pe_actP (i := 1) (E := fun _ _ _ => False) I1 L hf fn0 fr0 (fun us lu => hb _ _ _ _ _ us lu) (passes_call LamX.takes0 fun _ _ _ _ z => z) hr' (fun A outer s H hr2 => bd A outer s H _ f c' hr2) hNg hva ha he hpl hd hcd)
      (fun H1 H2 e h => codeO_ext e h) hco (hq H1 eN T1)
    exact ⟨t', ht'.nox, hq'⟩
  refine wpAny_call (codeAny_mono run fun r' s2 z => ?_)
  cases r' with
  | error er => exact (show False from z).elim
  | ok fl => cases fl with
    | ret u => exact I1.after z
    | next => exact z.elim
    | brk => exact z.elim
    | cont => exact z.elim
end
end XA
set_option Elab.async false
set_option linter.all false
set_option maxRecDepth 100000
set_option maxHeartbeats 4000000
namespace KJ
open PySem PySem.Spec PyProof.Rows L2 XV NM XT
/-! ### the errors -/
def nmF (i : Nat) : Str := (["InvalidAutomaton", "InvalidList", "InvalidNumber", "InvalidWord", "InvalidMaker", "TooLong"] : List Str).getD i "LoopError"
abbrev CF (K : PySem.W.Frag) (i : Nat) : Addr := He.ga K (nmF i)
structure ClF (P : Program) (w : World) (K : PySem.W.Frag) (mg : Str → Option Value) (base : Heap) : Prop where
  x : ∀ i, i < 6 → ∃ fI fd, XCls P w K mg base (nmF i) "value" (CF K i) fI fd
  g : ∀ i, i < 7 → mg (nmF i) = some (.ref (CF K i))
  e : ∀ i, i < 6 → ExcC K (CF K i)
  f : ∀ i, i < 6 → XF K (CF K i) "value"
  kit : ∀ i, i < 6 → ∀ j, j < 6 → PySem.W.kitOne K (.ref (CF K i)) (.ref (CF K j)) = some (decide (i = j))
  exm : ∀ i, i < 6 → PySem.W.exmOne K (.ref (CF K i)) (.ref (CF K 6)) = some true
  own : ∀ i, i < 6 → PySem.W.exmOne K (.ref (CF K i)) (.ref (CF K i)) = some true
/-- the wish: an error of the class at C with the value v -/
def Rz (E : XK) (H : Hp) (C : Addr) (v : L2.V) : Prop := ∀ (H' : Hp) (d : Addr), Same H H' → H' d = none → E (.ref C) (some d) (upd H' d (.xd [("value", v)]))
theorem Rz.at {E : XK} {H H1 : Hp} {C : Addr} {v : L2.V} (h : Rz E H C v) (s : Same H H1) : Rz E H1 C v := fun H' d s1 n => h H' d (s.trans s1) n
/-! ### automata -/
structure Am where
  z : Str
  R : List (List Nat)
  s : Nat
  es : List Nat
deriving DecidableEq
structure AmOk (m : Am) : Prop where
  al : alphV (.str m.z) = true
  ascii : m.z.cps.all (· < 128) = true
  lz : m.z.length ≤ 26
  r1 : 1 ≤ m.R.length
  r2 : m.R.length ≤ 12
  rw : ∀ r ∈ m.R, r.length = m.z.length + 1 ∧ ∀ x ∈ r, x < m.R.length
  hs : m.s < m.R.length
  he : ∀ x ∈ m.es, x < m.R.length
  pw : m.es.Pairwise (· < ·)
theorem pw_len : ∀ (l : List Nat) (k n : Nat), (∀ x ∈ l, k ≤ x ∧ x < n) → l.Pairwise (· < ·) → l.length ≤ n - k
  | [], _, _, _, _ => Nat.zero_le _
  | x :: l, k, n, h, pw => by
    obtain ⟨h1, h2⟩ := List.pairwise_cons.mp pw
    have hx := h x List.mem_cons_self
    have := pw_len l (x + 1) n (fun y hy => ⟨h1 y hy, (h y (List.mem_cons_of_mem _ hy)).2⟩) h2
    rw [List.length_cons]
    omega
theorem AmOk.el {m : Am} (o : AmOk m) : m.es.length ≤ 12 := by
  have := pw_len m.es 0 m.R.length (fun x hx => ⟨Nat.zero_le _, o.he x hx⟩) o.pw
  have := o.r2
  omega
theorem AmOk.nd {m : Am} (o : AmOk m) : (cz m.z).Nodup := by
  have h := o.al
  have h : (wordV (.str m.z) && riseN (cz m.z)) = true := h
  rw [Bool.and_eq_true] at h
  exact ((riseN_iff _).1 h.2).imp fun h => Nat.ne_of_lt h
def fldA (z : Str) (s : Nat) (r e : Addr) : List (Str × V) := putF "_ends" (.ref e) (putF "_start" (.int s) (putF "_rows" (.ref r) (putF "_letters" (.str z) [])))
theorem fldA_l (z : Str) (s : Nat) (r e : Addr) : (fldA z s r e).lookup ("_letters" : Str) = some (.str z) := by
  unfold fldA
  rw [lookup_putF, if_neg (by decide +kernel), lookup_putF, if_neg (by decide +kernel), lookup_putF, if_neg (by decide +kernel), lookup_putF, if_pos rfl]
theorem fldA_r (z : Str) (s : Nat) (r e : Addr) : (fldA z s r e).lookup ("_rows" : Str) = some (.ref r) := by
  unfold fldA
  rw [lookup_putF, if_neg (by decide +kernel), lookup_putF, if_neg (by decide +kernel), lookup_putF, if_pos rfl]
theorem fldA_s (z : Str) (s : Nat) (r e : Addr) : (fldA z s r e).lookup ("_start" : Str) = some (.int s) := by
  unfold fldA
  rw [lookup_putF, if_neg (by decide +kernel), lookup_putF, if_pos rfl]
theorem fldA_e (z : Str) (s : Nat) (r e : Addr) : (fldA z s r e).lookup ("_ends" : Str) = some (.ref e) := by
  unfold fldA
  rw [lookup_putF, if_pos rfl]
theorem fldA_no (z : Str) (s : Nat) (r e : Addr) {x : Str} (h1 : ¬ x = "_ends") (h2 : ¬ x = "_start") (h3 : ¬ x = "_rows") (h4 : ¬ x = "_letters") : (fldA z s r e).lookup x = none := by
  unfold fldA
  rw [lookup_putF, if_neg h1, lookup_putF, if_neg h2, lookup_putF, if_neg h3, lookup_putF, if_neg h4]
  rfl
structure AT (K : PySem.W.Frag) (mg : Str → Option Value) (C : Addr) : Prop where
  ic : C8.InsC K C
  nL : NoAttr K C "_letters"
  nR : NoAttr K C "_rows"
  nS : NoAttr K C "_start"
  nE : NoAttr K C "_ends"
  g : mg "Automaton" = some (.ref C)
  kt : ∀ T ∈ tysD, PySem.W.kitOne K (.type T) (.ref C) = some false
theorem AT.ty {K : PySem.W.Frag} {mg : Str → Option Value} {C : Addr} (T : AT K mg C) {H : Hp} {a dx : Addr} {fs : List (Str × V)} (e : H a = some (.ins C dx fs)) : TyX K H (.ref a) (.ref C) := .base (.ins e T.ic.cl T.ic.ha T.ic.hn T.ic.htk T.ic.hm)
theorem AT.nC {K : PySem.W.Frag} {C : Addr} : PySem.W.notFirst K C (.ref C) = true := by
  unfold PySem.W.notFirst
  rw [beq_self_eq_true]
  rfl
/-- an automaton stands at x -/
def Au (C : Addr) (H : Hp) (x : Addr) (m : Am) : Prop := ∃ dx r e, H x = some (.ins C dx (fldA m.z m.s r e)) ∧ RL H r m.R ∧ H e = some (.lst ((natI m.es).map V.int))
/-- all but the tables of code objects stay -/
abbrev ExN (H H' : Hp) : Prop := LamX.ExtN H H'
theorem ExN.of {H H' : Hp} (s : Same H H') : ExN H H' := LamX.ExtN.of s
theorem ExN.lst {H H' : Hp} (s : ExN H H') {a : Addr} {xs : List V} (h : H a = some (.lst xs)) : H' a = some (.lst xs) := s _ _ h fun _ z => by cases z
theorem ExN.tup {H H' : Hp} (s : ExN H H') {a : Addr} {xs : List V} (h : H a = some (.tup xs)) : H' a = some (.tup xs) := s _ _ h fun _ z => by cases z
theorem ExN.ins {H H' : Hp} (s : ExN H H') {a C d : Addr} {xs : List (Str × V)} (h : H a = some (.ins C d xs)) : H' a = some (.ins C d xs) := s _ _ h fun _ z => by cases z
theorem Pts.keepN {H H' : Hp} (s : ExN H H') : ∀ {xs : List V} {P : List (List Int)}, Pts H xs P → Pts H' xs P
  | _, _, .nil => .nil
  | _, _, .cons h r => .cons (by
      obtain ⟨a, e, t⟩ := h
      exact ⟨a, e, s.lst t⟩) (Pts.keepN s r)
theorem RL.keepN {H H' : Hp} (s : ExN H H') {r : Addr} {R : List (List Nat)} (h : RL H r R) : RL H' r R := by
  obtain ⟨xs, e, p⟩ := h
  exact ⟨xs, s.lst e, p.keepN s⟩
theorem Au.keepN {C : Addr} {H H' : Hp} (s : ExN H H') {x : Addr} {m : Am} (h : Au C H x m) : Au C H' x m := by
  obtain ⟨dx, r, e, h1, h2, h3⟩ := h
  exact ⟨dx, r, e, s.ins h1, h2.keepN s, s.lst h3⟩
theorem Au.keep {C : Addr} {H H' : Hp} (s : Same H H') {x : Addr} {m : Am} (h : Au C H x m) : Au C H' x m := h.keepN (ExN.of s)
abbrev sInitA : Stmt := inClass (top 17) 0
abbrev sLettersA : Stmt := inClass (top 17) 1
abbrev sRowsA : Stmt := inClass (top 17) 2
abbrev sStartA : Stmt := inClass (top 17) 3
abbrev sEndsA : Stmt := inClass (top 17) 4
abbrev sEqA : Stmt := inClass (top 17) 5
abbrev sReqA : Stmt := top 26
abbrev sReqR : Stmt := top 27
abbrev sCols : Stmt := top 28
theorem scInitA : FnScope ["self", "letters", "rows", "start", "ends", "row"] ["self", "letters", "rows", "start", "ends"] (defScope sInitA) := ⟨rfl, rfl, rfl, by decide +kernel, rfl, by decide +kernel, by decide +kernel⟩
theorem scLettersA : FnScope ["self"] ["self"] (defScope sLettersA) := ⟨rfl, rfl, rfl, by decide +kernel, rfl, by decide +kernel, by decide +kernel⟩
theorem scRowsA : FnScope ["self", "row"] ["self"] (defScope sRowsA) := ⟨rfl, rfl, rfl, by decide +kernel, rfl, by decide +kernel, by decide +kernel⟩
theorem scStartA : FnScope ["self"] ["self"] (defScope sStartA) := ⟨rfl, rfl, rfl, by decide +kernel, rfl, by decide +kernel, by decide +kernel⟩
theorem scEndsA : FnScope ["self"] ["self"] (defScope sEndsA) := ⟨rfl, rfl, rfl, by decide +kernel, rfl, by decide +kernel, by decide +kernel⟩
theorem scEqA : FnScope ["self", "other"] ["self", "other"] (defScope sEqA) := ⟨rfl, rfl, rfl, by decide +kernel, rfl, by decide +kernel, by decide +kernel⟩
theorem scReqA : FnScope ["automaton"] ["automaton"] (defScope sReqA) := ⟨rfl, rfl, rfl, by decide +kernel, rfl, by decide +kernel, by decide +kernel⟩
theorem scReqR : FnScope ["automaton", "word"] ["automaton", "word"] (defScope sReqR) := ⟨rfl, rfl, rfl, by decide +kernel, rfl, by decide +kernel, by decide +kernel⟩
abbrev nCols : List Str := ["machine", "word", "letters", "places", "letter", "at"]
theorem scCols : FnScope nCols ["machine", "word"] (defScope sCols) := ⟨rfl, rfl, rfl, by decide +kernel, rfl, by decide +kernel, by decide +kernel⟩
def spInitA (C : Addr) : Sp := fun vs H Q _ => ∃ (x dx ra en : Addr) (m : Am), vs = [.ref x, .str m.z, .ref ra, .int m.s, .ref en] ∧ H x = some (.ins C dx []) ∧ H en = some (.lst ((natI m.es).map V.int)) ∧ RL H ra m.R ∧ AmOk m ∧
  ∀ H' : Hp, (∀ b o, b ≠ x → H b = some o → H' b = some o) → Au C H' x m → Q .non H'
def spLetA (C : Addr) : Sp := fun vs H Q _ => ∃ (x : Addr) (m : Am), vs = [.ref x] ∧ Au C H x m ∧ Q (.str m.z) H
def spStartA (C : Addr) : Sp := fun vs H Q _ => ∃ (x : Addr) (m : Am), vs = [.ref x] ∧ Au C H x m ∧ Q (.int m.s) H
def spRowsA (C : Addr) : Sp := fun vs H Q _ => ∃ (x : Addr) (m : Am), vs = [.ref x] ∧ Au C H x m ∧ m.R.length ≤ 12 ∧ ∀ (H' : Hp) (p : Addr), Same H H' → H p = none → RL H' p m.R → Q (.ref p) H'
def spEndsA (C : Addr) : Sp := fun vs H Q _ => ∃ (x : Addr) (m : Am), vs = [.ref x] ∧ Au C H x m ∧ ∀ (p : Addr), H p = none → Q (.ref p) (upd H p (.lst ((natI m.es).map V.int)))
def spEqA (K : PySem.W.Frag) (C : Addr) : Sp := fun vs H Q _ => ∃ (x : Addr) (y : V) (m : Am), vs = [.ref x, y] ∧ Au C H x m ∧ ((∃ y' m2, y = .ref y' ∧ Au C H y' m2 ∧ Q (.bl (decide (m = m2))) H) ∨ (NoA K H y ∧ Q (.bl false) H))
def spReqA (K : PySem.W.Frag) (C : Addr) : Sp := fun vs H Q E => ∃ v, vs = [v] ∧ ((∃ x m, v = .ref x ∧ Au C H x m ∧ Q .non H) ∨ (NoA K H v ∧ Rz E H (CF K 0) v))
def AW (K : PySem.W.Frag) (C : Addr) (H : Hp) (u v : V) (E : XK) (R : Addr → Am → Prop) : Prop := (NoA K H u ∧ Rz E H (CF K 0) u) ∨ ∃ x m, u = .ref x ∧ Au C H x m ∧ Kn H v ∧ (∀ y, v = .str y → y.length ≤ 100000) ∧ ((wordV v = false ∧ Rz E H (CF K 3) v) ∨ (wordV v = true ∧ R x m))
def spReqR (K : PySem.W.Frag) (C : Addr) : Sp := fun vs H Q E => ∃ u v, vs = [u, v] ∧ AW K C H u v E fun _ _ => Q .non H
def spCols (C : Addr) : Sp := fun vs H Q _ => ∃ (x : Addr) (m : Am) (y : Str), vs = [.ref x, .str y] ∧ Au C H x m ∧ AmOk m ∧ y.length ≤ 100000 ∧ ∀ (H' : Hp) (p : Addr), Same H H' → H p = none → H' p = some (.lst ((natI (colsN m.z y)).map V.int)) → Q (.ref p) H'
theorem eqv_rows (R S : List (List Nat)) : PyData.eqv (PD (R.map natI)) (PD (S.map natI)) = decide (R = S) := by
  rw [eqv_P]
  apply decide_eq_decide.mpr
  constructor
  · intro h
    exact List.map_inj_right (fun a b => natI_inj.mp) |>.mp h
  · exact fun h => by rw [h]
theorem eqv_es (a b : List Nat) : PyData.eqv (ptD (natI a)) (ptD (natI b)) = decide (a = b) := by
  rw [show PyData.eqv (ptD (natI a)) (ptD (natI b)) = decide (natI a = natI b) from eqv_ints _ _]
  exact decide_eq_decide.mpr natI_inj
section
variable {P : Program} {w : World} {K : PySem.W.Frag} {mg : Str → Option Value} {base : Heap} {f : Addr} {fd : FuncData} {C : Addr}
theorem ok_letA (F : FnM K "letters" "Automaton.letters" sLettersA f fd) (T : AT K mg C) : FnOk P w K mg base CX0 1 f fd ["self"] (spLetA C) := by
  refine F.ok scLettersA (fun vs H Q E h => ?_) (fun cdv A outer s H vs Q E hr h => ?_)
  · obtain ⟨x, m, rfl, _⟩ := h
    rfl
  · obtain ⟨x, m, rfl, ⟨dx, r, e, hx, hR, he⟩, q⟩ := h
    refine ⟨_, PSs.nox (pss_one (ps_ret (pe_fld (pv 0) rfl))), ?_⟩
    exact ⟨_, rfl, x, C, dx, _, _, rfl, hx, T.ic.cl, T.nL, fldA_l _ _ _ _, q⟩
theorem ok_startA (F : FnM K "start" "Automaton.start" sStartA f fd) (T : AT K mg C) : FnOk P w K mg base CX0 1 f fd ["self"] (spStartA C) := by
  refine F.ok scStartA (fun vs H Q E h => ?_) (fun cdv A outer s H vs Q E hr h => ?_)
  · obtain ⟨x, m, rfl, _⟩ := h
    rfl
  · obtain ⟨x, m, rfl, ⟨dx, r, e, hx, hR, he⟩, q⟩ := h
    refine ⟨_, PSs.nox (pss_one (ps_ret (pe_fld (pv 0) rfl))), ?_⟩
    exact ⟨_, rfl, x, C, dx, _, _, rfl, hx, T.ic.cl, T.nS, fldA_s _ _ _ _, q⟩
theorem ok_endsA (F : FnM K "ends" "Automaton.ends" sEndsA f fd) (T : AT K mg C) (z_list : mg "list" = none) : FnOk P w K mg base CX0 1 f fd ["self"] (spEndsA C) := by
  refine F.ok scEndsA (fun vs H Q E h => ?_) (fun cdv A outer s H vs Q E hr h => ?_)
  · obtain ⟨x, m, rfl, _⟩ := h
    rfl
  · obtain ⟨x, m, rfl, ⟨dx, r, e, hx, hR, he⟩, q⟩ := h
    refine ⟨_, PSs.nox (pss_one (ps_ret (pe_callTy call_list_of (by rfl) z_list (by decide +kernel) (pa_cons (pe_fld (pv 0) rfl) pa_nil)))), ?_⟩
    exact ⟨_, rfl, x, C, dx, _, _, rfl, hx, T.ic.cl, T.nE, fldA_e _ _ _ _, e, _, rfl, .inl (SqL.of he), fun l nl => q l nl⟩
theorem ok_rowsA (F : FnM K "rows" "Automaton.rows" sRowsA f fd) (T : AT K mg C) (z_list : mg "list" = none) : FnOk P w K mg base CX0 1 f fd ["self"] (spRowsA C) := by
  have nd := scRowsA.nd
  refine F.ok scRowsA (fun vs H Q E h => ?_) (fun cdv A outer s H vs Q E hr h => ?_)
  · obtain ⟨x, m, rfl, _⟩ := h
    rfl
  · obtain ⟨x, m, rfl, ⟨dx, r, e, hx, ⟨xs, hr1, hP⟩, he⟩, l12, q⟩ := h
    have lx := hP.len
    rw [List.length_map] at lx
    refine ⟨_, PSs.nox (pss_one (ps_ret (pe_lc (own := [("row", 1)]) (g := gName 1) (by rfl) nd (pi_list (pe_fld (pv 0) rfl)) (blkOk_by (N := ["self", "row"]) (sc := defScope sRowsA) (own := [("row", 1)]) (by decide +kernel)) (fun _ _ _ _ _ => pg_name (i := 1) nd rfl (Or.inl rfl)) (fun _ _ _ _ _ => pts_nil)
      (fun _ _ _ _ _ => pe_callTy (call_list_ofK (K := K) rfl) (by rfl) z_list (by decide +kernel) (pa_cons (pv 1) pa_nil))))), ?_⟩
    refine ⟨_, rfl, x, C, dx, _, _, rfl, hx, T.ic.cl, T.nR, fldA_r _ _ _ _, r, rfl, ⟨_, SqL.of hr1⟩, fun D nD => lc_list (K := K) (a := r) (xs := xs) (fun i H' => Same H H' ∧ ∃ acc, H' D = some (.lst acc) ∧ Pts H' acc ((m.R.take i).map natI) ∧ ∀ y ∈ acc, y ≠ .ref D) ⟨same_new nD, [], upd_same, .nil, fun y hy => (by cases hy)⟩ (fun i H' _ p => SqL.of (p.1 _ _ hr1)) ?_ ?_⟩
    · rintro i y H' hi ⟨sm, acc, hD, hA, nA⟩
      obtain ⟨p, ep, ⟨b, rfl, hb⟩⟩ := hP.get hi
      rw [List.getElem?_map] at ep
      obtain ⟨row, er, rfl⟩ := Option.map_eq_some_iff.mp ep
      have li := (List.getElem?_eq_some_iff.mp er).1
      have la := hA.len
      rw [List.length_map, List.length_take] at la
      refine ⟨rfl, ?_⟩
      refine ⟨_, rfl, b, _, rfl, .inl (SqL.of (sm _ _ hb)), fun l nl => ?_⟩
      have s2 := same_new (o := .lst ((natI row).map V.int)) nl
      have hD2 := s2 _ _ hD
      have nlD : l ≠ D := fun z => by
        rw [z, hD] at nl
        cases nl
      have nA2 : ∀ y ∈ acc ++ [V.ref l], y ≠ .ref D := fun y hy => by
        rcases List.mem_append.mp hy with h | h
        · exact nA y h
        · rw [List.mem_singleton.mp h]
          exact fun z => nlD (V.ref.inj z)
      refine ⟨acc, hD2, small1000 (by omega), fun c o e => ?_, acc ++ [.ref l], upd_same, ?_, nA2⟩
      · rw [upd_ne (ne_of_none (H := H) e nD)]
        exact s2 _ _ (sm _ _ e)
      · rw [List.take_add_one, er, List.map_append]
        exact Pts.updL nA2 (Pts.snoc ⟨l, rfl, upd_same⟩ (hA.keep s2))
    · rintro H' ⟨sm, acc, hD, hA, nA⟩
      rw [lx, List.take_length] at hA
      exact q H' D sm nD ⟨acc, hD, hA⟩
theorem ok_eqA (F : FnM K "__eq__" "Automaton.__eq__" sEqA f fd) (T : AT K mg C) (z_isinstance : mg "isinstance" = none) : FnOk P w K mg base CX0 1 f fd ["self", "other"] (spEqA K C) := by
  refine F.ok scEqA (fun vs H Q E h => ?_) (fun cdv A outer s H vs Q E hr h => ?_)
  · obtain ⟨x, y, m, rfl, _⟩ := h
    rfl
  · obtain ⟨x, y, m, rfl, ⟨dx, r, e, hx, hR, he⟩, h⟩ := h
    have hu := hr.units
    refine ⟨_, PSs.nox (pss_cons (ps_if (pt_not (pt_val (pe_callB call_isi (by rfl) z_isinstance (by decide +kernel) (pa_cons (pv 1) (pa_cons (pe_glob (v := .ref C) (by rfl) T.g rfl) pa_nil))))) (pss_one (ps_ret pe_bl)) pss_nil)
      (pss_cons (ps_if (PW.pt (pw_or (pt_cmpR op_ne (pe_fld (pv 0) rfl) (pe_fld (pv 1) rfl) (nomark _)) (pw_or1 (pt_cmpR op_ne (pe_fld (pv 0) rfl) (pe_fld (pv 1) rfl) (nomark _))))) (pss_one (ps_ret pe_bl)) pss_nil)
      (pss_one (ps_ret (pe_and (pe_cmpR (op_eqD hu) (pe_fld (pv 0) rfl) (pe_fld (pv 1) rfl) (nomark _)) (pe_one (pe_cmpR (op_eqD hu) (pe_fld (pv 0) rfl) (pe_fld (pv 1) rfl) (nomark _)))))))), ?_⟩
    rcases h with ⟨y', m2, rfl, ⟨dy, r2, e2, hy, hR2, he2⟩, q⟩ | ⟨⟨T', hT, ty⟩, q⟩
    · refine ⟨_, rfl, _, _, _, _, true, rfl, .own C, T.ty hy, T.ic.me, true, rfl, iteF ?_⟩
      have cmp : decide (m = m2) = (decide (m.z = m2.z) && (decide (m.s = m2.s) && (decide (m.R = m2.R) && decide (m.es = m2.es)))) := by
        obtain ⟨a1, a2, a3, a4⟩ := m
        obtain ⟨b1, b2, b3, b4⟩ := m2
        simp only [Am.mk.injEq, Bool.decide_and]
        cases decide (a1 = b1) <;> cases decide (a2 = b2) <;> cases decide (a3 = b3) <;> rfl
      rw [cmp] at q
      refine ⟨_, rfl, x, C, dx, _, _, rfl, hx, T.ic.cl, T.nL, fldA_l _ _ _ _, _, rfl, y', C, dy, _, _, rfl, hy, T.ic.cl, T.nL, fldA_l _ _ _ _, rfl, _, rfl, ?_⟩
      by_cases c1 : m.z = m2.z
      · rw [show decide (V.str m.z = V.str m2.z) = true from decide_eq_true (by rw [c1])]
        rw [decide_eq_true c1, Bool.true_and] at q
        refine iteF ⟨_, rfl, x, C, dx, _, _, rfl, hx, T.ic.cl, T.nS, fldA_s _ _ _ _, _, rfl, y', C, dy, _, _, rfl, hy, T.ic.cl, T.nS, fldA_s _ _ _ _, rfl, _, rfl, ?_⟩
        by_cases c2 : m.s = m2.s
        · rw [show decide (V.int (m.s : Int) = V.int (m2.s : Int)) = true from decide_eq_true (by rw [c2])]
          rw [decide_eq_true c2, Bool.true_and] at q
          refine iteF ⟨_, rfl, x, C, dx, _, _, rfl, hx, T.ic.cl, T.nR, fldA_r _ _ _ _, _, rfl, y', C, dy, _, _, rfl, hy, T.ic.cl, T.nR, fldA_r _ _ _ _, ?_⟩
          obtain ⟨xs, hr1, hP⟩ := hR
          obtain ⟨xs2, hr2, hP2⟩ := hR2
          refine ⟨PD (m.R.map natI), PD (m2.R.map natI), .lst (SqL.of hr1) hP.dp, .lst (SqL.of hr2) hP2.dp, shaped_P _, shaped_P _, ?_⟩
          rw [eqv_rows]
          by_cases c3 : m.R = m2.R
          · rw [decide_eq_true c3] at q ⊢
            rw [Bool.true_and] at q
            refine ⟨true, rfl, iteT ⟨_, rfl, x, C, dx, _, _, rfl, hx, T.ic.cl, T.nE, fldA_e _ _ _ _, _, rfl, y', C, dy, _, _, rfl, hy, T.ic.cl, T.nE, fldA_e _ _ _ _, ptD (natI m.es), ptD (natI m2.es), .lst (SqL.of he) (dp_ints _), .lst (SqL.of he2) (dp_ints _), pt_shaped _, pt_shaped _, ?_⟩⟩
            rw [eqv_es]
            exact q
          · rw [decide_eq_false c3] at q ⊢
            exact ⟨false, rfl, iteF q⟩
        · rw [show decide (V.int (m.s : Int) = V.int (m2.s : Int)) = false from decide_eq_false fun z => c2 (by have := V.int.inj z; omega)]
          rw [decide_eq_false c2] at q
          exact iteT q
      · rw [show decide (V.str m.z = V.str m2.z) = false from decide_eq_false fun z => c1 (V.str.inj z)]
        rw [decide_eq_false c1] at q
        exact iteT q
    · exact ⟨_, rfl, _, _, _, _, false, rfl, .own C, ty, T.kt T' hT, false, rfl, iteT q⟩
theorem ok_reqA (F : FnP K "require_automaton" sReqA f fd) (T : AT K mg C) (Z : ClF P w K mg base) (z_isinstance : mg "isinstance" = none) : FnOk P w K mg base (L2.CX P w) 3 f fd ["automaton"] (spReqA K C) := by
  refine F.ok scReqA (fun vs H Q E h => ?_) (fun cdv A outer s H vs Q E hr h => ?_)
  · obtain ⟨v, rfl, _⟩ := h
    rfl
  · obtain ⟨v, rfl, h⟩ := h
    obtain ⟨fI, fdI, XT⟩ := Z.x 0 (by decide)
    have XT : XCls P w K mg base "InvalidAutomaton" "value" (CF K 0) fI fdI := XT
    refine ⟨_, pss_one (ps_if (pt_not (pt_val (pe_callB call_isi (by rfl) z_isinstance (by decide +kernel) (pa_cons (pv 0) (pa_cons (pe_glob (v := .ref C) (by rfl) T.g rfl) pa_nil))))) (pss_one (ps_raiseX (nm := "InvalidAutomaton") rfl XT hr (takes_of rfl rfl rfl rfl) (by rfl) (pv 0))) pss_nil), ?_⟩
    rcases h with ⟨x, m, rfl, ⟨dx, r, e, hx, hR, he⟩, q⟩ | ⟨⟨T', hT, ty⟩, r⟩
    · exact ⟨_, rfl, _, _, _, _, true, rfl, .own C, T.ty hx, T.ic.me, true, rfl, iteF q⟩
    · exact ⟨_, rfl, _, _, _, _, false, rfl, .own C, ty, T.kt T' hT, false, rfl, iteT ⟨_, rfl, fun d nd => r H d (Same.refl _) nd⟩⟩
theorem ok_reqR (F : FnP K "require_reading" sReqR f fd) (Z : ClF P w K mg base) (o_aut : OkX P w K mg base "require_automaton" 3 ["automaton"] (spReqA K C)) (o_word : Ok P w K mg base "is_word" 2 ["value"] spIsWord) :
    FnOk P w K mg base (L2.CX P w) 4 f fd ["automaton", "word"] (spReqR K C) := by
  refine F.ok scReqR (fun vs H Q E h => ?_) (fun cdv A outer s H vs Q E hr h => ?_)
  · obtain ⟨u, v, rfl, _⟩ := h
    rfl
  · obtain ⟨u, v, rfl, h⟩ := h
    obtain ⟨fI, fdI, XT⟩ := Z.x 3 (by decide)
    have XT : XCls P w K mg base "InvalidWord" "value" (CF K 3) fI fdI := XT
    refine ⟨_, pss_cons (ps_expr (pe_callX (E := E) o_aut (takes_of rfl rfl rfl rfl) hr (by rfl) (pa_cons (pv 0) pa_nil)))
      (pss_one (ps_if (pt_not (pt_val (pe_callO o_word (hr.mono (by decide)) (by rfl) (pa_cons (pv 1) pa_nil)))) (pss_one (ps_raiseX (nm := "InvalidWord") rfl XT (hr.mono (by decide)) (takes_of rfl rfl rfl rfl) (by rfl) (pv 1))) pss_nil)), ?_⟩
    rcases h with ⟨n, r⟩ | ⟨x, m, rfl, hx, kn, lv, h⟩
    · exact ⟨_, rfl, _, rfl, .inr ⟨n, r⟩⟩
    refine ⟨_, rfl, _, rfl, .inl ⟨x, m, rfl, hx, ?_⟩⟩
    refine ⟨_, rfl, v, rfl, kn, lv, ?_⟩
    rcases h with ⟨e, r⟩ | ⟨e, q⟩
    · rw [e]
      exact ⟨false, rfl, iteT ⟨_, rfl, fun d nd => r H d (Same.refl _) nd⟩⟩
    · rw [e]
      exact ⟨true, rfl, iteF q⟩
end
end KJ
set_option Elab.async false
set_option linter.all false
set_option maxRecDepth 100000
set_option maxHeartbeats 4000000
namespace KJ
open PySem PySem.Spec PyProof.Rows L2 XV NM XT
structure OkMa (P : Program) (w : World) (K : PySem.W.Frag) (mg : Str → Option Value) (base : Heap) (C : Addr) (m : Str) (sp : Sp) : Prop where
  ex : ∃ f fd, FnOk P w K mg base CX0 1 f fd ["self"] sp ∧ Meth K C m f ∧ Binds K fd ["self"] []
section
variable {X : Cx} {C : Addr} {e : Expr} {te : TE} {apos pos : Pos}
theorem pe_letA {pl : Sem Bool} (o : OkMa X.prog X.w X.K X.mg X.base C "letters" (spLetA C)) (T : AT X.K X.mg C) (he : PE X e te) (hr : Room 1 X.A) (ht : eval (.Call (.Attribute e "letters" apos) [] [] pos) X.env = (do
      let ov ← eval e X.env
      standAt apos.atName
      let (f, first) ← holding [ov] (getMethod ov "letters" pl)
      callWith pos f first (backTo pos (starEach [] X.env)) (backToKw pos (keywordEach [] X.env))) := by rfl) :
    PE X (.Call (.Attribute e "letters" apos) [] [] pos) (fun σ H Q => te σ H fun x H1 => ∃ a m, x = .ref a ∧ Au C H1 a m ∧ Q (.str m.z) H1) := by
  obtain ⟨f, fd, F, hm, b⟩ := o.ex
  refine PE.le (pe_meth0 (pl := pl) (pe_mono he) T.ic.cl hm F hr b .nil pass0 ht) fun σ H Q h => ⟨_, h, ?_⟩
  rintro x H1 ⟨a, m, rfl, hg, q⟩
  obtain ⟨dx, r, en, hx, hL⟩ := id hg
  exact ⟨a, dx, _, rfl, hx, fldA_no _ _ _ _ (by decide +kernel) (by decide +kernel) (by decide +kernel) (by decide +kernel), a, m, rfl, hg, q⟩
theorem pe_startA {pl : Sem Bool} (o : OkMa X.prog X.w X.K X.mg X.base C "start" (spStartA C)) (T : AT X.K X.mg C) (he : PE X e te) (hr : Room 1 X.A) (ht : eval (.Call (.Attribute e "start" apos) [] [] pos) X.env = (do
      let ov ← eval e X.env
      standAt apos.atName
      let (f, first) ← holding [ov] (getMethod ov "start" pl)
      callWith pos f first (backTo pos (starEach [] X.env)) (backToKw pos (keywordEach [] X.env))) := by rfl) :
    PE X (.Call (.Attribute e "start" apos) [] [] pos) (fun σ H Q => te σ H fun x H1 => ∃ a m, x = .ref a ∧ Au C H1 a m ∧ Q (.int m.s) H1) := by
  obtain ⟨f, fd, F, hm, b⟩ := o.ex
  refine PE.le (pe_meth0 (pl := pl) (pe_mono he) T.ic.cl hm F hr b .nil pass0 ht) fun σ H Q h => ⟨_, h, ?_⟩
  rintro x H1 ⟨a, m, rfl, hg, q⟩
  obtain ⟨dx, r, en, hx, hL⟩ := id hg
  exact ⟨a, dx, _, rfl, hx, fldA_no _ _ _ _ (by decide +kernel) (by decide +kernel) (by decide +kernel) (by decide +kernel), a, m, rfl, hg, q⟩
theorem pe_rowsA {pl : Sem Bool} (o : OkMa X.prog X.w X.K X.mg X.base C "rows" (spRowsA C)) (T : AT X.K X.mg C) (he : PE X e te) (hr : Room 1 X.A) (ht : eval (.Call (.Attribute e "rows" apos) [] [] pos) X.env = (do
      let ov ← eval e X.env
      standAt apos.atName
      let (f, first) ← holding [ov] (getMethod ov "rows" pl)
      callWith pos f first (backTo pos (starEach [] X.env)) (backToKw pos (keywordEach [] X.env))) := by rfl) :
    PE X (.Call (.Attribute e "rows" apos) [] [] pos) (fun σ H Q => te σ H fun x H1 => ∃ a m, x = .ref a ∧ Au C H1 a m ∧ m.R.length ≤ 12 ∧ ∀ (H' : Hp) (p : Addr), Same H1 H' → H1 p = none → RL H' p m.R → Q (.ref p) H') := by
  obtain ⟨f, fd, F, hm, b⟩ := o.ex
  refine PE.le (pe_meth0 (pl := pl) (pe_mono he) T.ic.cl hm F hr b .nil pass0 ht) fun σ H Q h => ⟨_, h, ?_⟩
  rintro x H1 ⟨a, m, rfl, hg, q⟩
  obtain ⟨dx, r, en, hx, hL⟩ := id hg
  exact ⟨a, dx, _, rfl, hx, fldA_no _ _ _ _ (by decide +kernel) (by decide +kernel) (by decide +kernel) (by decide +kernel), a, m, rfl, hg, q⟩
theorem pe_endsA {pl : Sem Bool} (o : OkMa X.prog X.w X.K X.mg X.base C "ends" (spEndsA C)) (T : AT X.K X.mg C) (he : PE X e te) (hr : Room 1 X.A) (ht : eval (.Call (.Attribute e "ends" apos) [] [] pos) X.env = (do
      let ov ← eval e X.env
      standAt apos.atName
      let (f, first) ← holding [ov] (getMethod ov "ends" pl)
      callWith pos f first (backTo pos (starEach [] X.env)) (backToKw pos (keywordEach [] X.env))) := by rfl) :
    PE X (.Call (.Attribute e "ends" apos) [] [] pos) (fun σ H Q => te σ H fun x H1 => ∃ a m, x = .ref a ∧ Au C H1 a m ∧ ∀ (p : Addr), H1 p = none → Q (.ref p) (upd H1 p (.lst ((natI m.es).map V.int)))) := by
  obtain ⟨f, fd, F, hm, b⟩ := o.ex
  refine PE.le (pe_meth0 (pl := pl) (pe_mono he) T.ic.cl hm F hr b .nil pass0 ht) fun σ H Q h => ⟨_, h, ?_⟩
  rintro x H1 ⟨a, m, rfl, hg, q⟩
  obtain ⟨dx, r, en, hx, hL⟩ := id hg
  exact ⟨a, dx, _, rfl, hx, fldA_no _ _ _ _ (by decide +kernel) (by decide +kernel) (by decide +kernel) (by decide +kernel), a, m, rfl, hg, q⟩
end
section
variable {P : Program} {w : World} {K : PySem.W.Frag} {mg : Str → Option Value} {base : Heap} {f : Addr} {fd : FuncData} {C : Addr}
theorem ok_cols (F : FnP K "columns_of" sCols f fd) (T : AT K mg C) (o_let : OkMa P w K mg base C "letters" (spLetA C)) (z_enum : mg "enumerate" = none) (z_len : mg "len" = none) : FnOk P w K mg base CX0 2 f fd ["machine", "word"] (spCols C) := by
  have nd := scCols.nd
  refine F.ok scCols (fun vs H Q E h => ?_) (fun cdv A outer s H vs Q E hr h => ?_)
  · obtain ⟨x, m, y, rfl, _⟩ := h
    rfl
  · obtain ⟨x, ⟨z, R, st, es⟩, y, rfl, hx, ok, ly, q⟩ := h
    have nz := ok.nd
    have lz0 : z.length ≤ 26 := ok.lz
    dsimp only at *
    have szl := sizeLine_eq
    have r1 : Room 1 (A.deeper (envOfC "columns_of" (defScope sCols) s.heap.objs.size f cdv)) := hr
    have hu1 : (A.deeper (envOfC "columns_of" (defScope sCols) s.heap.objs.size f cdv)).units + 1 < cLine := by have := hr.un; omega
    refine ⟨_, PSs.nox (pss_cons (ps_set (i := 2) nd rfl (Or.inr rfl) (pe_letA o_let T (pv 0) r1))
      (pss_cons (ps_set (i := 3) nd rfl (Or.inr rfl) (pe_dc (own := [("letter", 4), ("at", 5)]) (g := gTup K 2 (gCons (gName 5) (gCons (gName 4) gNil))) (by rfl) nd (pi_enumS (by rfl) z_enum (pv 2)) (blkOk_by (N := nCols) (sc := defScope sCols) (own := [("letter", 4), ("at", 5)]) (by decide +kernel))
          (fun _ _ _ _ _ => pg_tup rfl (pgs_cons (pg_name (i := 5) nd rfl (Or.inl rfl)) (pgs_cons (pg_name (i := 4) nd rfl (Or.inl rfl)) pgs_nil))) (fun _ _ _ _ _ => pts_nil) (fun _ _ _ _ _ => pv 4) (fun _ _ _ _ _ => pv 5)))
      (pss_one (ps_ret (pe_lc (own := [("letter", 4)]) (g := gName 4) (by rfl) nd (pi_str (pv 1)) (blkOk_by (N := nCols) (sc := defScope sCols) (own := [("letter", 4)]) (by decide +kernel)) (fun _ _ _ _ _ => pg_name (i := 4) nd rfl (Or.inl rfl)) (fun _ _ _ _ _ => pts_nil)
          (fun _ _ _ _ _ => pe_dget2 hu1 (pv 3) (pv 4) (pe_callB call_len_str (by rfl) z_len boot_len (pa_cons (pv 2) pa_nil)) ⟨rfl, rfl, rfl, rfl⟩)))))), ?_⟩
    refine ⟨_, rfl, x, ⟨z, R, st, es⟩, rfl, hx, ?_⟩
    have lz : z.length ≤ 26 := ok.lz
    have sz : z.cps.size = (cz z).length := by simp
    have lcz := cz_len z
    refine ⟨_, rfl, z, rfl, ok.ascii, fun D nD => dc_it walk_enumS (fun i H' => Same H H' ∧ ∃ kvs : List (Key × V), H' D = some (.dK kvs) ∧ kvs.length ≤ i ∧ ∀ c : Nat, valV kvs (.inr ⟨#[c]⟩) = if (cz z).idxOf c < i then some (.int (((cz z).idxOf c : Nat) : Int)) else none)
      ⟨same_new nD, [], upd_same, Nat.le_refl _, fun c => by rw [if_neg (by omega)]; rfl⟩ (fun _ _ _ _ => trivial) ?_ ?_⟩
    · rintro i v H' H2 hi ⟨sm, kvs, hD, lk, hv⟩ ⟨T', a, b, rfl, nT, rfl, ea, eb⟩
      obtain rfl : V.int (i : Nat) = a := Option.some.inj ea
      obtain ⟨c, ec, rfl⟩ := Option.map_eq_some_iff.mp eb
      rw [cz_at] at ec
      have ic := idx_at nz ec
      have li := (List.getElem?_eq_some_iff.mp ec).1
      have sT := same_new (o := .tup [.int (i : Nat), .str ⟨#[c]⟩]) nT
      refine ⟨T', _, rfl, SqT.of upd_same, rfl, _, _, rfl, _, _, rfl, rfl, rfl, ?_⟩
      refine ⟨_, rfl, _, rfl, kvs, .inr ⟨#[c]⟩, rfl, sT _ _ hD, small1000 (by omega), fun d o e => ?_, _, upd_same, Nat.le_trans (length_putK _ _ _) (by omega), fun c2 => ?_⟩
      · rw [upd_ne (ne_of_none (H := H) e nD)]
        exact sT _ _ (sm _ _ e)
      · rw [valV_put]
        by_cases e : c2 = c
        · subst e
          rw [if_pos rfl, ic, if_pos (by omega)]
        · have ne : ¬ ((.inr ⟨#[c2]⟩ : Key) = .inr ⟨#[c]⟩) := fun h => e (by
            have := Str.mk.inj (Sum.inr.inj h)
            simpa using this)
          rw [if_neg ne, hv]
          have ni : (cz z).idxOf c2 ≠ i := fun h => by
            have l2 : (cz z).idxOf c2 < (cz z).length := by omega
            have e2 : (cz z)[(cz z).idxOf c2] = c2 := List.getElem_idxOf l2
            obtain ⟨h3, e4⟩ := List.getElem?_eq_some_iff.mp ec
            apply e
            rw [← e2, ← e4]
            congr 1
          by_cases h : (cz z).idxOf c2 < i
          · rw [if_pos h, if_pos (by omega)]
          · rw [if_neg h, if_neg (by omega)]
    rintro H1 ⟨sm, kvs, hD, lk, hv⟩
    refine ⟨_, rfl, y, rfl, fun D2 nD2 => lc_it walk_str (fun i H' => Same H1 H' ∧ H' D2 = some (.lst ((natI ((colsN z y).take i)).map V.int))) ⟨same_new nD2, upd_same⟩ (fun _ _ _ _ => trivial) ?_ ?_⟩
    · rintro i v H' H2 hi ⟨s2, hD2⟩ ⟨rfl, c, ec, rfl⟩
      rw [cz_at] at ec
      have li := (List.getElem?_eq_some_iff.mp ec).1
      have ly2 := cz_len y
      have egd : (valV kvs (.inr ⟨#[c]⟩)).getD (V.int (z.length : Int)) = .int (((cz z).idxOf c : Nat) : Int) := by
        rw [hv, sz]
        by_cases h : (cz z).idxOf c < (cz z).length
        · rw [if_pos h]
          rfl
        · rw [if_neg h]
          have := List.idxOf_le_length (a := c) (l := cz z)
          show V.int (z.length : Int) = _
          rw [cz_len z, show (cz z).idxOf c = (cz z).length by omega]
      refine ⟨rfl, ?_⟩
      refine ⟨_, rfl, D, rfl, .inl ⟨kvs, .inl (s2 _ _ hD)⟩, _, rfl, _, rfl, z, rfl, by omega, _, DGet.k (k := .inr ⟨#[c]⟩) (s2 _ _ hD), _, hD2, ?_, fun d o e => ?_, ?_⟩
      · rw [List.length_map, natI_len, List.length_take]
        omega
      · rw [upd_ne (ne_of_none (H := H1) e nD2)]
        exact s2 _ _ e
      · rw [upd_same, egd]
        have et : (colsN z y)[i]? = some ((cz z).idxOf c) := by
          unfold colsN
          rw [List.getElem?_map, ec]
          rfl
        rw [List.take_add_one, et]
        unfold natI
        rw [List.map_append, List.map_append]
        rfl
    · rintro H' ⟨s2, hD2⟩
      have ly2 : y.cps.size = (colsN z y).length := by simp [colsN]
      rw [ly2, List.take_length] at hD2
      refine q H' D2 (sm.trans s2) ?_ hD2
      cases e : H D2 with
      | none => rfl
      | some o =>
        rw [sm _ _ e] at nD2
        cases nD2
end
/-! ### the making -/
structure OkMk (P : Program) (w : World) (K : PySem.W.Frag) (mg : Str → Option Value) (base : Heap) (C : Addr) : Prop where
  ex : ∃ f fd mv, Mk K C f ∧ FnOk P w K mg base CX0 6 f fd ["self", "letters", "rows", "start", "ends"] (spInitA C) ∧ KBn K fd ["self", "letters", "rows", "start", "ends"] 3 ["ends"] (fun us ws => us ++ mv ++ ws) (fun vs zs => vs ++ [V.int 0] ++ zs) ∧ KBn K fd ["self", "letters", "rows", "start", "ends"] 3 ["start", "ends"] (fun us ws => us ++ ws) (fun vs zs => vs ++ zs) ∧ mg "Automaton" = some (.ref C)
section
variable {X : Cx} {C : Addr} {e1 e2 : Expr} {kws : List Keyword} {t tk : TA} {pos p : Pos}
/-- Automaton(letters, rows, ends=..) -/
theorem pe_mk0 (o : OkMk X.prog X.w X.K X.mg X.base C) (hr : Room 7 X.A) (hg : Gl X "Automaton") (ha : PA X [e1, e2] t) (hk : PK X kws tk)
    (hall : (backToKw pos (keywordEach kws X.env)).all (·.1.isSome) = true := by rfl) (hks : (backToKw pos (keywordEach kws X.env)).filterMap (·.1) = (["ends"] : List Str) := by rfl)
    (he : starEach [e1, e2] X.env = (false, eval e1 X.env) :: starEach [e2] X.env := by rfl) (hpl : ((backTo pos (starEach [e1, e2] X.env)).any (·.1) || (backToKw pos (keywordEach kws X.env)).any (·.1.isNone)) = false := by rfl) :
    PE X (.Call (.Name "Automaton" p) [e1, e2] kws pos) (tMakeK C 2 1 (spInitA C) (fun vs zs => vs ++ [V.int 0] ++ zs) E0 t tk) := by
  obtain ⟨f, fd, mv, M, F, b, b2, g⟩ := o.ex
  exact pe_makeK M F hr hg g b pass0 ha hk hall hks (by decide) he hpl
/-- Automaton(letters, rows, start=.., ends=..) -/
theorem pe_mk1 (o : OkMk X.prog X.w X.K X.mg X.base C) (hr : Room 7 X.A) (hg : Gl X "Automaton") (ha : PA X [e1, e2] t) (hk : PK X kws tk)
    (hall : (backToKw pos (keywordEach kws X.env)).all (·.1.isSome) = true := by rfl) (hks : (backToKw pos (keywordEach kws X.env)).filterMap (·.1) = (["start", "ends"] : List Str) := by rfl)
    (he : starEach [e1, e2] X.env = (false, eval e1 X.env) :: starEach [e2] X.env := by rfl) (hpl : ((backTo pos (starEach [e1, e2] X.env)).any (·.1) || (backToKw pos (keywordEach kws X.env)).any (·.1.isNone)) = false := by rfl) :
    PE X (.Call (.Name "Automaton" p) [e1, e2] kws pos) (tMakeK C 2 2 (spInitA C) (fun vs zs => vs ++ zs) E0 t tk) := by
  obtain ⟨f, fd, mv, M, F, b, b2, g⟩ := o.ex
  exact pe_makeK M F hr hg g b2 pass0 ha hk hall hks (by decide) he hpl
end
/-- what the making asks, its instance new -/
theorem mk_sp {C : Addr} {H : Hp} {Q : VK} {x dx ra en : Addr} {m : Am} (nx : H x = none) (ndx : H dx = none) (ne : dx ≠ x) (hen : H en = some (.lst ((natI m.es).map V.int))) (hR : RL H ra m.R) (ok : AmOk m) (q : ∀ H' : Hp, Same H H' → Au C H' x m → Q .non H') :
    spInitA C [V.ref x, V.str m.z, V.ref ra, V.int m.s, V.ref en] (upd (upd H dx (.own x)) x (.ins C dx [])) Q E0 := by
  have s1 := same_new (o := .own x) ndx
  have s2 : Same (upd H dx (.own x)) (upd (upd H dx (.own x)) x (.ins C dx [])) := same_new (by rw [upd_ne (Ne.symm ne)]; exact nx)
  have s := s1.trans s2
  refine ⟨x, dx, ra, en, m, rfl, upd_same, s _ _ hen, hR.keep s, ok, fun H' hb ha => q H' (fun b o e => ?_) ha⟩
  exact hb _ _ (ne_of_none e nx) (s _ _ e)
section
variable {P : Program} {w : World} {K : PySem.W.Frag} {mg : Str → Option Value} {base : Heap} {f : Addr} {fd : FuncData} {C : Addr}
theorem ok_initA (F : FunD K "__init__" "Automaton.__init__" (defArgs sInitA) (defBody sInitA) (defScope sInitA) [] [("start", .int 0)] f fd) (T : AT K mg C) (o_alph : Ok P w K mg base "is_alphabet" 3 ["value"] spAlph) (o_lrows : Ok P w K mg base "is_list_of_rows" 5 ["value", "width"] spLRows) (o_below : Ok P w K mg base "is_count_below" 3 ["bound", "value"] spBelow) (o_ris : Ok P w K mg base "is_rising" 5 ["how_many", "value"] spRis) (z_len : mg "len" = none) (z_list : mg "list" = none) : FnOk P w K mg base CX0 6 f fd ["self", "letters", "rows", "start", "ends"] (spInitA C) := by
  have nd := scInitA.nd
  refine F.ok scInitA (fun vs H Q E h => ?_) (fun cdv A outer s H vs Q E hr h => ?_)
  · obtain ⟨x, dx, ra, en, m, rfl, _⟩ := h
    rfl
  · obtain ⟨x, dx, ra, en, ⟨z, R, st, es⟩, rfl, hx, hen, hR, ok, q⟩ := h
    dsimp only at *
    have r5 : Room 5 (A.deeper (envOfC "Automaton.__init__" (defScope sInitA) s.heap.objs.size f cdv)) := hr
    have r3 := r5.mono (by decide : 3 ≤ 5)
    have az : alphV (.str z) = true := ok.al
    have l3 : z.length ≤ 26 := ok.lz
    have hst : st < R.length := ok.hs
    have el : es.length ≤ 12 := ok.el
    have szl := sizeLine_eq
    refine ⟨_, PSs.nox (pss_cons (ps_if (pt_not (pt_val (pe_callO o_alph r3 (by rfl) (pa_cons (pv 1) pa_nil)))) (pss_one ps_never) pss_nil)
      (pss_cons (ps_if (pt_not (pt_val (pe_callO o_lrows r5 (by rfl) (pa_cons (pv 2) (pa_cons (pe_op op_add (pe_callB call_len_str (by rfl) z_len boot_len (pa_cons (pv 1) pa_nil)) pe_int) pa_nil))))) (pss_one ps_never) pss_nil)
      (pss_cons (ps_if (pt_not (pt_val (pe_callO o_below r3 (by rfl) (pa_cons (pe_callB call_len (by rfl) z_len boot_len (pa_cons (pv 2) pa_nil)) (pa_cons (pv 3) pa_nil))))) (pss_one ps_never) pss_nil)
      (pss_cons (ps_if (pt_not (pt_val (pe_callO o_ris r5 (by rfl) (pa_cons (pe_callB call_len (by rfl) z_len boot_len (pa_cons (pv 2) pa_nil)) (pa_cons (pv 4) pa_nil))))) (pss_one ps_never) pss_nil)
      (pss_cons (ps_fld (pv 0) (pv 1) rfl)
      (pss_cons (ps_fld (pv 0) (pe_lc (own := [("row", 5)]) (g := gName 5) (by rfl) nd (pi_list (pv 2)) (blkOk_by (N := ["self", "letters", "rows", "start", "ends", "row"]) (sc := defScope sInitA) (own := [("row", 5)]) (by decide +kernel)) (fun _ _ _ _ _ => pg_name (i := 5) nd rfl (Or.inl rfl)) (fun _ _ _ _ _ => pts_nil)
        (fun _ _ _ _ _ => pe_callTy (call_list_ofK (K := K) rfl) (by rfl) z_list (by decide +kernel) (pa_cons (pv 5) pa_nil))) rfl)
      (pss_cons (ps_fld (pv 0) (pv 3) rfl)
      (pss_one (ps_fld (pv 0) (pe_callTy call_list_of (by rfl) z_list (by decide +kernel) (pa_cons (pv 4) pa_nil)) rfl))))))))), ?_⟩
    refine ⟨_, rfl, _, rfl, .str z, fun z' e => (by
      cases e
      omega), fun H1 s1 => ⟨_, rfl, ?_⟩⟩
    rw [az]
    refine iteF ?_
    obtain ⟨xs, hra, hP⟩ := id hR
    have lx := hP.len
    rw [List.length_map] at lx
    have q1 : 1 ≤ R.length := ok.r1
    have q2 : R.length ≤ 12 := ok.r2
    refine ⟨_, rfl, _, rfl, z, rfl, by omega, _, _, rfl, rfl, ra, R, z.length + 1, rfl, hR.keep s1, q1, q2, ok.rw, by omega, fun H2 s2 => ⟨true, rfl, iteF ?_⟩⟩
    have s02 := s1.trans s2
    refine ⟨_, rfl, _, R.length, rfl, .inl ⟨_, SqL.of (s02 _ _ hra), lx.symm⟩, _, rfl, _, _, rfl, .int _, ?_⟩
    rw [show belV (R.length : Int) (.int (st : Int)) = true from (below_lt _ _).trans (decide_eq_true hst)]
    refine ⟨true, rfl, iteF ?_⟩
    refine ⟨_, rfl, _, R.length, rfl, .inl ⟨_, SqL.of (s02 _ _ hra), lx.symm⟩, _, rfl, en, R.length, es, rfl, s02 _ _ hen, by omega, ok.he, ok.pw, fun H3 s3 => ⟨true, rfl, iteF ?_⟩⟩
    have s03 := s02.trans s3
    have hx3 := s03 _ _ hx
    have hra3 := s03 _ _ hra
    have hen3 := s03 _ _ hen
    refine ⟨_, rfl, _, rfl, x, C, dx, _, rfl, hx3, T.ic.cl, T.nL, (by show 0 < 1000; decide), ?_⟩
    have nrx : ra ≠ x := ne_of hra hx (by intro z; cases z)
    have nex : en ≠ x := ne_of hen hx (by intro z; cases z)
    have hx4 : upd H3 x (.ins C dx (putF "_letters" (.str z) [])) x = some (.ins C dx (putF "_letters" (.str z) [])) := upd_same
    have hra4 : upd H3 x (.ins C dx (putF "_letters" (.str z) [])) ra = some (.lst xs) := by rw [upd_ne nrx]; exact hra3
    have hen4 : upd H3 x (.ins C dx (putF "_letters" (.str z) [])) en = some (.lst ((natI es).map V.int)) := by rw [upd_ne nex]; exact hen3
    have hP4 : Pts (upd H3 x (.ins C dx (putF "_letters" (.str z) []))) xs (R.map natI) := Pts.updI hx3 (hP.keep s03)
    have k4 : ∀ b o, b ≠ x → H b = some o → upd H3 x (.ins C dx (putF "_letters" (.str z) [])) b = some o := fun b o nb e => by
      rw [upd_ne nb]
      exact s03 _ _ e
    generalize upd H3 x (.ins C dx (putF "_letters" (.str z) [])) = H4 at *
    refine ⟨_, rfl, ra, rfl, ⟨_, SqL.of hra4⟩, fun D nD => lc_list (K := K) (a := ra) (xs := xs) (fun i H' => Same H4 H' ∧ ∃ acc, H' D = some (.lst acc) ∧ Pts H' acc ((R.take i).map natI) ∧ ∀ y ∈ acc, y ≠ .ref D) ⟨same_new nD, [], upd_same, .nil, fun y hy => (by cases hy)⟩ (fun i H' _ p => SqL.of (p.1 _ _ hra4)) ?_ ?_⟩
    · rintro i y H' hi ⟨sm, acc, hD, hA, nA⟩
      obtain ⟨p, ep, b, rfl, hb⟩ := hP4.get hi
      rw [List.getElem?_map] at ep
      obtain ⟨row, er, rfl⟩ := Option.map_eq_some_iff.mp ep
      have li := (List.getElem?_eq_some_iff.mp er).1
      have la := hA.len
      rw [List.length_map, List.length_take] at la
      refine ⟨rfl, ?_⟩
      refine ⟨_, rfl, b, _, rfl, .inl (SqL.of (sm _ _ hb)), fun l nl => ?_⟩
      have s5 := same_new (o := .lst ((natI row).map V.int)) nl
      have hD5 := s5 _ _ hD
      have nlD : l ≠ D := fun e => by
        rw [e, hD] at nl
        cases nl
      have nA5 : ∀ y ∈ acc ++ [V.ref l], y ≠ .ref D := fun y hy => by
        rcases List.mem_append.mp hy with h | h
        · exact nA y h
        · rw [List.mem_singleton.mp h]
          exact fun e => nlD (V.ref.inj e)
      refine ⟨acc, hD5, small1000 (by omega), fun c o e => ?_, acc ++ [.ref l], upd_same, ?_, nA5⟩
      · rw [upd_ne (ne_of_none (H := H4) e nD)]
        exact s5 _ _ (sm _ _ e)
      · rw [List.take_add_one, er, List.map_append]
        exact Pts.updL nA5 (Pts.snoc ⟨l, rfl, upd_same⟩ (hA.keep s5))
    rintro H5 ⟨s5, acc, hD, hA, nA⟩
    rw [lx, List.take_length] at hA
    have hx5 := s5 _ _ hx4
    refine ⟨_, rfl, x, C, dx, _, rfl, hx5, T.ic.cl, T.nR, (by show 1 < 1000; decide), ?_⟩
    refine ⟨_, rfl, _, rfl, x, C, dx, _, rfl, upd_same, T.ic.cl, T.nS, (by show 2 < 1000; decide), ?_⟩
    have Dx : D ≠ x := ne_of hD hx5 (by intro z; cases z)
    have hA6 : Pts (upd (upd H5 x (.ins C dx (putF "_rows" (.ref D) (putF "_letters" (.str z) [])))) x (.ins C dx (putF "_start" (.int st) (putF "_rows" (.ref D) (putF "_letters" (.str z) []))))) acc (R.map natI) := Pts.updI upd_same (Pts.updI hx5 hA)
    have hD6 : upd (upd H5 x (.ins C dx (putF "_rows" (.ref D) (putF "_letters" (.str z) [])))) x (.ins C dx (putF "_start" (.int st) (putF "_rows" (.ref D) (putF "_letters" (.str z) [])))) D = some (.lst acc) := by
      rw [upd_ne Dx, upd_ne Dx]
      exact hD
    have hen6 : upd (upd H5 x (.ins C dx (putF "_rows" (.ref D) (putF "_letters" (.str z) [])))) x (.ins C dx (putF "_start" (.int st) (putF "_rows" (.ref D) (putF "_letters" (.str z) [])))) en = some (.lst ((natI es).map V.int)) := by
      rw [upd_ne nex, upd_ne nex]
      exact s5 _ _ hen4
    have hx6 : upd (upd H5 x (.ins C dx (putF "_rows" (.ref D) (putF "_letters" (.str z) [])))) x (.ins C dx (putF "_start" (.int st) (putF "_rows" (.ref D) (putF "_letters" (.str z) [])))) x = some (.ins C dx (putF "_start" (.int st) (putF "_rows" (.ref D) (putF "_letters" (.str z) [])))) := upd_same
    have k6 : ∀ b o, b ≠ x → H b = some o → upd (upd H5 x (.ins C dx (putF "_rows" (.ref D) (putF "_letters" (.str z) [])))) x (.ins C dx (putF "_start" (.int st) (putF "_rows" (.ref D) (putF "_letters" (.str z) [])))) b = some o := fun b o nb e => by
      rw [upd_ne nb, upd_ne nb]
      exact s5 _ _ (k4 b o nb e)
    generalize upd (upd H5 x (.ins C dx (putF "_rows" (.ref D) (putF "_letters" (.str z) [])))) x (.ins C dx (putF "_start" (.int st) (putF "_rows" (.ref D) (putF "_letters" (.str z) [])))) = H6 at *
    refine ⟨_, rfl, en, _, rfl, .inl (SqL.of hen6), fun l nl => ?_⟩
    have s7 := same_new (o := .lst ((natI es).map V.int)) nl
    have hx7 := s7 _ _ hx6
    refine ⟨_, rfl, x, C, dx, _, rfl, hx7, T.ic.cl, T.nE, (by show 3 < 1000; decide), ?_⟩
    refine q _ (fun b o nb e => ?_) ⟨dx, D, l, upd_same, RL.updI hx7 ⟨acc, s7 _ _ hD6, hA6.keep s7⟩, ?_⟩
    · rw [upd_ne nb]
      exact s7 _ _ (k6 b o nb e)
    · rw [upd_ne (ne_of (upd_same (H := H6) (a := l)) hx7 (by intro z; cases z))]
      exact upd_same
end
end KJ
set_option Elab.async false
set_option linter.all false
set_option maxRecDepth 100000
set_option maxHeartbeats 1000000
namespace KJ
open PySem PySem.Spec PyProof.Rows L2 XV NM XT
theorem int_get {l : List Nat} {i : Nat} {y : V} (h : ((natI l).map V.int)[i]? = some y) : ∃ s, l[i]? = some s ∧ y = .int (s : Int) := by
  rw [List.getElem?_map, natI_get] at h
  cases e : l[i]? with
  | none =>
    rw [e] at h
    cases h
  | some s =>
    rw [e] at h
    cases h
    exact ⟨s, rfl, rfl⟩
def stepN (R : List (List Nat)) (c s : Nat) : Nat := (R.getD s []).getD c 0
def runN (R : List (List Nat)) (cols : List Nat) (s : Nat) : Nat := cols.foldl (fun s c => stepN R c s) s
theorem run_snoc (R : List (List Nat)) (cols : List Nat) (c s : Nat) : runN R (cols ++ [c]) s = stepN R c (runN R cols s) := by
  unfold runN
  rw [List.foldl_append]
  rfl
theorem cols_le (z y : Str) : ∀ c ∈ colsN z y, c ≤ z.length := fun c hc => by
  obtain ⟨a, _, rfl⟩ := List.mem_map.mp hc
  rw [cz_len]
  exact List.idxOf_le_length
theorem step_at {m : Am} (ok : AmOk m) {c s : Nat} (hc : c ≤ m.z.length) (hs : s < m.R.length) : stepN m.R c s < m.R.length ∧ ∃ r, m.R[s]? = some r ∧ r[c]? = some (stepN m.R c s) := by
  have e1 : m.R[s]? = some m.R[s] := List.getElem?_eq_getElem hs
  obtain ⟨h1, h2⟩ := ok.rw _ (List.getElem_mem hs)
  have lc : c < m.R[s].length := by omega
  have e2 : m.R[s][c]? = some m.R[s][c] := List.getElem?_eq_getElem lc
  have e3 : stepN m.R c s = m.R[s][c] := by
    unfold stepN
    have e4 : m.R.getD s [] = m.R[s] := by
      rw [List.getD_eq_getElem?_getD, e1]
      rfl
    rw [e4, List.getD_eq_getElem?_getD, e2]
    rfl
  rw [e3]
  exact ⟨h2 _ (List.getElem_mem lc), _, e1, e2⟩
theorem run_lt {m : Am} (ok : AmOk m) : ∀ (cols : List Nat), (∀ c ∈ cols, c ≤ m.z.length) → ∀ s, s < m.R.length → runN m.R cols s < m.R.length
  | [], _, s, h => h
  | c :: cols, hc, s, h => run_lt ok cols (fun d hd => hc d (List.mem_cons_of_mem _ hd)) _ (step_at ok (hc c List.mem_cons_self) h).1
theorem was_none {H H' : Hp} (s : Same H H') {D : Addr} (n : H' D = none) : H D = none := by
  cases e : H D with
  | none => rfl
  | some o =>
    rw [s _ _ e] at n
    cases n
abbrev sMoved : Stmt := top 18
abbrev nMoved : List Str := ["automaton", "word", "rows", "columns", "states", "column", "state"]
theorem scMoved : FnScope nMoved ["automaton", "word"] (defScope sMoved) := ⟨rfl, rfl, rfl, by decide +kernel, rfl, by decide +kernel, by decide +kernel⟩
def movedN (R : List (List Nat)) (cols : List Nat) : List Nat := (List.range R.length).map (runN R cols)
theorem wordV_str {v : L2.V} (h : wordV v = true) : ∃ y, v = .str y ∧ y.length ≤ 20000 := by
  cases v with
  | str z =>
    have h : (lowS z && decide (z.length ≤ 20000)) = true := h
    rw [Bool.and_eq_true, decide_eq_true_eq] at h
    exact ⟨z, rfl, h.2⟩
  | _ => cases h
theorem rg_natI (n : Nat) : rgV 0 (n : Int) = (natI (List.range n)).map V.int := by
  unfold rgV natI
  rw [show ((n : Int) - 0).toNat = n by omega, List.map_map]
  exact List.map_congr_left fun i _ => by
    show V.int (0 + (i : Int)) = V.int (i : Int)
    rw [Int.zero_add]
theorem was_new {H H' : Hp} {p : Addr} (s : Same H H') (n : H' p = none) : H p = none := by
  cases e : H p with
  | none => rfl
  | some o =>
    rw [s _ _ e] at n
    cases n
def spMoved (K : PySem.W.Frag) (C : Addr) : Sp := fun vs H Q E => ∃ u v, vs = [u, v] ∧ AW K C H u v E fun _ m => AmOk m ∧ ∀ y, v = .str y → ∀ (H' : Hp) (p : Addr), Same H H' → H p = none → H' p = some (.lst ((natI (movedN m.R (colsN m.z y))).map V.int)) → Q (.ref p) H'
section
variable {P : Program} {w : World} {K : PySem.W.Frag} {mg : Str → Option Value} {base : Heap} {f : Addr} {fd : FuncData} {C : Addr}
theorem ok_moved (F : FnP K "moved" sMoved f fd) (T : AT K mg C) (o_reqR : OkX P w K mg base "require_reading" 4 ["automaton", "word"] (spReqR K C)) (o_rows : OkMa P w K mg base C "rows" (spRowsA C)) (o_cols : Ok P w K mg base "columns_of" 2 ["machine", "word"] (spCols C)) (z_list : mg "list" = none) (z_range : mg "range" = none) (z_len : mg "len" = none) :
    FnOk P w K mg base (L2.CX P w) 5 f fd ["automaton", "word"] (spMoved K C) := by
  have nd := scMoved.nd
  refine F.ok scMoved (fun vs H Q E h => ?_) (fun cdv A outer s H vs Q E hr h => ?_)
  · obtain ⟨u, v, rfl, _⟩ := h
    rfl
  · obtain ⟨u, v, rfl, h⟩ := h
    have szl := sizeLine_eq
    have r2 : Room 2 (A.deeper (envOfC "moved" (defScope sMoved) s.heap.objs.size f cdv)) := hr.mono (by decide)
    have r1 : Room 1 (A.deeper (envOfC "moved" (defScope sMoved) s.heap.objs.size f cdv)) := hr.mono (by decide)
    refine ⟨_, pss_cons (ps_expr (pe_callX (E := E) o_reqR (takes_of rfl rfl rfl rfl) hr (by rfl) (pa_cons (pv 0) (pa_cons (pv 1) pa_nil))))
      (pss_cons (ps_set (i := 2) nd rfl (Or.inr rfl) (pe_rowsA o_rows T (pv 0) r1))
      (pss_cons (ps_set (i := 3) nd rfl (Or.inl rfl) (pe_callO o_cols r2 (by rfl) (pa_cons (pv 0) (pa_cons (pv 1) pa_nil))))
      (pss_cons (ps_set (i := 4) nd rfl (Or.inl rfl) (pe_listRg rfl (by rfl) z_list (prg_1 (by rfl) z_range (pe_callB call_len (by rfl) z_len boot_len (pa_cons (pv 2) pa_nil)))))
      (pss_cons (ps_for (passes_of rfl) rfl (pi_list (pv 3)) (pg_name (i := 5) nd rfl (Or.inr rfl))
        (pss_one (ps_setLc (i := 4) (own := [("state", 6)]) (g := gName 6) (by rfl) nd rfl rfl (sw_true rfl rfl rfl (by decide +kernel)) (pi_list (pv 4)) (blkOk_by (N := nMoved) (sc := defScope sMoved) (own := [("state", 6)]) (by decide +kernel)) (fun _ _ _ _ _ => pg_name (i := 6) nd rfl (Or.inl rfl)) (fun _ _ _ _ _ => pts_nil)
          (fun _ _ _ _ _ => pe_ix (ix_listK (K := K) rfl) (pe_ix (ix_listK (K := K) rfl) (pv 2) (pv 6) (fun _ _ => rfl)) (pv 5) (fun _ _ => rfl)))))
      (pss_one (ps_ret (pv 4))))))), ?_⟩
    rcases h with ⟨n, r⟩ | ⟨x, m, rfl, hx, kn, lv, h⟩
    · exact ⟨_, rfl, _, rfl, u, v, rfl, .inl ⟨n, r⟩⟩
    rcases h with ⟨e, r⟩ | ⟨e, ok, q⟩
    · exact ⟨_, rfl, _, rfl, .ref x, v, rfl, .inr ⟨x, m, rfl, hx, kn, lv, .inl ⟨e, r⟩⟩⟩
    refine ⟨_, rfl, _, rfl, .ref x, v, rfl, .inr ⟨x, m, rfl, hx, kn, lv, .inr ⟨e, ?_⟩⟩⟩
    obtain ⟨y, rfl, ly⟩ := wordV_str e
    have q := q y rfl
    have r1' := ok.r1
    have r2' := ok.r2
    refine ⟨_, rfl, x, m, rfl, hx, ok.r2, fun H1 p s1 np hR => ?_⟩
    refine ⟨_, rfl, _, rfl, x, m, y, rfl, hx.keep s1, ok, by omega, fun H2 cp s2 ncp hc => ?_⟩
    obtain ⟨xs, hp, hP⟩ := hR.keep s2
    have lx := hP.len
    rw [List.length_map] at lx
    have S2 := s1.trans s2
    refine ⟨_, rfl, _, m.R.length, rfl, .inl ⟨_, SqL.of hp, lx.symm⟩, _, rfl, RgOk.of_le (by omega) (by omega) (by omega) (by omega), fun l nl => ?_⟩
    have s3 := same_new (o := .lst (rgV 0 (m.R.length : Int))) nl
    have lc : (colsN m.z y).length = y.length := by simp [colsN, Str.length]
    refine ⟨_, rfl, cp, rfl, ⟨_, SqL.of (s3 _ _ hc)⟩, for_list (K := K) (a := cp) (xs := (natI (colsN m.z y)).map V.int) (fun i σ H' => (∃ sa x5 x6, σ = [some (.ref x), some (.str y), some (.ref p), some (.ref cp), some (.ref sa), x5, x6] ∧ H sa = none ∧ H' sa = some (.lst ((natI (movedN m.R ((colsN m.z y).take i))).map V.int))) ∧ Same H2 H')
      ⟨⟨l, _, _, rfl, was_new S2 nl, ?_⟩, s3⟩ (fun i σ H' _ k => SqL.of (k.2 _ _ hc)) ?_ ?_⟩
    · rw [upd_same, rg_natI]
      congr 4
      unfold movedN
      rw [List.take_zero]
      exact (List.map_id _).symm.trans (List.map_congr_left fun s _ => rfl)
    · rintro i v σ H' hi ⟨⟨sa, x5, x6, rfl, nsa, hsa⟩, sm⟩
      obtain ⟨c, ec, rfl⟩ := int_get hi
      have hcz := cols_le m.z y c (List.mem_of_getElem? ec)
      have lm : (movedN m.R ((colsN m.z y).take i)).length = m.R.length := by simp [movedN]
      refine ⟨_, rfl, sa, rfl, ⟨_, SqL.of hsa⟩, fun D nD => lc_list (K := K) (a := sa) (xs := (natI (movedN m.R ((colsN m.z y).take i))).map V.int) (fun k H3 => Same H' H3 ∧ H3 D = some (.lst ((natI (((movedN m.R ((colsN m.z y).take i)).take k).map (stepN m.R c))).map V.int))) ⟨same_new nD, upd_same⟩ (fun k H3 _ z => SqL.of (z.1 _ _ hsa)) ?_ ?_⟩
      · rintro k v H3 hk ⟨s4, hD⟩
        obtain ⟨s, es, rfl⟩ := int_get hk
        have hs : s < m.R.length := by
          obtain ⟨t, ht, rfl⟩ := List.mem_map.mp (List.mem_of_getElem? es)
          exact run_lt ok _ (fun d hd => cols_le m.z y d (List.mem_of_mem_take hd)) t (List.mem_range.mp ht)
        obtain ⟨_, row, er, ev⟩ := step_at ok hcz hs
        have ex : xs[s]? = some (xs[s]'(by omega)) := List.getElem?_eq_getElem (by omega)
        obtain ⟨pp, ep, ⟨b, eb, hb⟩⟩ := hP.get ex
        rw [List.getElem?_map, er] at ep
        cases ep
        rw [eb] at ex
        have lk := (List.getElem?_eq_some_iff.mp es).1
        refine ⟨rfl, ?_⟩
        refine ⟨_, rfl, _, rfl, p, xs, _, _, rfl, rfl, SqL.of (s4 _ _ (sm _ _ hp)), atI_nat ex, _, rfl, b, _, _, .int ((stepN m.R c s : Nat) : Int), rfl, rfl, SqL.of (s4 _ _ (sm _ _ hb)), ?_, _, hD, ?_, fun d o e => ?_, ?_⟩
        · refine atI_nat ?_
          rw [List.getElem?_map, natI_get, ev]
          rfl
        · rw [List.length_map, natI_len, List.length_map]
          exact small1000 (Nat.le_trans (List.length_take_le _ _) (by omega))
        · rw [upd_ne (ne_of_none (H := H') e nD)]
          exact s4 _ _ e
        · rw [upd_same, List.take_add_one, es, List.map_append]
          unfold natI
          rw [List.map_append, List.map_append]
          rfl
      · rintro H3 ⟨s4, hD⟩
        have em : (movedN m.R ((colsN m.z y).take i)).map (stepN m.R c) = movedN m.R ((colsN m.z y).take (i + 1)) := by
          unfold movedN
          rw [List.map_map, List.take_add_one, ec]
          exact List.map_congr_left fun s _ => (run_snoc m.R _ c s).symm
        rw [List.length_map, natI_len, List.take_length, em] at hD
        exact ⟨⟨D, _, _, rfl, was_new (S2.trans sm) nD, hD⟩, sm.trans s4⟩
    · rintro σ H' ⟨⟨sa, x5, x6, rfl, nsa, hsa⟩, sm⟩
      rw [List.length_map, natI_len, List.take_length] at hsa
      exact ⟨_, rfl, q H' sa (S2.trans sm) nsa hsa⟩
end
abbrev sTurns : Stmt := top 21
abbrev nTurns : List Str := ["step", "states", "seen", "state", "threshold"]
theorem scTurns : FnScope nTurns ["step"] (defScope sTurns) := ⟨rfl, rfl, rfl, by decide +kernel, rfl, by decide +kernel, by decide +kernel⟩
def spTurns : Sp := fun vs H Q _ => ∃ (a : Addr) (st : List Nat), vs = [.ref a] ∧ H a = some (.lst ((natI st).map V.int)) ∧ MapOk st ∧
  ∀ (H' : Hp) (t u ea : Addr) (j k : Nat), Same H H' → H t = none → H' t = some (.tup [.ref u, .ref ea]) → H' u = some (.tup [.int j, .int ((k - j : Nat) : Int)]) → j < k → Diff st k → pwS st j = pwS st k → Q (.ref t) H'
theorem fn_get {st : List Nat} {s : Nat} (h : s < st.length) : atI ((natI st).map V.int) (s : Int) = some (.int ((fn st s : Nat) : Int)) := by
  refine atI_nat ?_
  rw [List.getElem?_map, natI_get, List.getElem?_eq_getElem h]
  unfold fn
  rw [List.getD_eq_getElem?_getD, List.getElem?_eq_getElem h]
  rfl
def WT (H : Hp) (a l2 : Addr) (st : List Nat) (m : Nat) (σ : L2.St) (H' : Hp) : Prop := ∃ sa k xs x3 x4, m + k = 72 ∧ σ = [some (.ref a), some (.ref sa), some (.ref l2), x3, x4] ∧ Same H H' ∧ H' sa = some (.lst ((natI (pwS st k)).map V.int)) ∧ H' l2 = some (.lst xs) ∧ Pts H' xs ((List.range k).map fun i => natI (pwS st i)) ∧ Diff st k ∧ (∀ x ∈ xs, x ≠ .ref l2) ∧ sa ≠ l2
section
variable {P : Program} {w : World} {K : PySem.W.Frag} {mg : Str → Option Value} {base : Heap} {f : Addr} {fd : FuncData}
theorem ok_turns (F : FnP K "turns_of_step" sTurns f fd) (z_list : mg "list" = none) (z_range : mg "range" = none) (z_len : mg "len" = none) : FnOk P w K mg base CX0 1 f fd ["step"] spTurns := by
  have nd := scTurns.nd
  refine F.ok scTurns (fun vs H Q E h => ?_) (fun cdv A outer s H vs Q E hr h => ?_)
  · obtain ⟨a, st, rfl, _⟩ := h
    rfl
  · obtain ⟨a, st, rfl, ha, ok, q⟩ := h
    have hu65 : (A.deeper (envOfC "turns_of_step" (defScope sTurns) s.heap.objs.size f cdv)).units + 65 < cLine := by have := hr.un; omega
    have szl := sizeLine_eq
    refine ⟨_, PSs.nox (pss_cons (ps_par (i := 1) (j := 2) rfl nd rfl rfl (by decide) rfl rfl (pa_cons (pe_listRg rfl (by rfl) z_list (prg_1 (by rfl) z_range (pe_callB call_len (by rfl) z_len boot_len (pa_cons (pv 0) pa_nil)))) (pa_cons (pe_lst pa_nil) pa_nil)) (by rfl))
      (pss_cons (ps_while PassesOwn.never (pt_cmpR (op_notInD hu65) (pv 1) (pv 2) (by with_unfolding_all rfl))
        (pss_cons (ps_expr (pe_bm PySem.F.plainAttrs_list PySem.F.slot_list_append PySem.F.type_list_append mt_append (pv 2) (pa_cons (pv 1) pa_nil)))
        (pss_one (ps_setLc (i := 1) (own := [("state", 3)]) (g := gName 3) (by rfl) nd rfl rfl (sw_true rfl rfl rfl (by decide +kernel)) (pi_list (pv 1)) (blkOk_by (N := nTurns) (sc := defScope sTurns) (own := [("state", 3)]) (by decide +kernel)) (fun _ _ _ _ _ => pg_name (i := 3) nd rfl (Or.inl rfl)) (fun _ _ _ _ _ => pts_nil)
          (fun _ _ _ _ _ => pe_ix (ix_listK (K := K) rfl) (pv 0) (pv 3) (fun _ _ => rfl))))))
      (pss_cons (ps_set (i := 4) nd rfl (Or.inl rfl) (pe_bm PySem.F.plainAttrs_list PySem.F.slot_list_index PySem.F.type_list_index (mt_indexD hu65) (pv 2) (pa_cons (pv 1) pa_nil)))
      (pss_one (ps_ret (pe_tup (pa_cons (pe_tup (pa_cons (pv 4) (pa_cons (pe_op op_sub (pe_callB call_len (by rfl) z_len boot_len (pa_cons (pv 2) pa_nil)) (pv 4)) pa_nil))) (pa_cons (pv 2) pa_nil)))))))), ?_⟩
    obtain ⟨o1, o2, o3⟩ := ok
    refine ⟨_, rfl, _, st.length, rfl, .inl ⟨_, SqL.of ha, by rw [List.length_map, natI_len]⟩, _, rfl, RgOk.of_le (by omega) (by omega) (by omega) (by omega), fun l1 nl1 => ⟨(by show 0 ≤ sizeLine; omega), fun l2 nl2 => ⟨_, _, rfl, ?_⟩⟩⟩
    have s1 := same_new (o := .lst (rgV 0 (st.length : Int))) nl1
    have s2 := same_new (o := .lst []) nl2
    have e12 : l1 ≠ l2 := ne_of_none (H := upd H l1 (.lst (rgV 0 (st.length : Int)))) upd_same nl2
    have n2 : H l2 = none := was_new s1 nl2
    -- the states of k times
    refine ⟨WT H a l2 st, ⟨72, l1, 0, [], _, _, rfl, rfl, s1.trans s2, ?_, upd_same, .nil, fun a b _ hb => absurd hb (by omega), fun x hx => (by cases hx), e12⟩, ?_⟩
    · rw [pwS_zero, ← rg_natI]
      exact s2 _ _ upd_same
    rintro m σ H1 ⟨sa, k, xs, x3, x4, em, rfl, sm, hsa, hl2, hP, df, nx, ne⟩
    have lx := hP.len
    rw [List.length_map, List.length_range] at lx
    have dpx : Dp K H1 (.ref l2) (.list (((List.range k).map fun i => natI (pwS st i)).map ptD)) := .lst (SqL.of hl2) hP.dp
    have dps : Dp K H1 (.ref sa) (ptD (natI (pwS st k))) := .lst (SqL.of hsa) (dp_ints _)
    have k71 := diff_le ⟨o1, o2, o3⟩ df
    refine ⟨_, rfl, _, rfl, _, _, dps, dpx, pt_shaped _, shaped_P _, ?_⟩
    rw [any_pts]
    refine ⟨_, rfl, ?_⟩
    by_cases c : natI (pwS st k) ∈ (List.range k).map fun i => natI (pwS st i)
    · rw [decide_eq_true c]
      -- the first place where it stands
      have ex : ∃ j, j < k ∧ pwS st j = pwS st k := by
        obtain ⟨j, hj, e⟩ := List.mem_map.mp c
        exact ⟨j, List.mem_range.mp hj, natI_inj.mp e⟩
      obtain ⟨j, hj, e⟩ := ex
      refine iteF ⟨_, rfl, .inl ⟨rfl, _, SqL.of hl2⟩, _, rfl, l2, .ref sa, _, _, j, ptD (natI (pwS st j)), rfl, rfl, dpx, dps, shaped_P _, pt_shaped _, ?_, ?_, fun i z hi hz => ?_, ?_⟩
      · rw [List.getElem?_map, List.getElem?_map, List.getElem?_range hj]
        rfl
      · show PyData.eqv (.list _) (.list _) = true
        rw [eqv_ints, e, decide_eq_true rfl]
      · rw [List.getElem?_map, List.getElem?_map, List.getElem?_range (by omega)] at hz
        cases hz
        show PyData.eqv (.list _) (.list _) = false
        rw [eqv_ints]
        exact decide_eq_false fun z => df i j hi hj ((natI_inj.mp z).trans e.symm)
      · refine ⟨_, rfl, _, rfl, _, k, rfl, .inl ⟨_, SqL.of hl2, lx.symm⟩, _, rfl, _, _, rfl, rfl, (by show 2 ≤ sizeLine; omega), fun u nu => ⟨_, rfl, (by show 2 ≤ sizeLine; omega), fun t nt => ?_⟩⟩
        have s3 := same_new (o := .tup [.int (j : Int), .int ((k : Int) - (j : Int))]) nu
        have s4 := same_new (o := .tup [.ref u, .ref l2]) nt
        refine q _ t u l2 j k ((sm.trans s3).trans s4) (was_new (sm.trans s3) nt) upd_same ?_ hj df e
        rw [show ((k - j : Nat) : Int) = (k : Int) - (j : Int) by omega]
        exact s4 _ _ upd_same
    · rw [decide_eq_false c]
      have df2 : Diff st (k + 1) := fun i b hi hb => by
        by_cases hbk : b = k
        · subst hbk
          exact fun z => c (List.mem_map.mpr ⟨i, List.mem_range.mpr hi, by rw [z]⟩)
        · exact df i b hi (by omega)
      have k72 := diff_le ⟨o1, o2, o3⟩ df2
      refine iteT ⟨WT H a l2 st (m - 1), fun σ' H' z => ⟨m - 1, by omega, z⟩, ?_⟩
      refine ⟨_, rfl, .inl ⟨rfl, _, SqL.of hl2⟩, _, rfl, l2, xs, .ref sa, rfl, rfl, hl2, small1000 (by omega), ?_⟩
      have hP2 := Pts.updL (D := l2) (o := .lst (xs ++ [.ref sa])) (fun x hx => by
        rcases List.mem_append.mp hx with h | h
        · exact nx x h
        · rw [List.mem_singleton.mp h]
          exact fun z => ne (V.ref.inj z)) (Pts.snoc ⟨sa, rfl, hsa⟩ hP)
      have sm2 : Same H (upd H1 l2 (.lst (xs ++ [.ref sa]))) := fun b o e => by
        rw [upd_ne (ne_of_none e n2)]
        exact sm _ _ e
      have hsa2 : (upd H1 l2 (.lst (xs ++ [.ref sa]))) sa = some (.lst ((natI (pwS st k)).map V.int)) := by
        rw [upd_ne ne]
        exact hsa
      have hl22 : (upd H1 l2 (.lst (xs ++ [.ref sa]))) l2 = some (.lst (xs ++ [.ref sa])) := upd_same
      generalize upd H1 l2 (.lst (xs ++ [.ref sa])) = H2 at *
      have ha2 := sm2 _ _ ha
      refine ⟨_, rfl, sa, rfl, ⟨_, SqL.of hsa2⟩, fun D nD => lc_list (K := K) (a := sa) (xs := (natI (pwS st k)).map V.int) (fun i H' => Same H2 H' ∧ H' D = some (.lst ((natI (((pwS st k).take i).map (fn st))).map V.int))) ⟨same_new nD, upd_same⟩ (fun i H' _ p => SqL.of (p.1 _ _ hsa2)) ?_ ?_⟩
      · rintro i y H' hi ⟨s3, hD⟩
        obtain ⟨v, ev, rfl⟩ := int_get hi
        have lv : v < st.length := pwS_lt ⟨o1, o2, o3⟩ k v (List.mem_of_getElem? ev)
        have li := (List.getElem?_eq_some_iff.mp ev).1
        rw [pwS_len] at li
        refine ⟨rfl, _, rfl, _, rfl, a, _, _, _, rfl, rfl, SqL.of (s3 _ _ ha2), fn_get lv, _, hD, ?_, fun b o e => ?_, ?_⟩
        · rw [List.length_map, natI_len, List.length_map]
          exact small1000 (Nat.le_trans (List.length_take_le _ _) (by omega))
        · rw [upd_ne (ne_of_none (H := H2) e nD)]
          exact s3 _ _ e
        · rw [upd_same, List.take_add_one, ev, List.map_append]
          unfold natI
          rw [List.map_append, List.map_append]
          rfl
      · rintro H' ⟨s3, hD⟩
        rw [List.length_map, natI_len, List.take_length, ← pwS_succ] at hD
        refine ⟨D, k + 1, xs ++ [.ref sa], _, _, by omega, rfl, sm2.trans s3, hD, s3 _ _ hl22, ?_, df2, fun x hx => ?_, fun z => ?_⟩
        · rw [List.range_succ, List.map_append]
          exact hP2.keep s3
        · rcases List.mem_append.mp hx with h | h
          · exact nx x h
          · rw [List.mem_singleton.mp h]
            exact fun z => ne (V.ref.inj z)
        · rw [z, hl22] at nD
          cases nD
end
abbrev sRounds : Stmt := top 19
abbrev sTurnsBy : Stmt := top 20
theorem scRounds : FnScope ["automaton", "word"] ["automaton", "word"] (defScope sRounds) := ⟨rfl, rfl, rfl, by decide +kernel, rfl, by decide +kernel, by decide +kernel⟩
theorem scTurnsBy : FnScope ["automaton", "word"] ["automaton", "word"] (defScope sTurnsBy) := ⟨rfl, rfl, rfl, by decide +kernel, rfl, by decide +kernel, by decide +kernel⟩
theorem moved_ok {m : Am} (ok : AmOk m) (y : Str) : MapOk (movedN m.R (colsN m.z y)) := by
  have l : (movedN m.R (colsN m.z y)).length = m.R.length := by simp [movedN]
  refine ⟨by rw [l]; exact ok.r1, by rw [l]; exact ok.r2, fun x hx => ?_⟩
  rw [l]
  obtain ⟨s, hs, rfl⟩ := List.mem_map.mp hx
  exact run_lt ok _ (cols_le m.z y) s (List.mem_range.mp hs)
def spTurnsBy (K : PySem.W.Frag) (C : Addr) : Sp := fun vs H Q E => ∃ u v, vs = [u, v] ∧ AW K C H u v E fun _ m => AmOk m ∧ ∀ y, v = .str y → ∀ (H' : Hp) (t w ea : Addr) (j k : Nat), Same H H' → H t = none → H' t = some (.tup [.ref w, .ref ea]) → H' w = some (.tup [.int j, .int ((k - j : Nat) : Int)]) →
  j < k → Diff (movedN m.R (colsN m.z y)) k → pwS (movedN m.R (colsN m.z y)) j = pwS (movedN m.R (colsN m.z y)) k → Q (.ref t) H'
def spRounds (K : PySem.W.Frag) (C : Addr) : Sp := fun vs H Q E => ∃ u v, vs = [u, v] ∧ AW K C H u v E fun _ m => AmOk m ∧ ∀ y, v = .str y → ∀ (H' : Hp) (w : Addr) (j k : Nat), Same H H' → H' w = some (.tup [.int j, .int ((k - j : Nat) : Int)]) →
  j < k → Diff (movedN m.R (colsN m.z y)) k → pwS (movedN m.R (colsN m.z y)) j = pwS (movedN m.R (colsN m.z y)) k → Q (.ref w) H'
section
variable {P : Program} {w : World} {K : PySem.W.Frag} {mg : Str → Option Value} {base : Heap} {f : Addr} {fd : FuncData} {C : Addr}
theorem ok_turnsBy (F : FnP K "turns_by" sTurnsBy f fd) (o_moved : OkX P w K mg base "moved" 5 ["automaton", "word"] (spMoved K C)) (o_turns : Ok P w K mg base "turns_of_step" 1 ["step"] spTurns) : FnOk P w K mg base (L2.CX P w) 6 f fd ["automaton", "word"] (spTurnsBy K C) := by
  refine F.ok scTurnsBy (fun vs H Q E h => ?_) (fun cdv A outer s H vs Q E hr h => ?_)
  · obtain ⟨u, v, rfl, _⟩ := h
    rfl
  · obtain ⟨u, v, rfl, h⟩ := h
    refine ⟨_, pss_one (ps_ret (pe_callO o_turns (hr.mono (by decide)) (by rfl) (pa_cons (pe_callX (E := E) o_moved (takes_of rfl rfl rfl rfl) hr (by rfl) (pa_cons (pv 0) (pa_cons (pv 1) pa_nil))) pa_nil))), ?_⟩
    rcases h with ⟨n, r⟩ | ⟨x, m, rfl, hx, kn, lv, h⟩
    · exact ⟨_, rfl, _, rfl, u, v, rfl, .inl ⟨n, r⟩⟩
    rcases h with ⟨e, r⟩ | ⟨e, ok, q⟩
    · exact ⟨_, rfl, _, rfl, .ref x, v, rfl, .inr ⟨x, m, rfl, hx, kn, lv, .inl ⟨e, r⟩⟩⟩
    refine ⟨_, rfl, _, rfl, .ref x, v, rfl, .inr ⟨x, m, rfl, hx, kn, lv, .inr ⟨e, ok, fun y ey H1 p s1 np hp => ?_⟩⟩⟩
    exact ⟨p, _, rfl, hp, moved_ok ok y, fun H2 t w' ea j k s2 nt ht hw hjk df ee => q y ey H2 t w' ea j k (s1.trans s2) (was_new s1 nt) ht hw hjk df ee⟩
theorem ok_rounds (F : FnP K "rounds" sRounds f fd) (o_tb : OkX P w K mg base "turns_by" 6 ["automaton", "word"] (spTurnsBy K C)) : FnOk P w K mg base (L2.CX P w) 7 f fd ["automaton", "word"] (spRounds K C) := by
  refine F.ok scRounds (fun vs H Q E h => ?_) (fun cdv A outer s H vs Q E hr h => ?_)
  · obtain ⟨u, v, rfl, _⟩ := h
    rfl
  · obtain ⟨u, v, rfl, h⟩ := h
    refine ⟨_, pss_one (ps_ret (pe_ix (ix_tupK (K := K) rfl) (pe_callX (E := E) o_tb (takes_of rfl rfl rfl rfl) hr (by rfl) (pa_cons (pv 0) (pa_cons (pv 1) pa_nil))) pe_int (fun _ _ => rfl))), ?_⟩
    rcases h with ⟨n, r⟩ | ⟨x, m, rfl, hx, kn, lv, h⟩
    · exact ⟨_, rfl, _, rfl, u, v, rfl, .inl ⟨n, r⟩⟩
    rcases h with ⟨e, r⟩ | ⟨e, ok, q⟩
    · exact ⟨_, rfl, _, rfl, .ref x, v, rfl, .inr ⟨x, m, rfl, hx, kn, lv, .inl ⟨e, r⟩⟩⟩
    refine ⟨_, rfl, _, rfl, .ref x, v, rfl, .inr ⟨x, m, rfl, hx, kn, lv, .inr ⟨e, ok, fun y ey H1 t w' ea j k s1 nt ht hw hjk df ee => ?_⟩⟩⟩
    exact ⟨t, _, 0, _, rfl, rfl, SqT.of ht, rfl, q y ey H1 w' j k s1 hw hjk df ee⟩
end
end KJ
set_option Elab.async false
set_option linter.all false
set_option maxRecDepth 100000
set_option maxHeartbeats 800000
/-! for i, p in enumerate(zip(a, b)), a and b lists. -/
namespace XV
open PySem
open PySem.Sem (wp)
open AutoSeq1 (wpAny_loadPart')
theorem meets_enum_zip (q a b : Addr) : Meets (Builtin.«enumerate.__new__» ⟨[.type "enumerate", .ref q], []⟩) (fun _ R s => IsZip s.heap q a b .none ∧ R (.ok (.ret (.ref s.heap.objs.size)))
    { s with heap := s.heap.push { cls := .type "enumerate", data := .fields #[.none, .bool false, .ref q, rawInt 0, .none, .none] } }) :=
  .of_wp fun prog w A R s y => by
    obtain ⟨hp, gs, dr, tk, os⟩ := s
    obtain ⟨hl, y⟩ := y
    have hsub := sub_enumerate
    wp_walk using wpAny_loadPart' hl
    refine wpAny_stack_any fun sk => wpAny_pure ?_
    split
    · rename_i k _ _ _ _ _
      cases (k == Value.type "enumerate")
      · wp_walk using wpAny_loadPart' hl, wpAny_pyIter_zip hl
        exact ⟨_, rfl, y⟩
      · wp_walk using wpAny_loadPart' hl, wpAny_pyIter_zip hl
        exact ⟨_, rfl, y⟩
    · wp_walk using wpAny_loadPart' hl, wpAny_pyIter_zip hl
      exact ⟨_, rfl, y⟩
section
variable {prog : Program} {w : World} {A : Around} {E : Value → Shared → Prop} {s : Shared}
theorem call_enum_zip {q a b : Addr} {Q : Value → Shared → Prop} (hz : IsZip s.heap q a b .none) (k : ∀ h, IsEnum h s.heap.objs.size q 0 .none → (∀ c o, s.heap.get? c = some o → h.get? c = some o) → Q (.ref s.heap.objs.size) { s with heap := h }) :
    wpAny (model prog w) A (call (.type "enumerate") [.ref q]) Q E s := by
  refine callType_new F.called_enumerate (by decide) (F.typeCall_enumerate_1 _) (F.newCall_enumerate_1 _) (fun obj => F.args_object_init_2 obj _) F.entry_enumerate_new (meets_enum_zip q a b) ⟨hz, ?_⟩
  have he : IsEnum (s.heap.push { cls := .type "enumerate", data := .fields #[.none, .bool false, .ref q, rawInt 0, .none, .none] }) s.heap.objs.size q 0 .none := Heap.get?_push_size _ rfl
  exact ⟨⟨_, he, rfl⟩, k _ he fun c o e => Heap.get?_push_of_some _ e⟩
end
end XV
set_option Elab.async false
set_option linter.all false
set_option maxRecDepth 100000
set_option maxHeartbeats 800000
namespace XV
open PySem PySem.Spec PyProof.Rows L2
section
variable {prog : Program} {w : World} {A : Around} {E : Value → Shared → Prop} {s : Shared}
theorem nextOf_zip2 {N l1 l2 i : Nat} {f0 : Value} {f1 : Bool} {q1 q2 x1 x2 : Value} {us1 us2 : Array Value} {Q : Value → Shared → Prop} (b1 : l1 < N) (b2 : l2 < N)
    (hz : ZS s.heap (N + 4) (N + 2) (N + 3) f0 f1) (hf : OwnV f0) (hI : s.heap.get? (N + 2) = some { cls := .type "tuple", data := .seq #[.ref (N + 0), .ref (N + 1)] }) (hO : s.heap.get? (N + 3) = some { cls := .type "tuple", data := .seq #[q1, q2] })
    (t1 : s.heap.IsListIter (N + 0) l1 i) (L1 : s.heap.IsList l1 us1) (t2 : s.heap.IsListIter (N + 1) l2 i) (L2 : s.heap.IsList l2 us2) (e1 : us1[i]? = some x1) (e2 : us2[i]? = some x2)
    (hQ : ∀ h, (∃ g0 g1, OwnV g0 ∧ ZS h (N + 4) (N + 2) (N + 3) g0 g1) → (∃ q1 q2, h.get? (N + 3) = some { cls := .type "tuple", data := .seq #[q1, q2] }) → h.IsListIter (N + 0) l1 (i + 1) → h.IsListIter (N + 1) l2 (i + 1) →
      h.get? s.heap.objs.size = some { cls := .type "tuple", data := .seq #[x1, x2] } → h.objs.size = s.heap.objs.size + 1 →
      (∀ c o, c ≠ (N + 4) → c ≠ (N + 3) → c ≠ (N + 0) → c ≠ (N + 1) → s.heap.get? c = some o → h.get? c = some o) → Q (.ref s.heap.objs.size) { s with heap := h }) :
    wpAny (model prog w) A (Builtin.SmallTypes.nextOf (.ref (N + 4))) Q E s := by
  have ty : s.TypeIs (.ref (N + 4)) "zip" := ⟨_, hz, rfl⟩
  unfold Builtin.SmallTypes.nextOf
  exact wpAny_bind (wpAny_callSpecial?_slot (name := Str.ofString "__next__") ty F.slot_zip_next (wpAny_call_entry F.slot_zip_next ty F.entry_zip_next
    (zip2_item b1 b2 hz hf hI hO t1 L1 t2 L2 e1 e2 fun h a b c d e f k => wpAny_pure (hQ h a b c d e f k)) (F.args_zip_next_1 _)))
theorem nextOf_zip2_end {N l1 l2 i : Nat} {f0 : Value} {f1 : Bool} {us1 : Array Value} {Q : Value → Shared → Prop} (b1 : l1 < N) (hh : A.handled = none)
    (hz : ZS s.heap (N + 4) (N + 2) (N + 3) f0 f1) (hf : OwnV f0) (hI : s.heap.get? (N + 2) = some { cls := .type "tuple", data := .seq #[.ref (N + 0), .ref (N + 1)] }) (t1 : s.heap.IsListIter (N + 0) l1 i) (L1 : s.heap.IsList l1 us1) (e1 : us1[i]? = none)
    (hE : ∀ h x, (∀ c o, c ≠ (N + 4) → c ≠ (N + 3) → c ≠ (N + 0) → c ≠ (N + 1) → s.heap.get? c = some o → h.get? c = some o) → (∃ o, h.get? x = some o ∧ o.cls = .type "StopIteration") → E (.ref x) { s with heap := h }) :
    wpAny (model prog w) A (Builtin.SmallTypes.nextOf (.ref (N + 4))) Q E s := by
  have ty : s.TypeIs (.ref (N + 4)) "zip" := ⟨_, hz, rfl⟩
  unfold Builtin.SmallTypes.nextOf
  exact wpAny_bind (wpAny_callSpecial?_slot (name := Str.ofString "__next__") ty F.slot_zip_next (wpAny_call_entry F.slot_zip_next ty F.entry_zip_next
    (zip2_end (l1 := l1) (l2 := l2) b1 hh hz hf hI t1 L1 e1 hE) (F.args_zip_next_1 _)))
end
/-- the lists at a and b: each turn tells the index and a pair of its own -/
def Itez (K : PySem.W.Frag) (a b : Addr) : It where
  go := fun i H => ∃ (xs ys : List V) (x y : V), SqL K H a xs ∧ SqL K H b ys ∧ xs[i]? = some x ∧ ys[i]? = some y
  yld := fun i H v H' => ∃ T U x y, v = .ref U ∧ H T = none ∧ H U = none ∧ U ≠ T ∧ H' = upd (upd H T (.tup [x, y])) U (.tup [.int (i : Nat), .ref T]) ∧ (∀ xs, SqL K H a xs → xs[i]? = some x) ∧ ∀ ys, SqL K H b ys → ys[i]? = some y
  stop := fun i H => ∃ xs : List V, SqL K H a xs ∧ xs.length ≤ i
def AtE (a b N i : Nat) (h : Heap) : Prop :=
  (∃ old, IsEnum h (N + 5) (N + 4) ((i : Nat) : Int) old) ∧ (∃ f0 f1, OwnV f0 ∧ ZS h (N + 4) (N + 2) (N + 3) f0 f1) ∧ h.get? (N + 2) = some { cls := .type "tuple", data := .seq #[.ref (N + 0), .ref (N + 1)] } ∧
  (∃ p q, h.get? (N + 3) = some { cls := .type "tuple", data := .seq #[p, q] }) ∧ h.IsListIter (N + 0) a i ∧ h.IsListIter (N + 1) b i
abbrev fpE (N : Nat) : List Addr := [N + 5, N + 4, N + 2, N + 3, N + 0, N + 1]
theorem fpE_mem {N : Nat} {c : Addr} (h : c ∈ fpE N) : c = N + 5 ∨ c = N + 4 ∨ c = N + 2 ∨ c = N + 3 ∨ c = N + 0 ∨ c = N + 1 := by simpa using h
theorem turnE {P : Program} {w : World} {K : PySem.W.Frag} {es : List Expr} {kk : Nat} {tp : Pos} {a b N : Nat} (la : a < N) (lb : b < N) :
    Turn P w K (.Tuple es kk tp) (Itez K a b) (fpE N) (N + 5) (AtE a b N) where
  mem := List.mem_cons_self
  obj := fun i h ⟨⟨_, s1⟩, ⟨_, _, _, s2⟩, s3, ⟨_, _, s4⟩, ⟨o1, e1, _, d1⟩, ⟨o2, e2, _, d2⟩⟩ c hc => by
    rcases fpE_mem hc with rfl | rfl | rfl | rfl | rfl | rfl
    · exact ⟨_, s1, fun _ x => nomatch x⟩
    · exact ⟨_, s2, fun _ x => nomatch x⟩
    · exact ⟨_, s3, fun _ x => nomatch x⟩
    · exact ⟨_, s4, fun _ x => nomatch x⟩
    · exact ⟨o1, e1, fun _ x => by rw [d1] at x; cases x⟩
    · exact ⟨o2, e2, fun _ x => by rw [d2] at x; cases x⟩
  keep := fun i h h' ⟨⟨o, s1⟩, ⟨f0, f1, ow, s2⟩, s3, ⟨p, q, s4⟩, s5, s6⟩ kp =>
    ⟨⟨o, kp _ (by simp) _ s1⟩, ⟨f0, f1, ow, kp _ (by simp) _ s2⟩, kp _ (by simp) _ s3, ⟨p, q, kp _ (by simp) _ s4⟩, s5.at (fun o e => kp _ (by simp) o e), s6.at (fun o e => kp _ (by simp) o e)⟩
  item := by
    intro X eP ew eK calm i pins s σ H E I fp st gg
    subst eP ew eK
    obtain ⟨⟨old, s1⟩, ⟨f0, f1, ow, s2⟩, s3, ⟨p0, q0, s4⟩, s5, s6⟩ := st
    obtain ⟨xs, ys, x, y, tx, ly, ex, ey⟩ := gg
    obtain ⟨us, ru, pu, _⟩ := I.list tx
    obtain ⟨vs, rv, pw, _⟩ := I.list ly
    obtain ⟨u, eu, rux⟩ := ru.get ex
    obtain ⟨v, ev, rvy⟩ := rv.get ey
    have lt : ∀ c ∈ fpE N, c < s.heap.objs.size := fun c hc => by
      rcases fpE_mem hc with rfl | rfl | rfl | rfl | rfl | rfl
      · exact Heap.lt_size s1
      · exact Heap.lt_size s2
      · exact Heap.lt_size s3
      · exact Heap.lt_size s4
      · obtain ⟨_, q, _⟩ := s5
        exact Heap.lt_size q
      · obtain ⟨_, q, _⟩ := s6
        exact Heap.lt_size q
    refine pyNext_enum_over (c := (i : Int)) (x := .ref s.heap.objs.size) (NX := fun h => (∃ g0 g1, OwnV g0 ∧ ZS h (N + 4) (N + 2) (N + 3) g0 g1) ∧ (∃ q1 q2, h.get? (N + 3) = some { cls := .type "tuple", data := .seq #[q1, q2] }) ∧
      h.IsListIter (N + 0) a (i + 1) ∧ h.IsListIter (N + 1) b (i + 1) ∧ h.get? s.heap.objs.size = some { cls := .type "tuple", data := .seq #[u, v] } ∧ h.objs.size = s.heap.objs.size + 1 ∧
      (∀ c o, c ≠ (N + 4) → c ≠ (N + 3) → c ≠ (N + 0) → c ≠ (N + 1) → s.heap.get? c = some o → h.get? c = some o)) s1
      (fun E' Q' k => nextOf_zip2 la lb s2 ow s3 s4 s5 pu.isList s6 pw.isList (by simpa using eu) (by simpa using ev) fun h a b c d e f kp => k h ⟨a, b, c, d, e, f, kp⟩)
      (fun h n => n.2.2.2.2.2.2 _ _ (ad (by omega)) (ad (by omega)) (ad (by omega)) (ad (by omega)) s1) fun h1 h2 n1 o2 t2 z2 k2 => ?_
    obtain ⟨n1, n2, n3, n4, n5, n6, n7⟩ := n1
    refine ⟨_, rfl, wpAny_letOwnedTupleGo_enum (s := { s with heap := h2, toks := s.toks + 1 }) o2 fun g he sb => ?_⟩
    have el : (N + 5 : Nat) < h1.objs.size := by
      have z : (N + 5 : Nat) < s.heap.objs.size := lt (N + 5) (by simp)
      omega
    have new1 : ObjOk X.prog X.w (upd H s.heap.objs.size (.tup [x, y])) h1 s.heap.objs.size (.tup [x, y]) := ⟨(by show 2 ≤ sizeLine; decide), [u, v], .cons rux (.cons rvy .nil), ⟨_, n5, rfl, _, rfl⟩⟩
    have J1 := I.turnedNew (t' := s.toks) (h' := h1) (ch := [N + 4, N + 3, N + 0, N + 1]) (fun c o out q => n7 c o (fun e => out (by simp [e])) (fun e => out (by simp [e])) (fun e => out (by simp [e])) (fun e => out (by simp [e])) q) (fun c hc => fp c (by
      simp only [List.mem_cons, List.not_mem_nil, or_false] at hc
      rcases hc with rfl | rfl | rfl | rfl <;> simp)) (Nat.le_refl _) new1
    have fT : (N + 5 : Nat) ≠ s.heap.objs.size := Nat.ne_of_lt (lt (N + 5) (by simp))
    have fE : FpOk X pins (upd H s.heap.objs.size (.tup [x, y])) (N + 5) := ⟨by rw [upd_ne fT]; exact (fp _ (by simp)).1, (fp _ (by simp)).2⟩
    have t3 : g.get? h1.objs.size = some { cls := .type "tuple", data := .seq #[.int (i : Int) s.toks, .ref s.heap.objs.size] } := (sb.2 _ (Nat.ne_of_gt el)).trans t2
    have new2 : ObjOk X.prog X.w (upd (upd H s.heap.objs.size (.tup [x, y])) h1.objs.size (.tup [.int (i : Nat), .ref s.heap.objs.size])) g h1.objs.size (.tup [.int (i : Nat), .ref s.heap.objs.size]) :=
      ⟨(by show 2 ≤ sizeLine; decide), [.int (i : Int) s.toks, .ref s.heap.objs.size], .cons ⟨_, rfl⟩ (.cons rfl .nil), ⟨_, t3, rfl, _, rfl⟩⟩
    have J2 := J1.turnedNew (t' := s.toks + 1) (h' := g) (ch := [N + 5]) (fun c o out q => (sb.2 c (fun e => out (by simp [e]))).trans (k2 c o (fun e => out (by simp [e])) q)) (fun c hc => by
      rcases List.mem_singleton.mp hc with rfl
      exact fE) (Nat.le_refl _) new2
    have up : ∀ c o, c ≠ (N + 5 : Nat) → h1.get? c = some o → g.get? c = some o := fun c o n q => (sb.2 c n).trans (k2 c o n q)
    refine ⟨.ref h1.objs.size, _, J2, rfl, ⟨s.heap.objs.size, h1.objs.size, x, y, rfl, I.hok.fresh (Nat.le_refl _), I.hok.fresh (by omega), (by rw [n6]; exact Nat.succ_ne_self _), rfl, fun l hl => (I.list_inj hl tx) ▸ ex, fun l hl => (I.list_inj hl ly) ▸ ey⟩, ⟨⟨.ref s.heap.objs.size, ?_⟩, ?_, ?_, ?_, ?_, ?_⟩, fun c hc => ?_⟩
    · rw [show ((i + 1 : Nat) : Int) = (i : Int) + 1 by omega]
      exact he
    · obtain ⟨g0, g1, og, zg⟩ := n1
      exact ⟨g0, g1, og, up _ _ (ad (by omega)) zg⟩
    · exact up _ _ (ad (by omega)) (n7 _ _ (ad (by omega)) (ad (by omega)) (ad (by omega)) (ad (by omega)) s3)
    · obtain ⟨q1, q2, e⟩ := n2
      exact ⟨q1, q2, up _ _ (ad (by omega)) e⟩
    · exact n3.at fun o e => up _ _ (ad (by omega)) e
    · exact n4.at fun o e => up _ _ (ad (by omega)) e
    · have l := lt c hc
      rw [upd_ne (Nat.ne_of_lt (show c < h1.objs.size by rw [n6]; exact Nat.lt_succ_of_lt l)), upd_ne (Nat.ne_of_lt l)]
      exact (fp c hc).1
  done := by
    intro X eP ew eK calm i pins s σ H E I fp st gg
    subst eP ew eK
    obtain ⟨⟨old, s1⟩, ⟨f0, f1, ow, s2⟩, s3, ⟨p0, q0, s4⟩, s5, s6⟩ := st
    obtain ⟨xs, tx, stop⟩ := gg
    obtain ⟨us, ru, pu, _⟩ := I.list tx
    have n1 := ru.length
    have hh : X.A.in1.handled = none := I.ok.hd calm
    refine pyNext_enum_stop (ST := fun h => ∀ c o, c ≠ (N + 4) → c ≠ (N + 3) → c ≠ (N + 0) → c ≠ (N + 1) → s.heap.get? c = some o → h.get? c = some o) s1
      (fun E' Q' k => nextOf_zip2_end (l2 := b) la hh s2 ow s3 s5 pu.isList (by simp; omega) fun h x kp y => k h x kp y) fun h kp => ⟨rfl, ?_⟩
    exact I.turnedL (t' := s.toks) (ch := fpE N) (fun c o out q => kp c o (fun e => out (by simp [e])) (fun e => out (by simp [e])) (fun e => out (by simp [e])) (fun e => out (by simp [e])) q) fp
  self := fun A i s Q E st q => by
    obtain ⟨⟨_, s1⟩, _⟩ := st
    exact wpAny_pyIter_enum s1 q
/-- .. in enumerate(zip(e, e2)) -/
def iEZ (K : PySem.W.Frag) (ta : TA) : TI := fun σ H R => ta σ H fun vs H1 => ∃ a b xs ys, vs = [.ref a, .ref b] ∧ (SqL K H1 a xs ∧ SqL K H1 b ys) ∧ R (Itez K a b) H1
theorem pi_enumZ {X : Cx} {e e2 : Expr} {ta : TA} {p pz pos pos2 tp : Pos} {es : List Expr} {kk : Nat} (gE : Gl X "enumerate") (z_enum : X.mg "enumerate" = none) (gZ : Gl X "zip") (z_zip : X.mg "zip" = none) (ha : PA X [e, e2] ta)
    (hs : starEach [e, e2] X.env = (false, eval e X.env) :: starEach [e2] X.env := by rfl) (np : (backTo pos2 (starEach [e2] X.env)).any (·.1) = false := by rfl)
    (hs2 : starEach [.Call (.Name "zip" pz) [e, e2] [] pos2] X.env = (false, eval (.Call (.Name "zip" pz) [e, e2] [] pos2) X.env) :: starEach [] X.env := by rfl) :
    PI X (.Tuple es kk tp) (.Call (.Name "enumerate" p) [.Call (.Name "zip" pz) [e, e2] [] pos2] [] pos) (iEZ X.K ta) := by
  refine ⟨fun pins s σ H R I h => Call_ (ld_blt I gE z_enum PyProof.Rows.boot_enumerate (PyProof.Rows.callWith_type1 ?_ hs2 rfl))⟩
  rw [hs2]
  show wpAny _ _ (spliced ((false, eval (.Call (.Name "zip" pz) [e, e2] [] pos2) X.env) :: backTo pos (starEach [] X.env))) _ _ s
  refine Calls.spliced_cons (Call_ (ld_blt I gZ z_zip PyProof.Rows.boot_zip (PyProof.Rows.callWith_type1 (thn (ha.run pos2 pins s σ H _ I h) fun us s1 ⟨vs, H1, J, rv, q⟩ => ?_) hs np)))
  obtain ⟨a, b, xs, ys, rfl, ⟨tx, ly⟩, q⟩ := q
  obtain ⟨u1, u2, rfl, r1, r2⟩ := vals2 rv
  cases r1
  cases r2
  obtain ⟨ps, _, pu, _⟩ := J.list tx
  obtain ⟨qs, _, pw, _⟩ := J.list ly
  refine zip_begins2 (begins_list a ps.toArray) (begins_list b qs.toArray) pu.isList pw.isList fun h' z1 t1 t2 g1 g2 sz kp => Calls.spliced_nil (call_enum_zip z1 fun h2 he kp2 => wpAny_pyIter_enum he ?_)
  have J2 : Inv X pins σ H1 { s1 with heap := h2 } := J.kept (t' := s1.toks) fun c o e => kp2 c o (kp c o e)
  have eE : h'.objs.size = s1.heap.objs.size + 5 := sz
  refine ⟨h'.objs.size, fpE s1.heap.objs.size, AtE a b s1.heap.objs.size, Itez X.K a b, H1, rfl, J2, ?_, ⟨⟨.none, ?_⟩, ⟨.none, false, .inl rfl, kp2 _ _ z1⟩, kp2 _ _ t1, ⟨_, _, kp2 _ _ t2⟩, ⟨_, kp2 _ _ g1, rfl, rfl⟩, ⟨_, kp2 _ _ g2, rfl, rfl⟩⟩, fun c hc => ?_, q⟩
  · rw [eE]
    exact turnE pu.lt pw.lt
  · rw [← eE]
    exact he
  · have le : s1.heap.objs.size ≤ c := by
      rcases fpE_mem hc with rfl | rfl | rfl | rfl | rfl | rfl
      · exact Nat.le_add_right _ 5
      · exact Nat.le_add_right _ 4
      · exact Nat.le_add_right _ 2
      · exact Nat.le_add_right _ 3
      · exact Nat.le_refl _
      · exact Nat.le_add_right _ 1
    exact J.fpOk le (J.hok.fresh le)
end XV
set_option Elab.async false
set_option linter.all false
set_option maxRecDepth 100000
set_option maxHeartbeats 800000
/-! list(zip(a, b, c)) of three lists. -/
namespace XV
open PySem PySem.Spec PyProof.Rows L2
section
variable {prog : Program} {w : World} {A : Around} {E : Value → Shared → Prop} {s : Shared}
theorem pyNext_zip3 {N l1 l2 l3 i : Nat} {f0 : Value} {f1 : Bool} {q1 q2 q3 x1 x2 x3 : Value} {us1 us2 us3 : Array Value} {Q : Option Value → Shared → Prop} (b1 : l1 < N) (b2 : l2 < N) (b3 : l3 < N)
    (hz : ZS s.heap (N + 5) (N + 3) (N + 4) f0 f1) (hf : OwnV f0) (hI : s.heap.get? (N + 3) = some { cls := .type "tuple", data := .seq #[.ref (N + 0), .ref (N + 1), .ref (N + 2)] }) (hO : s.heap.get? (N + 4) = some { cls := .type "tuple", data := .seq #[q1, q2, q3] })
    (t1 : s.heap.IsListIter (N + 0) l1 i) (L1 : s.heap.IsList l1 us1) (t2 : s.heap.IsListIter (N + 1) l2 i) (L2 : s.heap.IsList l2 us2) (t3 : s.heap.IsListIter (N + 2) l3 i) (L3 : s.heap.IsList l3 us3) (e1 : us1[i]? = some x1) (e2 : us2[i]? = some x2) (e3 : us3[i]? = some x3)
    (hQ : ∀ h, (∃ g0 g1, OwnV g0 ∧ ZS h (N + 5) (N + 3) (N + 4) g0 g1) → (∃ q1 q2 q3, h.get? (N + 4) = some { cls := .type "tuple", data := .seq #[q1, q2, q3] }) → h.IsListIter (N + 0) l1 (i + 1) → h.IsListIter (N + 1) l2 (i + 1) → h.IsListIter (N + 2) l3 (i + 1) →
      h.get? s.heap.objs.size = some { cls := .type "tuple", data := .seq #[x1, x2, x3] } → h.objs.size = s.heap.objs.size + 1 →
      (∀ c o, c ≠ (N + 5) → c ≠ (N + 4) → c ≠ (N + 0) → c ≠ (N + 1) → c ≠ (N + 2) → s.heap.get? c = some o → h.get? c = some o) → Q (some (.ref s.heap.objs.size)) { s with heap := h }) :
    wpAny (model prog w) A (pyNext (.ref (N + 5))) Q E s := by
  have ty : s.TypeIs (.ref (N + 5)) "zip" := ⟨_, hz, rfl⟩
  unfold pyNext
  exact wpAny_bind (wpAny_attempt (wpAny_callSpecial?_slot (name := Str.ofString "__next__") ty F.slot_zip_next (wpAny_call_entry F.slot_zip_next ty F.entry_zip_next
    (zip3_item b1 b2 b3 hz hf hI hO t1 L1 t2 L2 t3 L3 e1 e2 e3 fun h a b c d e f g k => wpAny_pure (hQ h a b c d e f g k)) (F.args_zip_next_1 _))))
theorem pyNext_zip3_end {N l1 l2 l3 i : Nat} {f0 : Value} {f1 : Bool} {us1 : Array Value} {Q : Option Value → Shared → Prop} (b1 : l1 < N) (hh : A.handled = none)
    (hz : ZS s.heap (N + 5) (N + 3) (N + 4) f0 f1) (hf : OwnV f0) (hI : s.heap.get? (N + 3) = some { cls := .type "tuple", data := .seq #[.ref (N + 0), .ref (N + 1), .ref (N + 2)] }) (t1 : s.heap.IsListIter (N + 0) l1 i) (L1 : s.heap.IsList l1 us1) (e1 : us1[i]? = none)
    (hQ : ∀ h, (∀ c o, c ≠ (N + 5) → c ≠ (N + 4) → c ≠ (N + 0) → c ≠ (N + 1) → c ≠ (N + 2) → s.heap.get? c = some o → h.get? c = some o) → Q none { s with heap := h }) :
    wpAny (model prog w) A (pyNext (.ref (N + 5))) Q E s := by
  have ty : s.TypeIs (.ref (N + 5)) "zip" := ⟨_, hz, rfl⟩
  unfold pyNext
  refine wpAny_bind (wpAny_attempt (wpAny_callSpecial?_slot (name := Str.ofString "__next__") ty F.slot_zip_next (wpAny_call_entry F.slot_zip_next ty F.entry_zip_next
    (zip3_end (l1 := l1) (l2 := l2) (l3 := l3) b1 hh hz hf hI t1 L1 e1 fun h x kp y => ?_) (F.args_zip_next_1 _))))
  obtain ⟨o, ho, hc⟩ := y
  exact wpAny_bind (wpAny_isInstance (T := "StopIteration") (b := true) ⟨o, ho, hc⟩ isSubtype_stop (wpAny_pure (hQ h kp)))
end
def AtZ (a b c N i : Nat) (h : Heap) : Prop :=
  (∃ f0 f1, OwnV f0 ∧ ZS h (N + 5) (N + 3) (N + 4) f0 f1) ∧ h.get? (N + 3) = some { cls := .type "tuple", data := .seq #[.ref (N + 0), .ref (N + 1), .ref (N + 2)] } ∧
  (∃ p q r, h.get? (N + 4) = some { cls := .type "tuple", data := .seq #[p, q, r] }) ∧ h.IsListIter (N + 0) a i ∧ h.IsListIter (N + 1) b i ∧ h.IsListIter (N + 2) c i
abbrev fpZ (N : Nat) : List Addr := [N + 5, N + 3, N + 4, N + 0, N + 1, N + 2]
theorem fpZ_mem {N : Nat} {c : Addr} (h : c ∈ fpZ N) : c = N + 5 ∨ c = N + 3 ∨ c = N + 4 ∨ c = N + 0 ∨ c = N + 1 ∨ c = N + 2 := by simpa using h
theorem AtZ.keep {a b c N i : Nat} {h h' : Heap} (st : AtZ a b c N i h) (kp : ∀ c ∈ fpZ N, ∀ o, h.get? c = some o → h'.get? c = some o) : AtZ a b c N i h' := by
  obtain ⟨⟨f0, f1, ow, s2⟩, s3, ⟨p, q, r, s4⟩, s5, s6, s7⟩ := st
  exact ⟨⟨f0, f1, ow, kp _ (by simp) _ s2⟩, kp _ (by simp) _ s3, ⟨p, q, r, kp _ (by simp) _ s4⟩, s5.at (fun o e => kp _ (by simp) o e), s6.at (fun o e => kp _ (by simp) o e), s7.at (fun o e => kp _ (by simp) o e)⟩
theorem AtZ.lt {a b c N i : Nat} {h : Heap} (st : AtZ a b c N i h) : ∀ d ∈ fpZ N, d < h.objs.size := fun d hd => by
  obtain ⟨⟨f0, f1, ow, s2⟩, s3, ⟨p, q, r, s4⟩, ⟨_, s5, _⟩, ⟨_, s6, _⟩, ⟨_, s7, _⟩⟩ := st
  rcases fpZ_mem hd with rfl | rfl | rfl | rfl | rfl | rfl
  · exact Heap.lt_size s2
  · exact Heap.lt_size s3
  · exact Heap.lt_size s4
  · exact Heap.lt_size s5
  · exact Heap.lt_size s6
  · exact Heap.lt_size s7
/-- the triples made so far -/
def Trp (H : Hp) (Ts : List Addr) (xs ys us : List V) : Prop := ∀ (j : Nat) (T : Addr) (x y u : V), Ts[j]? = some T → xs[j]? = some x → ys[j]? = some y → us[j]? = some u → H T = some (.tup [x, y, u])
theorem drainZ {X : Cx} {pins : List (Addr × Obj)} {σ : L2.St} {H0 : Hp} {a b c N S : Nat} {xs ys us : List V} {B : Around} {R : Result → Shared → Prop} (la : a < N) (lb : b < N) (lc : c < N) (hh : B.handled = none) (n1 : xs.length = ys.length) (n2 : xs.length = us.length) (nz : xs.length < sizeLine)
    (ha : H0 a = some (.lst xs)) (hb : H0 b = some (.lst ys)) (hc : H0 c = some (.lst us)) (h0 : H0 S = none)
    (hend : ∀ (s : Shared) (H : Hp) (Ts : List Addr), Inv X pins σ H s → Same H0 H → Ts.length = xs.length → H S = some (.lst (Ts.map V.ref)) → Trp H Ts xs ys us → R (.ok (.ret .none)) s) :
    ∀ (m i : Nat) (s : Shared) (H : Hp) (Ts : List Addr), i + m = xs.length → Inv X pins σ H s → (∀ d ∈ fpZ N, FpOk X pins H d) → AtZ a b c N i s.heap → Same H0 H → Ts.length = i → H S = some (.lst (Ts.map V.ref)) → Trp H Ts xs ys us →
      codeAny (model X.prog X.w) B (.builtin "list.extend.loop" ⟨[.ref S, .ref (N + 5), .none], []⟩) R s := by
  intro m
  induction m with
  | zero =>
    intro i s H Ts hi I fp st sm lT hS tr
    refine codeAny_builtin F.entry_extend_loop ?_
    rw [Around.under_plainId F.plain_extend_loop]
    show wpAny _ B.in1 (pyNext (.ref (N + 5)) >>= _) _ _ s
    obtain ⟨⟨f0, f1, ow, s2⟩, s3, ⟨p, q, r, s4⟩, s5, s6, s7⟩ := st
    obtain ⟨ps, ru, pu, _⟩ := I.list (SqL.of (sm _ _ ha))
    have e := ru.length
    refine wpAny_bind (pyNext_zip3_end (l2 := b) (l3 := c) la hh s2 ow s3 s5 pu.isList (by simp; omega) fun h kp => wpAny_pure ?_)
    refine hend _ H Ts (I.turnedL (t' := s.toks) (ch := fpZ N) (fun d o out q => kp d o (fun e => out (by simp [e])) (fun e => out (by simp [e])) (fun e => out (by simp [e])) (fun e => out (by simp [e])) (fun e => out (by simp [e])) q) fp) sm (by omega) hS tr
  | succ m ih =>
    intro i s H Ts hi I fp st sm lT hS tr
    have lt := st.lt
    refine codeAny_builtin F.entry_extend_loop ?_
    rw [Around.under_plainId F.plain_extend_loop]
    show wpAny _ B.in1 (pyNext (.ref (N + 5)) >>= _) _ _ s
    obtain ⟨⟨f0, f1, ow, s2⟩, s3, ⟨p, q, r, s4⟩, s5, s6, s7⟩ := st
    obtain ⟨ps, ru, pu, _⟩ := I.list (SqL.of (sm _ _ ha))
    obtain ⟨qs, rv, pv, _⟩ := I.list (SqL.of (sm _ _ hb))
    obtain ⟨rs, rw_, pw, _⟩ := I.list (SqL.of (sm _ _ hc))
    have ex : xs[i]? = some xs[i] := List.getElem?_eq_getElem (by omega)
    have ey : ys[i]? = some ys[i] := List.getElem?_eq_getElem (by omega)
    have ez : us[i]? = some us[i] := List.getElem?_eq_getElem (by omega)
    generalize xs[i] = x at ex
    generalize ys[i] = y at ey
    generalize us[i] = z at ez
    obtain ⟨u1, eu, r1⟩ := ru.get ex
    obtain ⟨u2, ev, r2⟩ := rv.get ey
    obtain ⟨u3, ew, r3⟩ := rw_.get ez
    refine wpAny_bind (pyNext_zip3 la lb lc s2 ow s3 s4 s5 pu.isList s6 pv.isList s7 pw.isList (by simpa using eu) (by simpa using ev) (by simpa using ew) fun h k1 k2 k3 k4 k5 k6 k7 k8 => ?_)
    have new1 : ObjOk X.prog X.w (upd H s.heap.objs.size (.tup [x, y, z])) h s.heap.objs.size (.tup [x, y, z]) := ⟨(by show 3 ≤ sizeLine; decide), [u1, u2, u3], .cons r1 (.cons r2 (.cons r3 .nil)), ⟨_, k6, rfl, _, rfl⟩⟩
    have J1 := I.turnedNew (t' := s.toks) (h' := h) (ch := [N + 5, N + 4, N + 0, N + 1, N + 2]) (fun d o out q => k8 d o (fun e => out (by simp [e])) (fun e => out (by simp [e])) (fun e => out (by simp [e])) (fun e => out (by simp [e])) (fun e => out (by simp [e])) q) (fun d hd => fp d (by
      simp only [List.mem_cons, List.not_mem_nil, or_false] at hd
      rcases hd with rfl | rfl | rfl | rfl | rfl <;> simp)) (Nat.le_refl _) new1
    have nT : H s.heap.objs.size = none := I.hok.fresh (Nat.le_refl _)
    have sT := same_new (o := .tup [x, y, z]) nT
    have hS1 := sT _ _ hS
    obtain ⟨hz', its, n, ri, e⟩ := J1.hok S _ hS1
    have el := ri.length
    rw [List.length_map] at el hz'
    show wpAny _ B.in1 (updateSeq S (·.push (.ref s.heap.objs.size)) >>= _) _ _ _
    refine wpAny_bind ?_
    have e' : h.get? S = some { cls := .type "list", data := .seq its.toArray n } := e
    refine wpAny_updateSeq (s := { s with heap := h }) (f := (·.push (.ref s.heap.objs.size))) e' rfl (wpAny_pure ⟨plainId_quiet F.plain_extend_loop _, ?_⟩) (by rw [List.size_toArray]; omega) (by show (its.toArray.push _).size ≤ sizeLine + 1; rw [Array.size_push, List.size_toArray]; omega)
    have kS : ∀ d o, d ≠ S → h.get? d = some o → (h.update S (Obj.mapSeq (·.push (.ref s.heap.objs.size)))).get? d = some o := fun d o nd q => (Heap.get?_update_other _ _ (Ne.symm nd)).trans q
    have gS := Heap.get?_update_self (Obj.mapSeq (·.push (Value.ref s.heap.objs.size))) e' rfl
    have J2 : Inv X pins σ (upd (upd H s.heap.objs.size (.tup [x, y, z])) S (.lst (Ts.map V.ref ++ [.ref s.heap.objs.size]))) { s with heap := h.update S (Obj.mapSeq (·.push (.ref s.heap.objs.size))), toks := s.toks } :=
      J1.write (x := S) (e := S) (o := .lst (Ts.map V.ref ++ [.ref s.heap.objs.size])) (t' := s.toks) (by rw [hS1]; trivial) (.inl rfl) kS ⟨_, gS⟩ ⟨by rw [List.length_append, List.length_map]; show Ts.length + 1 ≤ sizeLine; omega, its ++ [.ref s.heap.objs.size], n + 1, ri.append (.cons (show RelV (V.ref s.heap.objs.size) (Value.ref s.heap.objs.size) from rfl) .nil), by rw [gS]; simp [Obj.mapSeq]⟩
    have ne : ∀ d ∈ fpZ N, d ≠ S := fun d hd => (ne_of_none hS (fp d hd).1).symm
    refine ih (i + 1) _ _ (Ts ++ [s.heap.objs.size]) (by omega) J2 (fun d hd => ?_) ?_ (fun d o q => ?_) (by rw [List.length_append, lT]; rfl) (by rw [upd_same, List.map_append]; rfl) ?_
    · refine ⟨?_, (fp d hd).2⟩
      rw [upd_ne (ne d hd), upd_ne (Nat.ne_of_lt (lt d hd))]
      exact (fp d hd).1
    · have kk : ∀ d ∈ fpZ N, ∀ o, h.get? d = some o → (h.update S (Obj.mapSeq (·.push (.ref s.heap.objs.size)))).get? d = some o := fun d hd o q => kS d o (ne d hd) q
      refine AtZ.keep ?_ kk
      exact ⟨k1, k8 _ _ (ad (by omega)) (ad (by omega)) (ad (by omega)) (ad (by omega)) (ad (by omega)) s3, k2, k3, k4, k5⟩
    · rw [upd_ne (ne_of_none q h0)]
      exact sT _ _ (sm _ _ q)
    · intro j T x' y' z' eT e1 e2 e3
      by_cases cj : j < Ts.length
      · rw [List.getElem?_append_left cj] at eT
        have g := sT _ _ (tr j T x' y' z' eT e1 e2 e3)
        have nS : T ≠ S := fun q => by
          rw [q, hS1] at g
          cases g
        rw [upd_ne nS]
        exact g
      · have lj := (List.getElem?_eq_some_iff.mp eT).1
        rw [List.length_append, List.length_singleton] at lj
        obtain rfl : j = i := by omega
        rw [List.getElem?_append_right (by omega), lT, Nat.sub_self] at eT
        cases eT
        cases ex.symm.trans e1
        cases ey.symm.trans e2
        cases ez.symm.trans e3
        rw [upd_ne (fun q => by rw [q, hS] at nT; cases nT)]
        exact upd_same
end XV
set_option Elab.async false
set_option linter.all false
set_option maxRecDepth 100000
set_option maxHeartbeats 800000
namespace XV
open PySem PySem.Spec PyProof.Rows L2
theorem zip_no_len : typeLookup (.type "zip") "__len__" = pure none := by
  rw [typeLookup_type, builtinLookup_eq_fast]
  kernel_rfl
theorem zip_no_hint : typeLookup (.type "zip") "__length_hint__" = pure none := by
  rw [typeLookup_type, builtinLookup_eq_fast]
  kernel_rfl
/-- list(zip(e, e2, e3)) -/
def tLZ (ta : TA) : TE := fun σ H Q => ta σ H fun vs H1 => ∃ a b c xs ys us, vs = [.ref a, .ref b, .ref c] ∧ H1 a = some (.lst xs) ∧ H1 b = some (.lst ys) ∧ H1 c = some (.lst us) ∧ xs.length = ys.length ∧ xs.length = us.length ∧ xs.length < 1000 ∧
  ∀ (H' : Hp) (p : Addr) (Ts : List Addr), Same H1 H' → H1 p = none → H' p = some (.lst (Ts.map V.ref)) → Ts.length = xs.length → Trp H' Ts xs ys us → Q (.ref p) H'
theorem vals3 {a b c : V} {us : List Value} (r : Vals [a, b, c] us) : ∃ u v w, us = [u, v, w] ∧ RelV a u ∧ RelV b v ∧ RelV c w := by
  cases r with
  | cons r1 r =>
    cases r with
    | cons r2 r =>
      cases r with
      | cons r3 r =>
        cases r
        exact ⟨_, _, _, rfl, r1, r2, r3⟩
theorem pe_listZ3 {X : Cx} {e e2 e3 : Expr} {ta : TA} {p pz pos pos2 : Pos} (calm : X.calm = true) (gL : Gl X "list") (z_list : X.mg "list" = none) (gZ : Gl X "zip") (z_zip : X.mg "zip" = none) (ha : PA X [e, e2, e3] ta)
    (hs : starEach [e, e2, e3] X.env = (false, eval e X.env) :: starEach [e2, e3] X.env := by rfl) (np : (backTo pos2 (starEach [e2, e3] X.env)).any (·.1) = false := by rfl)
    (hs2 : starEach [.Call (.Name "zip" pz) [e, e2, e3] [] pos2] X.env = (false, eval (.Call (.Name "zip" pz) [e, e2, e3] [] pos2) X.env) :: starEach [] X.env := by rfl) :
    PE X (.Call (.Name "list" p) [.Call (.Name "zip" pz) [e, e2, e3] [] pos2] [] pos) (tLZ ta) := by
  refine ⟨fun pins s σ H Q I h => Call_ (ld_blt I gL z_list PyProof.Rows.boot_list (PyProof.Rows.callWith_type1 ?_ hs2 rfl))⟩
  rw [hs2]
  show wpAny _ _ (spliced ((false, eval (.Call (.Name "zip" pz) [e, e2, e3] [] pos2) X.env) :: backTo pos (starEach [] X.env))) _ _ s
  refine Calls.spliced_cons (Call_ (ld_blt I gZ z_zip PyProof.Rows.boot_zip (PyProof.Rows.callWith_type1 (thn (ha.run pos2 pins s σ H _ I h) fun us s1 ⟨vs, H1, J, rv, q⟩ => ?_) hs np)))
  obtain ⟨a, b, c, xs, ys, us, rfl, hA, hB, hC, n1, n2, nz, q⟩ := q
  obtain ⟨u1, u2, u3, rfl, r1, r2, r3⟩ := vals3 rv
  cases r1
  cases r2
  cases r3
  obtain ⟨ps, _, pu, _⟩ := J.list (SqL.of (K := X.K) hA)
  obtain ⟨qs, _, pv, _⟩ := J.list (SqL.of (K := X.K) hB)
  obtain ⟨rs, _, pw, _⟩ := J.list (SqL.of (K := X.K) hC)
  refine zip_begins3 (begins_list a ps.toArray) (begins_list b qs.toArray) (begins_list c rs.toArray) pu.isList pv.isList pw.isList fun h' z1 t1 t2 g1 g2 g3 sz kp => Calls.spliced_nil ?_
  have N := s1.heap.objs.size
  have st : AtZ a b c s1.heap.objs.size 0 h' := ⟨⟨.none, false, .inl rfl, z1⟩, t1, ⟨_, _, _, t2⟩, ⟨_, g1, rfl, rfl⟩, ⟨_, g2, rfl, rfl⟩, ⟨_, g3, rfl, rfl⟩⟩
  have J2 : Inv X pins σ H1 { s1 with heap := h' } := J.kept (t' := s1.toks) kp
  have hh : X.A.in1.handled = none := J.ok.hd calm
  have sm_ : 1000 ≤ sizeLine := by decide
  refine callType_codes (Q₁ := fun ob s2 => ob = .ref h'.objs.size ∧ s2 = { s1 with heap := h'.push { cls := .type "list", data := .seq #[] } }) F.called_list (F.typeCall_list_1 _) F.entry_list_init (code_list_new _ ⟨rfl, rfl⟩) fun ob s2 k2 => ?_
  obtain ⟨rfl, rfl⟩ := k2
  have zS : h'.objs.size ≠ s1.heap.objs.size + 5 := Nat.ne_of_gt (Heap.lt_size z1)
  have hS : (h'.push { cls := .type "list", data := .seq #[] }).get? h'.objs.size = some { cls := .type "list", data := .seq #[] } := Heap.get?_push_size _ rfl
  refine ⟨⟨_, hS, rfl⟩, F.args_list_init_2 _ _, ?_⟩
  show wpAny _ X.A.in1.in1 (Builtin.List.listItems (.ref h'.objs.size) >>= fun old => Builtin.List.listUpdate (.ref h'.objs.size) (fun _ => #[]) >>= fun _ => letGo old.toList.reverse >>= fun _ => Builtin.List.listExtendWith (.ref h'.objs.size) (.ref (s1.heap.objs.size + 5)) .none) _ _ _
  refine wpAny_bind ?_
  unfold Builtin.List.listItems
  refine wpAny_bind (wpAny_seqItems hS rfl (wpAny_pure ?_))
  refine wpAny_bind ?_
  show wpAny _ X.A.in1.in1 (updateSeq h'.objs.size fun _ => #[]) _ _ _
  refine wpAny_updateSeq hS rfl (wpAny_bind (wpAny_letGo ?_))
  have hS2 := Heap.get?_update_self (Obj.mapSeq (fun _ => (#[] : Array Value))) hS rfl
  have up : ∀ (h : Heap) (f : Obj → Obj), (∀ d o, h'.get? d = some o → h.get? d = some o) → ∀ d o, h'.get? d = some o → (h.update h'.objs.size f).get? d = some o := fun h f q d o e =>
    (Heap.get?_update_other _ _ (Ne.symm (Nat.ne_of_lt (Heap.lt_size e)))).trans (q d o e)
  have k1 : ∀ d o, h'.get? d = some o → (h'.push { cls := .type "list", data := .seq #[] }).get? d = some o := fun d o e => Heap.get?_push_of_some _ e
  have k2 := up _ (Obj.mapSeq (fun _ => (#[] : Array Value))) k1
  have ty : ∀ {h : Heap} {tk : Nat}, (∀ d o, h'.get? d = some o → h.get? d = some o) → Shared.TypeIs { s1 with heap := h } (.ref (s1.heap.objs.size + 5)) "zip" := fun q => ⟨_, q _ _ z1, rfl⟩
  unfold Builtin.List.listExtendWith
  refine wpAny_bind (wpAny_typeOf (ty (tk := 0) k2) ?_)
  have h1 : Builtin.List.listSameRef (.ref h'.objs.size) (.ref (s1.heap.objs.size + 5)) = false := by simp [Builtin.List.listSameRef, zS]
  have h2 : (Value.type "zip" == Value.type "list") = false := by decide
  have h3 : (Value.type "zip" == Value.type "tuple") = false := by decide
  simp only [h1, h2, h3, Bool.or_false, Bool.false_eq_true, if_false]
  refine wpAny_bind (wpAny_pyIter_zip (k2 _ _ z1) (wpAny_bind (wpAny_holding ?_)))
  unfold Builtin.List.listLengthHint
  refine wpAny_bind (wpAny_specialOf (ty (tk := 0) k2) zip_no_len ?_)
  show wpAny _ X.A.in1.in1 (specialOf (Value.ref (s1.heap.objs.size + 5)) (Str.ofString "__length_hint__") >>= _) _ _ _
  refine wpAny_bind (wpAny_specialOf (ty (tk := 0) k2) zip_no_hint (wpAny_pure ?_))
  show wpAny _ X.A.in1.in1 (rule "list.extend.makes-room" >>= fun _ => Builtin.List.listTouch (.ref h'.objs.size) >>= fun _ => again (.builtin "list.extend.loop" ⟨[.ref h'.objs.size, .ref (s1.heap.objs.size + 5), .none], []⟩)) _ _ _
  refine wpAny_bind (wpAny_rule (wpAny_bind ?_))
  show wpAny _ X.A.in1.in1 (updateSeq h'.objs.size (·.push .none) >>= fun _ => updateSeq h'.objs.size (·.pop)) _ _ _
  refine wpAny_bind (wpAny_updateSeq hS2 rfl ?_)
  have hS3 := Heap.get?_update_self (Obj.mapSeq (·.push Value.none)) hS2 rfl
  refine wpAny_updateSeq (hz := by seq_fits) hS3 rfl ?_
  have hS4 := Heap.get?_update_self (Obj.mapSeq (·.pop)) hS3 rfl
  have k4 := up _ (Obj.mapSeq (·.pop)) (up _ (Obj.mapSeq (·.push Value.none)) k2)
  refine wpAny_pure ⟨plainId_quiet F.plain_extend_loop _, ?_⟩
  have nS : H1 h'.objs.size = none := J2.hok.fresh (Nat.le_refl _)
  have J3 := J2.laid (t' := s1.toks) (o := .lst []) k4 (Nat.le_refl _) ⟨Nat.zero_le _, [], _, .nil, hS4⟩
  have ltz : ∀ d ∈ fpZ s1.heap.objs.size, d < h'.objs.size := st.lt
  refine drainZ (H0 := H1) pu.lt pv.lt pw.lt hh n1 n2 (by omega) hA hB hC nS (fun s H Ts I sm lT hL tr => ⟨rfl, .ref h'.objs.size, H, I, rfl, q H _ Ts sm nS hL lT tr⟩) xs.length 0 _ _ [] (Nat.zero_add _) J3 (fun d hd => ?_) (st.keep fun d _ o e => k4 d o e) (same_new nS) rfl upd_same (fun j T x y u e => by simp at e)
  · have le : s1.heap.objs.size ≤ d := by
      rcases fpZ_mem hd with rfl | rfl | rfl | rfl | rfl | rfl
      · exact Nat.le_add_right _ 5
      · exact Nat.le_add_right _ 3
      · exact Nat.le_add_right _ 4
      · exact Nat.le_refl _
      · exact Nat.le_add_right _ 1
      · exact Nat.le_add_right _ 2
    have f := J.fpOk le (J.hok.fresh le)
    refine ⟨?_, f.2⟩
    rw [upd_ne (Nat.ne_of_lt (ltz d hd))]
    exact f.1
end XV
set_option Elab.async false
set_option linter.all false
set_option maxRecDepth 100000
set_option maxHeartbeats 800000
/-! comprehensions: two clauses (a list, a range within), enumerate(list), enumerate(zip(a, b)). -/
namespace XV
open PySem PySem.Spec PyProof.Rows L2
theorem lc2_LR {K : PySem.W.Frag} {a : Addr} {xs : List V} {g g1 : TG} {tt tt1 : TT} {wi1 : TI} {te : TE} {vs vs1 : List Nat} {σ : L2.St} {H1 : Hp} {D : Addr} {Qd : Hp → Prop} (Pv : Nat → Hp → Prop) (h0 : Pv 0 (upd H1 D (.lst []))) (hl : ∀ i H, i ≤ xs.length → Pv i H → SqL K H a xs)
    (hs : ∀ i x H, xs[i]? = some x → Pv i H → g x (wipe σ vs) H fun σ2 H2 => wipe σ2 vs = wipe σ vs ∧ tt σ2 H2 fun b H3 => if b = true then wi1 σ2 H3 fun J1 H4 => ∃ W1 : Nat → Nat → Hp → Prop, (∃ m, W1 0 m H4) ∧ ∀ j k H, W1 j k H →
      (J1.stop j H ∧ Pv (i + 1) H) ∨ (J1.go j H ∧ ∃ N1 : Hp → Prop, (∀ H', N1 H' → ∃ k', k' < k ∧ W1 (j + 1) k' H') ∧ ∀ x H', J1.yld j H x H' → g1 x (wipe σ2 vs1) H' fun σ3 H5 => wipe σ3 vs1 = wipe σ2 vs1 ∧ tt1 σ3 H5 fun b H6 =>
        if b = true then te σ3 H6 fun y H7 => ∃ acc, H7 D = some (.lst acc) ∧ acc.length < sizeLine ∧ N1 (upd H7 D (.lst (acc ++ [y]))) else N1 H6) else Pv (i + 1) H3)
    (hd : ∀ H, Pv xs.length H → Qd H) :
    ∃ W : Nat → Nat → Hp → Prop, (∃ m, W 0 m (upd H1 D (.lst []))) ∧ ∀ i m H, W i m H →
      ((Itl K a).stop i H ∧ Qd H) ∨ ((Itl K a).go i H ∧ ∃ N : Hp → Prop, (∀ H', N H' → ∃ m', m' < m ∧ W (i + 1) m' H') ∧ ∀ x H', (Itl K a).yld i H x H' → g x (wipe σ vs) H' fun σ2 H2 => wipe σ2 vs = wipe σ vs ∧ tt σ2 H2 fun b H3 =>
        if b = true then wi1 σ2 H3 fun J1 H4 => ∃ W1 : Nat → Nat → Hp → Prop, (∃ m, W1 0 m H4) ∧ ∀ j k H, W1 j k H →
          (J1.stop j H ∧ N H) ∨ (J1.go j H ∧ ∃ N1 : Hp → Prop, (∀ H', N1 H' → ∃ k', k' < k ∧ W1 (j + 1) k' H') ∧ ∀ x H', J1.yld j H x H' → g1 x (wipe σ2 vs1) H' fun σ3 H5 => wipe σ3 vs1 = wipe σ2 vs1 ∧ tt1 σ3 H5 fun b H6 =>
            if b = true then te σ3 H6 fun y H7 => ∃ acc, H7 D = some (.lst acc) ∧ acc.length < sizeLine ∧ N1 (upd H7 D (.lst (acc ++ [y]))) else N1 H6) else N H3) := by
  refine ⟨fun i m H => m + i = xs.length ∧ Pv i H, ⟨xs.length, rfl, h0⟩, ?_⟩
  rintro i m H ⟨em, pv⟩
  have q := hl i H (by omega) pv
  cases m with
  | zero =>
    obtain rfl : i = xs.length := by omega
    exact .inl ⟨⟨xs, q, Nat.le_refl _⟩, hd H pv⟩
  | succ m =>
    have li : i < xs.length := by omega
    refine .inr ⟨⟨xs, _, q, List.getElem?_eq_getElem li⟩, Pv (i + 1), fun H' p' => ⟨m, Nat.lt_succ_self m, by omega, p'⟩, ?_⟩
    rintro x H' ⟨rfl, y⟩
    exact hs i x _ (y xs q) pv
theorem in_rng {n : Nat} {g1 : TG} {tt1 : TT} {te : TE} {vs1 : List Nat} {σ2 : L2.St} {H4 : Hp} {D : Addr} {N : Hp → Prop} (Pv : Nat → Hp → Prop) (h0 : Pv 0 H4)
    (hs : ∀ j H, j < n → Pv j H → g1 (.int (0 + (j : Nat))) (wipe σ2 vs1) H fun σ3 H5 => wipe σ3 vs1 = wipe σ2 vs1 ∧ tt1 σ3 H5 fun b H6 =>
      if b = true then te σ3 H6 fun y H7 => ∃ acc, H7 D = some (.lst acc) ∧ acc.length < sizeLine ∧ Pv (j + 1) (upd H7 D (.lst (acc ++ [y]))) else Pv (j + 1) H6) (hd : ∀ H, Pv n H → N H) :
    ∃ W1 : Nat → Nat → Hp → Prop, (∃ m, W1 0 m H4) ∧ ∀ j k H, W1 j k H → ((Itr 0 n).stop j H ∧ N H) ∨ ((Itr 0 n).go j H ∧ ∃ N1 : Hp → Prop, (∀ H', N1 H' → ∃ k', k' < k ∧ W1 (j + 1) k' H') ∧ ∀ x H', (Itr 0 n).yld j H x H' → g1 x (wipe σ2 vs1) H' fun σ3 H5 => wipe σ3 vs1 = wipe σ2 vs1 ∧ tt1 σ3 H5 fun b H6 =>
      if b = true then te σ3 H6 fun y H7 => ∃ acc, H7 D = some (.lst acc) ∧ acc.length < sizeLine ∧ N1 (upd H7 D (.lst (acc ++ [y]))) else N1 H6) := by
  refine ⟨fun j k H => k + j = n ∧ Pv j H, ⟨n, rfl, h0⟩, ?_⟩
  rintro j k H ⟨em, pv⟩
  cases k with
  | zero =>
    obtain rfl : j = n := by omega
    exact .inl ⟨Nat.le_refl _, hd H pv⟩
  | succ k =>
    have lj : j < n := by omega
    refine .inr ⟨lj, Pv (j + 1), fun H' p' => ⟨k, Nat.lt_succ_self k, by omega, p'⟩, ?_⟩
    rintro x H' ⟨rfl, rfl⟩
    exact hs j _ lj pv
/-- [.. for i, x in enumerate(xs)] -/
theorem lc_enum {K : PySem.W.Frag} {a : Addr} {xs : List V} {g : TG} {tt : TT} {te : TE} {vs : List Nat} {σ : L2.St} {H1 : Hp} {D : Addr} {Qd : Hp → Prop} (Pv : Nat → Hp → Prop) (h0 : Pv 0 (upd H1 D (.lst []))) (hl : ∀ i H, Pv i H → SqL K H a xs)
    (hs : ∀ (i : Nat) (x : V) (T : Addr) (H : Hp), xs[i]? = some x → Pv i H → H T = none → g (.ref T) (wipe σ vs) (upd H T (.tup [.int (i : Nat), x])) fun σ2 H2 => wipe σ2 vs = wipe σ vs ∧ tt σ2 H2 fun c H3 =>
      if c = true then te σ2 H3 fun r H4 => ∃ acc, H4 D = some (.lst acc) ∧ acc.length < sizeLine ∧ Pv (i + 1) (upd H4 D (.lst (acc ++ [r]))) else Pv (i + 1) H3) (hd : ∀ H, Pv xs.length H → Qd H) :
    ∃ W : Nat → Nat → Hp → Prop, (∃ m, W 0 m (upd H1 D (.lst []))) ∧ ∀ i m H, W i m H →
      ((Ite K a).stop i H ∧ Qd H) ∨ ((Ite K a).go i H ∧ ∃ N : Hp → Prop, (∀ H', N H' → ∃ m', m' < m ∧ W (i + 1) m' H') ∧ ∀ x H', (Ite K a).yld i H x H' → g x (wipe σ vs) H' fun σ2 H2 => wipe σ2 vs = wipe σ vs ∧ tt σ2 H2 fun c H3 =>
        if c = true then te σ2 H3 fun r H4 => ∃ acc, H4 D = some (.lst acc) ∧ acc.length < sizeLine ∧ N (upd H4 D (.lst (acc ++ [r]))) else N H3) := by
  refine ⟨fun i m H => m + i = xs.length ∧ Pv i H, ⟨xs.length, rfl, h0⟩, ?_⟩
  rintro i m H ⟨em, pv⟩
  have q := hl i H pv
  cases m with
  | zero =>
    obtain rfl : i = xs.length := by omega
    exact .inl ⟨⟨xs, q, Nat.le_refl _⟩, hd H pv⟩
  | succ m =>
    have li : i < xs.length := by omega
    have g1 := List.getElem?_eq_getElem li
    refine .inr ⟨⟨xs, _, q, g1⟩, Pv (i + 1), fun H' p' => ⟨m, Nat.lt_succ_self m, by omega, p'⟩, ?_⟩
    rintro v H' ⟨T, x, rfl, nT, rfl, f1⟩
    exact hs i x T H (f1 xs q) pv nT
/-- [.. for i, (x, y) in enumerate(zip(xs, ys))] of lists of one length -/
theorem lc_enumZ {K : PySem.W.Frag} {a b : Addr} {xs ys : List V} {g : TG} {tt : TT} {te : TE} {vs : List Nat} {σ : L2.St} {H1 : Hp} {D : Addr} {Qd : Hp → Prop} (eq : xs.length = ys.length) (Pv : Nat → Hp → Prop) (h0 : Pv 0 (upd H1 D (.lst []))) (hl : ∀ i H, Pv i H → SqL K H a xs ∧ SqL K H b ys)
    (hs : ∀ (i : Nat) (x y : V) (T U : Addr) (H : Hp), xs[i]? = some x → ys[i]? = some y → Pv i H → H T = none → H U = none → U ≠ T → g (.ref U) (wipe σ vs) (upd (upd H T (.tup [x, y])) U (.tup [.int (i : Nat), .ref T])) fun σ2 H2 => wipe σ2 vs = wipe σ vs ∧ tt σ2 H2 fun c H3 =>
      if c = true then te σ2 H3 fun r H4 => ∃ acc, H4 D = some (.lst acc) ∧ acc.length < sizeLine ∧ Pv (i + 1) (upd H4 D (.lst (acc ++ [r]))) else Pv (i + 1) H3) (hd : ∀ H, Pv xs.length H → Qd H) :
    ∃ W : Nat → Nat → Hp → Prop, (∃ m, W 0 m (upd H1 D (.lst []))) ∧ ∀ i m H, W i m H →
      ((Itez K a b).stop i H ∧ Qd H) ∨ ((Itez K a b).go i H ∧ ∃ N : Hp → Prop, (∀ H', N H' → ∃ m', m' < m ∧ W (i + 1) m' H') ∧ ∀ x H', (Itez K a b).yld i H x H' → g x (wipe σ vs) H' fun σ2 H2 => wipe σ2 vs = wipe σ vs ∧ tt σ2 H2 fun c H3 =>
        if c = true then te σ2 H3 fun r H4 => ∃ acc, H4 D = some (.lst acc) ∧ acc.length < sizeLine ∧ N (upd H4 D (.lst (acc ++ [r]))) else N H3) := by
  refine ⟨fun i m H => m + i = xs.length ∧ Pv i H, ⟨xs.length, rfl, h0⟩, ?_⟩
  rintro i m H ⟨em, pv⟩
  obtain ⟨q1, q2⟩ := hl i H pv
  cases m with
  | zero =>
    obtain rfl : i = xs.length := by omega
    exact .inl ⟨⟨xs, q1, Nat.le_refl _⟩, hd H pv⟩
  | succ m =>
    have l1 : i < xs.length := by omega
    have l2 : i < ys.length := by omega
    refine .inr ⟨⟨xs, ys, _, _, q1, q2, List.getElem?_eq_getElem l1, List.getElem?_eq_getElem l2⟩, Pv (i + 1), fun H' p' => ⟨m, Nat.lt_succ_self m, by omega, p'⟩, ?_⟩
    rintro v H' ⟨T, U, x, y, rfl, nT, nU, ne, rfl, f1, f2⟩
    exact hs i x y T U H (f1 xs q1) (f2 ys q2) pv nT nU ne
end XV
set_option Elab.async false
set_option linter.all false
set_option maxRecDepth 100000
set_option maxHeartbeats 800000
/-! a comprehension with two clauses, a list within a list. -/
namespace XV
open PySem PySem.Spec PyProof.Rows L2
theorem in_lst {K : PySem.W.Frag} {a : Addr} {xs : List V} {g1 : TG} {tt1 : TT} {te : TE} {vs1 : List Nat} {σ2 : L2.St} {H4 : Hp} {D : Addr} {N : Hp → Prop} (Pv : Nat → Hp → Prop) (h0 : Pv 0 H4) (hl : ∀ j H, Pv j H → SqL K H a xs)
    (hs : ∀ j x H, xs[j]? = some x → Pv j H → g1 x (wipe σ2 vs1) H fun σ3 H5 => wipe σ3 vs1 = wipe σ2 vs1 ∧ tt1 σ3 H5 fun b H6 =>
      if b = true then te σ3 H6 fun y H7 => ∃ acc, H7 D = some (.lst acc) ∧ acc.length < sizeLine ∧ Pv (j + 1) (upd H7 D (.lst (acc ++ [y]))) else Pv (j + 1) H6) (hd : ∀ H, Pv xs.length H → N H) :
    ∃ W1 : Nat → Nat → Hp → Prop, (∃ m, W1 0 m H4) ∧ ∀ j k H, W1 j k H → ((Itl K a).stop j H ∧ N H) ∨ ((Itl K a).go j H ∧ ∃ N1 : Hp → Prop, (∀ H', N1 H' → ∃ k', k' < k ∧ W1 (j + 1) k' H') ∧ ∀ x H', (Itl K a).yld j H x H' → g1 x (wipe σ2 vs1) H' fun σ3 H5 => wipe σ3 vs1 = wipe σ2 vs1 ∧ tt1 σ3 H5 fun b H6 =>
      if b = true then te σ3 H6 fun y H7 => ∃ acc, H7 D = some (.lst acc) ∧ acc.length < sizeLine ∧ N1 (upd H7 D (.lst (acc ++ [y]))) else N1 H6) := by
  refine ⟨fun j k H => k + j = xs.length ∧ Pv j H, ⟨xs.length, rfl, h0⟩, ?_⟩
  rintro j k H ⟨em, pv⟩
  have q := hl j H pv
  cases k with
  | zero =>
    obtain rfl : j = xs.length := by omega
    exact .inl ⟨⟨xs, q, Nat.le_refl _⟩, hd H pv⟩
  | succ k =>
    have lj : j < xs.length := by omega
    refine .inr ⟨⟨xs, _, q, List.getElem?_eq_getElem lj⟩, Pv (j + 1), fun H' p' => ⟨k, Nat.lt_succ_self k, by omega, p'⟩, ?_⟩
    rintro x H' ⟨rfl, y⟩
    exact hs j x _ (y xs q) pv
end XV
set_option Elab.async false
set_option linter.all false
set_option maxRecDepth 100000
set_option maxHeartbeats 1000000
namespace KJ
open PySem PySem.Spec PyProof.Rows L2 XV NM XT
/-! ### entries among any data -/
theorem call_isiK {X : Cx} {K : PySem.W.Frag} (e : X.K = K) : CallR X (.builtin "isinstance") (rIsi K) := by
  subst e
  exact call_isi
def belD (n : Nat) : PyData → Bool
  | .int x => decide (0 ≤ x) && decide (x < (n : Int))
  | _ => false
def isLD : PyData → Bool
  | .list _ => true
  | _ => false
def lenD : PyData → Nat
  | .list ds => ds.length
  | _ => 0
theorem da_len {H : Hp} : ∀ {xs : List V} {ds : List PyData}, DaAll H xs ds → xs.length = ds.length
  | _, _, .nil => rfl
  | _, _, .cons _ r => congrArg (· + 1) (da_len r)
theorem da_knG {H : Hp} {v : V} {d : PyData} (h : Da H v d) : Kn H v := by
  cases h with
  | non => exact .non
  | bl b => exact .bl b
  | int i => exact .int i
  | str x => exact .str x
  | lst h _ => exact .lst h
  | tup h _ => exact .tup h
theorem bel_da {H : Hp} {v : V} {d : PyData} (h : Da H v d) (n : Nat) : belV (n : Int) v = belD n d := by
  cases h <;> rfl
theorem all_bl {α : Type} (f : α → Bool) (l : List α) : (l.map f).all id = l.all f := by
  rw [List.all_map]
  rfl
def shortV : V → Bool
  | .str y => lowS y && decide (y.length ≤ 2000)
  | _ => false
def shortD : PyData → Bool
  | .str y => lowS y && decide (y.length ≤ 2000)
  | _ => false
def isBD : PyData → Bool
  | .bool _ => true
  | _ => false
def itemsD : PyData → List PyData
  | .list ds => ds
  | _ => []
def entD (n : Nat) : PyData → Bool
  | .tuple [a, b, c] => belD n a && (shortD b && isBD c)
  | _ => false
def entsD (wd : Nat) : PyData → Bool
  | .list ds => (decide (1 ≤ ds.length) && decide (ds.length ≤ 12)) && (ds.all (fun r => isLD r && decide (lenD r = wd)) && ds.all fun r => (itemsD r).all (entD ds.length))
  | _ => false
def wrdsD (n : Nat) : PyData → Bool
  | .list ds => decide (ds.length = n) && ds.all shortD
  | _ => false
/-- a text is not too long -/
def SL (d : PyData) : Prop := ∀ y, d = .str y → y.length ≤ 100000
def SE (d : PyData) : Prop := ∀ a b c, d = .tuple [a, b, c] → SL b
theorem short_da {H : Hp} {v : V} {d : PyData} (h : Da H v d) : shortV v = shortD d := by cases h <;> rfl
theorem sl_da {H : Hp} {v : V} {d : PyData} (h : Da H v d) (l : SL d) : ∀ y, v = .str y → y.length ≤ 100000 := fun y e => by
  subst e
  cases h
  exact l y rfl
/-- the type of data, and whether it is of the type T -/
theorem da_ty {K : PySem.W.Frag} {H : Hp} {v : V} {d : PyData} (h : Da H v d) : ∃ T, TyX K H v (.type T) ∧ T ∈ (["NoneType", "bool", "int", "str", "list", "tuple"] : List String) := by
  cases h with
  | non => exact ⟨"NoneType", .base .non, by simp⟩
  | bl b => exact ⟨"bool", .base (.bl b), by simp⟩
  | int i => exact ⟨"int", .base (.int i), by simp⟩
  | str x => exact ⟨"str", .base (.str x), by simp⟩
  | lst h _ => exact ⟨"list", .base (.lst h), by simp⟩
  | tup h _ => exact ⟨"tuple", .base (.tup h), by simp⟩
def isTD : PyData → Bool
  | .tuple _ => true
  | _ => false
theorem da_isT {K : PySem.W.Frag} {H : Hp} {v : V} {d : PyData} (h : Da H v d) : ∃ t, TyX K H v t ∧ PySem.W.kitOne K t (.type "tuple") = some (isTD d) := by
  cases h with
  | non => exact ⟨.type "NoneType", .base .non, (show PySem.W.kitOne K (.type "NoneType") (.type "tuple") = some false from kit_ty (by decide +kernel))⟩
  | bl b => exact ⟨.type "bool", .base (.bl b), (show PySem.W.kitOne K (.type "bool") (.type "tuple") = some false from kit_ty (by decide +kernel))⟩
  | int i => exact ⟨.type "int", .base (.int i), (show PySem.W.kitOne K (.type "int") (.type "tuple") = some false from kit_ty (by decide +kernel))⟩
  | str x => exact ⟨.type "str", .base (.str x), (show PySem.W.kitOne K (.type "str") (.type "tuple") = some false from kit_ty (by decide +kernel))⟩
  | lst h _ => exact ⟨.type "list", .base (.lst h), (show PySem.W.kitOne K (.type "list") (.type "tuple") = some false from kit_ty (by decide +kernel))⟩
  | tup h _ => exact ⟨.type "tuple", .base (.tup h), (show PySem.W.kitOne K (.type "tuple") (.type "tuple") = some true from kit_ty (by decide +kernel))⟩
theorem da_isL {K : PySem.W.Frag} {H : Hp} {v : V} {d : PyData} (h : Da H v d) : ∃ t, TyX K H v t ∧ PySem.W.kitOne K t (.type "list") = some (isLD d) := by
  cases h with
  | non => exact ⟨.type "NoneType", .base .non, (show PySem.W.kitOne K (.type "NoneType") (.type "list") = some false from kit_ty (by decide +kernel))⟩
  | bl b => exact ⟨.type "bool", .base (.bl b), (show PySem.W.kitOne K (.type "bool") (.type "list") = some false from kit_ty (by decide +kernel))⟩
  | int i => exact ⟨.type "int", .base (.int i), (show PySem.W.kitOne K (.type "int") (.type "list") = some false from kit_ty (by decide +kernel))⟩
  | str x => exact ⟨.type "str", .base (.str x), (show PySem.W.kitOne K (.type "str") (.type "list") = some false from kit_ty (by decide +kernel))⟩
  | lst h _ => exact ⟨.type "list", .base (.lst h), (show PySem.W.kitOne K (.type "list") (.type "list") = some true from kit_ty (by decide +kernel))⟩
  | tup h _ => exact ⟨.type "tuple", .base (.tup h), (show PySem.W.kitOne K (.type "tuple") (.type "list") = some false from kit_ty (by decide +kernel))⟩
theorem da_isB {K : PySem.W.Frag} {H : Hp} {v : V} {d : PyData} (h : Da H v d) : ∃ t, TyX K H v t ∧ PySem.W.kitOne K t (.type "bool") = some (isBD d) := by
  cases h with
  | non => exact ⟨.type "NoneType", .base .non, (show PySem.W.kitOne K (.type "NoneType") (.type "bool") = some false from kit_ty (by decide +kernel))⟩
  | bl b => exact ⟨.type "bool", .base (.bl b), (show PySem.W.kitOne K (.type "bool") (.type "bool") = some true from kit_ty (by decide +kernel))⟩
  | int i => exact ⟨.type "int", .base (.int i), (show PySem.W.kitOne K (.type "int") (.type "bool") = some false from kit_ty (by decide +kernel))⟩
  | str x => exact ⟨.type "str", .base (.str x), (show PySem.W.kitOne K (.type "str") (.type "bool") = some false from kit_ty (by decide +kernel))⟩
  | lst h _ => exact ⟨.type "list", .base (.lst h), (show PySem.W.kitOne K (.type "list") (.type "bool") = some false from kit_ty (by decide +kernel))⟩
  | tup h _ => exact ⟨.type "tuple", .base (.tup h), (show PySem.W.kitOne K (.type "tuple") (.type "bool") = some false from kit_ty (by decide +kernel))⟩
abbrev sShort : Stmt := top 37
abbrev sEnt : Stmt := top 36
abbrev sEnts : Stmt := top 35
abbrev sWrds : Stmt := top 38
theorem scShort : FnScope ["value"] ["value"] (defScope sShort) := ⟨rfl, rfl, rfl, by decide +kernel, rfl, by decide +kernel, by decide +kernel⟩
abbrev nEnt : List Str := ["how_many", "item", "state", "word", "itself"]
theorem scEnt : FnScope nEnt ["how_many", "item"] (defScope sEnt) := ⟨rfl, rfl, rfl, by decide +kernel, rfl, by decide +kernel, by decide +kernel⟩
abbrev nEnts : List Str := ["value", "width", "row", "item"]
theorem scEnts : FnScope nEnts ["value", "width"] (defScope sEnts) := ⟨rfl, rfl, rfl, by decide +kernel, rfl, by decide +kernel, by decide +kernel⟩
abbrev nWrds : List Str := ["value", "how_many", "item"]
theorem scWrds : FnScope nWrds ["value", "how_many"] (defScope sWrds) := ⟨rfl, rfl, rfl, by decide +kernel, rfl, by decide +kernel, by decide +kernel⟩
def spShort : Sp := fun vs H Q _ => ∃ v, vs = [v] ∧ Kn H v ∧ (∀ y, v = .str y → y.length ≤ 100000) ∧ Q (.bl (shortV v)) H
def spEnt : Sp := fun vs H Q _ => ∃ (n : Nat) (v : V) (d : PyData), vs = [.int n, v] ∧ Da H v d ∧ SE d ∧ Q (.bl (entD n d)) H
def spEnts : Sp := fun vs H Q _ => ∃ (v : V) (d : PyData) (wd : Nat), vs = [v, .int wd] ∧ Da H v d ∧ lenD d ≤ 100 ∧ (∀ r ∈ itemsD d, lenD r ≤ 60 ∧ ∀ e ∈ itemsD r, SE e) ∧ ∀ H', Same H H' → Q (.bl (entsD wd d)) H'
def spWrds : Sp := fun vs H Q _ => ∃ (v : V) (d : PyData) (n : Nat), vs = [v, .int n] ∧ Da H v d ∧ lenD d ≤ 100 ∧ (∀ e ∈ itemsD d, SL e) ∧ ∀ H', Same H H' → Q (.bl (wrdsD n d)) H'
section
variable {P : Program} {w : World} {K : PySem.W.Frag} {mg : Str → Option Value} {base : Heap} {f : Addr} {fd : FuncData} {C : Addr}
theorem ok_short (F : FnP K "is_short_word" sShort f fd) (o_low : Ok P w K mg base "is_string_of_letters" 1 ["value"] spLow) (z_len : mg "len" = none) {tM : Tok} (h_LP : mg "LONGEST_PIECE" = some (.int 2000 tM)) : FnOk P w K mg base CX0 2 f fd ["value"] spShort := by
  refine F.ok scShort (fun vs H Q E h => ?_) (fun cdv A outer s H vs Q E hr h => ?_)
  · obtain ⟨v, rfl, _⟩ := h
    rfl
  · obtain ⟨v, rfl, kv, lv, q⟩ := h
    have r1 : Room 1 (A.deeper (envOfC "is_short_word" (defScope sShort) s.heap.objs.size f cdv)) := hr
    have szl := sizeLine_eq
    refine ⟨_, PSs.nox (pss_one (ps_ret (pe_and (pe_callO o_low r1 (by rfl) (pa_cons (pv 0) pa_nil)) (pe_one (pe_cmpR op_le (pe_callB call_len_str (by rfl) z_len boot_len (pa_cons (pv 0) pa_nil)) (pe_glob (v := .int 2000) (by rfl) h_LP ⟨_, rfl⟩) (nomark _)))))), ?_⟩
    refine ⟨_, rfl, v, rfl, kv, ?_⟩
    cases v with
    | str z =>
      have lz := lv z rfl
      have e : shortV (.str z) = (lowS z && decide (z.length ≤ 2000)) := rfl
      rw [e] at q
      show ∃ b, V.bl (lowS z) = .bl b ∧ _
      cases c : lowS z with
      | false =>
        rw [c] at q
        exact ⟨false, rfl, iteF q⟩
      | true =>
        rw [c, Bool.true_and] at q
        refine ⟨true, rfl, iteT ⟨_, rfl, z, rfl, by omega, _, _, rfl, rfl, ?_⟩⟩
        have e2 : decide ((z.length : Int) ≤ 2000) = decide (z.length ≤ 2000) := decide_eq_decide.mpr ⟨fun h => by omega, fun h => by omega⟩
        show Q (.bl (decide ((z.length : Int) ≤ 2000))) H
        rw [e2]
        exact q
    | _ => exact ⟨false, rfl, iteF q⟩
theorem ok_ent (F : FnP K "is_entry" sEnt f fd) (o_below : Ok P w K mg base "is_count_below" 3 ["bound", "value"] spBelow) (o_short : Ok P w K mg base "is_short_word" 2 ["value"] spShort) (z_isinstance : mg "isinstance" = none) (z_tuple : mg "tuple" = none) (z_len : mg "len" = none) (z_bool : mg "bool" = none) : FnOk P w K mg base CX0 4 f fd ["how_many", "item"] spEnt := by
  have nd := scEnt.nd
  refine F.ok scEnt (fun vs H Q E h => ?_) (fun cdv A outer s H vs Q E hr h => ?_)
  · obtain ⟨n, v, d, rfl, _⟩ := h
    rfl
  · obtain ⟨n, v, d, rfl, hd, se, q⟩ := h
    have r3 : Room 3 (A.deeper (envOfC "is_entry" (defScope sEnt) s.heap.objs.size f cdv)) := hr
    refine ⟨_, PSs.nox (pss_cons (ps_if (PW.pt (pw_or (pt_not (pt_val (pe_callB call_isi (by rfl) z_isinstance (by decide +kernel) (pa_cons (pv 1) (pa_cons (pe_bltn (v := .ty "tuple") (by rfl) z_tuple (by decide +kernel) rfl) pa_nil))))) (pw_or1 (pt_cmpR op_ne (pe_callB call_len (by rfl) z_len boot_len (pa_cons (pv 1) pa_nil)) pe_int (nomark _))))) (pss_one (ps_ret pe_bl)) pss_nil)
      (pss_cons (ps_asg (pv 1) (pg_tup rfl (pgs_cons (pg_name (i := 2) nd rfl (Or.inl rfl)) (pgs_cons (pg_name (i := 3) nd rfl (Or.inl rfl)) (pgs_cons (pg_name (i := 4) nd rfl (Or.inl rfl)) pgs_nil)))))
      (pss_one (ps_ret (pe_and (pe_callO o_below r3 (by rfl) (pa_cons (pv 0) (pa_cons (pv 2) pa_nil))) (pe_and (pe_callO o_short (r3.mono (by decide)) (by rfl) (pa_cons (pv 3) pa_nil)) (pe_one (pe_callB call_isi (by rfl) z_isinstance (by decide +kernel) (pa_cons (pv 4) (pa_cons (pe_bltn (v := .ty "bool") (by rfl) z_bool (by decide +kernel) rfl) pa_nil)))))))))), ?_⟩
    obtain ⟨t, ty, kt⟩ := da_isT (K := K) hd
    refine ⟨_, rfl, _, _, t, _, isTD d, rfl, .ty "tuple", ty, kt, isTD d, rfl, ?_⟩
    cases hd with
    | @tup a xs ds ha hall =>
      have lx : xs.length = ds.length := da_len hall
      refine iteF ⟨_, rfl, _, ds.length, rfl, .inr ⟨_, SqT.of ha, lx.symm⟩, rfl, _, rfl, ?_⟩
      by_cases c : ds.length = 3
      · have e : decide (V.int (ds.length : Int) = V.int 3) = true := decide_eq_true (by rw [c]; rfl)
        rw [e]
        refine iteF ?_
        cases hall with
        | nil => cases c
        | @cons v1 _ d1 _ h1 r1 =>
          cases r1 with
          | nil => cases c
          | @cons v2 _ d2 _ h2 r2 =>
            cases r2 with
            | nil => cases c
            | @cons v3 _ d3 _ h3 r3' =>
              cases r3' with
              | cons _ _ => exact absurd c (by simp)
              | nil =>
                refine ⟨_, rfl, a, _, rfl, SqT.of ha, rfl, _, _, rfl, _, _, rfl, _, _, rfl, rfl, ?_⟩
                have q : Q (.bl (belD n d1 && (shortD d2 && isBD d3))) H := q
                refine ⟨_, rfl, _, rfl, _, _, rfl, da_knG h1, ?_⟩
                rw [bel_da h1]
                cases e1 : belD n d1 with
                | false =>
                  rw [e1] at q
                  exact ⟨false, rfl, iteF q⟩
                | true =>
                  rw [e1, Bool.true_and] at q
                  refine ⟨true, rfl, iteT ⟨_, rfl, v2, rfl, da_knG h2, sl_da h2 (se _ _ _ rfl), ?_⟩⟩
                  rw [short_da h2]
                  cases e2 : shortD d2 with
                  | false =>
                    rw [e2] at q
                    exact ⟨false, rfl, iteF q⟩
                  | true =>
                    rw [e2, Bool.true_and] at q
                    obtain ⟨t3, ty3, kt3⟩ := da_isB (K := K) h3
                    exact ⟨true, rfl, iteT ⟨_, rfl, _, _, t3, _, isBD d3, rfl, .ty "bool", ty3, kt3, q⟩⟩
      · have e : decide (V.int (ds.length : Int) = V.int 3) = false := decide_eq_false (fun z => c (by have := V.int.inj z; omega))
        rw [e]
        refine iteT ?_
        have eq : entD n (.tuple ds) = false := by
          unfold entD
          split
          · rename_i h
            injection h with h
            subst h
            exact absurd rfl c
          · rfl
        rw [eq] at q
        exact q
    | _ => exact iteT (iteT q)
end
end KJ
set_option Elab.async false
set_option linter.all false
set_option maxRecDepth 100000
set_option maxHeartbeats 1000000
namespace KJ
open PySem PySem.Spec PyProof.Rows L2 XV NM XT
theorem isT_nl {d : PyData} (h : isLD d = false) (wd : Nat) : entsD wd d = false := by
  cases d <;> first | rfl | cases h
theorem wrds_nl {d : PyData} (h : isLD d = false) (n : Nat) : wrdsD n d = false := by
  cases d <;> first | rfl | cases h
theorem flat_le {ds : List PyData} (h : ∀ r ∈ ds, (itemsD r).length ≤ 60) : (ds.flatMap itemsD).length ≤ ds.length * 60 := by
  induction ds with
  | nil => simp
  | cons d ds ih =>
    rw [List.flatMap_cons, List.length_append, List.length_cons]
    have := h d List.mem_cons_self
    have := ih fun r hr => h r (List.mem_cons_of_mem _ hr)
    omega
theorem items_len (r : PyData) : (itemsD r).length = lenD r := by cases r <;> rfl
section
variable {P : Program} {w : World} {K : PySem.W.Frag} {mg : Str → Option Value} {base : Heap} {f : Addr} {fd : FuncData} {C : Addr}
theorem ok_ents (F : FnP K "is_list_of_entries" sEnts f fd) (o_ent : Ok P w K mg base "is_entry" 4 ["how_many", "item"] spEnt) (z_isinstance : mg "isinstance" = none) (z_list : mg "list" = none) (z_len : mg "len" = none) (z_all : mg "all" = none) {tM : Tok} (h_M : mg "MOST_STATES" = some (.int 12 tM)) : FnOk P w K mg base CX0 5 f fd ["value", "width"] spEnts := by
  have nd := scEnts.nd
  refine F.ok scEnts (fun vs H Q E h => ?_) (fun cdv A outer s H vs Q E hr h => ?_)
  · obtain ⟨v, d, wd, rfl, _⟩ := h
    rfl
  · obtain ⟨v, d, wd, rfl, hd, l100, l2, q⟩ := h
    have r4 : Room 4 (A.deeper (envOfC "is_list_of_entries" (defScope sEnts) s.heap.objs.size f cdv)) := hr
    refine ⟨_, PSs.nox (pss_cons (ps_if (PW.pt (pw_or (pt_not (pt_val (pe_callB call_isi (by rfl) z_isinstance (by decide +kernel) (pa_cons (pv 0) (pa_cons (pe_bltn (v := .ty "list") (by rfl) z_list (by decide +kernel) rfl) pa_nil))))) (pw_or1 (pt_not (pt_chain op_le op_le pe_int (pe_callB call_len (by rfl) z_len boot_len (pa_cons (pv 0) pa_nil)) (pe_glob (v := .int 12) (by rfl) h_M ⟨_, rfl⟩)))))) (pss_one (ps_ret pe_bl)) pss_nil)
      (pss_cons (ps_if (pt_not (pt_val (pe_callB (cr_all rfl) (by rfl) z_all (by decide +kernel) (pa_cons
      (pe_lc (own := [("row", 2)]) (g := gName 2) (by rfl) nd (pi_list (pv 0)) (blkOk_by (N := nEnts) (sc := defScope sEnts) (own := [("row", 2)]) (by decide +kernel)) (fun _ _ _ _ _ => pg_name (i := 2) nd rfl (Or.inl rfl)) (fun _ _ _ _ _ => pts_nil)
        (fun _ _ _ _ _ => pe_and (pe_callB (call_isiK (K := K) rfl) (by rfl) z_isinstance (by decide +kernel) (pa_cons (pv 2) (pa_cons (pe_bltn (v := .ty "list") (by rfl) z_list (by decide +kernel) rfl) pa_nil))) (pe_one (pe_cmpR op_eq (pe_callB (call_lenK (K := K) rfl) (by rfl) z_len boot_len (pa_cons (pv 2) pa_nil)) (pv 1) (nomark _))))) pa_nil)))) (pss_one (ps_ret pe_bl)) pss_nil)
      (pss_one (ps_ret (pe_callB (cr_all rfl) (by rfl) z_all (by decide +kernel) (pa_cons
      (pe_lc2 (own := [("row", 2), ("item", 3)]) (vs1 := [3]) (g := gName 2) (g1 := gName 3) (by rfl) nd (pi_list (pv 0)) (blkOk_by (N := nEnts) (sc := defScope sEnts) (own := [("row", 2), ("item", 3)]) (by decide +kernel)) (by decide) (fun _ _ _ _ _ => pg_name (i := 2) nd rfl (Or.inl rfl)) (fun _ _ _ _ _ => pts_nil)
        (fun _ _ _ _ _ => pi_listK (K := K) rfl (pv 2)) (fun _ _ _ _ _ => pg_name (i := 3) nd rfl (Or.inl rfl)) (fun _ _ _ _ _ => pts_nil)
        (fun _ _ _ _ _ => pe_callO o_ent r4 (by rfl) (pa_cons (pe_callB (call_lenK (K := K) rfl) (by rfl) z_len boot_len (pa_cons (pv 0) pa_nil)) (pa_cons (pv 3) pa_nil)))) pa_nil)))))), ?_⟩
    obtain ⟨t, ty, kt⟩ := da_isL (K := K) hd
    refine ⟨_, rfl, _, _, t, _, isLD d, rfl, .ty "list", ty, kt, isLD d, rfl, ?_⟩
    by_cases il : isLD d = false
    · have q := q H (Same.refl _)
      rw [isT_nl il] at q
      rw [il]
      exact iteT (iteT q)
    cases hd with
    | @lst a xs ds ha hall =>
      have lx : xs.length = ds.length := da_len hall
      have l100 : ds.length ≤ 100 := l100
      refine iteF ⟨_, rfl, _, ds.length, rfl, .inl ⟨_, SqL.of ha, lx.symm⟩, ?_⟩
      have eqD : entsD wd (.list ds) = ((decide (1 ≤ ds.length) && decide (ds.length ≤ 12)) && (ds.all (fun r => isLD r && decide (lenD r = wd)) && ds.all fun r => (itemsD r).all (entD ds.length))) := rfl
      by_cases c1 : ¬ 1 ≤ ds.length
      · have q1 := q H (Same.refl _)
        rw [eqD, decide_eq_false c1, Bool.false_and, Bool.false_and] at q1
        exact ⟨_, _, rfl, rfl, false, congrArg V.bl (decide_eq_false (by omega)), iteF ⟨false, rfl, iteT q1⟩⟩
      have c1 := Decidable.of_not_not c1
      refine ⟨_, _, rfl, rfl, true, congrArg V.bl (decide_eq_true (by omega)), ?_⟩
      by_cases c2 : ¬ ds.length ≤ 12
      · have q1 := q H (Same.refl _)
        rw [eqD, decide_eq_false c2, Bool.and_false, Bool.false_and] at q1
        exact ⟨_, _, rfl, rfl, false, congrArg V.bl (decide_eq_false (by omega)), iteT q1⟩
      have c2 := Decidable.of_not_not c2
      refine ⟨_, _, rfl, rfl, true, congrArg V.bl (decide_eq_true (by omega)), iteF ?_⟩
      rw [eqD, decide_eq_true c1, decide_eq_true c2, Bool.true_and, Bool.true_and] at q
      clear eqD
      refine ⟨_, rfl, a, rfl, ⟨_, SqL.of ha⟩, fun D nD => lc_list (K := K) (a := a) (xs := xs) (fun k H' => Same H H' ∧ H' D = some (.lst (((ds.take k).map (fun r => isLD r && decide (lenD r = wd))).map V.bl))) ⟨same_new nD, upd_same⟩ (fun k H' _ p => SqL.of (p.1 _ _ ha)) ?_ ?_⟩
      · rintro k y H' hk ⟨sm, hD⟩
        obtain ⟨dx, ex, hx⟩ := hall.get hk
        have li := (List.getElem?_eq_some_iff.mp ex).1
        have fin : ∀ b, b = (isLD dx && decide (lenD dx = wd)) → ∃ acc, H' D = some (.lst acc) ∧ acc.length < sizeLine ∧ Same H (upd H' D (.lst (acc ++ [V.bl b]))) ∧ upd H' D (.lst (acc ++ [V.bl b])) D = some (.lst (((ds.take (k + 1)).map (fun r => isLD r && decide (lenD r = wd))).map V.bl)) := fun b eb => by
          refine ⟨_, hD, ?_, fun b o e => ?_, ?_⟩
          · rw [List.length_map, List.length_map, List.length_take]
            exact small1000 (by omega)
          · rw [upd_ne (ne_of_none (H := H) e nD)]
            exact sm _ _ e
          · rw [upd_same, List.take_add_one, ex, List.map_append, List.map_append, eb]
            rfl
        have hx2 := hx.keep sm
        obtain ⟨t2, ty2, kt2⟩ := da_isL (K := K) hx2
        refine ⟨rfl, _, rfl, _, _, t2, _, isLD dx, rfl, .ty "list", ty2, kt2, isLD dx, rfl, ?_⟩
        by_cases il2 : isLD dx = false
        · rw [il2]
          exact iteF (fin false (by rw [il2]; rfl))
        cases hx2 with
        | @lst a2 xs2 ds2 ha2 hall2 =>
          have lx2 : xs2.length = ds2.length := da_len hall2
          refine iteT ⟨_, rfl, _, ds2.length, rfl, .inl ⟨_, SqL.of ha2, lx2.symm⟩, _, rfl, rfl, ?_⟩
          refine fin _ ?_
          show decide (V.int (ds2.length : Int) = V.int (wd : Int)) = decide (ds2.length = wd)
          exact decide_eq_decide.mpr ⟨fun z => by have := V.int.inj z; omega, fun z => by rw [z]⟩
        | _ => exact absurd rfl il2
      rintro H1 ⟨s1, hD⟩
      rw [lx, List.take_length] at hD
      refine ⟨D, _, rfl, SqL.of hD, _, rfl, ?_⟩
      rw [all_bl]
      cases ea : ds.all (fun r => isLD r && decide (lenD r = wd)) with
      | false =>
        have q1 := q H1 s1
        rw [ea, Bool.false_and] at q1
        exact iteT q1
      | true =>
        rw [ea, Bool.true_and] at q
        refine iteF ?_
        have ha1 := s1 _ _ ha
        refine ⟨_, rfl, a, rfl, ⟨_, SqL.of ha1⟩, fun D2 nD2 => ?_⟩
        have row : ∀ r ∈ ds, (itemsD r).length ≤ 60 := fun r hr => by
          rw [items_len]
          exact (l2 r hr).1
        refine lc2_LR (K := K) (a := a) (xs := xs) (fun i H2 => Same H1 H2 ∧ H2 D2 = some (.lst ((((ds.take i).flatMap itemsD).map (entD ds.length)).map V.bl))) ⟨same_new nD2, upd_same⟩ (fun i H' _ p => SqL.of (p.1 _ _ ha1)) ?_ ?_
        · rintro i y H2 hi ⟨s2, hD2⟩
          obtain ⟨dx, ex, hx⟩ := hall.get hi
          have li := (List.getElem?_eq_some_iff.mp ex).1
          have mx := List.mem_of_getElem? ex
          have ix : isLD dx = true := by
            have := List.all_eq_true.mp ea dx mx
            rw [Bool.and_eq_true] at this
            exact this.1
          obtain ⟨_, se⟩ := l2 dx mx
          have row1 := row dx mx
          have fl := flat_le (ds := ds.take i) fun r hr => row r (List.mem_of_mem_take hr)
          rw [List.length_take] at fl
          have hx1 := hx.keep s1
          cases hx1 with
          | @lst a2 xs2 ds2 ha2 hall2 =>
            have lx2 : xs2.length = ds2.length := da_len hall2
            have se : ∀ e ∈ ds2, SE e := se
            have row1 : ds2.length ≤ 60 := row1
            refine ⟨rfl, ?_⟩
            refine ⟨_, rfl, a2, rfl, ⟨_, SqL.of (s2 _ _ ha2)⟩, in_lst (K := K) (a := a2) (xs := xs2) (fun j H3 => Same H1 H3 ∧ H3 D2 = some (.lst ((((ds.take i).flatMap itemsD ++ ds2.take j).map (entD ds.length)).map V.bl))) ⟨s2, by rw [List.take_zero, List.append_nil]; exact hD2⟩ (fun j H3 p => SqL.of (p.1 _ _ ha2)) ?_ ?_⟩
            · rintro j v H3 hj ⟨s3, hD3⟩
              obtain ⟨de, ee, he⟩ := hall2.get hj
              have lj := (List.getElem?_eq_some_iff.mp ee).1
              refine ⟨rfl, _, rfl, _, ds.length, rfl, .inl ⟨_, SqL.of (s3 _ _ ha1), lx.symm⟩, _, rfl, ds.length, v, de, rfl, he.keep s3, se de (List.mem_of_getElem? ee), _, hD3, ?_, fun b o e => ?_, ?_⟩
              · rw [List.length_map, List.length_map, List.length_append, List.length_take]
                exact small1000 (by omega)
              · rw [upd_ne (ne_of_none (H := H1) e nD2)]
                exact s3 _ _ e
              · rw [upd_same, List.take_add_one (l := ds2), ee]
                simp
            · rintro H3 ⟨s3, hD3⟩
              rw [lx2, List.take_length] at hD3
              refine ⟨s3, ?_⟩
              rw [hD3, List.take_add_one, ex, List.flatMap_append]
              simp [itemsD]
          | _ => cases ix
        · rintro H2 ⟨s2, hD2⟩
          rw [lx, List.take_length] at hD2
          refine ⟨D2, _, rfl, SqL.of hD2, ?_⟩
          have q1 := q H2 (s1.trans s2)
          rw [all_bl, List.all_flatMap]
          exact q1
    | _ => exact absurd rfl il
theorem ok_wrds (F : FnP K "is_list_of_words" sWrds f fd) (o_short : Ok P w K mg base "is_short_word" 2 ["value"] spShort) (z_isinstance : mg "isinstance" = none) (z_list : mg "list" = none) (z_len : mg "len" = none) (z_all : mg "all" = none) : FnOk P w K mg base CX0 3 f fd ["value", "how_many"] spWrds := by
  have nd := scWrds.nd
  refine F.ok scWrds (fun vs H Q E h => ?_) (fun cdv A outer s H vs Q E hr h => ?_)
  · obtain ⟨v, d, n, rfl, _⟩ := h
    rfl
  · obtain ⟨v, d, n, rfl, hd, l100, l2, q⟩ := h
    have r2 : Room 2 (A.deeper (envOfC "is_list_of_words" (defScope sWrds) s.heap.objs.size f cdv)) := hr
    refine ⟨_, PSs.nox (pss_one (ps_ret (pe_and (pe_callB call_isi (by rfl) z_isinstance (by decide +kernel) (pa_cons (pv 0) (pa_cons (pe_bltn (v := .ty "list") (by rfl) z_list (by decide +kernel) rfl) pa_nil))) (pe_and (pe_cmpR op_eq (pe_callB call_len (by rfl) z_len boot_len (pa_cons (pv 0) pa_nil)) (pv 1) (nomark _))
      (pe_one (pe_callB (cr_all rfl) (by rfl) z_all (by decide +kernel) (pa_cons
      (pe_lc (own := [("item", 2)]) (g := gName 2) (by rfl) nd (pi_list (pv 0)) (blkOk_by (N := nWrds) (sc := defScope sWrds) (own := [("item", 2)]) (by decide +kernel)) (fun _ _ _ _ _ => pg_name (i := 2) nd rfl (Or.inl rfl)) (fun _ _ _ _ _ => pts_nil)
        (fun _ _ _ _ _ => pe_callO o_short r2 (by rfl) (pa_cons (pv 2) pa_nil))) pa_nil))))))), ?_⟩
    obtain ⟨t, ty, kt⟩ := da_isL (K := K) hd
    refine ⟨_, rfl, _, _, t, _, isLD d, rfl, .ty "list", ty, kt, isLD d, rfl, ?_⟩
    by_cases il : isLD d = false
    · have q := q H (Same.refl _)
      rw [wrds_nl il] at q
      rw [il]
      exact iteF q
    cases hd with
    | @lst a xs ds ha hall =>
      have lx : xs.length = ds.length := da_len hall
      have l100 : ds.length ≤ 100 := l100
      have eqD : wrdsD n (.list ds) = (decide (ds.length = n) && ds.all shortD) := rfl
      rw [eqD] at q
      refine iteT ⟨_, rfl, _, ds.length, rfl, .inl ⟨_, SqL.of ha, lx.symm⟩, _, rfl, rfl, ?_⟩
      have ed : decide (V.int (ds.length : Int) = V.int (n : Int)) = decide (ds.length = n) := decide_eq_decide.mpr ⟨fun z => by have := V.int.inj z; omega, fun z => by rw [z]⟩
      refine ⟨decide (ds.length = n), by rw [← ed], ?_⟩
      by_cases c : ds.length = n
      · rw [decide_eq_true c] at q ⊢
        rw [Bool.true_and] at q
        refine iteT ?_
        refine ⟨_, rfl, a, rfl, ⟨_, SqL.of ha⟩, fun D nD => lc_list (K := K) (a := a) (xs := xs) (fun k H' => Same H H' ∧ H' D = some (.lst (((ds.take k).map shortD).map V.bl))) ⟨same_new nD, upd_same⟩ (fun k H' _ p => SqL.of (p.1 _ _ ha)) ?_ ?_⟩
        · rintro k y H' hk ⟨sm, hD⟩
          obtain ⟨dx, ex, hx⟩ := hall.get hk
          have li := (List.getElem?_eq_some_iff.mp ex).1
          have hx2 := hx.keep sm
          refine ⟨rfl, _, rfl, y, rfl, da_knG hx2, sl_da hx2 (l2 dx (List.mem_of_getElem? ex)), _, hD, ?_, fun b o e => ?_, ?_⟩
          · rw [List.length_map, List.length_map, List.length_take]
            exact small1000 (by omega)
          · rw [upd_ne (ne_of_none (H := H) e nD)]
            exact sm _ _ e
          · rw [upd_same, List.take_add_one, ex, List.map_append, List.map_append, short_da hx2]
            rfl
        · rintro H1 ⟨s1, hD⟩
          rw [lx, List.take_length] at hD
          refine ⟨D, _, rfl, SqL.of hD, ?_⟩
          rw [all_bl]
          exact q H1 s1
      · rw [decide_eq_false c] at q ⊢
        have q1 := q H (Same.refl _)
        rw [Bool.false_and] at q1
        exact iteF q1
    | _ => exact absurd rfl il
end
end KJ
set_option Elab.async false
set_option linter.all false
set_option maxRecDepth 100000
set_option maxHeartbeats 2000000
/-! A def by its body, its code object known. -/
namespace XA
open PySem PySem.Spec PyProof.Rows L2 LamX
section
variable {P : Program} {w : World} {K : PySem.W.Frag} {mg : Str → Option Value} {base : Heap} {x qual : Str} {params : Arguments} {body : List Stmt} {scope : Scope} {dvs : List L2.V} {kws : List (Str × L2.V)} {f : Addr} {fd : FuncData}
theorem okC {CX : CXT} {N ps : List Str} {k : Nat} {sp : Sp} {c : Addr} (F : FunD K x qual params body scope dvs kws f fd) (hc : fd.code = .ref c) (S : FnScope N ps scope) (len : ∀ vs H Q E, sp vs H Q E → vs.length = ps.length)
    (bd : ∀ (A : Around) (o : List Env) (s : Shared) (H : Hp) (vs : List L2.V) (Q : VK) (E : XK), Room k (A.deeper (envOfC qual scope s.heap.objs.size f (.ref c))) → sp vs H Q E →
      ∃ t, PSs (cxOf CX P w K mg base N qual scope f (.ref c) A o s H E) body t ∧ t { nx := fun _ H' => Q .non H', rt := Q } (start N vs) H) : FnOk P w K mg base CX (k + 1) f fd ps sp := by
  obtain ⟨oc, od, dV, kV, doc, pm, an, cdv, ct, osl, rfl, lk, hcd, _, _⟩ := F.ex
  obtain rfl : cdv = .ref c := hc
  exact fn_of lk hcd S len bd
end
end XA
set_option Elab.async false
set_option linter.all false
set_option maxRecDepth 100000
set_option maxHeartbeats 2000000
/-! x(lambda: ..), called there within a try whose handler sets names. -/
namespace XA
open PySem PySem.Spec PyProof.Rows L2 LamX XV
section
variable {X : Cx} {pins : List (Addr × Obj)} {σ : L2.St} {H HZ : Hp} {s s1 : Shared}
theorem pe_actS {CXg : CXT} {Eg : XK} {Ng : List Str} {qg : Str} {sg : Scope} {g f c' : Addr} {cdg pm ctv : Value} {params : Arguments} {body : Expr} {scope : Scope} {k i : Nat} {a : Str} {pn : List (Addr × Obj)} {xe : Value → Shared → Prop} {W : WX} {tb : XK → TE} {p1 p2 : Pos}
    (I : Inv X pins σ H s) (L : LamP X.env.scope scope []) (hf : s.heap.get? f = some (PySem.W.kla_obj "<lambda>" (X.env.qual ++ "<lambda>") params body scope (cloFrom X.env.cells scope.names []) pm c' ctv)) (fn0 : H f = none) (fr0 : f ∉ frs X.stack)
    (hb : bindArgs (PySem.W.kla_fn "<lambda>" (X.env.qual ++ "<lambda>") params body scope (cloFrom X.env.cells scope.names []) pm (.ref c') ctv) ⟨[], []⟩ = pure [])
    (tk : Takes ((cxOf CXg X.prog X.w X.K X.mg X.base Ng qg sg g cdg X.A X.stack s H Eg).tr pn xe) W) (hr : Room (k + 1) (X.A.deeper (envOfC qg sg s.heap.objs.size g cdg)))
    (bd : ∀ (A : Around) (outer : List Env) (s : Shared) (H : Hp) (E : XK), Room k (A.deeper (lamEnv X scope s.heap.objs.size f c')) → PE (lamPx X A outer s H E scope [] f c') body (tb E))
    (hN : Ng[i]? = some a) (hv : Vis sg a)
    (hd : (a == ("__debug__" : Str)) = false := by decide) (hcd : (a == ("__classdict__" : Str)) = false := by decide) :
    PE ((cxOf CXg X.prog X.w X.K X.mg X.base Ng qg sg g cdg X.A X.stack s H Eg).tr pn xe) (.Call (.Name a p1) [] [] p2)
      (fun σZ HZ Q => σZ[i]? = some (some (.ref f)) ∧ HZ c' = some (CodeO c' (X.env.qual ++ "<lambda>")) ∧ tb (WE W σZ) σ HZ Q) := by
  refine ⟨fun pinsZ sZ σZ HZ Q IZ ⟨hs, hc, hq⟩ => ?_⟩
  have here : ∀ {σY : L2.St} {HY : Hp} {sY : Shared} {pY : List (Addr × Obj)}, Inv ((cxOf CXg X.prog X.w X.K X.mg X.base Ng qg sg g cdg X.A X.stack s H Eg).tr pn xe) pY σY HY sY → sY.heap.get? f = some (PySem.W.kla_obj "<lambda>" (X.env.qual ++ "<lambda>") params body scope (cloFrom X.env.cells scope.names []) pm c' ctv) := fun IY =>
    IY.base.keep f _ hf fn0 fr0 (fun z => nomatch (show f ∈ ([] : List Addr) from z))
  refine wpAny_Call_Name_kw (thn ((pe_var (pos := p1) (i := i) hN hv hd hcd).run pinsZ sZ σZ HZ (fun v H1 => v = .ref f ∧ H1 = HZ) IZ ⟨.ref f, hs, rfl, rfl⟩) fun u s1 ⟨v, H1, I1, r1, q1⟩ => ?_)
  obtain ⟨rfl, rfl⟩ := q1
  obtain rfl : u = Value.ref f := r1
  refine PySem.W.callWith_F0 ⟨_, _, _, _, here I1⟩ ?_
  have un : Un (frs X.stack) [] H H1 s.heap s1.heap := I1.base
  obtain ⟨⟨oc, ws, tkC, o1, o2, o3⟩, _, _⟩ := I1.hok c' _ hc
  have run : codeAny (model X.prog X.w) (X.A.deeper (envOfC qg sg s.heap.objs.size g cdg)) (.call (.ref f) ⟨[], []⟩) (CR (L2.CX X.prog X.w) (envOfC qg sg s.heap.objs.size g cdg :: X.stack) X.prog X.w H1 s1 Q (WE W σZ)) s1 := by
    refine PySem.W.kla_callFunE hr.depth (here I1) rfl L.co L.gen rfl ⟨c', oc, ws, tkC, rfl, o1, o2, o3⟩ ?_
    rw [hb]
    refine wpAny_pure (wpAny_newFunctionEnv L.nc (fun y hy => nomatch hy) (fun h1 ns1 sb => ⟨I1.nolimit.fresh _ sb, ?_⟩) L.kind)
    show codeAny _ _ (.expr body (lamEnv X scope s1.heap.objs.size f c')) _ _
    have kp : ∀ b o, s1.heap.get? b = some o → h1.get? b = some o := fun b o e => sb.extBut b o (Nat.ne_of_lt (Heap.lt_size e)) (Heap.get?_push_of_some _ e)
    have J : Inv (lamPx X (X.A.deeper (envOfC qg sg s.heap.objs.size g cdg)) (envOfC qg sg s.heap.objs.size g cdg :: X.stack) s1 H1 (WE W σZ) scope [] f c') [] σ H1 { s1 with heap := h1, toks := s1.toks + ([] : List (Str × Value)).length } :=
      lam_startP (vs := []) (us := []) I L I1.env0 hr.hd un rfl .nil ns1 kp
    refine PySem.W.kla_codeExpr (wpAny_mono ((bd _ _ s1 H1 _ (hr.deeper _)).run [] _ _ H1 Q J hq) (fun v s' z => ?_) fun e s' z => z)
    obtain ⟨w', H', J', rv, q⟩ := z
    exact ⟨w', H', J'.os, J'.bare, J'.base, J'.hok, rv, q⟩
  refine wpAny_call (codeAny_mono run fun r' s' z => ?_)
  cases r' with
  | error er => exact passAt tk σZ pinsZ H1 s1 er s' I1 z
  | ok fl => cases fl with
    | ret u => exact I1.after z
    | next => exact z.elim
    | brk => exact z.elim
    | cont => exact z.elim
end
def GivesS (X : Cx) (Ng : List Str) (x : Str) (sg : Scope) (g : Addr) (cdg : Value) (bg : List Stmt) (a : Str) (TT : (XK → Hp → VK → Prop) → Hp → VK → Prop) : Prop :=
  ∀ (f : Addr) (s : Shared) (H : Hp) (Q : VK) (tl : XK → Hp → VK → Prop) (C : Hp → Prop), (∀ (W : WX) (pn : List (Addr × Obj)) (xe : Value → Shared → Prop) (p1 p2 : Pos), Takes ((inX X Ng x sg g cdg s H).tr pn xe) W →
      PE ((inX X Ng x sg g cdg s H).tr pn xe) (.Call (.Name a p1) [] [] p2) (fun σZ HZ Q => σZ[0]? = some (some (.ref f)) ∧ C HZ ∧ tl (WE W σZ) HZ Q)) → (∀ H1 H2, ExtN H1 H2 → C H1 → C H2) → C H → TT tl H Q →
    ∃ t, PSs (inX X Ng x sg g cdg s H).nox bg t ∧ t { nx := fun _ H' => Q .non H', rt := Q } (L2.start Ng [.ref f]) H
def tLamS (T : List (Addr × Str)) (TT : (XK → Hp → VK → Prop) → Hp → VK → Prop) (tb : XK → TE) : TE := fun σ H Q => Tabs T H ∧ ∀ H1, ExtN H H1 → Tabs T H1 → TT (fun E HY Q' => tb E σ HY Q') H1 Q
section
variable {X : Cx}
theorem pe_lamcallS {T : List (Addr × Str)} {TT : (XK → Hp → VK → Prop) → Hp → VK → Prop} {x a : Str} {g c P : Addr} {k : Nat} {pg : Arguments} {bg : List Stmt} {sg : Scope} {fdg : FuncData} {Ng : List Str} {params : Arguments} {body : Expr} {scope : Scope} {tb : XK → TE} {p lpos pos : Pos}
    (F : FunD X.K x x pg bg sg [] [] g fdg) (hm : X.mg x = some (.ref g)) (hg : Gl X x) (bnd : L2.Binds X.K fdg [a] []) (Sg : FnScope Ng [a] sg) (hNg : Ng[0]? = some a) (hva : Vis sg a)
    (hG : ∀ cdg, GivesS X Ng x sg g cdg bg a TT)
    (TB : TabB X.base X.mg c P) (hcode : X.env.code = .ref c) (hmT : (P, X.env.qual ++ "<lambda>") ∈ T) (hu : ∀ p ∈ T, p.1 = P → p.2 = X.env.qual ++ "<lambda>") (hr : Room (k + 2) X.A) (L : LamP X.env.scope scope []) (hdef : defaultsOf params X.env = ([], []))
    (hb : ∀ (q : Str) (cl : List (Str × Addr)) (pm cv ctv : Value), bindArgs (PySem.W.kla_fn "<lambda>" q params body scope cl pm cv ctv) ⟨[], []⟩ = pure [])
    (bd : ∀ (A : Around) (outer : List Env) (s : Shared) (H : Hp) (E : XK) (f c' : Addr), Room k (A.deeper (lamEnv X scope s.heap.objs.size f c')) → PE (lamPx X A outer s H E scope [] f c') body (tb E))
    (hdb : (x == ("__debug__" : Str)) = false := by decide) (hd : (a == ("__debug__" : Str)) = false := by decide) (hcd : (a == ("__classdict__" : Str)) = false := by decide) :
    PE X (.Call (.Name x p) [.Lambda params body scope lpos] [] pos) (tLamS T TT tb) := by
  obtain ⟨oc, od, dV, kV, doc, pm0, an, cdv, ct, osl, rfl, lk, hcg, _, _⟩ := F.ex
  refine ⟨fun pins s σ H Q I ⟨hT, hq⟩ => ?_⟩
  refine wpAny_Call_Name_kw (ld_glob I hg hm ?_ hdb)
  refine PySem.W.callWith_K (h₀ := X.base) I.ok.mod.kin F.kp ?_ (by rfl) (by rfl)
  show wpAny _ _ (spliced [(false, eval (.Lambda params body scope lpos) X.env)]) _ _ s
  refine Calls.spliced_cons (lam_make2 I TB hcode hmT hu hT hdef (L.has I.ok) fun f c' pm' ctv H1 s' I1 eN T1 hf fn0 fr0 hco => ?_)
  refine Calls.spliced_nil ⟨I1.kIn, ?_⟩
  have run : codeAny (model X.prog X.w) X.A (.call (.ref g) ⟨[.ref f], []⟩) (CR C8.CX0 X.stack X.prog X.w H1 s' Q C8.E0) s' := by
    refine run_ofS (N := Ng) (ps := [a]) (us := [.ref f]) (vs := [.ref f]) lk hcg Sg hr I1.env0 (bnd s' [.ref f] I1.kIn rfl) (.cons rfl .nil) rfl fun hr' => ?_
    obtain ⟨t', ht', hq'⟩ := hG cdv f s' H1 Q (fun E HY Q' => tb E σ HY Q') (fun HY => HY c' = some (CodeO c' (X.env.qual ++ "<lambda>")))
      (fun W pn xe p1 p2 tk => pe_actS (i := 0) I1 L hf fn0 fr0 (hb _ _ _ _ _) tk hr' (fun A outer s H E hr2 => bd A outer s H E f c' hr2) hNg hva hd hcd)
      (fun H1 H2 e h => codeO_ext e h) hco (hq H1 eN T1)
    exact ⟨t', ht'.nox, hq'⟩
  refine wpAny_call (codeAny_mono run fun r' s2 z => ?_)
  cases r' with
  | error er => exact (show False from z).elim
  | ok fl => cases fl with
    | ret u => exact I1.after z
    | next => exact z.elim
    | brk => exact z.elim
    | cont => exact z.elim
end
end XA
set_option Elab.async false
set_option linter.all false
set_option maxRecDepth 100000
set_option maxHeartbeats 2000000
/-! Defs where nothing guards, their code objects told; literals whose parts are new; calls of a local that holds a def, an error let out. -/
namespace XV
open PySem PySem.Spec PyProof.Rows L2 LamX
section
variable {P : Program} {w : World} {K : PySem.W.Frag} {mg : Str → Option Value} {base : Heap} {x qual : Str} {params : Arguments} {body : List Stmt} {scope : Scope} {dvs : List V} {kws : List (Str × V)} {f : Addr} {fd : FuncData}
/-- a def by its body, where nothing guards, its code object told -/
theorem okGC {c : Addr} {Z : CXT} {N ps : List Str} {k : Nat} {sp : Sp} (F : FunD K x qual params body scope dvs kws f fd) (hc : fd.code = .ref c) (S : FnScope N ps scope) (gl : ∀ l H Q E, sp l H Q E → l.length = ps.length)
    (bd : ∀ (A : Around) (o : List Env) (s : Shared) (H : Hp) (l : List V) (Q : VK) (E : XK), (A.deeper (envOfC qual scope s.heap.objs.size f (.ref c))).guards = some [] → Room k (A.deeper (envOfC qual scope s.heap.objs.size f (.ref c))) → sp l H Q E →
      ∃ t, PSs (cxOf Z P w K mg base N qual scope f (.ref c) A o s H E) body t ∧ t { nx := fun _ H' => Q .non H', rt := Q } (start N l) H) : FnG P w K mg base Z (k + 1) f fd ps sp := by
  obtain ⟨oc, od, dV, kV, doc, pm, an, cdv, ct, osl, rfl, lk, hcd, _, _⟩ := F.ex
  obtain rfl : cdv = .ref c := hc
  refine ⟨gl, fun A o s H ar us l Q E ag hr e0 hb r hs => ?_⟩
  have hlen := gl _ _ _ _ hs
  have inK : K.In s.heap := e0.mod.kin.keeps fun b ob e => (e0.bs b ob e).1
  have nol : s.heap.NoLimit := e0.mod.nolimit.keeps fun b ob e => (e0.bs b ob e).1
  have kinds : ∀ y ∈ ps.zip us, scope.names.lookup y.1 = some .local ∨ (scope.names.lookup y.1 = some .cell ∧ ((cellsFrom (s.heap.objs.size + 1) scope.names []).lookup y.1).isSome = true) := by
    rintro ⟨n, v⟩ hy
    exact (S.par n (List.of_mem_zip hy).1).imp id fun q => ⟨q, PySem.W.cellsFrom_some _ _ _ (.inl q)⟩
  refine codeAny_call_function hr.depth (inK _ _ lk) rfl S.co S.gen rfl (PySem.W.codeRec_of inK hcd) (hb _ _ _ _ ?_)
  refine wpAny_newFunctionEnv_cells S.kind kinds fun env he s1 xx => ?_
  subst he
  refine ⟨nol.keeps xx.toInCall.keep, codeAny_func ?_⟩
  obtain ⟨t, ht, hq⟩ := bd A o s H l Q E (show A.guards = some [] from ag) (hr.deeper _) hs
  have J0 := inv_start (CX := Z) (E := E) S hr.hd e0 hlen r xx
  refine wpAny_mono (ht.run [] s1 (start N l) H _ J0 hq) (fun fl s' z => ?_) fun e s' z => z
  have done : ∀ {τ : L2.St} {H' : Hp} {v : V} {u : Value}, Inv (cxOf Z P w K mg base N qual scope f (.ref c) A o s H E) [] τ H' s' → RelV v u → Q v H' → CE o P w H s Q u s' := fun J rv q => ⟨_, _, J.os, J.bare, J.base, J.hok, rv, q⟩
  cases fl with
  | next =>
    obtain ⟨τ, H', J, q⟩ := z
    exact done (v := V.non) (u := Value.none) J rfl q
  | ret u =>
    obtain ⟨v, τ, H', J, rv, q⟩ := z
    exact done J rv q
  | brk =>
    obtain ⟨_, _, _, q⟩ := z
    exact q.elim
  | cont =>
    obtain ⟨_, _, _, q⟩ := z
    exact q.elim
end
mutual
theorem Da.keepN {H H' : Hp} (s : ExtN H H') : ∀ {d : PyData} {v : V}, Da H v d → Da H' v d
  | _, _, .non => .non
  | _, _, .bl b => .bl b
  | _, _, .int i => .int i
  | _, _, .str x => .str x
  | _, _, .lst h a => .lst (s _ _ h fun _ z => by cases z) (DaAll.keepN s a)
  | _, _, .tup h a => .tup (s _ _ h fun _ z => by cases z) (DaAll.keepN s a)
theorem DaAll.keepN {H H' : Hp} (s : ExtN H H') : ∀ {ds : List PyData} {vs : List V}, DaAll H vs ds → DaAll H' vs ds
  | _, _, .nil => .nil
  | _, _, .cons h r => .cons (Da.keepN s h) (DaAll.keepN s r)
end
theorem DaAll.app {H : Hp} : ∀ {ds es : List PyData} {vs us : List V}, DaAll H vs ds → DaAll H us es → DaAll H (vs ++ us) (ds ++ es)
  | _, _, _, _, .nil, r => r
  | _, _, _, _, .cons h q, r => .cons h (DaAll.app q r)
theorem DaAll.rep {H : Hp} {d : PyData} {v : V} (h : Da H v d) : ∀ n : Nat, DaAll H (List.replicate n v) (List.replicate n d)
  | 0 => .nil
  | n + 1 => .cons h (DaAll.rep h n)
/-- what is new in H' -/
def dif (H H' : Hp) : Hp := fun a => if (H a).isNone then H' a else none
theorem dif_same {H H' : Hp} : Same (dif H H') H' := fun a o e => by
  unfold dif at e
  split at e
  · exact e
  · cases e
theorem dif_s {H H1 H2 : Hp} (s : Same H1 H2) : Same (dif H H1) (dif H H2) := fun a o e => by
  unfold dif at e ⊢
  split at e
  · rename_i h
    rw [if_pos h]
    exact s _ _ e
  · cases e
theorem dif_b {H H1 H2 : Hp} (s : Same H H1) : Same (dif H1 H2) (dif H H2) := fun a o e => by
  unfold dif at e ⊢
  split at e
  · rename_i h
    have hn : H a = none := by
      cases q : H a with
      | none => rfl
      | some o =>
        rw [s _ _ q] at h
        cases h
    rw [if_pos (by rw [hn]; rfl)]
    exact e
  · cases e
theorem dif_at {H H1 : Hp} {p : Addr} {o : HO} (s : Same H H1) (np : H1 p = none) : dif H (upd H1 p o) p = some o := by
  have hn : H p = none := by
    cases q : H p with
    | none => rfl
    | some o =>
      rw [s _ _ q] at np
      cases np
  unfold dif
  rw [if_pos (by rw [hn]; rfl)]
  exact upd_same
/-- all but what stands at d -/
def rm (d : Addr) (H : Hp) : Hp := fun a => if a = d then none else H a
theorem rm_at {d : Addr} {H : Hp} : rm d H d = none := if_pos rfl
theorem rm_s {d : Addr} {H : Hp} : Same (rm d H) H := fun a o e => by
  unfold rm at e
  split at e
  · cases e
  · exact e
theorem dif_rm {H H' : Hp} {d : Addr} (h : H d ≠ none) : Same (dif H H') (rm d H') := fun a o e => by
  unfold dif at e
  split at e
  · rename_i q
    unfold rm
    rw [if_neg (fun z => h (by rw [← z]; exact Option.isNone_iff_eq_none.mp q))]
    exact e
  · cases e
theorem dif_none {H H' : Hp} {d : Addr} (h : H d ≠ none) : dif H H' d = none := by
  unfold dif
  split
  · rename_i q
    exact absurd (Option.isNone_iff_eq_none.mp q) h
  · rfl
theorem ext_rm {H H' : Hp} {d : Addr} (s : ExtN H H') (n : H d = none) : ExtN H (rm d H') := fun a o e q => by
  unfold rm
  rw [if_neg (ne_of_none e n)]
  exact s _ _ e q
/-- the reading of written data, all of it new -/
def tLitN (d : PyData) : TE := fun _ H Q => ∀ (v : V) (H' : Hp), Same H H' → Da (dif H H') v d → Q v H'
def tLitsN (ds : List PyData) : TA := fun _ H Q => ∀ (vs : List V) (H' : Hp), Same H H' → DaAll (dif H H') vs ds → vs.length = ds.length → Q vs H'
theorem lits_okN {X : Cx} {f : Expr → Option PyData} (hf : ∀ e d, f e = some d → PE X e (tLitN d)) (hs : ∀ e d es, f e = some d → starEach (e :: es) X.env = (false, eval e X.env) :: starEach es X.env) :
    ∀ (es : List Expr) (ds : List PyData), litsN f es = some ds → PA X es (tLitsN ds)
  | [], ds, h => by
    cases h
    exact PA.le pa_nil fun σ H Q z => z [] H (fun _ _ e => e) .nil rfl
  | e :: es, ds, h => by
    unfold litsN at h
    split at h
    · rename_i d ds' h1 h2
      cases h
      exact PA.le (pa_cons (hf e d h1) (lits_okN hf hs es ds' h2) (hs e d es h1)) fun σ H Q z v H1 s1 p1 vs H2 s2 p2 l2 => z (v :: vs) H2 (s1.trans s2) (.cons (p1.keep (dif_s s2)) (p2.keep (dif_b s1))) (by rw [List.length_cons, List.length_cons, l2])
    · cases h
theorem lit_okN {X : Cx} : ∀ (n : Nat) (e : Expr) (d : PyData), litN n e = some d → PE X e (tLitN d)
  | 0, _, _, h => by cases h
  | n + 1, e, d, h => by
    have small : ∀ m : Nat, m ≤ 1000 → m ≤ sizeLine := fun m hm => by
      rw [sizeLine_eq]
      omega
    unfold litN at h
    split at h
    · cases h
      exact PE.le pe_non fun σ H Q z => z _ H (fun _ _ e => e) .non
    · cases h
      exact PE.le pe_bl fun σ H Q z => z _ H (fun _ _ e => e) (.bl _)
    · cases h
      exact PE.le pe_int fun σ H Q z => z _ H (fun _ _ e => e) (.int _)
    · cases h
      exact PE.le pe_str fun σ H Q z => z _ H (fun _ _ e => e) (.str _)
    · cases h
      exact PE.le (pe_un un_neg pe_int) fun σ H Q z => ⟨_, rfl, z _ H (fun _ _ e => e) (.int _)⟩
    · rename_i es p
      split at h
      · rename_i hl
        cases q : litsN (litN n) es with
        | none =>
          rw [q] at h
          cases h
        | some ds =>
          rw [q] at h
          cases h
          exact PE.le (pe_lst (lits_okN (lit_okN n) (fun _ _ _ => lit_star) es ds q)) fun σ H Q z vs H1 s1 p1 l1 => ⟨by rw [l1, litsN_len _ _ q]; exact small _ hl, fun p np =>
            z _ _ (s1.trans (same_new np)) (.lst (dif_at s1 np) (p1.keep (dif_s (same_new np))))⟩
      · cases h
    · rename_i es k p
      split at h
      · rename_i hl
        cases q : litsN (litN n) es with
        | none =>
          rw [q] at h
          cases h
        | some ds =>
          rw [q] at h
          cases h
          exact PE.le (pe_tup (lits_okN (lit_okN n) (fun _ _ _ => lit_star) es ds q)) fun σ H Q z vs H1 s1 p1 l1 => ⟨by rw [l1, litsN_len _ _ q]; exact small _ hl, fun p np =>
            z _ _ (s1.trans (same_new np)) (.tup (dif_at s1 np) (p1.keep (dif_s (same_new np))))⟩
      · cases h
    · cases h
theorem pe_litN {X : Cx} (n : Nat) {e : Expr} {d : PyData} (h : litN n e = some d) : PE X e (tLitN d) := lit_okN n e d h
theorem pa_nilL {X : Cx} : PA X [] (tLitsN []) := PA.le pa_nil fun σ H Q z => z [] H (fun _ _ e => e) .nil rfl
theorem pa_consL {X : Cx} {e : Expr} {es : List Expr} {d : PyData} {ds : List PyData} (he : PE X e (tLitN d)) (ha : PA X es (tLitsN ds)) (hs : starEach (e :: es) X.env = (false, eval e X.env) :: starEach es X.env := by rfl) : PA X (e :: es) (tLitsN (d :: ds)) :=
  PA.le (pa_cons he ha hs) fun σ H Q z v H1 s1 p1 vs H2 s2 p2 l2 => z (v :: vs) H2 (s1.trans s2) (.cons (p1.keep (dif_s s2)) (p2.keep (dif_b s1))) (by rw [List.length_cons, List.length_cons, l2])
theorem pe_lstL {X : Cx} {es : List Expr} {ds : List PyData} {p : Pos} (ha : PA X es (tLitsN ds)) (h : ds.length ≤ 1000) : PE X (.List es p) (tLitN (.list ds)) :=
  PE.le (pe_lst ha) fun σ H Q z vs H1 s1 p1 l1 => ⟨by rw [l1, sizeLine_eq]; omega, fun p np => z _ _ (s1.trans (same_new np)) (.lst (dif_at s1 np) (p1.keep (dif_s (same_new np))))⟩
/-! a call of a local name that holds a def -/
def tCallLX (i : Nat) (S : Addr → Prop) (sp : Sp) (E : XK) (t : TA) : TE := fun σ H Q => ∃ f, σ[i]? = some (some (.ref f)) ∧ S f ∧ t σ H fun vs H1 => sp vs H1 Q E
theorem pe_callLX {X : Cx} {K : PySem.W.Frag} {k i : Nat} {sp : Sp} {E : XK} {x : Str} {p pos : Pos} {e : Expr} {es : List Expr} {t : TA} {S : Addr → Prop} (eK : X.K = K) (A : ∀ f, S f → ∃ (fd : FuncData) (ps : List Str), FnOk X.prog X.w K X.mg X.base (L2.CX X.prog X.w) k f fd ps sp ∧ PySem.W.keepIn K (.ref f) = true ∧ L2.Binds K fd ps [])
    (tk : Takes X fun cls d _ H => E cls d H) (hr : Room k X.A) (hN : X.N[i]? = some x) (hv : Vis X.env.scope x) (ha : PA X (e :: es) t)
    (hdb : (x == ("__debug__" : Str)) = false := by decide) (hcd : (x == ("__classdict__" : Str)) = false := by decide)
    (he : starEach (e :: es) X.env = (false, eval e X.env) :: starEach es X.env := by rfl) (hpl : (backTo pos (starEach es X.env)).any (·.1) = false := by rfl) : PE X (.Call (.Name x p) (e :: es) [] pos) (tCallLX i S sp E t) := by
  subst eK
  refine ⟨fun pins s σ H Q I h => ?_⟩
  obtain ⟨f, hs, hS, ht⟩ := h
  obtain ⟨fd, ps, F, hk, hb⟩ := A f hS
  refine (pe_callL (i := i) (f := f) (sp := sp) (dvs := []) (E := E) F hr hN hv hk hb .nil (passes_call tk fun _ _ _ _ h => h) ha hdb hcd he hpl).run pins s σ H Q I ⟨hs, ?_⟩
  have e0 : (fun (vs : List V) (H1 : Hp) => sp (vs ++ []) H1 Q E) = fun vs H1 => sp vs H1 Q E := by
    funext vs H1
    rw [List.append_nil]
  show t σ H (fun vs H1 => sp (vs ++ []) H1 Q E)
  rw [e0]
  exact ht
theorem FnOk.weak {P : Program} {w : World} {K : PySem.W.Frag} {mg : Str → Option Value} {base : Heap} {CX : CXT} {k : Nat} {f : Addr} {fd : FuncData} {ps : List Str} {sp sp' : Sp} (F : FnOk P w K mg base CX k f fd ps sp) (h : ∀ vs H Q E, sp' vs H Q E → sp vs H Q E) : FnOk P w K mg base CX k f fd ps sp' :=
  ⟨fun vs H Q E z => F.len vs H Q E (h _ _ _ _ z), fun A o s H ar us vs Q E hr e0 b r z => F.run A o s H ar us vs Q E hr e0 b r (h _ _ _ _ z)⟩
end XV
set_option Elab.async false
set_option linter.all false
set_option maxRecDepth 100000
set_option maxHeartbeats 1000000
namespace KJ
open PySem PySem.Spec PyProof.Rows L2 XV NM XT XA LamX
/-! ### makers -/
structure En where
  s : Nat
  w : Str
  b : Bool
deriving DecidableEq
structure Mm where
  z : Str
  R : List (List En)
  s : Nat
  cl : List Str
deriving DecidableEq
def enD (e : En) : PyData := .tuple [.int (e.s : Int), .str e.w, .bool e.b]
def rwD (r : List En) : PyData := .list (r.map enD)
def rsD (R : List (List En)) : PyData := .list (R.map rwD)
def clD (c : List Str) : PyData := .list (c.map PyData.str)
structure MmOk (m : Mm) : Prop where
  al : alphV (.str m.z) = true
  ascii : m.z.cps.all (· < 128) = true
  lz : m.z.length ≤ 26
  r1 : 1 ≤ m.R.length
  r2 : m.R.length ≤ 12
  rw : ∀ r ∈ m.R, r.length = m.z.length + 1 ∧ ∀ e ∈ r, e.s < m.R.length ∧ shortV (.str e.w) = true
  hs : m.s < m.R.length
  lc : m.cl.length = m.R.length
  hc : ∀ y ∈ m.cl, shortV (.str y) = true
theorem MmOk.nd {m : Mm} (o : MmOk m) : (cz m.z).Nodup := by
  have h := o.al
  have h : (wordV (.str m.z) && riseN (cz m.z)) = true := h
  rw [Bool.and_eq_true] at h
  exact ((riseN_iff _).1 h.2).imp fun h => Nat.ne_of_lt h
def fldM (z : Str) (s : Nat) (r e : Addr) : List (Str × V) := putF "_closing" (.ref e) (putF "_start" (.int s) (putF "_rows" (.ref r) (putF "_letters" (.str z) [])))
theorem fldM_l (z : Str) (s : Nat) (r e : Addr) : (fldM z s r e).lookup ("_letters" : Str) = some (.str z) := by
  unfold fldM
  rw [lookup_putF, if_neg (by decide +kernel), lookup_putF, if_neg (by decide +kernel), lookup_putF, if_neg (by decide +kernel), lookup_putF, if_pos rfl]
theorem fldM_r (z : Str) (s : Nat) (r e : Addr) : (fldM z s r e).lookup ("_rows" : Str) = some (.ref r) := by
  unfold fldM
  rw [lookup_putF, if_neg (by decide +kernel), lookup_putF, if_neg (by decide +kernel), lookup_putF, if_pos rfl]
theorem fldM_s (z : Str) (s : Nat) (r e : Addr) : (fldM z s r e).lookup ("_start" : Str) = some (.int s) := by
  unfold fldM
  rw [lookup_putF, if_neg (by decide +kernel), lookup_putF, if_pos rfl]
theorem fldM_c (z : Str) (s : Nat) (r e : Addr) : (fldM z s r e).lookup ("_closing" : Str) = some (.ref e) := by
  unfold fldM
  rw [lookup_putF, if_pos rfl]
theorem fldM_no (z : Str) (s : Nat) (r e : Addr) {x : Str} (h1 : ¬ x = "_closing") (h2 : ¬ x = "_start") (h3 : ¬ x = "_rows") (h4 : ¬ x = "_letters") : (fldM z s r e).lookup x = none := by
  unfold fldM
  rw [lookup_putF, if_neg h1, lookup_putF, if_neg h2, lookup_putF, if_neg h3, lookup_putF, if_neg h4]
  rfl
structure MT (K : PySem.W.Frag) (mg : Str → Option Value) (C : Addr) : Prop where
  ic : C8.InsC K C
  nL : NoAttr K C "_letters"
  nR : NoAttr K C "_rows"
  nS : NoAttr K C "_start"
  nC' : NoAttr K C "_closing"
  g : mg "Maker" = some (.ref C)
  kt : ∀ T ∈ tysD, PySem.W.kitOne K (.type T) (.ref C) = some false
theorem MT.ty {K : PySem.W.Frag} {mg : Str → Option Value} {C : Addr} (T : MT K mg C) {H : Hp} {a dx : Addr} {fs : List (Str × V)} (e : H a = some (.ins C dx fs)) : TyX K H (.ref a) (.ref C) := .base (.ins e T.ic.cl T.ic.ha T.ic.hn T.ic.htk T.ic.hm)
/-- a maker stands at x -/
def Ma (C : Addr) (H : Hp) (x : Addr) (m : Mm) : Prop := ∃ dx r e, H x = some (.ins C dx (fldM m.z m.s r e)) ∧ Da H (.ref r) (rsD m.R) ∧ H e = some (.lst (m.cl.map V.str))
theorem Ma.keepN {C : Addr} {H H' : Hp} (s : ExtN H H') {x : Addr} {m : Mm} (h : Ma C H x m) : Ma C H' x m := by
  obtain ⟨dx, r, e, h1, h2, h3⟩ := h
  exact ⟨dx, r, e, s _ _ h1 fun _ z => (by cases z), h2.keepN s, s _ _ h3 fun _ z => (by cases z)⟩
theorem Ma.keep {C : Addr} {H H' : Hp} (s : Same H H') {x : Addr} {m : Mm} (h : Ma C H x m) : Ma C H' x m := h.keepN (ExtN.of s)
theorem DaAll.ofGet {H : Hp} : ∀ {xs : List V} {ds : List PyData}, xs.length = ds.length → (∀ (i : Nat) x d, xs[i]? = some x → ds[i]? = some d → Da H x d) → DaAll H xs ds
  | [], [], _, _ => .nil
  | [], _ :: _, l, _ => by cases l
  | _ :: _, [], l, _ => by cases l
  | x :: xs, d :: ds, l, h => .cons (h 0 x d rfl rfl) (DaAll.ofGet (by simpa using l) fun i y e hy he => h (i + 1) y e (by simpa using hy) (by simpa using he))
theorem da_row {H : Hp} {v : V} {r : List En} (h : Da H v (rwD r)) : ∃ b ys, v = .ref b ∧ H b = some (.lst ys) ∧ DaAll H ys (r.map enD) := by
  cases h with
  | lst h a => exact ⟨_, _, rfl, h, a⟩
theorem da_rs {H : Hp} {v : V} {R : List (List En)} (h : Da H v (rsD R)) : ∃ b xs, v = .ref b ∧ H b = some (.lst xs) ∧ DaAll H xs (R.map rwD) ∧ xs.length = R.length := by
  cases h with
  | lst h a =>
    have := da_len a
    rw [List.length_map] at this
    exact ⟨_, _, rfl, h, a, this⟩
theorem da_en {H : Hp} {v : V} {e : En} (h : Da H v (enD e)) : ∃ t, v = .ref t ∧ H t = some (.tup [.int (e.s : Int), .str e.w, .bl e.b]) := by
  cases h with
  | @tup t xs ds h a =>
    cases a with
    | cons h1 r1 =>
      cases h1
      cases r1 with
      | cons h2 r2 =>
        cases h2
        cases r2 with
        | cons h3 r3 =>
          cases h3
          cases r3
          exact ⟨t, rfl, h⟩
theorem rs_at {H : Hp} {xs : List V} {R : List (List En)} {i : Nat} {y : V} (h : DaAll H xs (R.map rwD)) (hi : xs[i]? = some y) : ∃ b row ys, y = .ref b ∧ R[i]? = some row ∧ H b = some (.lst ys) ∧ DaAll H ys (row.map enD) := by
  obtain ⟨d, ed, hd⟩ := h.get hi
  rw [List.getElem?_map] at ed
  obtain ⟨row, er, rfl⟩ := Option.map_eq_some_iff.mp ed
  obtain ⟨b, ys, e, hb, a⟩ := da_row hd
  exact ⟨b, row, ys, e, er, hb, a⟩
theorem en_at {H : Hp} {ys : List V} {r : List En} {j : Nat} {e : En} (h : DaAll H ys (r.map enD)) (ej : r[j]? = some e) : ∃ t, ys[j]? = some (.ref t) ∧ H t = some (.tup [.int (e.s : Int), .str e.w, .bl e.b]) := by
  have l := da_len h
  rw [List.length_map] at l
  have lj := (List.getElem?_eq_some_iff.mp ej).1
  have ey : ys[j]? = some (ys[j]'(by omega)) := List.getElem?_eq_getElem (by omega)
  obtain ⟨d, ed, hd⟩ := h.get ey
  rw [List.getElem?_map, ej] at ed
  cases ed
  obtain ⟨t, et, ht⟩ := da_en hd
  rw [et] at ey
  exact ⟨t, ey, ht⟩
/-! copies of rows, one by one: new lists, the entries as they were -/
def RwAt (H0 H : Hp) (xs : List V) (n : Nat) (R : List (List En)) : Prop := ∀ (j : Nat) row, j < n → R[j]? = some row → ∃ b ys, xs[j]? = some (.ref b) ∧ H0 b = none ∧ H b = some (.lst ys) ∧ DaAll H0 ys (row.map enD)
def RwN (H0 H : Hp) (p : Addr) (R : List (List En)) : Prop := ∃ xs, H p = some (.lst xs) ∧ H0 p = none ∧ xs.length = R.length ∧ xs.Nodup ∧ (∀ y ∈ xs, y ≠ .ref p ∧ ∃ b, y = .ref b ∧ H0 b = none) ∧ RwAt H0 H xs R.length R
def CpM (H1 : Hp) (D : Addr) (R : List (List En)) (i : Nat) (H' : Hp) : Prop := Same H1 H' ∧ ∃ acc, H' D = some (.lst acc) ∧ acc.length = i ∧ (∀ y ∈ acc, y ≠ .ref D ∧ ∃ b o, y = .ref b ∧ H1 b = none ∧ H' b = some o) ∧ acc.Nodup ∧ RwAt H1 H' acc i R
theorem cm_0 {H1 : Hp} {D : Addr} {R : List (List En)} (nD : H1 D = none) : CpM H1 D R 0 (upd H1 D (.lst [])) := ⟨same_new nD, [], upd_same, rfl, fun y hy => (by cases hy), .nil, fun j row h => absurd h (Nat.not_lt_zero j)⟩
theorem cm_s {H1 H' : Hp} {D l : Addr} {R : List (List En)} {i : Nat} {row : List En} {ys : List V} (p : CpM H1 D R i H') (nD : H1 D = none) (er : R[i]? = some row) (hy : DaAll H1 ys (row.map enD)) (l60 : R.length ≤ 60) (nl : H' l = none) :
    ∃ acc, upd H' l (.lst ys) D = some (.lst acc) ∧ acc.length < sizeLine ∧ CpM H1 D R (i + 1) (upd (upd H' l (.lst ys)) D (.lst (acc ++ [.ref l]))) := by
  obtain ⟨sm, acc, hD, la, nA, ndA, at_⟩ := p
  have li := (List.getElem?_eq_some_iff.mp er).1
  have s2 := same_new (o := .lst ys) nl
  have hD2 := s2 _ _ hD
  have nlD : l ≠ D := fun z => by
    rw [z, hD] at nl
    cases nl
  have nl1 : H1 l = none := was_none sm nl
  refine ⟨acc, hD2, small1000 (by omega), fun c o e => ?_, acc ++ [.ref l], upd_same, by rw [List.length_append, la]; rfl, fun y hy => ?_, ?_, fun j r hj ej => ?_⟩
  · rw [upd_ne (ne_of_none (H := H1) e nD)]
    exact s2 _ _ (sm _ _ e)
  · rcases List.mem_append.mp hy with h | h
    · obtain ⟨h1, b, o, e1, e2, e3⟩ := nA y h
      refine ⟨h1, b, o, e1, e2, ?_⟩
      rw [upd_ne (fun z => h1 (by rw [e1, z]))]
      exact s2 _ _ e3
    · rw [List.mem_singleton.mp h]
      refine ⟨fun z => nlD (V.ref.inj z), l, .lst ys, rfl, nl1, ?_⟩
      rw [upd_ne nlD]
      exact upd_same
  · refine List.nodup_append.mpr ⟨ndA, List.pairwise_singleton _ _, fun y hy z hz ez => ?_⟩
    rw [List.mem_singleton.mp hz] at ez
    obtain ⟨_, b, o, e1, _, e3⟩ := nA y hy
    rw [ez] at e1
    cases e1
    rw [nl] at e3
    cases e3
  · by_cases c : j = i
    · subst c
      rw [er] at ej
      cases ej
      refine ⟨l, ys, ?_, nl1, ?_, hy⟩
      · rw [List.getElem?_append_right (by omega), la, Nat.sub_self]
        rfl
      · rw [upd_ne nlD]
        exact upd_same
    · obtain ⟨b, zs, e1, e2, e3, e4⟩ := at_ j r (by omega) ej
      refine ⟨b, zs, ?_, e2, ?_, e4⟩
      · rw [List.getElem?_append_left (by omega)]
        exact e1
      · rw [upd_ne (fun z => (nA _ (List.mem_of_getElem? e1)).1 (by rw [z]))]
        exact s2 _ _ e3
theorem cm_e {H1 H' : Hp} {D : Addr} {R : List (List En)} {i : Nat} (p : CpM H1 D R i H') (nD : H1 D = none) (e : i = R.length) : RwN H1 H' D R := by
  obtain ⟨sm, acc, hD, la, nA, ndA, at_⟩ := p
  subst e
  exact ⟨acc, hD, nD, la, ndA, fun y hy => ⟨(nA y hy).1, (nA y hy).2.elim fun b ⟨o, e1, e2, _⟩ => ⟨b, e1, e2⟩⟩, at_⟩
theorem RwN.keep {H0 H H' : Hp} {p : Addr} {R : List (List En)} (h : RwN H0 H p R) (s : Same H H') : RwN H0 H' p R := by
  obtain ⟨xs, h1, h2, h3, h4, h5, h6⟩ := h
  refine ⟨xs, s _ _ h1, h2, h3, h4, h5, fun j row hj ej => ?_⟩
  obtain ⟨b, ys, e1, e2, e3, e4⟩ := h6 j row hj ej
  exact ⟨b, ys, e1, e2, s _ _ e3, e4⟩
/-- as data, in a part of the heap that holds the new lists and the old tuples -/
theorem RwN.da {H0 H G : Hp} {p : Addr} {R : List (List En)} (h : RwN H0 H p R) (gp : ∀ a xs, H a = some (.lst xs) → H0 a = none → G a = some (.lst xs)) (gt : ∀ a xs, H0 a = some (.tup xs) → G a = some (.tup xs)) : Da G (.ref p) (rsD R) := by
  obtain ⟨xs, h1, h2, h3, h4, h5, h6⟩ := h
  refine .lst (gp _ _ h1 h2) (DaAll.ofGet (by rw [h3, List.length_map]) fun i x d ex ed => ?_)
  rw [List.getElem?_map] at ed
  obtain ⟨row, er, rfl⟩ := Option.map_eq_some_iff.mp ed
  obtain ⟨b, ys, e1, e2, e3, e4⟩ := h6 i row (List.getElem?_eq_some_iff.mp er).1 er
  rw [ex] at e1
  cases e1
  refine .lst (gp _ _ e3 e2) (DaAll.ofGet (by rw [da_len e4]) fun j y d ey ed => ?_)
  obtain ⟨d', ed', hd'⟩ := e4.get ey
  rw [ed] at ed'
  cases ed'
  rw [List.getElem?_map] at ed
  obtain ⟨en, _, rfl⟩ := Option.map_eq_some_iff.mp ed
  cases hd' with
  | tup ht ha =>
    refine .tup (gt _ _ ht) ?_
    cases ha with
    | cons h1 r1 =>
      cases h1
      cases r1 with
      | cons h2 r2 =>
        cases h2
        cases r2 with
        | cons h3 r3 =>
          cases h3
          cases r3
          exact .cons (.int _) (.cons (.str _) (.cons (.bl _) .nil))
theorem RwN.dS {H0 H : Hp} {p : Addr} {R : List (List En)} (h : RwN H0 H p R) (s : ∀ a xs, H0 a = some (.tup xs) → H a = some (.tup xs)) : Da H (.ref p) (rsD R) := h.da (fun _ _ e _ => e) s
/-- a maker whose lists are new since H0 -/
def MaN (C : Addr) (H0 H : Hp) (x : Addr) (m : Mm) : Prop := ∃ dx r e, H x = some (.ins C dx (fldM m.z m.s r e)) ∧ RwN H0 H r m.R ∧ H0 e = none ∧ H e = some (.lst (m.cl.map V.str))
theorem MaN.ma {C : Addr} {H0 H : Hp} {x : Addr} {m : Mm} (h : MaN C H0 H x m) (s : ∀ a xs, H0 a = some (.tup xs) → H a = some (.tup xs)) : Ma C H x m := by
  obtain ⟨dx, r, e, h1, h2, h3, h4⟩ := h
  exact ⟨dx, r, e, h1, h2.dS s, h4⟩
/-- a maker that stands in a part of the heap without Z -/
def MaZ (C : Addr) (H : Hp) (x : Addr) (m : Mm) (Z : Addr → Prop) : Prop := ∃ G, Same G H ∧ (∀ a, Z a → G a = none) ∧ Ma C G x m
theorem MaZ.ma {C : Addr} {H : Hp} {x : Addr} {m : Mm} {Z : Addr → Prop} (h : MaZ C H x m Z) : Ma C H x m := by
  obtain ⟨G, s, _, g⟩ := h
  exact g.keep s
theorem MaZ.keep {C : Addr} {H H' : Hp} {x : Addr} {m : Mm} {Z : Addr → Prop} (h : MaZ C H x m Z) (s : Same H H') : MaZ C H' x m Z := by
  obtain ⟨G, s1, z, g⟩ := h
  exact ⟨G, s1.trans s, z, g⟩
theorem MaZ.upd {C : Addr} {H : Hp} {x o : Addr} {v : HO} {m : Mm} {Z : Addr → Prop} (h : MaZ C H x m Z) (zo : Z o) : MaZ C (upd H o v) x m Z := by
  obtain ⟨G, s1, z, g⟩ := h
  refine ⟨G, fun a w e => ?_, z, g⟩
  rw [upd_ne (ne_of_none e (z o zo))]
  exact s1 _ _ e
theorem MaZ.but {C : Addr} {H H' : Hp} {x g : Addr} {m : Mm} {Z : Addr → Prop} (h : MaZ C H x m Z) (zo : Z g) (b : But H H' g) : MaZ C H' x m Z := by
  obtain ⟨G, s1, z, gm⟩ := h
  exact ⟨G, fun a w e => b _ _ (ne_of_none e (z g zo)) (s1 _ _ e), z, gm⟩
theorem MaZ.sub {C : Addr} {H : Hp} {x : Addr} {m : Mm} {Z Z' : Addr → Prop} (h : MaZ C H x m Z) (i : ∀ a, Z' a → Z a) : MaZ C H x m Z' := by
  obtain ⟨G, s1, z, gm⟩ := h
  exact ⟨G, s1, fun a za => z a (i a za), gm⟩
theorem Ma.z {C : Addr} {H : Hp} {x : Addr} {m : Mm} (h : Ma C H x m) : MaZ C H x m fun a => H a = none := ⟨H, Same.refl _, fun _ z => z, h⟩
/-- all but the lists that were there -/
def noL (H0 H : Hp) : Hp := fun a => match H0 a with
  | some (.lst _) => none
  | _ => H a
theorem noL_eq {H0 H : Hp} {a : Addr} (h : ∀ xs, H0 a ≠ some (.lst xs)) : noL H0 H a = H a := by
  unfold noL
  split
  · rename_i xs e
    exact absurd e (h xs)
  · rfl
theorem noL_no {H0 H : Hp} {a : Addr} (h : ∃ xs, H0 a = some (.lst xs)) : noL H0 H a = none := by
  obtain ⟨xs, e⟩ := h
  unfold noL
  rw [e]
theorem noL_s {H0 H : Hp} : Same (noL H0 H) H := fun a o e => by
  unfold noL at e
  split at e
  · cases e
  · exact e
/-- the lists that were there before a maker was made are none of its own -/
theorem MaN.z {C : Addr} {H0 H : Hp} {x : Addr} {m : Mm} (h : MaN C H0 H x m) (nx : ∀ xs, H0 x ≠ some (.lst xs)) (s : ∀ a xs, H0 a = some (.tup xs) → H a = some (.tup xs)) : MaZ C H x m fun a => ∃ xs, H0 a = some (.lst xs) := by
  obtain ⟨dx, r, e, h1, h2, h3, h4⟩ := h
  refine ⟨noL H0 H, noL_s, fun a z => noL_no z, dx, r, e, ?_, h2.da (fun a xs q n => ?_) (fun a xs q => ?_), ?_⟩
  · rw [noL_eq nx]
    exact h1
  · rw [noL_eq fun xs z => by rw [n] at z; cases z]
    exact q
  · rw [noL_eq fun xs z => by rw [q] at z; cases z]
    exact s a _ q
  · rw [noL_eq fun xs z => by rw [h3] at z; cases z]
    exact h4
end KJ
set_option Elab.async false
set_option linter.all false
set_option maxRecDepth 100000
set_option maxHeartbeats 1000000
namespace KJ
open PySem PySem.Spec PyProof.Rows L2 XV NM XT XA LamX
/-! ### makers compared, as data -/
theorem eqvAll_map {α : Type} [DecidableEq α] (f : α → PyData) (hf : ∀ a b, PyData.eqv (f a) (f b) = decide (a = b)) : ∀ l k : List α, PyData.eqvAll (l.map f) (k.map f) = decide (l = k)
  | [], [] => by simp [PyData.eqvAll]
  | [], _ :: _ => by simp [PyData.eqvAll]
  | _ :: _, [] => by simp [PyData.eqvAll]
  | a :: l, b :: k => by
    have ih := eqvAll_map f hf l k
    simp only [List.map_cons, PyData.eqvAll, hf, ih, List.cons.injEq]
    by_cases h1 : a = b <;> by_cases h2 : l = k <;> simp [h1, h2]
theorem eqv_en (a b : En) : PyData.eqv (enD a) (enD b) = decide (a = b) := by
  obtain ⟨s1, w1, b1⟩ := a
  obtain ⟨s2, w2, b2⟩ := b
  simp only [enD, PyData.eqv, PyData.eqvAll, En.mk.injEq]
  by_cases h1 : s1 = s2 <;> by_cases h2 : w1 = w2 <;> cases b1 <;> cases b2 <;> simp [h1, h2] <;> omega
theorem eqv_rw (a b : List En) : PyData.eqv (rwD a) (rwD b) = decide (a = b) := by
  show PyData.eqv (.list _) (.list _) = _
  simp only [PyData.eqv]
  exact eqvAll_map enD eqv_en a b
theorem eqv_rs (a b : List (List En)) : PyData.eqv (rsD a) (rsD b) = decide (a = b) := by
  show PyData.eqv (.list _) (.list _) = _
  simp only [PyData.eqv]
  exact eqvAll_map rwD eqv_rw a b
theorem eqv_cl (a b : List Str) : PyData.eqv (clD a) (clD b) = decide (a = b) := by
  show PyData.eqv (.list _) (.list _) = _
  simp only [PyData.eqv]
  refine eqvAll_map PyData.str (fun x y => ?_) a b
  simp only [PyData.eqv]
  by_cases h : x = y <;> simp [h]
theorem layAll_map {α : Type} (f : α → PyData) : ∀ l : List α, (∀ a ∈ l, (f a).canLay0 = true) → PyData.canLayAll0 (l.map f) = true
  | [], _ => by simp [PyData.canLayAll0]
  | a :: l, h => by
    have ih := layAll_map f l fun b hb => h b (List.mem_cons_of_mem _ hb)
    simp only [List.map_cons, PyData.canLayAll0, h a List.mem_cons_self, ih]
    rfl
theorem depAll_map {α : Type} (f : α → PyData) (k : Nat) : ∀ l : List α, (∀ a ∈ l, (f a).depth ≤ k) → PyData.depthAll (l.map f) ≤ k
  | [], _ => by simp [PyData.depthAll]
  | a :: l, h => by
    have ih := depAll_map f k l fun b hb => h b (List.mem_cons_of_mem _ hb)
    have := h a List.mem_cons_self
    simp only [List.map_cons, PyData.depthAll]
    omega
theorem dep_en (e : En) : (enD e).depth ≤ 1 := by simp [enD, PyData.depth, PyData.depthAll]
theorem lay_en {e : En} (h : PyData.strOk e.w = true) : (enD e).canLay0 = true := by simp [enD, PyData.canLay0, PyData.canLayAll0, h]
theorem dep_rw (r : List En) : (rwD r).depth ≤ 2 := by
  have := depAll_map enD 1 r fun e _ => dep_en e
  simp only [rwD, PyData.depth]
  omega
theorem dep_rs (R : List (List En)) : (rsD R).depth ≤ 3 := by
  have := depAll_map rwD 2 R fun e _ => dep_rw e
  simp only [rsD, PyData.depth]
  omega
def RowsT (R : List (List En)) : Prop := ∀ r ∈ R, ∀ e ∈ r, PyData.strOk e.w = true
theorem shaped_rs {R : List (List En)} (h : RowsT R) : SeqAt.shaped (rsD R) = true := by
  have e2 : (rsD R).canLay0 = true := by
    simp only [rsD, PyData.canLay0]
    refine layAll_map rwD R fun r hr => ?_
    simp only [rwD, PyData.canLay0]
    exact layAll_map enD r fun e he => lay_en (h r hr e he)
  have := dep_rs R
  unfold SeqAt.shaped
  rw [e2, decide_eq_true (show (rsD R).depth ≤ 64 by omega)]
  rfl
theorem shaped_en {e : En} (h : PyData.strOk e.w = true) : SeqAt.shaped (enD e) = true := by
  have := dep_en e
  unfold SeqAt.shaped
  rw [lay_en h, decide_eq_true (show (enD e).depth ≤ 64 by omega)]
  rfl
theorem shaped_cl {c : List Str} (h : ∀ y ∈ c, PyData.strOk y = true) : SeqAt.shaped (clD c) = true := by
  have e2 : (clD c).canLay0 = true := by
    simp only [clD, PyData.canLay0]
    refine layAll_map PyData.str c fun y hy => ?_
    simp only [PyData.canLay0]
    exact h y hy
  have d : PyData.depthAll (c.map PyData.str) ≤ 0 := depAll_map PyData.str 0 c fun y _ => by simp [PyData.depth]
  have e : (clD c).depth ≤ 64 := by
    simp only [clD, PyData.depth]
    omega
  unfold SeqAt.shaped
  rw [e2, decide_eq_true e]
  rfl
theorem cl_da {H : Hp} {e : Addr} {c : List Str} (h : H e = some (.lst (c.map V.str))) : Da H (.ref e) (clD c) := by
  refine .lst h ?_
  induction c with
  | nil => exact .nil
  | cons y c ih => exact .cons (.str y) (by
      clear ih h
      induction c with
      | nil => exact .nil
      | cons z c ih => exact .cons (.str z) ih)
theorem asc_ok {y : Str} (h : y.cps.all (· < 128) = true) : PyData.strOk y = true := by
  unfold PyData.strOk
  rw [Array.all_eq_true] at h ⊢
  intro i hi
  have := h i hi
  simp only [decide_eq_true_eq] at this ⊢
  omega
theorem low_ok {y : Str} (h : lowS y = true) : PyData.strOk y = true := by
  have h : (decide (y = "") || (Txt.isascii y && (Txt.isalpha y && Txt.islower y))) = true := h
  by_cases c : y = ""
  · rw [c]
    decide +kernel
  · rw [decide_eq_false c, Bool.false_or, Bool.and_eq_true] at h
    exact asc_ok h.1
theorem short_ok {y : Str} (h : shortV (.str y) = true) : PyData.strOk y = true := by
  have h : (lowS y && decide (y.length ≤ 2000)) = true := h
  rw [Bool.and_eq_true] at h
  exact low_ok h.1
theorem MmOk.rt {m : Mm} (o : MmOk m) : RowsT m.R := fun r hr e he => short_ok ((o.rw r hr).2 e he).2
theorem MmOk.ct {m : Mm} (o : MmOk m) : ∀ y ∈ m.cl, PyData.strOk y = true := fun y hy => short_ok (o.hc y hy)
end KJ
set_option Elab.async false
set_option linter.all false
set_option maxRecDepth 100000
set_option maxHeartbeats 1000000
namespace KJ
open PySem PySem.Spec PyProof.Rows L2 XV NM XT XA LamX
/-! ### the methods of makers -/
abbrev sInitM : Stmt := inClass (top 31) 0
abbrev sLettersM : Stmt := inClass (top 31) 1
abbrev sRowsM : Stmt := inClass (top 31) 2
abbrev sStartM : Stmt := inClass (top 31) 3
abbrev sClosM : Stmt := inClass (top 31) 4
abbrev sEqM : Stmt := inClass (top 31) 5
abbrev sReqM : Stmt := top 34
theorem scInitM : FnScope ["self", "letters", "rows", "start", "closing", "row"] ["self", "letters", "rows", "start", "closing"] (defScope sInitM) := ⟨rfl, rfl, rfl, by decide +kernel, rfl, by decide +kernel, by decide +kernel⟩
theorem scLettersM : FnScope ["self"] ["self"] (defScope sLettersM) := ⟨rfl, rfl, rfl, by decide +kernel, rfl, by decide +kernel, by decide +kernel⟩
theorem scRowsM : FnScope ["self", "row"] ["self"] (defScope sRowsM) := ⟨rfl, rfl, rfl, by decide +kernel, rfl, by decide +kernel, by decide +kernel⟩
theorem scStartM : FnScope ["self"] ["self"] (defScope sStartM) := ⟨rfl, rfl, rfl, by decide +kernel, rfl, by decide +kernel, by decide +kernel⟩
theorem scClosM : FnScope ["self"] ["self"] (defScope sClosM) := ⟨rfl, rfl, rfl, by decide +kernel, rfl, by decide +kernel, by decide +kernel⟩
theorem scEqM : FnScope ["self", "other"] ["self", "other"] (defScope sEqM) := ⟨rfl, rfl, rfl, by decide +kernel, rfl, by decide +kernel, by decide +kernel⟩
theorem scReqM : FnScope ["maker"] ["maker"] (defScope sReqM) := ⟨rfl, rfl, rfl, by decide +kernel, rfl, by decide +kernel, by decide +kernel⟩
def spLetM (C : Addr) : Sp := fun vs H Q _ => ∃ (x : Addr) (m : Mm), vs = [.ref x] ∧ Ma C H x m ∧ Q (.str m.z) H
def spStartM (C : Addr) : Sp := fun vs H Q _ => ∃ (x : Addr) (m : Mm), vs = [.ref x] ∧ Ma C H x m ∧ Q (.int m.s) H
def spRowsM (C : Addr) : Sp := fun vs H Q _ => ∃ (x : Addr) (m : Mm), vs = [.ref x] ∧ Ma C H x m ∧ m.R.length ≤ 12 ∧ (∀ r ∈ m.R, r.length ≤ 60) ∧ ∀ (H' : Hp) (p : Addr), Same H H' → RwN H H' p m.R → Q (.ref p) H'
def spClosM (C : Addr) : Sp := fun vs H Q _ => ∃ (x : Addr) (m : Mm), vs = [.ref x] ∧ Ma C H x m ∧ ∀ (p : Addr), H p = none → Q (.ref p) (upd H p (.lst (m.cl.map V.str)))
def spEqM (K : PySem.W.Frag) (C : Addr) : Sp := fun vs H Q _ => ∃ (x : Addr) (y : V) (m : Mm), vs = [.ref x, y] ∧ Ma C H x m ∧ MmOk m ∧ ((∃ y' m2, y = .ref y' ∧ Ma C H y' m2 ∧ MmOk m2 ∧ Q (.bl (decide (m = m2))) H) ∨ (NoA K H y ∧ Q (.bl false) H))
def spReqM (K : PySem.W.Frag) (C : Addr) : Sp := fun vs H Q E => ∃ v, vs = [v] ∧ ((∃ x m, v = .ref x ∧ Ma C H x m ∧ Q .non H) ∨ (NoA K H v ∧ Rz E H (CF K 4) v))
section
variable {P : Program} {w : World} {K : PySem.W.Frag} {mg : Str → Option Value} {base : Heap} {f : Addr} {fd : FuncData} {C : Addr}
theorem ok_letM (F : FnM K "letters" "Maker.letters" sLettersM f fd) (T : MT K mg C) : FnOk P w K mg base CX0 1 f fd ["self"] (spLetM C) := by
  refine F.ok scLettersM (fun vs H Q E h => ?_) (fun cdv A outer s H vs Q E hr h => ?_)
  · obtain ⟨x, m, rfl, _⟩ := h
    rfl
  · obtain ⟨x, m, rfl, ⟨dx, r, e, hx, hR, he⟩, q⟩ := h
    refine ⟨_, PSs.nox (pss_one (ps_ret (pe_fld (pv 0) rfl))), ?_⟩
    exact ⟨_, rfl, x, C, dx, _, _, rfl, hx, T.ic.cl, T.nL, fldM_l _ _ _ _, q⟩
theorem ok_startM (F : FnM K "start" "Maker.start" sStartM f fd) (T : MT K mg C) : FnOk P w K mg base CX0 1 f fd ["self"] (spStartM C) := by
  refine F.ok scStartM (fun vs H Q E h => ?_) (fun cdv A outer s H vs Q E hr h => ?_)
  · obtain ⟨x, m, rfl, _⟩ := h
    rfl
  · obtain ⟨x, m, rfl, ⟨dx, r, e, hx, hR, he⟩, q⟩ := h
    refine ⟨_, PSs.nox (pss_one (ps_ret (pe_fld (pv 0) rfl))), ?_⟩
    exact ⟨_, rfl, x, C, dx, _, _, rfl, hx, T.ic.cl, T.nS, fldM_s _ _ _ _, q⟩
theorem ok_closM (F : FnM K "closing" "Maker.closing" sClosM f fd) (T : MT K mg C) (z_list : mg "list" = none) : FnOk P w K mg base CX0 1 f fd ["self"] (spClosM C) := by
  refine F.ok scClosM (fun vs H Q E h => ?_) (fun cdv A outer s H vs Q E hr h => ?_)
  · obtain ⟨x, m, rfl, _⟩ := h
    rfl
  · obtain ⟨x, m, rfl, ⟨dx, r, e, hx, hR, he⟩, q⟩ := h
    refine ⟨_, PSs.nox (pss_one (ps_ret (pe_callTy call_list_of (by rfl) z_list (by decide +kernel) (pa_cons (pe_fld (pv 0) rfl) pa_nil)))), ?_⟩
    exact ⟨_, rfl, x, C, dx, _, _, rfl, hx, T.ic.cl, T.nC', fldM_c _ _ _ _, e, _, rfl, .inl (SqL.of he), fun l nl => q l nl⟩
theorem ok_rowsM (F : FnM K "rows" "Maker.rows" sRowsM f fd) (T : MT K mg C) (z_list : mg "list" = none) : FnOk P w K mg base CX0 1 f fd ["self"] (spRowsM C) := by
  have nd := scRowsM.nd
  refine F.ok scRowsM (fun vs H Q E h => ?_) (fun cdv A outer s H vs Q E hr h => ?_)
  · obtain ⟨x, m, rfl, _⟩ := h
    rfl
  · obtain ⟨x, m, rfl, ⟨dx, r, e, hx, hR, he⟩, l12, l60, q⟩ := h
    refine ⟨_, PSs.nox (pss_one (ps_ret (pe_lc (own := [("row", 1)]) (g := gName 1) (by rfl) nd (pi_list (pe_fld (pv 0) rfl)) (blkOk_by (N := ["self", "row"]) (sc := defScope sRowsM) (own := [("row", 1)]) (by decide +kernel)) (fun _ _ _ _ _ => pg_name (i := 1) nd rfl (Or.inl rfl)) (fun _ _ _ _ _ => pts_nil)
      (fun _ _ _ _ _ => pe_callTy (call_list_ofK (K := K) rfl) (by rfl) z_list (by decide +kernel) (pa_cons (pv 1) pa_nil))))), ?_⟩
    obtain ⟨b, xs, eb, hxs, hP, lx⟩ := da_rs hR
    cases eb
    refine ⟨_, rfl, x, C, dx, _, _, rfl, hx, T.ic.cl, T.nR, fldM_r _ _ _ _, r, rfl, ⟨_, SqL.of hxs⟩, fun D nD => lc_list (K := K) (a := r) (xs := xs) (CpM H D m.R) (cm_0 nD) (fun i H' _ p => SqL.of (p.1 _ _ hxs)) ?_ ?_⟩
    · rintro i y H' hi p
      obtain ⟨b, row, ys, rfl, er, hb, hy⟩ := rs_at hP hi
      exact ⟨rfl, _, rfl, b, _, rfl, .inl (SqL.of (p.1 _ _ hb)), fun l nl => cm_s p nD er hy (by omega) nl⟩
    · exact fun H' p => q H' D p.1 (cm_e p nD lx)
theorem ok_eqM (F : FnM K "__eq__" "Maker.__eq__" sEqM f fd) (T : MT K mg C) (z_isinstance : mg "isinstance" = none) : FnOk P w K mg base CX0 1 f fd ["self", "other"] (spEqM K C) := by
  refine F.ok scEqM (fun vs H Q E h => ?_) (fun cdv A outer s H vs Q E hr h => ?_)
  · obtain ⟨x, y, m, rfl, _⟩ := h
    rfl
  · obtain ⟨x, y, m, rfl, ⟨dx, r, e, hx, hR, he⟩, ok1, h⟩ := h
    have hu := hr.units
    refine ⟨_, PSs.nox (pss_cons (ps_if (pt_not (pt_val (pe_callB call_isi (by rfl) z_isinstance (by decide +kernel) (pa_cons (pv 1) (pa_cons (pe_glob (v := .ref C) (by rfl) T.g rfl) pa_nil))))) (pss_one (ps_ret pe_bl)) pss_nil)
      (pss_cons (ps_if (PW.pt (pw_or (pt_cmpR op_ne (pe_fld (pv 0) rfl) (pe_fld (pv 1) rfl) (nomark _)) (pw_or1 (pt_cmpR op_ne (pe_fld (pv 0) rfl) (pe_fld (pv 1) rfl) (nomark _))))) (pss_one (ps_ret pe_bl)) pss_nil)
      (pss_one (ps_ret (pe_and (pe_cmpR (op_eqD hu) (pe_fld (pv 0) rfl) (pe_fld (pv 1) rfl) (nomark _)) (pe_one (pe_cmpR (op_eqD hu) (pe_fld (pv 0) rfl) (pe_fld (pv 1) rfl) (nomark _)))))))), ?_⟩
    rcases h with ⟨y', m2, rfl, ⟨dy, r2, e2, hy, hR2, he2⟩, ok2, q⟩ | ⟨⟨T', hT, ty⟩, q⟩
    · refine ⟨_, rfl, _, _, _, _, true, rfl, .own C, T.ty hy, T.ic.me, true, rfl, iteF ?_⟩
      have cmp : decide (m = m2) = (decide (m.z = m2.z) && (decide (m.s = m2.s) && (decide (m.R = m2.R) && decide (m.cl = m2.cl)))) := by
        obtain ⟨a1, a2, a3, a4⟩ := m
        obtain ⟨b1, b2, b3, b4⟩ := m2
        simp only [Mm.mk.injEq, Bool.decide_and]
        cases decide (a1 = b1) <;> cases decide (a2 = b2) <;> cases decide (a3 = b3) <;> rfl
      rw [cmp] at q
      refine ⟨_, rfl, x, C, dx, _, _, rfl, hx, T.ic.cl, T.nL, fldM_l _ _ _ _, _, rfl, y', C, dy, _, _, rfl, hy, T.ic.cl, T.nL, fldM_l _ _ _ _, rfl, _, rfl, ?_⟩
      by_cases c1 : m.z = m2.z
      · rw [show decide (V.str m.z = V.str m2.z) = true from decide_eq_true (by rw [c1])]
        rw [decide_eq_true c1, Bool.true_and] at q
        refine iteF ⟨_, rfl, x, C, dx, _, _, rfl, hx, T.ic.cl, T.nS, fldM_s _ _ _ _, _, rfl, y', C, dy, _, _, rfl, hy, T.ic.cl, T.nS, fldM_s _ _ _ _, rfl, _, rfl, ?_⟩
        by_cases c2 : m.s = m2.s
        · rw [show decide (V.int (m.s : Int) = V.int (m2.s : Int)) = true from decide_eq_true (by rw [c2])]
          rw [decide_eq_true c2, Bool.true_and] at q
          refine iteF ⟨_, rfl, x, C, dx, _, _, rfl, hx, T.ic.cl, T.nR, fldM_r _ _ _ _, _, rfl, y', C, dy, _, _, rfl, hy, T.ic.cl, T.nR, fldM_r _ _ _ _, ?_⟩
          refine ⟨rsD m.R, rsD m2.R, hR.dp, hR2.dp, shaped_rs ok1.rt, shaped_rs ok2.rt, ?_⟩
          rw [eqv_rs]
          by_cases c3 : m.R = m2.R
          · rw [decide_eq_true c3] at q ⊢
            rw [Bool.true_and] at q
            refine ⟨true, rfl, iteT ⟨_, rfl, x, C, dx, _, _, rfl, hx, T.ic.cl, T.nC', fldM_c _ _ _ _, _, rfl, y', C, dy, _, _, rfl, hy, T.ic.cl, T.nC', fldM_c _ _ _ _, clD m.cl, clD m2.cl, (cl_da he).dp, (cl_da he2).dp, shaped_cl ok1.ct, shaped_cl ok2.ct, ?_⟩⟩
            rw [eqv_cl]
            exact q
          · rw [decide_eq_false c3] at q ⊢
            exact ⟨false, rfl, iteF q⟩
        · rw [show decide (V.int (m.s : Int) = V.int (m2.s : Int)) = false from decide_eq_false fun z => c2 (by have := V.int.inj z; omega)]
          rw [decide_eq_false c2] at q
          exact iteT q
      · rw [show decide (V.str m.z = V.str m2.z) = false from decide_eq_false fun z => c1 (V.str.inj z)]
        rw [decide_eq_false c1] at q
        exact iteT q
    · exact ⟨_, rfl, _, _, _, _, false, rfl, .own C, ty, T.kt T' hT, false, rfl, iteT q⟩
theorem ok_reqM (F : FnP K "require_maker" sReqM f fd) (T : MT K mg C) (Z : ClF P w K mg base) (z_isinstance : mg "isinstance" = none) : FnOk P w K mg base (L2.CX P w) 3 f fd ["maker"] (spReqM K C) := by
  refine F.ok scReqM (fun vs H Q E h => ?_) (fun cdv A outer s H vs Q E hr h => ?_)
  · obtain ⟨v, rfl, _⟩ := h
    rfl
  · obtain ⟨v, rfl, h⟩ := h
    obtain ⟨fI, fdI, XT⟩ := Z.x 4 (by decide)
    have XT : XCls P w K mg base "InvalidMaker" "value" (CF K 4) fI fdI := XT
    refine ⟨_, pss_one (ps_if (pt_not (pt_val (pe_callB call_isi (by rfl) z_isinstance (by decide +kernel) (pa_cons (pv 0) (pa_cons (pe_glob (v := .ref C) (by rfl) T.g rfl) pa_nil))))) (pss_one (ps_raiseX (nm := "InvalidMaker") rfl XT hr (takes_of rfl rfl rfl rfl) (by rfl) (pv 0))) pss_nil), ?_⟩
    rcases h with ⟨x, m, rfl, ⟨dx, r, e, hx, hR, he⟩, q⟩ | ⟨⟨T', hT, ty⟩, r⟩
    · exact ⟨_, rfl, _, _, _, _, true, rfl, .own C, T.ty hx, T.ic.me, true, rfl, iteF q⟩
    · exact ⟨_, rfl, _, _, _, _, false, rfl, .own C, ty, T.kt T' hT, false, rfl, iteT ⟨_, rfl, fun d nd => r H d (Same.refl _) nd⟩⟩
end
section
variable {X : Cx} {C : Addr} {e : Expr} {te : TE} {apos pos : Pos}
theorem pe_letM {pl : Sem Bool} (o : OkMa X.prog X.w X.K X.mg X.base C "letters" (spLetM C)) (T : MT X.K X.mg C) (he : PE X e te) (hr : Room 1 X.A) (ht : eval (.Call (.Attribute e "letters" apos) [] [] pos) X.env = (do
      let ov ← eval e X.env
      standAt apos.atName
      let (f, first) ← holding [ov] (getMethod ov "letters" pl)
      callWith pos f first (backTo pos (starEach [] X.env)) (backToKw pos (keywordEach [] X.env))) := by rfl) :
    PE X (.Call (.Attribute e "letters" apos) [] [] pos) (fun σ H Q => te σ H fun x H1 => ∃ a m, x = .ref a ∧ Ma C H1 a m ∧ Q (.str m.z) H1) := by
  obtain ⟨f, fd, F, hm, b⟩ := o.ex
  refine PE.le (pe_meth0 (pl := pl) (pe_mono he) T.ic.cl hm F hr b .nil pass0 ht) fun σ H Q h => ⟨_, h, ?_⟩
  rintro x H1 ⟨a, m, rfl, hg, q⟩
  obtain ⟨dx, r, en, hx, hL⟩ := id hg
  exact ⟨a, dx, _, rfl, hx, fldM_no _ _ _ _ (by decide +kernel) (by decide +kernel) (by decide +kernel) (by decide +kernel), a, m, rfl, hg, q⟩
theorem pe_startM {pl : Sem Bool} (o : OkMa X.prog X.w X.K X.mg X.base C "start" (spStartM C)) (T : MT X.K X.mg C) (he : PE X e te) (hr : Room 1 X.A) (ht : eval (.Call (.Attribute e "start" apos) [] [] pos) X.env = (do
      let ov ← eval e X.env
      standAt apos.atName
      let (f, first) ← holding [ov] (getMethod ov "start" pl)
      callWith pos f first (backTo pos (starEach [] X.env)) (backToKw pos (keywordEach [] X.env))) := by rfl) :
    PE X (.Call (.Attribute e "start" apos) [] [] pos) (fun σ H Q => te σ H fun x H1 => ∃ a m, x = .ref a ∧ Ma C H1 a m ∧ Q (.int m.s) H1) := by
  obtain ⟨f, fd, F, hm, b⟩ := o.ex
  refine PE.le (pe_meth0 (pl := pl) (pe_mono he) T.ic.cl hm F hr b .nil pass0 ht) fun σ H Q h => ⟨_, h, ?_⟩
  rintro x H1 ⟨a, m, rfl, hg, q⟩
  obtain ⟨dx, r, en, hx, hL⟩ := id hg
  exact ⟨a, dx, _, rfl, hx, fldM_no _ _ _ _ (by decide +kernel) (by decide +kernel) (by decide +kernel) (by decide +kernel), a, m, rfl, hg, q⟩
theorem pe_rowsM {pl : Sem Bool} (o : OkMa X.prog X.w X.K X.mg X.base C "rows" (spRowsM C)) (T : MT X.K X.mg C) (he : PE X e te) (hr : Room 1 X.A) (ht : eval (.Call (.Attribute e "rows" apos) [] [] pos) X.env = (do
      let ov ← eval e X.env
      standAt apos.atName
      let (f, first) ← holding [ov] (getMethod ov "rows" pl)
      callWith pos f first (backTo pos (starEach [] X.env)) (backToKw pos (keywordEach [] X.env))) := by rfl) :
    PE X (.Call (.Attribute e "rows" apos) [] [] pos) (fun σ H Q => te σ H fun x H1 => ∃ a m, x = .ref a ∧ Ma C H1 a m ∧ m.R.length ≤ 12 ∧ (∀ r ∈ m.R, r.length ≤ 60) ∧ ∀ (H' : Hp) (p : Addr), Same H1 H' → RwN H1 H' p m.R → Q (.ref p) H') := by
  obtain ⟨f, fd, F, hm, b⟩ := o.ex
  refine PE.le (pe_meth0 (pl := pl) (pe_mono he) T.ic.cl hm F hr b .nil pass0 ht) fun σ H Q h => ⟨_, h, ?_⟩
  rintro x H1 ⟨a, m, rfl, hg, q⟩
  obtain ⟨dx, r, en, hx, hL⟩ := id hg
  exact ⟨a, dx, _, rfl, hx, fldM_no _ _ _ _ (by decide +kernel) (by decide +kernel) (by decide +kernel) (by decide +kernel), a, m, rfl, hg, q⟩
theorem pe_closM {pl : Sem Bool} (o : OkMa X.prog X.w X.K X.mg X.base C "closing" (spClosM C)) (T : MT X.K X.mg C) (he : PE X e te) (hr : Room 1 X.A) (ht : eval (.Call (.Attribute e "closing" apos) [] [] pos) X.env = (do
      let ov ← eval e X.env
      standAt apos.atName
      let (f, first) ← holding [ov] (getMethod ov "closing" pl)
      callWith pos f first (backTo pos (starEach [] X.env)) (backToKw pos (keywordEach [] X.env))) := by rfl) :
    PE X (.Call (.Attribute e "closing" apos) [] [] pos) (fun σ H Q => te σ H fun x H1 => ∃ a m, x = .ref a ∧ Ma C H1 a m ∧ ∀ (p : Addr), H1 p = none → Q (.ref p) (upd H1 p (.lst (m.cl.map V.str)))) := by
  obtain ⟨f, fd, F, hm, b⟩ := o.ex
  refine PE.le (pe_meth0 (pl := pl) (pe_mono he) T.ic.cl hm F hr b .nil pass0 ht) fun σ H Q h => ⟨_, h, ?_⟩
  rintro x H1 ⟨a, m, rfl, hg, q⟩
  obtain ⟨dx, r, en, hx, hL⟩ := id hg
  exact ⟨a, dx, _, rfl, hx, fldM_no _ _ _ _ (by decide +kernel) (by decide +kernel) (by decide +kernel) (by decide +kernel), a, m, rfl, hg, q⟩
end
end KJ
set_option Elab.async false
set_option linter.all false
set_option maxRecDepth 100000
set_option maxHeartbeats 2000000
namespace KJ
open PySem PySem.Spec PyProof.Rows L2 XV NM XT XA LamX
/-! ### the making of makers, whatever it is given -/
theorem ents_len {wd : Nat} {H : Hp} {v : V} {d : PyData} (h : Da H v d) (e : entsD wd d = true) : ∃ a xs, v = .ref a ∧ H a = some (.lst xs) ∧ xs.length = lenD d := by
  cases h with
  | @lst a xs ds ha hall => exact ⟨a, xs, rfl, ha, da_len hall⟩
  | _ => cases e
def spInitM (K : PySem.W.Frag) (C : Addr) : Sp := fun vs H Q E => ∃ (x dx : Addr) (vL vR vS vC : V), vs = [.ref x, vL, vR, vS, vC] ∧ H x = some (.ins C dx []) ∧ (
  (Kn H vL ∧ (∀ z, vL = .str z → z.length < 64) ∧ alphV vL = false ∧ Rz E H (CF K 3) vL) ∨
  ∃ z, vL = .str z ∧ z.length < 64 ∧ alphV (.str z) = true ∧ ∃ dR, Da H vR dR ∧ lenD dR ≤ 100 ∧ (∀ r ∈ itemsD dR, lenD r ≤ 60 ∧ ∀ e ∈ itemsD r, SE e) ∧ (
    (entsD (z.length + 1) dR = false ∧ Rz E H (CF K 1) vR) ∨
    (entsD (z.length + 1) dR = true ∧ Kn H vS ∧ (
      (belV (lenD dR : Int) vS = false ∧ Rz E H (CF K 2) vS) ∨
      (belV (lenD dR : Int) vS = true ∧ ∃ dC, Da H vC dC ∧ lenD dC ≤ 100 ∧ (∀ e ∈ itemsD dC, SL e) ∧ (
        (wrdsD (lenD dR) dC = false ∧ Rz E H (CF K 1) vC) ∨
        (wrdsD (lenD dR) dC = true ∧ ∃ (m : Mm) (ra en : Addr), z = m.z ∧ vR = .ref ra ∧ vS = .int m.s ∧ vC = .ref en ∧ H en = some (.lst (m.cl.map V.str)) ∧ Da H (.ref ra) (rsD m.R) ∧ m.R.length ≤ 12 ∧ m.cl.length ≤ 12 ∧ ∀ H' : Hp, (∀ b o, b ≠ x → H b = some o → H' b = some o) → MaN C H H' x m → Q .non H')))))))
section
variable {P : Program} {w : World} {K : PySem.W.Frag} {mg : Str → Option Value} {base : Heap} {f : Addr} {fd : FuncData} {C : Addr}
theorem ok_initM (F : FunD K "__init__" "Maker.__init__" (defArgs sInitM) (defBody sInitM) (defScope sInitM) [] [("start", .int 0)] f fd) (T : MT K mg C) (Z : ClF P w K mg base) (o_alph : Ok P w K mg base "is_alphabet" 3 ["value"] spAlph) (o_ents : Ok P w K mg base "is_list_of_entries" 5 ["value", "width"] spEnts) (o_below : Ok P w K mg base "is_count_below" 3 ["bound", "value"] spBelow) (o_wrds : Ok P w K mg base "is_list_of_words" 3 ["value", "how_many"] spWrds) (z_len : mg "len" = none) (z_list : mg "list" = none) : FnOk P w K mg base (L2.CX P w) 6 f fd ["self", "letters", "rows", "start", "closing"] (spInitM K C) := by
  have nd := scInitM.nd
  refine F.ok scInitM (fun vs H Q E h => ?_) (fun cdv A outer s H vs Q E hr h => ?_)
  · obtain ⟨x, dx, vL, vR, vS, vE, rfl, _⟩ := h
    rfl
  · obtain ⟨x, dx, vL, vR, vS, vE, rfl, hx, h⟩ := h
    have r5 : Room 5 (A.deeper (envOfC "Maker.__init__" (defScope sInitM) s.heap.objs.size f cdv)) := hr
    have r3 := r5.mono (by decide : 3 ≤ 5)
    have szl := sizeLine_eq
    obtain ⟨fI3, fdI3, XW⟩ := Z.x 3 (by decide)
    have XW : XCls P w K mg base "InvalidWord" "value" (CF K 3) fI3 fdI3 := XW
    obtain ⟨fI1, fdI1, XL⟩ := Z.x 1 (by decide)
    have XL : XCls P w K mg base "InvalidList" "value" (CF K 1) fI1 fdI1 := XL
    obtain ⟨fI2, fdI2, XN⟩ := Z.x 2 (by decide)
    have XN : XCls P w K mg base "InvalidNumber" "value" (CF K 2) fI2 fdI2 := XN
    refine ⟨_, (pss_cons (ps_if (pt_not (pt_val (pe_callO o_alph r3 (by rfl) (pa_cons (pv 1) pa_nil)))) (pss_one (ps_raiseX (nm := "InvalidWord") rfl XW (hr.mono (by decide)) (takes_of rfl rfl rfl rfl) (by rfl) (pv 1))) pss_nil)
      (pss_cons (ps_if (pt_not (pt_val (pe_callO o_ents r5 (by rfl) (pa_cons (pv 2) (pa_cons (pe_op op_add (pe_callB call_len_str (by rfl) z_len boot_len (pa_cons (pv 1) pa_nil)) pe_int) pa_nil))))) (pss_one (ps_raiseX (nm := "InvalidList") rfl XL (hr.mono (by decide)) (takes_of rfl rfl rfl rfl) (by rfl) (pv 2))) pss_nil)
      (pss_cons (ps_if (pt_not (pt_val (pe_callO o_below r3 (by rfl) (pa_cons (pe_callB call_len (by rfl) z_len boot_len (pa_cons (pv 2) pa_nil)) (pa_cons (pv 3) pa_nil))))) (pss_one (ps_raiseX (nm := "InvalidNumber") rfl XN (hr.mono (by decide)) (takes_of rfl rfl rfl rfl) (by rfl) (pv 3))) pss_nil)
      (pss_cons (ps_if (pt_not (pt_val (pe_callO o_wrds r3 (by rfl) (pa_cons (pv 4) (pa_cons (pe_callB call_len (by rfl) z_len boot_len (pa_cons (pv 2) pa_nil)) pa_nil))))) (pss_one (ps_raiseX (nm := "InvalidList") rfl XL (hr.mono (by decide)) (takes_of rfl rfl rfl rfl) (by rfl) (pv 4))) pss_nil)
      (pss_cons (ps_fld (pv 0) (pv 1) rfl)
      (pss_cons (ps_fld (pv 0) (pe_lc (own := [("row", 5)]) (g := gName 5) (by rfl) nd (pi_list (pv 2)) (blkOk_by (N := ["self", "letters", "rows", "start", "closing", "row"]) (sc := defScope sInitM) (own := [("row", 5)]) (by decide +kernel)) (fun _ _ _ _ _ => pg_name (i := 5) nd rfl (Or.inl rfl)) (fun _ _ _ _ _ => pts_nil)
        (fun _ _ _ _ _ => pe_callTy (call_list_ofK (K := K) rfl) (by rfl) z_list (by decide +kernel) (pa_cons (pv 5) pa_nil))) rfl)
      (pss_cons (ps_fld (pv 0) (pv 3) rfl)
      (pss_one (ps_fld (pv 0) (pe_callTy call_list_of (by rfl) z_list (by decide +kernel) (pa_cons (pv 4) pa_nil)) rfl))))))))), ?_⟩
    rcases h with ⟨kn, sh, e, r⟩ | ⟨z, rfl, lz, az, dR, hdR, l100, l2, h⟩
    · refine ⟨_, rfl, _, rfl, kn, sh, fun H1 s1 => ?_⟩
      rw [e]
      exact ⟨false, rfl, iteT ⟨_, rfl, fun d nd => r H1 d s1 nd⟩⟩
    refine ⟨_, rfl, _, rfl, .str z, fun z' e => (by
      cases e
      omega), fun H1 s1 => ?_⟩
    rw [az]
    refine ⟨true, rfl, iteF ?_⟩
    refine ⟨_, rfl, _, rfl, z, rfl, by omega, _, _, rfl, rfl, vR, dR, z.length + 1, rfl, hdR.keep s1, l100, l2, fun H2 s2 => ?_⟩
    have s02 := s1.trans s2
    rcases h with ⟨e, r⟩ | ⟨eR, knS, h⟩
    · rw [e]
      exact ⟨false, rfl, iteT ⟨_, rfl, fun d nd => r H2 d s02 nd⟩⟩
    rw [eR]
    refine ⟨true, rfl, iteF ?_⟩
    obtain ⟨ra, xs, rfl, hra, lx⟩ := ents_len hdR eR
    refine ⟨_, rfl, _, lenD dR, rfl, .inl ⟨_, SqL.of (s02 _ _ hra), lx.symm⟩, _, rfl, _, _, rfl, knS.keep s02, ?_⟩
    rcases h with ⟨e, r⟩ | ⟨eS, dE, hdE, l60, lE, h⟩
    · rw [e]
      exact ⟨false, rfl, iteT ⟨_, rfl, fun d nd => r H2 d s02 nd⟩⟩
    rw [eS]
    refine ⟨true, rfl, iteF ?_⟩
    refine ⟨_, rfl, _, rfl, _, lenD dR, rfl, .inl ⟨_, SqL.of (s02 _ _ hra), lx.symm⟩, vE, dE, lenD dR, rfl, hdE.keep s02, l60, lE, fun H3 s3 => ?_⟩
    have s03 := s02.trans s3
    rcases h with ⟨e, r⟩ | ⟨eE, m, ra', en, rfl, er, rfl, rfl, hen, hR, l12, lc, q⟩
    · rw [e]
      exact ⟨false, rfl, iteT ⟨_, rfl, fun d nd => r H3 d s03 nd⟩⟩
    rw [eE]
    refine ⟨true, rfl, iteF ?_⟩
    cases er
    obtain ⟨b, xs', eb, hra', hP, lx'⟩ := da_rs hR
    cases eb
    have : xs = xs' := by
      rw [hra] at hra'
      cases hra'
      rfl
    subst this
    obtain ⟨z, R, st, cl⟩ := m
    dsimp only at *
    have hx3 := s03 _ _ hx
    have hra3 := s03 _ _ hra
    have hen3 := s03 _ _ hen
    refine ⟨_, rfl, _, rfl, x, C, dx, _, rfl, hx3, T.ic.cl, T.nL, (by show 0 < 1000; decide), ?_⟩
    have nrx : ra ≠ x := ne_of hra hx (by intro z; cases z)
    have nex : en ≠ x := ne_of hen hx (by intro z; cases z)
    have hx4 : upd H3 x (.ins C dx (putF "_letters" (.str z) [])) x = some (.ins C dx (putF "_letters" (.str z) [])) := upd_same
    have k4 : ∀ b o, b ≠ x → H b = some o → upd H3 x (.ins C dx (putF "_letters" (.str z) [])) b = some o := fun b o nb e => by
      rw [upd_ne nb]
      exact s03 _ _ e
    generalize upd H3 x (.ins C dx (putF "_letters" (.str z) [])) = H4 at *
    have hra4 := k4 _ _ nrx hra
    -- the rows as they were, in H without x
    have sG : Same (rm x H) H4 := fun b o e => by
      have nb : b ≠ x := fun z => by
        rw [z, rm_at] at e
        cases e
      exact k4 _ _ nb (rm_s _ _ e)
    have inG : ∀ {b o}, b ≠ x → H b = some o → rm x H b = some o := fun {b o} nb e => by
      unfold rm
      rw [if_neg nb]
      exact e
    have hP4 : ∀ (i : Nat) y, xs[i]? = some y → ∃ b row ys, y = .ref b ∧ R[i]? = some row ∧ H b = some (.lst ys) ∧ b ≠ x ∧ DaAll (rm x H) ys (row.map enD) := fun i y hi => by
      obtain ⟨b, row, ys, e1, e2, e3, e4⟩ := rs_at hP hi
      refine ⟨b, row, ys, e1, e2, e3, ne_of e3 hx (by intro z; cases z), DaAll.ofGet (da_len e4) fun j u d eu ed => ?_⟩
      obtain ⟨d', ed', hd'⟩ := e4.get eu
      rw [ed] at ed'
      cases ed'
      rw [List.getElem?_map] at ed
      obtain ⟨en', _, rfl⟩ := Option.map_eq_some_iff.mp ed
      obtain ⟨t, et, ht⟩ := da_en hd'
      rw [et]
      exact .tup (inG (ne_of ht hx (by intro z; cases z)) ht) (.cons (.int _) (.cons (.str _) (.cons (.bl _) .nil)))
    refine ⟨_, rfl, ra, rfl, ⟨_, SqL.of hra4⟩, fun D nD => ?_⟩
    have nDG : rm x H D = none := was_none sG nD
    refine lc_list (K := K) (a := ra) (xs := xs) (fun i H' => CpM (rm x H) D R i H' ∧ Same H4 H') ⟨⟨fun b o e => ?_, [], upd_same, rfl, fun y hy => (by cases hy), .nil, fun j row h => absurd h (Nat.not_lt_zero j)⟩, same_new nD⟩ (fun i H' _ p => SqL.of (p.2 _ _ hra4)) ?_ ?_
    · rw [upd_ne (ne_of_none e nDG)]
      exact sG _ _ e
    · rintro i y H' hi ⟨p, p2⟩
      obtain ⟨b, row, ys, rfl, er, hb, nb, hy⟩ := hP4 i y hi
      refine ⟨rfl, _, rfl, b, _, rfl, .inl (SqL.of (p2 _ _ (k4 _ _ nb hb))), fun l nl => ?_⟩
      obtain ⟨acc, a1, a2, a3⟩ := cm_s p nDG er hy (by omega) nl
      refine ⟨acc, a1, a2, a3, fun c o e => ?_⟩
      rw [upd_ne (ne_of_none e nD)]
      exact same_new nl _ _ (p2 _ _ e)
    rintro H5 ⟨p, s5⟩
    have rn := cm_e p nDG lx'
    have hx5 := s5 _ _ hx4
    refine ⟨_, rfl, x, C, dx, _, rfl, hx5, T.ic.cl, T.nR, (by show 1 < 1000; decide), ?_⟩
    refine ⟨_, rfl, _, rfl, x, C, dx, _, rfl, upd_same, T.ic.cl, T.nS, (by show 2 < 1000; decide), ?_⟩
    obtain ⟨acc, hD, _, la, ndA, nwA, atA⟩ := rn
    have Dx : D ≠ x := ne_of hD hx5 (by intro z; cases z)
    have hx6 : upd (upd H5 x (.ins C dx (putF "_rows" (.ref D) (putF "_letters" (.str z) [])))) x (.ins C dx (putF "_start" (.int st) (putF "_rows" (.ref D) (putF "_letters" (.str z) [])))) x = some (.ins C dx (putF "_start" (.int st) (putF "_rows" (.ref D) (putF "_letters" (.str z) [])))) := upd_same
    have k6 : ∀ b o, b ≠ x → H5 b = some o → upd (upd H5 x (.ins C dx (putF "_rows" (.ref D) (putF "_letters" (.str z) [])))) x (.ins C dx (putF "_start" (.int st) (putF "_rows" (.ref D) (putF "_letters" (.str z) [])))) b = some o := fun b o nb e => by
      rw [upd_ne nb, upd_ne nb]
      exact e
    generalize upd (upd H5 x (.ins C dx (putF "_rows" (.ref D) (putF "_letters" (.str z) [])))) x (.ins C dx (putF "_start" (.int st) (putF "_rows" (.ref D) (putF "_letters" (.str z) [])))) = H6 at *
    have hen6 := k6 _ _ nex (s5 _ _ (k4 _ _ nex hen))
    refine ⟨_, rfl, en, _, rfl, .inl (SqL.of hen6), fun l nl => ?_⟩
    have s7 := same_new (o := .lst (cl.map V.str)) nl
    have hx7 := s7 _ _ hx6
    refine ⟨_, rfl, x, C, dx, _, rfl, hx7, T.ic.cl, T.nC', (by show 3 < 1000; decide), ?_⟩
    have nlx : l ≠ x := ne_of (upd_same (H := H6) (a := l)) hx7 (by intro z; cases z)
    have back : ∀ b, b ≠ x → rm x H b = none → H b = none := fun b nb n => by
      cases e : H b with
      | none => rfl
      | some o =>
        rw [inG nb e] at n
        cases n
    have nlH : H l = none := by
      cases e : H l with
      | none => rfl
      | some o =>
        rw [k6 _ _ nlx (s5 _ _ (k4 _ _ nlx e))] at nl
        cases nl
    have notx : ∀ {b : Addr} {ys : List V}, H5 b = some (.lst ys) → b ≠ x := fun {b ys} e z => by
      rw [z, hx5] at e
      cases e
    have atH : RwAt H H5 acc R.length R := fun j row hj ej => by
      obtain ⟨b, ys, e1, e2, e3, e4⟩ := atA j row hj ej
      exact ⟨b, ys, e1, back b (notx e3) e2, e3, DaAll.keep rm_s e4⟩
    refine q _ (fun b o nb e => ?_) ⟨dx, D, l, upd_same, ⟨acc, ?_, back D Dx nDG, la, ndA, fun y hy => ⟨(nwA y hy).1, ?_⟩, fun j row hj ej => ?_⟩, nlH, ?_⟩
    · rw [upd_ne nb]
      exact s7 _ _ (k6 _ _ nb (s5 _ _ (k4 b o nb e)))
    · rw [upd_ne Dx]
      exact s7 _ _ (k6 _ _ Dx hD)
    · obtain ⟨k, hk⟩ := List.getElem?_of_mem hy
      have lk := (List.getElem?_eq_some_iff.mp hk).1
      obtain ⟨b, ys, e1, e2, _⟩ := atH k _ (by omega) (List.getElem?_eq_getElem (by omega))
      rw [hk] at e1
      exact ⟨b, Option.some.inj e1, e2⟩
    · obtain ⟨b, ys, e1, e2, e3, e4⟩ := atH j row hj ej
      refine ⟨b, ys, e1, e2, ?_, e4⟩
      rw [upd_ne (notx e3)]
      exact s7 _ _ (k6 _ _ (notx e3) e3)
    · rw [upd_ne nlx]
      exact upd_same
end
end KJ
set_option Elab.async false
set_option linter.all false
set_option maxRecDepth 100000
set_option maxHeartbeats 1000000
namespace KJ
open PySem PySem.Spec PyProof.Rows L2 XV NM XT XA LamX
/-! ### making makers, by all keywords too -/
abbrev psM : List Str := ["self", "letters", "rows", "start", "closing"]
structure OkMkM (P : Program) (w : World) (K : PySem.W.Frag) (mg : Str → Option Value) (base : Heap) (C : Addr) : Prop where
  ex : ∃ f fd mv, Mk K C f ∧ FnOk P w K mg base (L2.CX P w) 6 f fd psM (spInitM K C) ∧ KBn K fd psM 3 ["closing"] (fun us ws => us ++ mv ++ ws) (fun vs zs => vs ++ [V.int 0] ++ zs) ∧ KBn K fd psM 3 ["start", "closing"] (fun us ws => us ++ ws) (fun vs zs => vs ++ zs) ∧
    KBn K fd psM 1 ["closing", "start", "rows", "letters"] (fun us ws => us ++ ws.reverse) (fun vs zs => vs ++ zs.reverse) ∧ mg "Maker" = some (.ref C)
section
variable {X : Cx} {C : Addr} {e1 e2 : Expr} {kws : List Keyword} {t tk : TA} {pos p : Pos} {E : XK}
/-- Maker(letters, rows, closing=..), an error let out -/
theorem pe_mkMX0 (o : OkMkM X.prog X.w X.K X.mg X.base C) (tx : Takes X fun cls d _ H => E cls d H) (hr : Room 7 X.A) (hg : Gl X "Maker") (ha : PA X [e1, e2] t) (hk : PK X kws tk)
    (hall : (backToKw pos (keywordEach kws X.env)).all (·.1.isSome) = true := by rfl) (hks : (backToKw pos (keywordEach kws X.env)).filterMap (·.1) = (["closing"] : List Str) := by rfl)
    (he : starEach [e1, e2] X.env = (false, eval e1 X.env) :: starEach [e2] X.env := by rfl) (hpl : ((backTo pos (starEach [e1, e2] X.env)).any (·.1) || (backToKw pos (keywordEach kws X.env)).any (·.1.isNone)) = false := by rfl) :
    PE X (.Call (.Name "Maker" p) [e1, e2] kws pos) (tMakeK C 2 1 (spInitM X.K C) (fun vs zs => vs ++ [V.int 0] ++ zs) E t tk) := by
  obtain ⟨f, fd, mv, M, F, b, b2, b3, g⟩ := o.ex
  exact pe_makeK M F hr hg g b (passes_call tx fun _ _ _ _ h => h) ha hk hall hks (by decide) he hpl
/-- Maker(letters, rows, start=.., closing=..), an error let out -/
theorem pe_mkMX1 (o : OkMkM X.prog X.w X.K X.mg X.base C) (tx : Takes X fun cls d _ H => E cls d H) (hr : Room 7 X.A) (hg : Gl X "Maker") (ha : PA X [e1, e2] t) (hk : PK X kws tk)
    (hall : (backToKw pos (keywordEach kws X.env)).all (·.1.isSome) = true := by rfl) (hks : (backToKw pos (keywordEach kws X.env)).filterMap (·.1) = (["start", "closing"] : List Str) := by rfl)
    (he : starEach [e1, e2] X.env = (false, eval e1 X.env) :: starEach [e2] X.env := by rfl) (hpl : ((backTo pos (starEach [e1, e2] X.env)).any (·.1) || (backToKw pos (keywordEach kws X.env)).any (·.1.isNone)) = false := by rfl) :
    PE X (.Call (.Name "Maker" p) [e1, e2] kws pos) (tMakeK C 2 2 (spInitM X.K C) (fun vs zs => vs ++ zs) E t tk) := by
  obtain ⟨f, fd, mv, M, F, b, b2, b3, g⟩ := o.ex
  exact pe_makeK M F hr hg g b2 (passes_call tx fun _ _ _ _ h => h) ha hk hall hks (by decide) he hpl
/-- the same where nothing is raised -/
theorem pe_mkMC0 (o : OkMkM X.prog X.w X.K X.mg X.base C) (hr : Room 7 X.A) (hg : Gl X "Maker") (ha : PA X [e1, e2] t) (hk : PK X kws tk)
    (hall : (backToKw pos (keywordEach kws X.env)).all (·.1.isSome) = true := by rfl) (hks : (backToKw pos (keywordEach kws X.env)).filterMap (·.1) = (["closing"] : List Str) := by rfl)
    (he : starEach [e1, e2] X.env = (false, eval e1 X.env) :: starEach [e2] X.env := by rfl) (hpl : ((backTo pos (starEach [e1, e2] X.env)).any (·.1) || (backToKw pos (keywordEach kws X.env)).any (·.1.isNone)) = false := by rfl) :
    PE X (.Call (.Name "Maker" p) [e1, e2] kws pos) (tMakeK C 2 1 (cm (spInitM X.K C)) (fun vs zs => vs ++ [V.int 0] ++ zs) E0 t tk) := by
  obtain ⟨f, fd, mv, M, F, b, b2, b3, g⟩ := o.ex
  exact pe_makeK M (FnOk.calm F) hr hg g b pass0 ha hk hall hks (by decide) he hpl
theorem pe_mkMC1 (o : OkMkM X.prog X.w X.K X.mg X.base C) (hr : Room 7 X.A) (hg : Gl X "Maker") (ha : PA X [e1, e2] t) (hk : PK X kws tk)
    (hall : (backToKw pos (keywordEach kws X.env)).all (·.1.isSome) = true := by rfl) (hks : (backToKw pos (keywordEach kws X.env)).filterMap (·.1) = (["start", "closing"] : List Str) := by rfl)
    (he : starEach [e1, e2] X.env = (false, eval e1 X.env) :: starEach [e2] X.env := by rfl) (hpl : ((backTo pos (starEach [e1, e2] X.env)).any (·.1) || (backToKw pos (keywordEach kws X.env)).any (·.1.isNone)) = false := by rfl) :
    PE X (.Call (.Name "Maker" p) [e1, e2] kws pos) (tMakeK C 2 2 (cm (spInitM X.K C)) (fun vs zs => vs ++ zs) E0 t tk) := by
  obtain ⟨f, fd, mv, M, F, b, b2, b3, g⟩ := o.ex
  exact pe_makeK M (FnOk.calm F) hr hg g b2 pass0 ha hk hall hks (by decide) he hpl
/-- Maker(closing=.., start=.., rows=.., letters=..) -/
theorem pe_mkMC4 (o : OkMkM X.prog X.w X.K X.mg X.base C) (hr : Room 7 X.A) (hg : Gl X "Maker") (hk : PK X kws tk)
    (hall : (backToKw pos (keywordEach kws X.env)).all (·.1.isSome) = true := by rfl) (hks : (backToKw pos (keywordEach kws X.env)).filterMap (·.1) = (["closing", "start", "rows", "letters"] : List Str) := by rfl)
    (hpl : ((backTo pos (starEach [] X.env)).any (·.1) || (backToKw pos (keywordEach kws X.env)).any (·.1.isNone)) = false := by rfl) :
    PE X (.Call (.Name "Maker" p) [] kws pos) (tMakeK C 0 4 (cm (spInitM X.K C)) (fun vs zs => vs ++ zs.reverse) E0 tNil tk) := by
  obtain ⟨f, fd, mv, M, F, b, b2, b3, g⟩ := o.ex
  exact pe_makeK0 M (FnOk.calm F) hr hg g b3 pass0 hk hall hks (by decide) hpl
end
section
variable {X : Cx} {K : PySem.W.Frag} {C : Addr} {e1 e2 : Expr} {kws : List Keyword} {t tk : TA} {pos p : Pos} {E : XK}
theorem pe_mkMX0K (eK : X.K = K) (o : OkMkM X.prog X.w K X.mg X.base C) (tx : Takes X fun cls d _ H => E cls d H) (hr : Room 7 X.A) (hg : Gl X "Maker") (ha : PA X [e1, e2] t) (hk : PK X kws tk)
    (hall : (backToKw pos (keywordEach kws X.env)).all (·.1.isSome) = true := by rfl) (hks : (backToKw pos (keywordEach kws X.env)).filterMap (·.1) = (["closing"] : List Str) := by rfl)
    (he : starEach [e1, e2] X.env = (false, eval e1 X.env) :: starEach [e2] X.env := by rfl) (hpl : ((backTo pos (starEach [e1, e2] X.env)).any (·.1) || (backToKw pos (keywordEach kws X.env)).any (·.1.isNone)) = false := by rfl) :
    PE X (.Call (.Name "Maker" p) [e1, e2] kws pos) (tMakeK C 2 1 (spInitM K C) (fun vs zs => vs ++ [V.int 0] ++ zs) E t tk) := by
  subst eK
  exact pe_mkMX0 o tx hr hg ha hk hall hks he hpl
theorem pe_mkMX1K (eK : X.K = K) (o : OkMkM X.prog X.w K X.mg X.base C) (tx : Takes X fun cls d _ H => E cls d H) (hr : Room 7 X.A) (hg : Gl X "Maker") (ha : PA X [e1, e2] t) (hk : PK X kws tk)
    (hall : (backToKw pos (keywordEach kws X.env)).all (·.1.isSome) = true := by rfl) (hks : (backToKw pos (keywordEach kws X.env)).filterMap (·.1) = (["start", "closing"] : List Str) := by rfl)
    (he : starEach [e1, e2] X.env = (false, eval e1 X.env) :: starEach [e2] X.env := by rfl) (hpl : ((backTo pos (starEach [e1, e2] X.env)).any (·.1) || (backToKw pos (keywordEach kws X.env)).any (·.1.isNone)) = false := by rfl) :
    PE X (.Call (.Name "Maker" p) [e1, e2] kws pos) (tMakeK C 2 2 (spInitM K C) (fun vs zs => vs ++ zs) E t tk) := by
  subst eK
  exact pe_mkMX1 o tx hr hg ha hk hall hks he hpl
end
/-! what is right, as data -/
theorem ent_ok {n : Nat} {e : En} (h1 : e.s < n) (h2 : shortV (.str e.w) = true) : entD n (enD e) = true := by
  show ((decide (0 ≤ (e.s : Int)) && decide ((e.s : Int) < (n : Int))) && (shortD (.str e.w) && true)) = true
  rw [decide_eq_true (Int.natCast_nonneg _), decide_eq_true (Int.ofNat_lt.mpr h1), show shortD (.str e.w) = true from h2]
  rfl
theorem ents_ok {m : Mm} (ok : MmOk m) : entsD (m.z.length + 1) (rsD m.R) = true := by
  have l : (m.R.map rwD).length = m.R.length := List.length_map _
  show ((decide (1 ≤ (m.R.map rwD).length) && decide ((m.R.map rwD).length ≤ 12)) && ((m.R.map rwD).all (fun r => isLD r && decide (lenD r = m.z.length + 1)) && (m.R.map rwD).all fun r => (itemsD r).all (entD (m.R.map rwD).length))) = true
  rw [l, decide_eq_true ok.r1, decide_eq_true ok.r2, Bool.true_and, Bool.true_and, Bool.and_eq_true, List.all_eq_true, List.all_eq_true]
  refine ⟨fun d hd => ?_, fun d hd => ?_⟩
  · obtain ⟨r, hr, rfl⟩ := List.mem_map.mp hd
    show (true && decide ((r.map enD).length = m.z.length + 1)) = true
    rw [List.length_map, decide_eq_true (ok.rw r hr).1]
    rfl
  · obtain ⟨r, hr, rfl⟩ := List.mem_map.mp hd
    show (r.map enD).all (entD m.R.length) = true
    rw [List.all_eq_true]
    intro d hd
    obtain ⟨e, he, rfl⟩ := List.mem_map.mp hd
    obtain ⟨h1, h2⟩ := (ok.rw r hr).2 e he
    exact ent_ok h1 h2
theorem wrds_ok {m : Mm} (ok : MmOk m) : wrdsD m.R.length (clD m.cl) = true := by
  show (decide ((m.cl.map PyData.str).length = m.R.length) && (m.cl.map PyData.str).all shortD) = true
  rw [List.length_map, decide_eq_true ok.lc, Bool.true_and, List.all_eq_true]
  intro d hd
  obtain ⟨y, hy, rfl⟩ := List.mem_map.mp hd
  exact ok.hc y hy
theorem short_len {y : Str} (h : shortV (.str y) = true) : y.length ≤ 2000 := by
  have h : (lowS y && decide (y.length ≤ 2000)) = true := h
  rw [Bool.and_eq_true, decide_eq_true_eq] at h
  exact h.2
theorem rs_small {m : Mm} (ok : MmOk m) : ∀ r ∈ itemsD (rsD m.R), lenD r ≤ 60 ∧ ∀ e ∈ itemsD r, SE e := fun r hr => by
  obtain ⟨row, hrow, rfl⟩ := List.mem_map.mp (show r ∈ m.R.map rwD from hr)
  obtain ⟨h1, h2⟩ := ok.rw row hrow
  have lz := ok.lz
  refine ⟨?_, fun e he => ?_⟩
  · show (row.map enD).length ≤ 60
    rw [List.length_map]
    omega
  · obtain ⟨en, hen, rfl⟩ := List.mem_map.mp (show e ∈ row.map enD from he)
    intro a b c eq y ey
    have eq : PyData.tuple [.int (en.s : Int), .str en.w, .bool en.b] = .tuple [a, b, c] := eq
    injection eq with eq
    injection eq with _ eq
    injection eq with eq _
    rw [← eq] at ey
    rw [← PyData.str.inj ey]
    have := short_len (h2 en hen).2
    omega
theorem cl_small {m : Mm} (ok : MmOk m) : ∀ e ∈ itemsD (clD m.cl), SL e := fun e he y ey => by
  obtain ⟨w, hw, rfl⟩ := List.mem_map.mp (show e ∈ m.cl.map PyData.str from he)
  rw [← PyData.str.inj ey]
  have := short_len (ok.hc w hw)
  omega
/-- what the making asks where all is right, its instance new -/
theorem mk_spM {K : PySem.W.Frag} {C : Addr} {H : Hp} {Q : VK} {E : XK} {x dx ra en : Addr} {m : Mm} {zv sv : V} (hz : zv = .str m.z) (hv : sv = .int (m.s : Int)) (nx : H x = none) (ndx : H dx = none) (ne : dx ≠ x) (hen : H en = some (.lst (m.cl.map V.str))) (hR : Da H (.ref ra) (rsD m.R)) (ok : MmOk m)
    (q : ∀ H' : Hp, Same H H' → MaZ C H' x m (fun a => ∃ xs, H a = some (.lst xs)) → Q .non H') :
    cm (spInitM K C) [V.ref x, zv, V.ref ra, sv, V.ref en] (upd (upd H dx (.own x)) x (.ins C dx [])) Q E := by
  subst hz hv
  have s1 := same_new (o := .own x) ndx
  have s2 : Same (upd H dx (.own x)) (upd (upd H dx (.own x)) x (.ins C dx [])) := same_new (by rw [upd_ne (Ne.symm ne)]; exact nx)
  have s := s1.trans s2
  have lR : lenD (rsD m.R) = m.R.length := by
    show (m.R.map rwD).length = _
    rw [List.length_map]
  have lC : lenD (clD m.cl) = m.cl.length := by
    show (m.cl.map PyData.str).length = _
    rw [List.length_map]
  have lz := ok.lz
  have r2 := ok.r2
  have lc := ok.lc
  refine ⟨x, dx, _, _, _, _, rfl, upd_same, .inr ⟨m.z, rfl, by omega, ok.al, _, hR.keep s, by omega, rs_small ok, .inr ⟨ents_ok ok, .int _, .inr ⟨?_, _, (cl_da hen).keep s, by omega, cl_small ok, .inr ⟨?_, m, ra, en, rfl, rfl, rfl, rfl, s _ _ hen, hR.keep s, r2, by omega, fun H' hb ha => q H' (fun b o e => ?_) ((ha.z (fun xs z => ?_) fun a xs e => ?_).sub fun a ⟨xs, e⟩ => ⟨xs, s _ _ e⟩)⟩⟩⟩⟩⟩
  · rw [lR]
    exact (below_lt _ _).trans (decide_eq_true ok.hs)
  · rw [lR]
    exact wrds_ok ok
  · exact hb _ _ (ne_of_none e nx) (s _ _ e)
  · rw [upd_same] at z
    cases z
  · refine hb _ _ (fun z => ?_) e
    rw [z, upd_same] at e
    cases e
end KJ
set_option Elab.async false
set_option linter.all false
set_option maxRecDepth 100000
set_option maxHeartbeats 2000000
/-! zip of a string (first) and a list (second). -/
namespace XV
open PySem PySem.Spec PyProof.Rows L2
/-- the letters of y and the list at b, as it is when a turn begins; each turn's two items come in a pair of their own -/
def ItzS (K : PySem.W.Frag) (y : Str) (b : Addr) : It where
  go := fun i H => ∃ (ys : List V) (c : Nat) (v : V), SqL K H b ys ∧ y.cps[i]? = some c ∧ ys[i]? = some v
  yld := fun i H v H' => ∃ T c w, v = .ref T ∧ H T = none ∧ H' = upd H T (.tup [.str ⟨#[c]⟩, w]) ∧ y.cps[i]? = some c ∧ ∀ ys, SqL K H b ys → ys[i]? = some w
  stop := fun i H => ∃ ys : List V, SqL K H b ys ∧ (y.cps.size = i ∨ ys.length = i) ∧ i ≤ y.cps.size ∧ i ≤ ys.length
def AtS (y : Str) (t : Tok) (b z tI tO j k : Addr) (i : Nat) (h : Heap) : Prop :=
  IsZip h z tI tO .none ∧ IsPair h tI (.ref j) (.ref k) ∧ (∃ p q, IsPair h tO p q) ∧ h.IsStrIter j (strIterType y) y t i ∧ h.IsListIter k b i
theorem sepS {z tI tO j k b : Addr} (D : ZipApart z tI tO j k b b) : ZipSep2 z tI tO j k [j] [k, b] where
  TIz := D.TIz
  TOz := D.TOz
  TITO := D.TITO
  TIi1 := D.TIi1
  mem1 := List.mem_cons_self
  zf1 := by simp [D.i1z.symm]
  Tf1 := by simp [D.TOi1]
  TIi2 := D.TIi2
  mem2 := List.mem_cons_self
  zf2 := by simp [D.i2z.symm, D.l2z.symm]
  Tf2 := by simp [D.TOi2, D.l2TO.symm]
  sep1_2 := by simp [D.i12, D.l2i1.symm]
  sep2_1 := by simp [D.i12.symm]
theorem turnS {P : Program} {w : World} {K : PySem.W.Frag} {es : List Expr} {kk : Nat} {tp : Pos} {y : Str} {t : Tok} {b z tI tO j k : Addr} (D : ZipApart z tI tO j k b b) :
    Turn P w K (.Tuple es kk tp) (ItzS K y b) [z, tI, tO, j, k] z (AtS y t b z tI tO j k) where
  mem := List.mem_cons_self
  obj := fun i h ⟨s1, s2, ⟨p, q, s3⟩, ⟨o1, e1, _, d1⟩, ⟨o2, e2, _, d2⟩⟩ c hc => by
    simp only [List.mem_cons, List.not_mem_nil, or_false] at hc
    rcases hc with rfl | rfl | rfl | rfl | rfl
    · exact ⟨_, s1, fun _ x => nomatch x⟩
    · exact ⟨_, s2, fun _ x => nomatch x⟩
    · exact ⟨_, s3, fun _ x => nomatch x⟩
    · exact ⟨o1, e1, fun _ x => by rw [d1] at x; cases x⟩
    · exact ⟨o2, e2, fun _ x => by rw [d2] at x; cases x⟩
  keep := fun i h h' ⟨s1, s2, ⟨p, q, s3⟩, s4, s5⟩ kp =>
    ⟨kp z (by simp) _ s1, kp tI (by simp) _ s2, ⟨p, q, kp tO (by simp) _ s3⟩, (by obtain ⟨o, e, r⟩ := s4; exact ⟨o, kp j (by simp) o e, r⟩), s5.at (fun o e => kp k (by simp) o e)⟩
  item := by
    intro X eP ew eK calm i pins s σ H E I fp st gg
    subst eP ew eK
    obtain ⟨s1, s2, ⟨p0, q0, s3⟩, s4, s5⟩ := st
    obtain ⟨ys, c, w, ly, ex, ey⟩ := gg
    obtain ⟨vs, rv, pw, _⟩ := I.list ly
    obtain ⟨v, ev, rvy⟩ := rv.get ey
    have zlt : z < s.heap.objs.size := Heap.lt_size s1
    have hu : i < y.cps.size := (Array.getElem?_eq_some_iff.mp ex).1
    have hv : i < vs.toArray.size := by
      have := (List.getElem?_eq_some_iff.mp ev).1
      simpa using this
    have hh : X.A.in1.handled = none := I.ok.hd calm
    refine wpAny_pyNext_zipD2_item (sepS D) (Draws.text hh j y t) (Draws.list hh k b D.l2i2 vs.toArray) s1 s2 s3 s4 ⟨s5, pw.isList⟩ hu hv fun x1 x2 h' tk d1 d2 z1 t1 n1 n2 new sz kp => ?_
    obtain ⟨c', u, ec, e1⟩ := d1
    obtain rfl : c' = c := Option.some.inj (ec.symm.trans ex)
    have e2 : x2 = v := Option.some.inj (d2.symm.trans (by simpa using ev))
    subst e1 e2
    refine ⟨_, rfl, wpAny_letOwnedTupleGo_zip (s := { s with heap := h', toks := tk }) z1 fun g z2 sb => ?_⟩
    have far : ∀ c, c = z ∨ c = tI ∨ c = tO ∨ c = j ∨ c = k → c < s.heap.objs.size := fun c hc => by
      rcases hc with rfl | rfl | rfl | rfl | rfl
      · exact zlt
      · exact Heap.lt_size s2
      · exact Heap.lt_size s3
      · obtain ⟨_, q, _⟩ := s4
        exact Heap.lt_size q
      · obtain ⟨_, q, _⟩ := s5
        exact Heap.lt_size q
    have fresh : g.get? s.heap.objs.size = some { cls := .type "tuple", data := .seq #[.str ⟨#[c']⟩ u, x2] } := (sb.2 _ (Nat.ne_of_gt zlt)).trans new
    have ok2 : ObjOk X.prog X.w (upd H s.heap.objs.size (.tup [.str ⟨#[c']⟩, w])) g s.heap.objs.size (.tup [.str ⟨#[c']⟩, w]) := ⟨(by show 2 ≤ sizeLine; decide), [.str ⟨#[c']⟩ u, x2], .cons ⟨u, rfl⟩ (.cons rvy .nil), ⟨_, fresh, rfl, _, rfl⟩⟩
    have J := I.turnedNew (t' := tk) (h' := g) (ch := [z, tI, tO, j, k]) (fun c o out q => (sb.2 c (fun e => out (by simp [e]))).trans (kp c o (fun e => out (by simp [e])) (fun e => out (by simp [e])) (fun e => out (by simp [e])) (fun e => out (by simp [e])) q)) fp (Nat.le_refl _) ok2
    refine ⟨.ref s.heap.objs.size, _, J, rfl, ⟨_, c', w, rfl, I.hok.fresh (Nat.le_refl _), rfl, ex, fun l hl => (I.list_inj hl ly) ▸ ey⟩, ⟨z2, (sb.2 _ D.TIz).trans (kp _ _ D.TIz D.TITO D.TIi1 D.TIi2 s2), ⟨_, x2, (sb.2 _ D.TOz).trans t1⟩, (by obtain ⟨o, e, r⟩ := n1; exact ⟨o, (sb.2 _ D.i1z).trans e, r⟩), n2.1.at (fun o q => (sb.2 _ D.i2z).trans q)⟩, fun c hc => ?_⟩
    simp only [List.mem_cons, List.not_mem_nil, or_false] at hc
    rw [upd_ne (Nat.ne_of_lt (far c hc))]
    exact (fp c (by simpa using hc)).1
  done := by
    intro X eP ew eK calm i pins s σ H E I fp st gg
    subst eP ew eK
    obtain ⟨s1, s2, ⟨p0, q0, s3⟩, s4, s5⟩ := st
    obtain ⟨ys, ly, stop, l1, l2⟩ := gg
    obtain ⟨vs, rv, pw, _⟩ := I.list ly
    have n2 := rv.length
    have hh : X.A.in1.handled = none := I.ok.hd calm
    refine wpAny_pyNext_zipD2_end (sepS D) (Draws.text hh j y t) (Draws.list hh k b D.l2i2 vs.toArray) s1 s2 s3 s4 ⟨s5, pw.isList⟩ (by first | omega | (simp; omega)) (by first | omega | (simp; omega)) (by first | omega | (simp; omega)) fun h' tk kp => ⟨rfl, ?_⟩
    exact I.turnedL (t' := tk) (ch := [z, tI, tO, j, k]) (fun c o out q => kp c o (fun e => out (by simp [e])) (fun e => out (by simp [e])) (fun e => out (by simp [e])) (fun e => out (by simp [e])) q) fp
  self := fun A i s Q E st q => wpAny_pyIter_zip st.1 q
/-- .. in zip(text, list) -/
def iZipS (K : PySem.W.Frag) (ta : TA) : TI := fun σ H R => ta σ H fun vs H1 => ∃ y b ys, vs = [.str y, .ref b] ∧ SqL K H1 b ys ∧ R (ItzS K y b) H1
theorem pi_zipS {X : Cx} {e e2 : Expr} {ta : TA} {p pos tp : Pos} {es : List Expr} {kk : Nat} (gl : Gl X "zip") (z_zip : X.mg "zip" = none) (ha : PA X [e, e2] ta)
    (hs : starEach [e, e2] X.env = (false, eval e X.env) :: starEach [e2] X.env := by rfl) (np : (backTo pos (starEach [e2] X.env)).any (·.1) = false := by rfl) :
    PI X (.Tuple es kk tp) (.Call (.Name "zip" p) [e, e2] [] pos) (iZipS X.K ta) := by
  refine ⟨fun pins s σ H R I h => Call_ (ld_blt I gl z_zip PyProof.Rows.boot_zip (PyProof.Rows.callWith_type1 (thn (ha.run pos pins s σ H _ I h) fun us s1 ⟨vs, H1, J, rv, q⟩ => ?_) hs np))⟩
  obtain ⟨y, b, ys, rfl, ly, q⟩ := q
  obtain ⟨u1, u2, rfl, r1, r2⟩ := vals2 rv
  obtain ⟨t, rfl⟩ := r1
  cases r2
  obtain ⟨qs, _, pw, _⟩ := J.list ly
  have lt2 : b < s1.heap.objs.size := pw.lt
  refine zip_begins2 (begins_text y t) (begins_list b qs.toArray) trivial pw.isList fun h' z1 t1 t2 g1 g2 sz kp => wpAny_pyIter_zip z1 ?_
  have J2 : Inv X pins σ H1 { s1 with heap := h' } := J.kept (t' := s1.toks) kp
  refine ⟨s1.heap.objs.size + 4, [s1.heap.objs.size + 4, s1.heap.objs.size + 2, s1.heap.objs.size + 3, s1.heap.objs.size, s1.heap.objs.size + 1], _, _, H1, rfl, J2, turnS (PySem.W.ktu_apart s1.heap.objs.size b b lt2 lt2), ⟨z1, t1, ⟨_, _, t2⟩, ⟨_, g1, rfl, rfl⟩, ⟨_, g2, rfl, rfl⟩⟩, fun c hc => ?_, q⟩
  have le : s1.heap.objs.size ≤ c := by
    simp only [List.mem_cons, List.not_mem_nil, or_false] at hc
    rcases hc with rfl | rfl | rfl | rfl | rfl
    · exact Nat.le_add_right _ 4
    · exact Nat.le_add_right _ 2
    · exact Nat.le_add_right _ 3
    · exact Nat.le_refl _
    · exact Nat.le_add_right _ 1
  exact J.fpOk le (J.hok.fresh le)
theorem walk_zipS {K : PySem.W.Frag} {y : Str} {b : Addr} {ys : List V} (hn : y.cps.size = ys.length) : Walk (ItzS K y b) ys.length (fun H => SqL K H b ys) (fun i H v H' => ∃ T c w, v = .ref T ∧ H T = none ∧ H' = upd H T (.tup [.str ⟨#[c]⟩, w]) ∧ y.cps[i]? = some c ∧ ys[i]? = some w) := by
  refine ⟨fun i _ hi q => ?_, fun _ q => ⟨ys, q, .inr rfl, by omega, Nat.le_refl _⟩, fun i H v H' _ q z => ?_⟩
  · have h1 : i < y.cps.size := by omega
    exact ⟨ys, y.cps[i], ys[i], q, by simp [h1], by simp [hi]⟩
  · obtain ⟨T, c, w, h1, h2, h3, h4, h5⟩ := z
    exact ⟨T, c, w, h1, h2, h3, h4, h5 ys q⟩
end XV
set_option Elab.async false
set_option linter.all false
set_option maxRecDepth 100000
set_option maxHeartbeats 1000000
namespace KJ
open PySem PySem.Spec PyProof.Rows L2 XV NM XT XA LamX
/-! ### what a maker makes of a word -/
theorem PE.or {X : Cx} {e : Expr} {t1 t2 : TE} (h1 : PE X e t1) (h2 : PE X e t2) : PE X e (fun σ H Q => t1 σ H Q ∨ t2 σ H Q) := ⟨fun pins s σ H Q I h => h.elim (fun h => h1.run pins s σ H Q I h) fun h => h2.run pins s σ H Q I h⟩
def LetOf (CA CM : Addr) (H : Hp) (x : Addr) (z : Str) : Prop := (∃ m, Au CA H x m ∧ m.z = z) ∨ ∃ m, Ma CM H x m ∧ m.z = z
def ZOk (z : Str) : Prop := (cz z).Nodup ∧ z.length ≤ 26 ∧ z.cps.all (· < 128) = true
def spCols2 (CA CM : Addr) : Sp := fun vs H Q _ => ∃ (x : Addr) (z y : Str), vs = [.ref x, .str y] ∧ LetOf CA CM H x z ∧ ZOk z ∧ y.length ≤ 100000 ∧ ∀ (H' : Hp) (p : Addr), Same H H' → H p = none → H' p = some (.lst ((natI (colsN z y)).map V.int)) → Q (.ref p) H'
theorem cols_weak {CA CM : Addr} {vs : List V} {H : Hp} {Q : VK} {E : XK} (h : spCols CA vs H Q E) : spCols2 CA CM vs H Q E := by
  obtain ⟨x, m, y, e, ha, ok, l, q⟩ := h
  exact ⟨x, m.z, y, e, .inl ⟨m, ha, rfl⟩, ⟨ok.nd, ok.lz, ok.ascii⟩, l, q⟩
section
variable {P : Program} {w : World} {K : PySem.W.Frag} {mg : Str → Option Value} {base : Heap} {f : Addr} {fd : FuncData} {C CM : Addr}
theorem ok_cols2 (F : FnP K "columns_of" sCols f fd) (T : AT K mg C) (o_let : OkMa P w K mg base C "letters" (spLetA C)) (TM : MT K mg CM) (o_letM : OkMa P w K mg base CM "letters" (spLetM CM)) (z_enum : mg "enumerate" = none) (z_len : mg "len" = none) : FnOk P w K mg base CX0 2 f fd ["machine", "word"] (spCols2 C CM) := by
  have nd := scCols.nd
  refine F.ok scCols (fun vs H Q E h => ?_) (fun cdv A outer s H vs Q E hr h => ?_)
  · obtain ⟨x, z, y, rfl, _⟩ := h
    rfl
  · obtain ⟨x, z, y, rfl, hx, ⟨nz, lz0, az⟩, ly, q⟩ := h
    have szl := sizeLine_eq
    have r1 : Room 1 (A.deeper (envOfC "columns_of" (defScope sCols) s.heap.objs.size f cdv)) := hr
    have hu1 : (A.deeper (envOfC "columns_of" (defScope sCols) s.heap.objs.size f cdv)).units + 1 < cLine := by have := hr.un; omega
    refine ⟨_, PSs.nox (C8.pss_cut (ps_set (i := 2) nd rfl (Or.inr rfl) (PE.or (pe_letA o_let T (pv 0) r1) (pe_letM o_letM TM (pv 0) r1)))
      (pss_cons (ps_set (i := 3) nd rfl (Or.inr rfl) (pe_dc (own := [("letter", 4), ("at", 5)]) (g := gTup K 2 (gCons (gName 5) (gCons (gName 4) gNil))) (by rfl) nd (pi_enumS (by rfl) z_enum (pv 2)) (blkOk_by (N := nCols) (sc := defScope sCols) (own := [("letter", 4), ("at", 5)]) (by decide +kernel))
          (fun _ _ _ _ _ => pg_tup rfl (pgs_cons (pg_name (i := 5) nd rfl (Or.inl rfl)) (pgs_cons (pg_name (i := 4) nd rfl (Or.inl rfl)) pgs_nil))) (fun _ _ _ _ _ => pts_nil) (fun _ _ _ _ _ => pv 4) (fun _ _ _ _ _ => pv 5)))
      (pss_one (ps_ret (pe_lc (own := [("letter", 4)]) (g := gName 4) (by rfl) nd (pi_str (pv 1)) (blkOk_by (N := nCols) (sc := defScope sCols) (own := [("letter", 4)]) (by decide +kernel)) (fun _ _ _ _ _ => pg_name (i := 4) nd rfl (Or.inl rfl)) (fun _ _ _ _ _ => pts_nil)
          (fun _ _ _ _ _ => pe_dget2 hu1 (pv 3) (pv 4) (pe_callB call_len_str (by rfl) z_len boot_len (pa_cons (pv 2) pa_nil)) ⟨rfl, rfl, rfl, rfl⟩)))))), ?_⟩
    refine ⟨fun σ' H' => σ' = [some (.ref x), some (.str y), some (.str z), none, none, none] ∧ H = H', ?_, ?_⟩
    · rcases hx with ⟨m, ha, rfl⟩ | ⟨m, ha, rfl⟩
      · exact .inl ⟨_, rfl, x, m, rfl, ha, rfl, rfl⟩
      · exact .inr ⟨_, rfl, x, m, rfl, ha, rfl, rfl⟩
    rintro σ' _ ⟨rfl, rfl⟩
    have lz : z.length ≤ 26 := lz0
    have sz : z.cps.size = (cz z).length := by simp
    have lcz := cz_len z
    refine ⟨_, rfl, z, rfl, az, fun D nD => dc_it walk_enumS (fun i H' => Same H H' ∧ ∃ kvs : List (Key × V), H' D = some (.dK kvs) ∧ kvs.length ≤ i ∧ ∀ c : Nat, valV kvs (.inr ⟨#[c]⟩) = if (cz z).idxOf c < i then some (.int (((cz z).idxOf c : Nat) : Int)) else none)
      ⟨same_new nD, [], upd_same, Nat.le_refl _, fun c => by rw [if_neg (by omega)]; rfl⟩ (fun _ _ _ _ => trivial) ?_ ?_⟩
    · rintro i v H' H2 hi ⟨sm, kvs, hD, lk, hv⟩ ⟨T', a, b, rfl, nT, rfl, ea, eb⟩
      obtain rfl : V.int (i : Nat) = a := Option.some.inj ea
      obtain ⟨c, ec, rfl⟩ := Option.map_eq_some_iff.mp eb
      rw [cz_at] at ec
      have ic := idx_at nz ec
      have li := (List.getElem?_eq_some_iff.mp ec).1
      have sT := same_new (o := .tup [.int (i : Nat), .str ⟨#[c]⟩]) nT
      refine ⟨T', _, rfl, SqT.of upd_same, rfl, _, _, rfl, _, _, rfl, rfl, rfl, ?_⟩
      refine ⟨_, rfl, _, rfl, kvs, .inr ⟨#[c]⟩, rfl, sT _ _ hD, small1000 (by omega), fun d o e => ?_, _, upd_same, Nat.le_trans (length_putK _ _ _) (by omega), fun c2 => ?_⟩
      · rw [upd_ne (ne_of_none (H := H) e nD)]
        exact sT _ _ (sm _ _ e)
      · rw [valV_put]
        by_cases e : c2 = c
        · subst e
          rw [if_pos rfl, ic, if_pos (by omega)]
        · have ne : ¬ ((.inr ⟨#[c2]⟩ : Key) = .inr ⟨#[c]⟩) := fun h => e (by
            have := Str.mk.inj (Sum.inr.inj h)
            simpa using this)
          rw [if_neg ne, hv]
          have ni : (cz z).idxOf c2 ≠ i := fun h => by
            have l2 : (cz z).idxOf c2 < (cz z).length := by omega
            have e2 : (cz z)[(cz z).idxOf c2] = c2 := List.getElem_idxOf l2
            obtain ⟨h3, e4⟩ := List.getElem?_eq_some_iff.mp ec
            apply e
            rw [← e2, ← e4]
            congr 1
          by_cases h : (cz z).idxOf c2 < i
          · rw [if_pos h, if_pos (by omega)]
          · rw [if_neg h, if_neg (by omega)]
    rintro H1 ⟨sm, kvs, hD, lk, hv⟩
    refine ⟨_, rfl, y, rfl, fun D2 nD2 => lc_it walk_str (fun i H' => Same H1 H' ∧ H' D2 = some (.lst ((natI ((colsN z y).take i)).map V.int))) ⟨same_new nD2, upd_same⟩ (fun _ _ _ _ => trivial) ?_ ?_⟩
    · rintro i v H' H2 hi ⟨s2, hD2⟩ ⟨rfl, c, ec, rfl⟩
      rw [cz_at] at ec
      have li := (List.getElem?_eq_some_iff.mp ec).1
      have ly2 := cz_len y
      have egd : (valV kvs (.inr ⟨#[c]⟩)).getD (V.int (z.length : Int)) = .int (((cz z).idxOf c : Nat) : Int) := by
        rw [hv, sz]
        by_cases h : (cz z).idxOf c < (cz z).length
        · rw [if_pos h]
          rfl
        · rw [if_neg h]
          have := List.idxOf_le_length (a := c) (l := cz z)
          show V.int (z.length : Int) = _
          rw [cz_len z, show (cz z).idxOf c = (cz z).length by omega]
      refine ⟨rfl, ?_⟩
      refine ⟨_, rfl, D, rfl, .inl ⟨kvs, .inl (s2 _ _ hD)⟩, _, rfl, _, rfl, z, rfl, by omega, _, DGet.k (k := .inr ⟨#[c]⟩) (s2 _ _ hD), _, hD2, ?_, fun d o e => ?_, ?_⟩
      · rw [List.length_map, natI_len, List.length_take]
        omega
      · rw [upd_ne (ne_of_none (H := H1) e nD2)]
        exact s2 _ _ e
      · rw [upd_same, egd]
        have et : (colsN z y)[i]? = some ((cz z).idxOf c) := by
          unfold colsN
          rw [List.getElem?_map, ec]
          rfl
        rw [List.take_add_one, et]
        unfold natI
        rw [List.map_append, List.map_append]
        rfl
    · rintro H' ⟨s2, hD2⟩
      have ly2 : y.cps.size = (colsN z y).length := by simp [colsN]
      rw [ly2, List.take_length] at hD2
      refine q H' D2 (sm.trans s2) ?_ hD2
      cases e : H D2 with
      | none => rfl
      | some o =>
        rw [sm _ _ e] at nD2
        cases nD2
end
end KJ
set_option Elab.async false
set_option linter.all false
set_option maxRecDepth 100000
set_option maxHeartbeats 1000000
namespace KJ
open PySem PySem.Spec PyProof.Rows L2 XV NM XT XA LamX
/-! ### the parts that a maker makes -/
def enAt (R : List (List En)) (s k : Nat) : En := (R.getD s []).getD k ⟨0, "", false⟩
def pstep (z : Str) (R : List (List En)) (st : Nat × List Str) (c : Nat) : Nat × List Str := ((enAt R st.1 ((cz z).idxOf c)).s, st.2 ++ ((enAt R st.1 ((cz z).idxOf c)).w :: if (enAt R st.1 ((cz z).idxOf c)).b then [⟨#[c]⟩] else []))
def prun (m : Mm) (s : Nat) (cs : List Nat) : Nat × List Str := cs.foldl (pstep m.z m.R) (s, [])
theorem prun_snoc (m : Mm) (s : Nat) (cs : List Nat) (c : Nat) : prun m s (cs ++ [c]) = pstep m.z m.R (prun m s cs) c := by
  unfold prun
  rw [List.foldl_append]
  rfl
theorem prun_take {m : Mm} {s i c : Nat} {cs : List Nat} (h : cs[i]? = some c) : prun m s (cs.take (i + 1)) = pstep m.z m.R (prun m s (cs.take i)) c := by
  rw [List.take_add_one, h]
  exact prun_snoc m s _ c
theorem en_get {m : Mm} (ok : MmOk m) {s : Nat} (hs : s < m.R.length) (c : Nat) : ∃ row, m.R[s]? = some row ∧ row[(cz m.z).idxOf c]? = some (enAt m.R s ((cz m.z).idxOf c)) ∧ (enAt m.R s ((cz m.z).idxOf c)).s < m.R.length ∧ shortV (.str (enAt m.R s ((cz m.z).idxOf c)).w) = true := by
  have e1 : m.R[s]? = some m.R[s] := List.getElem?_eq_getElem hs
  obtain ⟨h1, h2⟩ := ok.rw _ (List.getElem_mem hs)
  have hc : (cz m.z).idxOf c ≤ (cz m.z).length := List.idxOf_le_length
  rw [← cz_len] at hc
  have lc : (cz m.z).idxOf c < m.R[s].length := by omega
  have e2 : m.R[s][(cz m.z).idxOf c]? = some m.R[s][(cz m.z).idxOf c] := List.getElem?_eq_getElem lc
  have e3 : enAt m.R s ((cz m.z).idxOf c) = m.R[s][(cz m.z).idxOf c] := by
    unfold enAt
    have e4 : m.R.getD s [] = m.R[s] := by
      rw [List.getD_eq_getElem?_getD, e1]
      rfl
    rw [e4, List.getD_eq_getElem?_getD, e2]
    rfl
  rw [e3]
  obtain ⟨h3, h4⟩ := h2 _ (List.getElem_mem lc)
  exact ⟨_, e1, e2, h3, h4⟩
theorem prun_ok {m : Mm} (ok : MmOk m) {s : Nat} (hs : s < m.R.length) (cs : List Nat) : ∀ i, i ≤ cs.length → (prun m s (cs.take i)).1 < m.R.length ∧ (prun m s (cs.take i)).2.length ≤ 2 * i ∧ ∀ y ∈ (prun m s (cs.take i)).2, y.length ≤ 2000
  | 0, _ => ⟨hs, Nat.le_refl _, fun y hy => by cases hy⟩
  | i + 1, hi => by
    obtain ⟨h1, h2, h3⟩ := prun_ok ok hs cs i (by omega)
    have ec : cs[i]? = some (cs[i]'(by omega)) := List.getElem?_eq_getElem (by omega)
    rw [prun_take ec]
    obtain ⟨row, _, _, e3, e4⟩ := en_get ok h1 (cs[i]'(by omega))
    refine ⟨e3, ?_, fun y hy => ?_⟩
    · show (_ ++ (_ :: if _ then _ else _)).length ≤ _
      rw [List.length_append, List.length_cons]
      split
      · show _ + (1 + 1) ≤ _
        omega
      · show _ + (0 + 1) ≤ _
        omega
    · rcases List.mem_append.mp hy with h | h
      · exact h3 y h
      · rcases List.mem_cons.mp h with h | h
        · rw [h]
          exact short_len e4
        · split at h
          · rw [List.mem_singleton.mp h]
            show 1 ≤ 2000; decide
          · cases h
theorem prun_all {m : Mm} (ok : MmOk m) {s : Nat} (hs : s < m.R.length) (cs : List Nat) : (prun m s cs).1 < m.R.length ∧ (prun m s cs).2.length ≤ 2 * cs.length ∧ ∀ y ∈ (prun m s cs).2, y.length ≤ 2000 := by
  have h := prun_ok ok hs cs cs.length (Nat.le_refl _)
  rw [List.take_length] at h
  exact h
abbrev sParts : Stmt := top 39
abbrev nParts : List Str := ["maker", "state", "word", "rows", "parts", "letter", "column", "made", "itself"]
theorem scParts : FnScope nParts ["maker", "state", "word"] (defScope sParts) := ⟨rfl, rfl, rfl, by decide +kernel, rfl, by decide +kernel, by decide +kernel⟩
abbrev sLop : Stmt := top 40
theorem scLop : FnScope ["parts", "part"] ["parts"] (defScope sLop) := ⟨rfl, rfl, rfl, by decide +kernel, rfl, by decide +kernel, by decide +kernel⟩
def spParts (C : Addr) : Sp := fun vs H Q _ => ∃ (x : Addr) (m : Mm) (s : Nat) (y : Str), vs = [.ref x, .int s, .str y] ∧ Ma C H x m ∧ MmOk m ∧ s < m.R.length ∧ y.length ≤ 20001 ∧ ∀ (H' : Hp) (t l : Addr), Same H H' → H' t = some (.tup [.int ((prun m s (cz y)).1 : Nat), .ref l]) → H l = none → H' l = some (.lst ((prun m s (cz y)).2.map V.str)) → Q (.ref t) H'
def spLop : Sp := fun vs H Q _ => ∃ (l : Addr) (ps : List Str), vs = [.ref l] ∧ H l = some (.lst (ps.map V.str)) ∧ ps.length ≤ 50000 ∧ (∀ y ∈ ps, y.length ≤ 100000) ∧ ∀ H', Same H H' → Q (.int (((ps.map (·.length)).sum : Nat) : Int)) H'
theorem sum_cast : ∀ ps : List Str, (ps.map fun y => (y.length : Int)).sum = (((ps.map (·.length)).sum : Nat) : Int)
  | [] => rfl
  | y :: ps => by
    rw [List.map_cons, List.sum_cons, sum_cast ps, List.map_cons, List.sum_cons, Int.natCast_add]
section
variable {P : Program} {w : World} {K : PySem.W.Frag} {mg : Str → Option Value} {base : Heap} {f : Addr} {fd : FuncData} {C CM : Addr}
theorem ok_parts (F : FnP K "parts_made" sParts f fd) (TM : MT K mg CM) (o_rowsM : OkMa P w K mg base CM "rows" (spRowsM CM)) (o_cols : Ok P w K mg base "columns_of" 2 ["machine", "word"] (spCols2 C CM)) (z_zip : mg "zip" = none) : FnOk P w K mg base CX0 3 f fd ["maker", "state", "word"] (spParts CM) := by
  have nd := scParts.nd
  refine F.ok scParts (fun vs H Q E h => ?_) (fun cdv A outer s H vs Q E hr h => ?_)
  · obtain ⟨x, m, s0, y, rfl, _⟩ := h
    rfl
  · obtain ⟨x, m, s0, y, rfl, hx, ok, hs, ly, q⟩ := h
    have szl := sizeLine_eq
    have r2 : Room 2 (A.deeper (envOfC "parts_made" (defScope sParts) s.heap.objs.size f cdv)) := hr
    have r1 := r2.mono (by decide : 1 ≤ 2)
    refine ⟨_, PSs.nox (pss_cons (ps_par (i := 3) (j := 4) rfl nd rfl rfl (by decide) rfl rfl (pa_cons (pe_rowsM o_rowsM TM (pv 0) r1) (pa_cons (pe_lst pa_nil) pa_nil)) (by rfl))
      (pss_cons (ps_for PassesOwn.never rfl (pi_zipS (by rfl) z_zip (pa_cons (pv 2) (pa_cons (pe_callO o_cols r2 (by rfl) (pa_cons (pv 0) (pa_cons (pv 2) pa_nil))) pa_nil))) (pg_tup rfl (pgs_cons (pg_name (i := 5) nd rfl (Or.inl rfl)) (pgs_cons (pg_name (i := 6) nd rfl (Or.inl rfl)) pgs_nil)))
        (pss_cons (ps_asg (pe_ix ix_list (pe_ix ix_list (pv 3) (pv 1) (fun _ _ => rfl)) (pv 6) (fun _ _ => rfl)) (pg_tup rfl (pgs_cons (pg_name (i := 1) nd rfl (Or.inl rfl)) (pgs_cons (pg_name (i := 7) nd rfl (Or.inl rfl)) (pgs_cons (pg_name (i := 8) nd rfl (Or.inl rfl)) pgs_nil)))))
        (pss_cons (ps_expr (pe_bm PySem.F.plainAttrs_list PySem.F.slot_list_append PySem.F.type_list_append mt_append (pv 4) (pa_cons (pv 7) pa_nil)))
        (pss_one (ps_if (pt_val (pv 8)) (pss_one (ps_expr (pe_bm PySem.F.plainAttrs_list PySem.F.slot_list_append PySem.F.type_list_append mt_append (pv 4) (pa_cons (pv 5) pa_nil)))) pss_nil)))))
      (pss_one (ps_ret (pe_tup (pa_cons (pv 1) (pa_cons (pv 4) pa_nil))))))), ?_⟩
    have lz := ok.lz
    refine ⟨_, rfl, x, m, rfl, hx, ok.r2, fun r hr2 => by have := (ok.rw r hr2).1; omega, fun H1 p s1 rn => ⟨(by show 0 ≤ sizeLine; omega), fun l nl => ⟨_, _, rfl, ?_⟩⟩⟩
    have hda := rn.dS fun a xs e => s1 _ _ e
    have s2 := same_new (o := .lst []) nl
    have hl2 : upd H1 l (.lst []) l = some (.lst []) := upd_same
    have nlH := was_none s1 nl
    generalize upd H1 l (.lst []) = H2 at *
    have S2 := s1.trans s2
    refine ⟨_, rfl, _, rfl, _, rfl, x, m.z, y, rfl, .inr ⟨m, hx.keep S2, rfl⟩, ⟨ok.nd, ok.lz, ok.ascii⟩, by omega, fun H3 cp s3 ncp hcp => ?_⟩
    have hl3 := s3 _ _ hl2
    have cl : cp ≠ l := Ne.symm (ne_of_none hl2 ncp)
    have sG : Same H1 (rm l H3) := fun b o e => by
      unfold rm
      rw [if_neg (ne_of_none e nl)]
      exact s3 _ _ (s2 _ _ e)
    have hcpG : rm l H3 cp = some (.lst ((natI (colsN m.z y)).map V.int)) := by
      unfold rm
      rw [if_neg cl]
      exact hcp
    have nlG : rm l H3 l = none := rm_at
    have hda := hda.keep sG
    have S03 : Same H (rm l H3) := s1.trans sG
    have lcz := cz_len y
    have lcol : ((natI (colsN m.z y)).map V.int).length = y.length := by
      rw [List.length_map, natI_len]
      unfold colsN
      rw [List.length_map, lcz]
    have hn : y.cps.size = ((natI (colsN m.z y)).map V.int).length := by
      rw [lcol]
      rfl
    obtain ⟨p', xs, ep, hxs, hP, lx⟩ := da_rs hda
    cases ep
    refine ⟨y, cp, _, rfl, SqL.of hcp, for_it (walk_zipS hn) (fun i σ H' => (∃ x5 x6 x7 x8, σ = [some (.ref x), some (.int ((prun m s0 ((cz y).take i)).1 : Nat)), some (.str y), some (.ref p), some (.ref l), x5, x6, x7, x8]) ∧ Same (rm l H3) H' ∧ H' l = some (.lst ((prun m s0 ((cz y).take i)).2.map V.str))) ⟨⟨_, _, _, _, rfl⟩, rm_s, hl3⟩ (fun i σ H' _ z => SqL.of (z.2.1 _ _ hcpG)) ?_ ?_⟩
    · rintro i v σ H4 H5 hi ⟨⟨x5, x6, x7, x8, rfl⟩, s4, hl4⟩ ⟨T, c, w, rfl, nT, rfl, ec, ew⟩
      rw [cz_at] at ec
      have li : i < (cz y).length := (List.getElem?_eq_some_iff.mp ec).1
      obtain rfl : w = .int (((cz m.z).idxOf c : Nat) : Int) := by
        rw [List.getElem?_map, natI_get] at ew
        unfold colsN at ew
        rw [List.getElem?_map, ec] at ew
        exact (Option.some.inj ew).symm
      have sT := same_new (o := .tup [.str ⟨#[c]⟩, .int (((cz m.z).idxOf c : Nat) : Int)]) nT
      refine ⟨T, _, rfl, SqT.of upd_same, rfl, _, _, rfl, _, _, rfl, rfl, ?_⟩
      have s5 := s4.trans sT
      have hl5 := sT _ _ hl4
      generalize upd H4 T (.tup [.str ⟨#[c]⟩, .int (((cz m.z).idxOf c : Nat) : Int)]) = H5 at *
      obtain ⟨st1, st2, st3⟩ := prun_ok ok hs (cz y) i (by omega)
      rw [prun_take ec]
      generalize prun m s0 ((cz y).take i) = st at *
      obtain ⟨row, er, ee, es, ew2⟩ := en_get ok st1 c
      have ex : xs[st.1]? = some (xs[st.1]'(by omega)) := List.getElem?_eq_getElem (by omega)
      obtain ⟨b, row', ys, eb, er', hb, hy⟩ := rs_at hP ex
      rw [er] at er'
      cases er'
      rw [eb] at ex
      obtain ⟨t, ey, ht⟩ := en_at hy ee
      refine ⟨_, rfl, _, rfl, p, xs, _, _, rfl, rfl, SqL.of (s5 _ _ hxs), atI_nat ex, _, rfl, b, ys, _, _, rfl, rfl, SqL.of (s5 _ _ hb), atI_nat ey, t, _, rfl, SqT.of (s5 _ _ ht), rfl, _, _, rfl, _, _, rfl, _, _, rfl, rfl, ?_⟩
      have hlu := hl5
      refine ⟨_, rfl, .inl ⟨rfl, _, SqL.of hl5⟩, _, rfl, l, _, .str (enAt m.R st.1 ((cz m.z).idxOf c)).w, rfl, rfl, hl5, (by rw [List.length_map]; omega), ?_⟩
      have s6 : ∀ o, Same (rm l H3) (upd H5 l o) := fun o b u e => by
        rw [upd_ne (ne_of_none e nlG)]
        exact s5 _ _ e
      refine ⟨_, rfl, (enAt m.R st.1 ((cz m.z).idxOf c)).b, rfl, ?_⟩
      cases eb2 : (enAt m.R st.1 ((cz m.z).idxOf c)).b with
      | false =>
        refine iteF ⟨⟨_, _, _, _, rfl⟩, s6 _, ?_⟩
        rw [upd_same]
        show _ = some (HO.lst ((st.2 ++ (_ :: if (enAt m.R st.1 ((cz m.z).idxOf c)).b then [(⟨#[c]⟩ : Str)] else [])).map V.str))
        rw [eb2, List.map_append]
        rfl
      | true =>
        refine iteT ⟨_, rfl, .inl ⟨rfl, _, SqL.of upd_same⟩, _, rfl, l, _, .str ⟨#[c]⟩, rfl, rfl, upd_same, (by rw [List.length_append, List.length_map]; show st.2.length + 1 < _; omega), ⟨_, _, _, _, rfl⟩, fun b u e => ?_, ?_⟩
        · rw [upd_ne (ne_of_none e nlG)]
          exact s6 _ _ _ e
        · rw [upd_same]
          show _ = some (HO.lst ((st.2 ++ (_ :: if (enAt m.R st.1 ((cz m.z).idxOf c)).b then [(⟨#[c]⟩ : Str)] else [])).map V.str))
          rw [eb2, List.map_append, List.append_assoc]
          rfl
    · rintro σ H4 ⟨⟨x5, x6, x7, x8, rfl⟩, s4, hl4⟩
      have et : (cz y).take ((natI (colsN m.z y)).map V.int).length = cz y := by
        rw [lcol, lcz, List.take_length]
      rw [et] at hl4 ⊢
      refine ⟨_, rfl, _, rfl, (by show 2 ≤ sizeLine; omega), fun t nt => ?_⟩
      have s5 := same_new (o := .tup [.int ((prun m s0 (cz y)).1 : Nat), .ref l]) nt
      exact q _ t l ((S03.trans s4).trans s5) upd_same nlH (s5 _ _ hl4)
theorem ok_lop (F : FnP K "letters_of_parts" sLop f fd) (z_sum : mg "sum" = none) (z_len : mg "len" = none) : FnOk P w K mg base CX0 1 f fd ["parts"] spLop := by
  have nd := scLop.nd
  refine F.ok scLop (fun vs H Q E h => ?_) (fun cdv A outer s H vs Q E hr h => ?_)
  · obtain ⟨l, ps, rfl, _⟩ := h
    rfl
  · obtain ⟨l, ps, rfl, hl, lp, ls, q⟩ := h
    have szl := sizeLine_eq
    refine ⟨_, PSs.nox (pss_one (ps_ret (pe_callB (cr_sum rfl) (by rfl) z_sum (by decide +kernel) (pa_cons (pe_lc (own := [("part", 1)]) (g := gName 1) (by rfl) nd (pi_list (pv 0)) (blkOk_by (N := ["parts", "part"]) (sc := defScope sLop) (own := [("part", 1)]) (by decide +kernel)) (fun _ _ _ _ _ => pg_name (i := 1) nd rfl (Or.inl rfl)) (fun _ _ _ _ _ => pts_nil)
      (fun _ _ _ _ _ => pe_callB call_len_str (by rfl) z_len boot_len (pa_cons (pv 1) pa_nil))) pa_nil)))), ?_⟩
    refine ⟨_, rfl, l, rfl, ⟨_, SqL.of hl⟩, fun D nD => lc_list (K := K) (a := l) (xs := ps.map V.str) (fun i H' => Same H H' ∧ H' D = some (.lst (((ps.take i).map fun y => (y.length : Int)).map V.int))) ⟨same_new nD, upd_same⟩ (fun i H' _ p => SqL.of (p.1 _ _ hl)) ?_ ?_⟩
    · rintro i y H' hi ⟨sm, hD⟩
      rw [List.getElem?_map] at hi
      obtain ⟨z, ez, rfl⟩ := Option.map_eq_some_iff.mp hi
      have li := (List.getElem?_eq_some_iff.mp ez).1
      have lz := ls z (List.mem_of_getElem? ez)
      refine ⟨rfl, _, rfl, z, rfl, by omega, _, hD, ?_, fun b o e => ?_, ?_⟩
      · rw [List.length_map, List.length_map, List.length_take]
        omega
      · rw [upd_ne (ne_of_none (H := H) e nD)]
        exact sm _ _ e
      · rw [upd_same, List.take_add_one, ez, List.map_append, List.map_append]
        rfl
    · rintro H' ⟨sm, hD⟩
      rw [List.length_map, List.take_length] at hD
      refine ⟨D, ps.map fun y => (y.length : Int), rfl, SqL.of hD, ?_⟩
      rw [sum_cast]
      exact q H' sm
end
end KJ
set_option Elab.async false
set_option linter.all false
set_option maxRecDepth 100000
set_option maxHeartbeats 1000000
namespace KJ
open PySem PySem.Spec PyProof.Rows L2 XV NM XT XA LamX
/-! ### the word that a maker makes; the automaton of its states -/
def madeP (m : Mm) (y : Str) : List Str := (prun m m.s (cz y)).2 ++ [m.cl.getD (prun m m.s (cz y)).1 ""]
def tot (ps : List Str) : Nat := (ps.map (·.length)).sum
def stA (m : Mm) : Am := ⟨m.z, m.R.map (fun r => r.map (·.s)), m.s, []⟩
theorem stA_ok {m : Mm} (ok : MmOk m) : AmOk (stA m) := by
  have l : (m.R.map fun r => r.map (·.s)).length = m.R.length := List.length_map _
  refine ⟨ok.al, ok.ascii, ok.lz, ?_, ?_, fun r hr => ?_, ?_, fun x hx => (by cases hx), .nil⟩
  · show 1 ≤ (m.R.map _).length
    rw [l]
    exact ok.r1
  · show (m.R.map _).length ≤ 12
    rw [l]
    exact ok.r2
  · show _ ∧ ∀ x ∈ r, x < (m.R.map _).length
    rw [l]
    obtain ⟨row, hrow, rfl⟩ := List.mem_map.mp hr
    obtain ⟨h1, h2⟩ := ok.rw row hrow
    refine ⟨by rw [List.length_map]; exact h1, fun x hx => ?_⟩
    obtain ⟨e, he, rfl⟩ := List.mem_map.mp hx
    exact (h2 e he).1
  · show m.s < (m.R.map _).length
    rw [l]
    exact ok.hs
abbrev sMade : Stmt := top 33
abbrev nMade : List Str := ["maker", "word", "state", "parts"]
theorem scMade : FnScope nMade ["maker", "word"] (defScope sMade) := ⟨rfl, rfl, rfl, by decide +kernel, rfl, by decide +kernel, by decide +kernel⟩
abbrev sStates : Stmt := top 32
abbrev nStates : List Str := ["maker", "rows", "row", "state", "_"]
theorem scStates : FnScope nStates ["maker"] (defScope sStates) := ⟨rfl, rfl, rfl, by decide +kernel, rfl, by decide +kernel, by decide +kernel⟩
abbrev scSO : Scope := { kind := .function, names := [(Str.ofString ".0", .local), (Str.ofString "row", .local)], isGenerator := false, isCoroutine := false }
abbrev scSI : Scope := { kind := .function, names := [(Str.ofString ".0", .local), (Str.ofString "state", .local), (Str.ofString "_", .local)], isGenerator := false, isCoroutine := false }
theorem blkS : BlkOk nStates scSO scSI [("state", 3), ("_", 4)] := blkOk_by (by decide +kernel)
def spMade (K : PySem.W.Frag) (C : Addr) : Sp := fun vs H Q E => ∃ u v, vs = [u, v] ∧ ((NoA K H u ∧ Rz E H (CF K 4) u) ∨ ∃ x m, u = .ref x ∧ Ma C H x m ∧ MmOk m ∧ Kn H v ∧ (∀ y, v = .str y → y.length ≤ 100000) ∧ ((wordV v = false ∧ Rz E H (CF K 3) v) ∨
  (wordV v = true ∧ ∀ y, v = .str y → (20000 < tot (madeP m y) ∧ Rz E H (CF K 5) (.int (tot (madeP m y) : Nat))) ∨ (tot (madeP m y) ≤ 20000 ∧ ∀ H', Same H H' → Q (.str (Txt.join "" (madeP m y))) H'))))
def spStates (K : PySem.W.Frag) (CA CM : Addr) : Sp := fun vs H Q E => ∃ u, vs = [u] ∧ ((NoA K H u ∧ Rz E H (CF K 4) u) ∨ ∃ x m, u = .ref x ∧ Ma CM H x m ∧ MmOk m ∧ ∀ (H' : Hp) (p : Addr), Same H H' → Au CA H' p (stA m) → Q (.ref p) H')
theorem made_small {m : Mm} (ok : MmOk m) (y : Str) : (madeP m y).length ≤ 2 * y.length + 1 ∧ (∀ w ∈ madeP m y, w.length ≤ 2000) ∧ (prun m m.s (cz y)).1 < m.R.length := by
  obtain ⟨h1, h2, h3⟩ := prun_all ok ok.hs (cz y)
  have ly := cz_len y
  refine ⟨?_, fun w hw => ?_, h1⟩
  · unfold madeP
    rw [List.length_append]
    show _ + 1 ≤ _
    omega
  · unfold madeP at hw
    rcases List.mem_append.mp hw with h | h
    · exact h3 w h
    · rw [List.mem_singleton.mp h]
      have lc := ok.lc
      have e1 : m.cl[(prun m m.s (cz y)).1]? = some (m.cl[(prun m m.s (cz y)).1]'(by omega)) := List.getElem?_eq_getElem (by omega)
      rw [List.getD_eq_getElem?_getD, e1]
      exact short_len (ok.hc _ (List.getElem_mem _))
section
variable {P : Program} {w : World} {K : PySem.W.Frag} {mg : Str → Option Value} {base : Heap} {f : Addr} {fd : FuncData} {C CM : Addr}
theorem ok_made (F : FnP K "made_word" sMade f fd) (TM : MT K mg CM) (Z : ClF P w K mg base) (o_reqM : OkX P w K mg base "require_maker" 3 ["maker"] (spReqM K CM)) (o_word : Ok P w K mg base "is_word" 2 ["value"] spIsWord) (o_parts : Ok P w K mg base "parts_made" 3 ["maker", "state", "word"] (spParts CM))
    (o_startM : OkMa P w K mg base CM "start" (spStartM CM)) (o_closM : OkMa P w K mg base CM "closing" (spClosM CM)) (o_lop : Ok P w K mg base "letters_of_parts" 1 ["parts"] spLop) {tM : Tok} (h_LW : mg "LONGEST_WORD" = some (.int 20000 tM)) : FnOk P w K mg base (L2.CX P w) 4 f fd ["maker", "word"] (spMade K CM) := by
  have nd := scMade.nd
  refine F.ok scMade (fun vs H Q E h => ?_) (fun cdv A outer s H vs Q E hr h => ?_)
  · obtain ⟨u, v, rfl, _⟩ := h
    rfl
  · obtain ⟨u, v, rfl, h⟩ := h
    obtain ⟨fI3, fdI3, XW⟩ := Z.x 3 (by decide)
    have XW : XCls P w K mg base "InvalidWord" "value" (CF K 3) fI3 fdI3 := XW
    obtain ⟨fI5, fdI5, XL⟩ := Z.x 5 (by decide)
    have XL : XCls P w K mg base "TooLong" "value" (CF K 5) fI5 fdI5 := XL
    have szl := sizeLine_eq
    have r3 : Room 3 (A.deeper (envOfC "made_word" (defScope sMade) s.heap.objs.size f cdv)) := hr
    have r2 := r3.mono (by decide : 2 ≤ 3)
    have r1 := r3.mono (by decide : 1 ≤ 3)
    refine ⟨_, (pss_cons (ps_expr (pe_callX (E := E) o_reqM (takes_of rfl rfl rfl rfl) r3 (by rfl) (pa_cons (pv 0) pa_nil)))
      (pss_cons (ps_if (pt_not (pt_val (pe_callO o_word r2 (by rfl) (pa_cons (pv 1) pa_nil)))) (pss_one (ps_raiseX (nm := "InvalidWord") rfl XW r2 (takes_of rfl rfl rfl rfl) (by rfl) (pv 1))) pss_nil)
      (pss_cons (ps_asg (pe_callO o_parts r3 (by rfl) (pa_cons (pv 0) (pa_cons (pe_startM o_startM TM (pv 0) r1) (pa_cons (pv 1) pa_nil)))) (pg_tup rfl (pgs_cons (pg_name (i := 2) nd rfl (Or.inl rfl)) (pgs_cons (pg_name (i := 3) nd rfl (Or.inl rfl)) pgs_nil))))
      (pss_cons (ps_expr (pe_bm PySem.F.plainAttrs_list PySem.F.slot_list_append PySem.F.type_list_append mt_append (pv 3) (pa_cons (pe_ix ix_list (pe_closM o_closM TM (pv 0) r1) (pv 2) (fun _ _ => rfl)) pa_nil)))
      (pss_cons (ps_if (pt_cmpR op_gt (pe_callO o_lop r1 (by rfl) (pa_cons (pv 3) pa_nil)) (pe_glob (v := .int 20000) (by rfl) h_LW ⟨_, rfl⟩) (nomark _)) (pss_one (ps_raiseX (nm := "TooLong") rfl XL r2 (takes_of rfl rfl rfl rfl) (by rfl) (pe_callO o_lop r1 (by rfl) (pa_cons (pv 3) pa_nil)))) pss_nil)
      (pss_one (ps_ret (pe_join pe_str (pv 3))))))))), ?_⟩
    rcases h with ⟨n, r⟩ | ⟨x, m, rfl, hx, ok, kn, lv, h⟩
    · exact ⟨_, rfl, _, rfl, .inr ⟨n, r⟩⟩
    refine ⟨_, rfl, _, rfl, .inl ⟨x, m, rfl, hx, ?_⟩⟩
    refine ⟨_, rfl, v, rfl, kn, lv, ?_⟩
    rcases h with ⟨e, r⟩ | ⟨e, h⟩
    · rw [e]
      exact ⟨false, rfl, iteT ⟨_, rfl, fun d nd => r H d (Same.refl _) nd⟩⟩
    rw [e]
    refine ⟨true, rfl, iteF ?_⟩
    obtain ⟨y, rfl, ly⟩ := wordV_str e
    have h := h y rfl
    obtain ⟨h1, h2, h3⟩ := made_small ok y
    obtain ⟨p1, p2, p3⟩ := prun_all ok ok.hs (cz y)
    have lcz := cz_len y
    refine ⟨_, rfl, _, rfl, x, m, rfl, hx, _, rfl, x, m, m.s, y, rfl, hx, ok, ok.hs, by omega, fun H1 t l s1 ht nl hl => ?_⟩
    refine ⟨t, _, rfl, SqT.of ht, rfl, _, _, rfl, _, _, rfl, rfl, ?_⟩
    refine ⟨_, rfl, .inl ⟨rfl, _, SqL.of hl⟩, _, rfl, x, m, rfl, hx.keep s1, fun c nc => ?_⟩
    have s2 := same_new (o := .lst (m.cl.map V.str)) nc
    have hl2 := s2 _ _ hl
    have lc := ok.lc
    have e1 : m.cl[(prun m m.s (cz y)).1]? = some (m.cl.getD (prun m m.s (cz y)).1 "") := by
      have e1 : m.cl[(prun m m.s (cz y)).1]? = some (m.cl[(prun m m.s (cz y)).1]'(by omega)) := List.getElem?_eq_getElem (by omega)
      rw [List.getD_eq_getElem?_getD, e1]
      rfl
    have e2 : (m.cl.map V.str)[(prun m m.s (cz y)).1]? = some (.str (m.cl.getD (prun m m.s (cz y)).1 "")) := by
      rw [List.getElem?_map, e1]
      rfl
    refine ⟨_, rfl, c, _, _, _, rfl, rfl, SqL.of upd_same, atI_nat e2, l, _, .str (m.cl.getD (prun m m.s (cz y)).1 ""), rfl, rfl, hl2, (by rw [List.length_map]; omega), ?_⟩
    have s3 : Same H (upd (upd H1 c (.lst (m.cl.map V.str))) l (.lst ((prun m m.s (cz y)).2.map V.str ++ [.str (m.cl.getD (prun m m.s (cz y)).1 "")]))) := fun b o e => by
      rw [upd_ne (ne_of_none e nl)]
      exact s2 _ _ (s1 _ _ e)
    have hl3 : upd (upd H1 c (.lst (m.cl.map V.str))) l (.lst ((prun m m.s (cz y)).2.map V.str ++ [.str (m.cl.getD (prun m m.s (cz y)).1 "")])) l = some (.lst ((madeP m y).map V.str)) := by
      rw [upd_same]
      unfold madeP
      rw [List.map_append]
      rfl
    generalize upd (upd H1 c (.lst (m.cl.map V.str))) l (.lst ((prun m m.s (cz y)).2.map V.str ++ [.str (m.cl.getD (prun m m.s (cz y)).1 "")])) = H3 at *
    have l50 : (madeP m y).length ≤ 50000 := by omega
    have ls : ∀ w ∈ madeP m y, w.length ≤ 100000 := fun w hw => by
      have := h2 w hw
      omega
    refine ⟨_, rfl, l, madeP m y, rfl, hl3, l50, ls, fun H4 s4 => ?_⟩
    refine ⟨_, _, rfl, rfl, _, rfl, ite2 (fun c => ?_) (fun c => ?_)⟩
    · rcases h with ⟨hb, r⟩ | ⟨hb, q⟩
      · refine ⟨_, rfl, l, madeP m y, rfl, s4 _ _ hl3, l50, ls, fun H5 s5 => fun d nd => r H5 d ((s3.trans s4).trans s5) nd⟩
      · have := of_decide_eq_true c
        have hb : ((madeP m y).map (·.length)).sum ≤ 20000 := hb
        omega
    · rcases h with ⟨hb, r⟩ | ⟨hb, q⟩
      · exact absurd (decide_eq_true (show ((((madeP m y).map (·.length)).sum : Nat) : Int) > 20000 from by have hb : 20000 < ((madeP m y).map (·.length)).sum := hb; omega)) c
      · refine ⟨⟨_, rfl⟩, _, rfl, _, l, madeP m y, rfl, rfl, .inl (SqL.of (s4 _ _ hl3)), ?_, q H4 (s3.trans s4)⟩
        have hb : ((madeP m y).map (·.length)).sum ≤ 20000 := hb
        rw [show ("" : Str).length = 0 by decide +kernel, Nat.mul_zero]
        omega
theorem ok_states (F : FnP K "maker_states" sStates f fd) (TM : MT K mg CM) (o_reqM : OkX P w K mg base "require_maker" 3 ["maker"] (spReqM K CM)) (o_mk : OkMk P w K mg base C) (o_letM : OkMa P w K mg base CM "letters" (spLetM CM)) (o_rowsM : OkMa P w K mg base CM "rows" (spRowsM CM)) (o_startM : OkMa P w K mg base CM "start" (spStartM CM)) : FnOk P w K mg base (L2.CX P w) 8 f fd ["maker"] (spStates K C CM) := by
  have nd := scStates.nd
  refine F.ok scStates (fun vs H Q E h => ?_) (fun cdv A outer s H vs Q E hr h => ?_)
  · obtain ⟨u, rfl, _⟩ := h
    rfl
  · obtain ⟨u, rfl, h⟩ := h
    have szl := sizeLine_eq
    have r7 : Room 7 (A.deeper (envOfC "maker_states" (defScope sStates) s.heap.objs.size f cdv)) := hr
    have r3 := r7.mono (by decide : 3 ≤ 7)
    have r1 := r7.mono (by decide : 1 ≤ 7)
    refine ⟨_, (pss_cons (ps_expr (pe_callX (E := E) o_reqM (takes_of rfl rfl rfl rfl) r3 (by rfl) (pa_cons (pv 0) pa_nil)))
      (C8.pss_cut (ps_setLc (i := 1) (own := [("row", 2)]) (g := gName 2) (by rfl) nd rfl rfl (sw_true rfl rfl rfl (by decide +kernel)) (pi_list (pe_rowsM o_rowsM TM (pv 0) r1)) (blkOk_by (N := nStates) (sc := defScope sStates) (own := [("row", 2)]) (by decide +kernel)) (fun _ _ _ _ _ => pg_name (i := 2) nd rfl (Or.inl rfl)) (fun _ _ _ _ _ => pts_nil)
        (fun _ _ _ _ _ => pe_lc (own := [("state", 3), ("_", 4)]) (g := gTup K 3 (gCons (gName 3) (gCons (gName 4) (gCons (gName 4) gNil)))) (by rfl) nd (pi_listK (K := K) rfl (pv 2)) blkS (fun _ _ _ _ _ => pg_tup rfl (pgs_cons (pg_name (i := 3) nd rfl (Or.inl rfl)) (pgs_cons (pg_name (i := 4) nd rfl (Or.inl rfl)) (pgs_cons (pg_name (i := 4) nd rfl (Or.inl rfl)) pgs_nil)))) (fun _ _ _ _ _ => pts_nil) (fun _ _ _ _ _ => pv 3)))
      (pss_one (ps_ret (pe_mk1 o_mk r7 (by rfl) (pa_cons (pe_letM o_letM TM (pv 0) r1) (pa_cons (pv 1) pa_nil)) (pk_cons (pe_startM o_startM TM (pv 0) r1) (pk_cons (pe_lst pa_nil) pk_nil))))))), ?_⟩
    rcases h with ⟨n, r⟩ | ⟨x, m, rfl, hx, ok, q⟩
    · exact ⟨_, rfl, _, rfl, .inr ⟨n, r⟩⟩
    refine ⟨_, rfl, _, rfl, .inl ⟨x, m, rfl, hx, ?_⟩⟩
    have lz := ok.lz
    have r2 := ok.r2
    refine ⟨fun σ' H' => ∃ D, σ' = [some (.ref x), some (.ref D), none, none, none] ∧ Same H H' ∧ RL H' D (stA m).R, ?_, ?_⟩
    · refine ⟨_, rfl, x, m, rfl, hx, ok.r2, fun r hr2 => by have := (ok.rw r hr2).1; omega, fun H1 p s1 rn => ?_⟩
      obtain ⟨p', xs, ep, hxs, hP, lx⟩ := da_rs (rn.dS fun a xs e => s1 _ _ e)
      cases ep
      refine ⟨p, rfl, ⟨_, SqL.of hxs⟩, fun D nD => lc_list (K := K) (a := p) (xs := xs) (fun i H' => Same H1 H' ∧ ∃ acc, H' D = some (.lst acc) ∧ Pts H' acc ((m.R.take i).map fun r => natI (r.map (·.s))) ∧ ∀ y ∈ acc, y ≠ .ref D) ⟨same_new nD, [], upd_same, .nil, fun y hy => (by cases hy)⟩ (fun i H' _ p => SqL.of (p.1 _ _ hxs)) ?_ ?_⟩
      · rintro i y H' hi ⟨sm, acc, hD, hA, nA⟩
        obtain ⟨b, row, ys, rfl, er, hb, hy⟩ := rs_at hP hi
        have li := (List.getElem?_eq_some_iff.mp er).1
        have la := hA.len
        rw [List.length_map, List.length_take] at la
        have lr := (ok.rw row (List.mem_of_getElem? er)).1
        have lys := da_len hy
        rw [List.length_map] at lys
        refine ⟨rfl, _, rfl, b, rfl, ⟨_, SqL.of (sm _ _ hb)⟩, fun D2 nD2 => lc_list (K := K) (a := b) (xs := ys) (fun j H2 => Same H' H2 ∧ H2 D2 = some (.lst ((natI ((row.take j).map (·.s))).map V.int))) ⟨same_new nD2, upd_same⟩ (fun j H2 _ p => SqL.of (p.1 _ _ (sm _ _ hb))) ?_ ?_⟩
        · rintro j u H2 hj ⟨s2, hD2⟩
          obtain ⟨d, ed, hd⟩ := hy.get hj
          rw [List.getElem?_map] at ed
          obtain ⟨e, ee, rfl⟩ := Option.map_eq_some_iff.mp ed
          obtain ⟨t, rfl, ht⟩ := da_en hd
          have lj := (List.getElem?_eq_some_iff.mp ee).1
          refine ⟨t, _, rfl, SqT.of (s2 _ _ (sm _ _ ht)), rfl, _, _, rfl, _, _, rfl, _, _, rfl, rfl, rfl, _, rfl, _, hD2, ?_, fun c o e => ?_, ?_⟩
          · rw [List.length_map, natI_len, List.length_map, List.length_take]
            exact small1000 (by omega)
          · rw [upd_ne (ne_of_none e nD2)]
            exact s2 _ _ e
          · rw [upd_same, List.take_add_one, ee, List.map_append]
            unfold natI
            rw [List.map_append, List.map_append]
            rfl
        · rintro H2 ⟨s2, hD2⟩
          rw [lys, List.take_length] at hD2
          have hDD := s2 _ _ hD
          have nDD : D2 ≠ D := fun z => by
            rw [z, hD] at nD2
            cases nD2
          have nA2 : ∀ y ∈ acc ++ [V.ref D2], y ≠ .ref D := fun y hy => by
            rcases List.mem_append.mp hy with h | h
            · exact nA y h
            · rw [List.mem_singleton.mp h]
              exact fun z => nDD (V.ref.inj z)
          refine ⟨acc, hDD, small1000 (by omega), fun c o e => ?_, acc ++ [.ref D2], upd_same, ?_, nA2⟩
          · rw [upd_ne (ne_of_none (H := H1) e nD)]
            exact s2 _ _ (sm _ _ e)
          · rw [List.take_add_one, er, List.map_append]
            exact Pts.updL nA2 (Pts.snoc ⟨D2, rfl, hD2⟩ (hA.keep s2))
      · rintro H' ⟨sm, acc, hD, hA, nA⟩
        rw [lx, List.take_length] at hA
        refine ⟨D, rfl, s1.trans sm, acc, hD, ?_⟩
        show Pts H' acc ((m.R.map fun r => r.map (·.s)).map natI)
        rw [List.map_map]
        exact hA
    rintro σ' H1 ⟨D, rfl, s1, hD⟩
    refine ⟨_, rfl, x, m, rfl, hx.keep s1, _, rfl, _, rfl, x, m, rfl, hx.keep s1, (by show 0 ≤ sizeLine; omega), fun en nen => ⟨rfl, rfl, fun y dy ny ndy ne => mk_sp (m := stA m) ny ndy ne upd_same (hD.keep (same_new nen)) (stA_ok ok) fun H2 s2 ha => ⟨rfl, q H2 y ((s1.trans (same_new nen)).trans s2) ha⟩⟩⟩
end
end KJ
set_option Elab.async false
set_option linter.all false
set_option maxRecDepth 100000
set_option maxHeartbeats 2000000
namespace KJ
open PySem PySem.Spec PyProof.Rows L2 XV NM XT
theorem dr_neK {H : Hp} {g p : Addr} {n : Nat} (d : Dr H g n) (np : H p = none) : g ≠ p := by
  obtain ⟨a, b, c, e, _⟩ := d
  exact ne_of_none e np
theorem dr_updK {H : Hp} {g p : Addr} {n : Nat} {o : HO} (d : Dr H g n) (h : g ≠ p) : Dr (L2.upd H p o) g n := by
  obtain ⟨a, b, c, e, r⟩ := d
  exact ⟨a, b, c, by rw [upd_ne h]; exact e, r⟩
theorem dr_newK {H : Hp} {g p : Addr} {n : Nat} {o : HO} (d : Dr H g n) (np : H p = none) : Dr (L2.upd H p o) g n := dr_updK d (dr_neK d np)
def LO (z : Str) : Prop := ∀ c ∈ cz z, c = 97 ∨ c = 98 ∨ c = 99 ∨ c = 122 ∨ c = 113 ∨ c = 109 ∨ c = 120 ∨ c = 121
def loB (c : Nat) : Bool := decide (c = 97) || decide (c = 98) || decide (c = 99) || decide (c = 122) || decide (c = 113) || decide (c = 109) || decide (c = 120) || decide (c = 121)
theorem LO.of {z : Str} (h : (cz z).all loB = true) : LO z := fun c hc => by
  have := List.all_eq_true.mp h c hc
  simp only [loB, Bool.or_eq_true, decide_eq_true_eq] at this
  omega
theorem lo_all {z : Str} (h : LO z) {p : Nat → Bool} (h1 : ([97, 98, 99, 122, 113, 109, 120, 121] : List Nat).all p = true) : z.cps.all p = true := by
  rw [show z.cps.all p = (cz z).all p by simp, List.all_eq_true]
  intro c hc
  refine List.all_eq_true.mp h1 c ?_
  rcases h c hc with rfl | rfl | rfl | rfl | rfl | rfl | rfl | rfl <;> simp
theorem lo_any {z : Str} (h : LO z) {p : Nat → Bool} (h1 : ([97, 98, 99, 122, 113, 109, 120, 121] : List Nat).any p = false) : z.cps.any p = false := by
  rw [show z.cps.any p = (cz z).any p by simp, List.any_eq_false]
  intro c hc
  refine List.any_eq_false.mp h1 c ?_
  rcases h c hc with rfl | rfl | rfl | rfl | rfl | rfl | rfl | rfl <;> simp
theorem lo_low {z : Str} (h : LO z) : lowS z = true := by
  unfold lowS
  by_cases e : z = ""
  · rw [decide_eq_true e]
    rfl
  rw [decide_eq_false e, Bool.false_or]
  have n : cz z ≠ [] := fun q => e (Str.ext' (Array.toList_inj.mp (q.trans (by decide +kernel))))
  have l : 0 < z.length := by
    rw [cz_len]
    exact List.length_pos_iff.mpr n
  have a1 : Txt.isascii z = true := lo_all h (by decide)
  have a2 : Txt.isalpha z = true := by
    unfold Txt.isalpha
    rw [lo_all h (by decide +kernel), Bool.and_true]
    exact decide_eq_true l
  have a3 : Txt.islower z = true := by
    unfold Txt.islower
    rw [lo_any h (p := fun c => Unicode.isUpper c || Unicode.isTitle c) (by decide +kernel)]
    have e : z.cps.any Unicode.isLower = true := by
      rw [show z.cps.any Unicode.isLower = (cz z).any Unicode.isLower by simp, List.any_eq_true]
      obtain ⟨c, r, hc⟩ := List.exists_cons_of_ne_nil n
      refine ⟨c, by rw [hc]; exact List.mem_cons_self, ?_⟩
      rcases h c (by rw [hc]; exact List.mem_cons_self) with rfl | rfl | rfl | rfl | rfl | rfl | rfl | rfl <;> decide +kernel
    rw [e]
    rfl
  rw [a1, a2, a3]
  rfl
theorem lo_word {y : Str} (h : LO y) (l : y.length ≤ 20000) : wordV (.str y) = true := by
  show (lowS y && decide (y.length ≤ 20000)) = true
  rw [lo_low h, decide_eq_true l]
  rfl
abbrev sSigns : Stmt := top 46
theorem scSigns : FnScope ["_law_generator_here"] ["_law_generator_here"] (defScope sSigns) := ⟨rfl, rfl, rfl, by decide +kernel, rfl, by decide +kernel, by decide +kernel⟩
def menu : List Str := ["a", "ab", "b", "bz", "abc", "z", "", "ac"]
def spSigns : Sp := fun vs H Q _ => ∃ (g : Addr) (n : Nat), vs = [.ref g] ∧ Dr H g n ∧ n ≤ 500000 ∧ ∀ (H' : Hp) (z : Str), z ∈ menu → But H H' g → Dr H' g (n + 20) → Q (.str z) H'
theorem Pts.butG {H H' : Hp} {g : Addr} (b : But H H' g) : ∀ {xs : List V} {P : List (List Int)}, (∀ x ∈ xs, x ≠ .ref g) → Pts H xs P → Pts H' xs P
  | _, _, _, .nil => .nil
  | _, _, n, .cons h r => .cons (by
      obtain ⟨a, e, t⟩ := h
      exact ⟨a, e, b _ _ (fun z => n _ List.mem_cons_self (by rw [e, z])) t⟩) (Pts.butG b (fun x hx => n x (List.mem_cons_of_mem _ hx)) r)
theorem fold_lo (q : Nat) (hq : ([97, 98, 99, 122, 113, 109, 120, 121] : List Nat).all (fun c => decide (Builtin.Str.reprChar q c = [c])) = true) : ∀ (l : List Nat) (acc : Array Nat), (∀ c ∈ l, c = 97 ∨ c = 98 ∨ c = 99 ∨ c = 122 ∨ c = 113 ∨ c = 109 ∨ c = 120 ∨ c = 121) → (l.foldl (fun out c => out ++ (Builtin.Str.reprChar q c).toArray) acc).toList = acc.toList ++ l
  | [], acc, _ => by simp
  | c :: l, acc, h => by
    have hc : Builtin.Str.reprChar q c = [c] := of_decide_eq_true (List.all_eq_true.mp hq c (by
      rcases h c List.mem_cons_self with rfl | rfl | rfl | rfl | rfl | rfl | rfl | rfl <;> simp))
    rw [List.foldl_cons, fold_lo q hq l _ (fun d hd => h d (List.mem_cons_of_mem _ hd)), hc]
    simp
theorem repr_lo {z : Str} (h : LO z) : (reprText z).cps.toList = 39 :: (cz z ++ [39]) := by
  have e : reprQuote z = 39 := by
    unfold reprQuote
    have : z.cps.contains 39 = false := by
      cases c : z.cps.contains 39 with
      | false => rfl
      | true =>
        have := h 39 (by simpa using c)
        omega
    rw [this]
    rfl
  unfold reprText
  rw [e]
  show ((z.cps.foldl (fun out c => out ++ (Builtin.Str.reprChar 39 c).toArray) #[39]).push 39).toList = _
  rw [Array.toList_push, ← Array.foldl_toList, fold_lo 39 (by decide +kernel) _ _ h]
  rfl
structure ShOk (d : PyData) : Prop where
  s : d.showable = true
  h : d.hasDict = false
  dp : d.depth ≤ 60
  l : d.shown.length ≤ 100000
  o : PyData.strOk d.shown = true
def shB (d : PyData) : Bool := d.showable && (!d.hasDict && (decide (d.depth ≤ 60) && (decide (d.shown.length ≤ 100000) && PyData.strOk d.shown)))
theorem shB_ok {d : PyData} (h : shB d = true) : ShOk d := by
  unfold shB at h
  simp only [Bool.and_eq_true, Bool.not_eq_true', decide_eq_true_eq] at h
  obtain ⟨h1, h2, h3, h4, h5⟩ := h
  exact ⟨h1, h2, h3, h4, h5⟩
theorem sh_lo {z : Str} (h : LO z) (l : z.length ≤ 50000) : ShOk (.str z) := by
  have e : (PyData.str z).shown = reprText z := by simp [PyData.shown]
  have r := repr_lo h
  refine ⟨by simp [PyData.showable], by simp [PyData.hasDict], by simp [PyData.depth], ?_, ?_⟩
  · rw [e, cz_len, show cz (reprText z) = _ from r]
    simp only [List.length_cons, List.length_append, List.length_singleton]
    rw [← cz_len]
    simp
    omega
  · rw [e]
    unfold PyData.strOk
    rw [show (reprText z).cps.all (fun x => decide (x < 0x110000)) = ((reprText z).cps.toList).all (fun x => decide (x < 0x110000)) by simp, r, List.all_eq_true]
    intro c hc
    rcases List.mem_cons.mp hc with rfl | hc
    · decide
    · rcases List.mem_append.mp hc with hc | hc
      · have := h c hc
        exact decide_eq_true (by omega)
      · rw [List.mem_singleton.mp hc]
        decide
theorem look_v (f : Str) (v : L2.V) : List.lookup f [(f, v)] = some v := by simp [List.lookup]
theorem da_noA {K : PySem.W.Frag} {H : Hp} {v : V} {d : PyData} (h : Da H v d) (n : ∀ b, d ≠ .bool b) : NoA K H v := by
  cases h with
  | non => exact ⟨"NoneType", by simp [tysD], .base .non⟩
  | bl b => exact absurd rfl (n b)
  | int i => exact ⟨"int", by simp [tysD], .base (.int i)⟩
  | str x => exact ⟨"str", by simp [tysD], .base (.str x)⟩
  | lst h _ => exact ⟨"list", by simp [tysD], .base (.lst h)⟩
  | tup h _ => exact ⟨"tuple", by simp [tysD], .base (.tup h)⟩
section
variable {P : Program} {w : World} {K : PySem.W.Frag} {mg : Str → Option Value} {base : Heap} {f : Addr} {fd : FuncData} {C : Addr}
theorem ok_signs (F : FnP K "_law_signs" sSigns f fd) (o_rand : Ok P w K mg base "_law_random" 2 ["_law_generator_here", "_law_bound"] spRand) : FnOk P w K mg base CX0 3 f fd ["_law_generator_here"] spSigns := by
  refine F.ok scSigns (fun vs H Q E h => ?_) (fun cdv A outer s H vs Q E hr h => ?_)
  · obtain ⟨g, n, rfl, _⟩ := h
    rfl
  · obtain ⟨g, n, rfl, dr, hn, q⟩ := h
    have szl := sizeLine_eq
    have r2 : Room 2 (A.deeper (envOfC "_law_signs" (defScope sSigns) s.heap.objs.size f cdv)) := hr
    refine ⟨_, PSs.nox (pss_one (ps_ret (pe_ix ix_list (pe_lst (pa_cons pe_str (pa_cons pe_str (pa_cons pe_str (pa_cons pe_str (pa_cons pe_str (pa_cons pe_str (pa_cons pe_str (pa_cons pe_str pa_nil))))))))) (pe_callO o_rand r2 (by rfl) (pa_cons (pv 0) (pa_cons pe_int pa_nil))) (fun _ _ => rfl)))), ?_⟩
    refine ⟨(by show 8 ≤ sizeLine; omega), fun l nl => ?_⟩
    have sl := same_new (o := .lst (menu.map V.str)) nl
    have gl := dr_neK dr nl
    refine ⟨_, rfl, g, n, 8, rfl, dr_newK dr nl, by omega, by decide, by decide +kernel, fun H1 r r0 r8 bt1 d1 => ?_⟩
    have hl1 := bt1 _ _ (Ne.symm gl) (upd_same (H := H) (a := l) (o := .lst (menu.map V.str)))
    have bt0 : But H H1 g := (Same.but sl).trans bt1
    obtain ⟨z, ez, hz⟩ : ∃ z : Str, atI (menu.map V.str) r = some (.str z) ∧ z ∈ menu := by
      obtain ⟨k, rfl⟩ := Int.eq_ofNat_of_zero_le r0
      have hk : k < menu.length := by show k < 8; omega
      exact ⟨menu[k], atI_nat (by rw [List.getElem?_map, List.getElem?_eq_getElem hk]; rfl), List.getElem_mem hk⟩
    exact ⟨l, _, r, _, rfl, rfl, SqL.of hl1, ez, q H1 z hz bt0 d1⟩
end
abbrev sWord : Stmt := top 45
abbrev nWord : List Str := ["_law_generator_here", "_law_signs_here", "_law_most", "_law_turn"]
theorem scWord : FnScope nWord ["_law_generator_here", "_law_signs_here", "_law_most"] (defScope sWord) := ⟨rfl, rfl, rfl, by decide +kernel, rfl, by decide +kernel, by decide +kernel⟩
def spWord : Sp := fun vs H Q _ => ∃ (g : Addr) (n k : Nat) (sg : Str), vs = [.ref g, .str sg, .int (k : Int)] ∧ k ≤ 12 ∧ Dr H g n ∧ n ≤ 500000 ∧ LO sg ∧ (1 ≤ sg.length ∧ sg.length ≤ 4) ∧ ∀ (H' : Hp) (y : Str), LO y → y.length ≤ k → But H H' g → Dr H' g (n + 400) → Q (.str y) H'
section
variable {P : Program} {w : World} {K : PySem.W.Frag} {mg : Str → Option Value} {base : Heap} {f : Addr} {fd : FuncData} {C : Addr}
theorem ok_word (F : FnP K "_law_word" sWord f fd) (o_rand : Ok P w K mg base "_law_random" 2 ["_law_generator_here", "_law_bound"] spRand) (z_range : mg "range" = none) (z_len : mg "len" = none) : FnOk P w K mg base CX0 3 f fd ["_law_generator_here", "_law_signs_here", "_law_most"] spWord := by
  have nd := scWord.nd
  refine F.ok scWord (fun vs H Q E h => ?_) (fun cdv A outer s H vs Q E hr h => ?_)
  · obtain ⟨g, n, k, sg, rfl, _⟩ := h
    rfl
  · obtain ⟨g, n, k, sg, rfl, hk, hd, hn, lo, l3, q⟩ := h
    have szl := sizeLine_eq
    have r2 : Room 2 (A.deeper (envOfC "_law_word" (defScope sWord) s.heap.objs.size f cdv)) := hr
    refine ⟨_, PSs.nox (pss_one (ps_ret (pe_join pe_str (pe_lc (own := [("_law_turn", 3)]) (g := gName 3) (by rfl) nd (pi_range1 (by rfl) z_range (pa_cons (pe_callO o_rand r2 (by rfl) (pa_cons (pv 0) (pa_cons (pe_op op_add (pv 2) pe_int) pa_nil))) pa_nil)) (blkOk_by (N := nWord) (sc := defScope sWord) (own := [("_law_turn", 3)]) (by decide +kernel))
        (fun _ _ _ _ _ => pg_name (i := 3) nd rfl (Or.inl rfl)) (fun _ _ _ _ _ => pts_nil)
        (fun _ _ _ _ _ => pe_ix ix_str (pv 1) (pe_callO o_rand r2 (by rfl) (pa_cons (pv 0) (pa_cons (pe_callB call_len_str (by rfl) z_len boot_len (pa_cons (pv 1) pa_nil)) pa_nil))) (fun _ _ => rfl)))))), ?_⟩
    refine ⟨⟨_, rfl⟩, _, rfl, _, rfl, _, _, rfl, rfl, g, n, ((k : Int) + 1), rfl, hd, by omega, by omega, Int.lt_of_le_of_lt (b := 13) (by omega) (by decide +kernel), fun H1 r r0 rk b1 d1 => ⟨r, rfl, by omega, by omega, fun D nD => ?_⟩⟩
    have gD := dr_neK d1 nD
    refine lc_range (lo := 0) (n := r.toNat) (fun i H' => But H1 H' g ∧ ∃ zs : List Str, H' D = some (.lst (zs.map V.str)) ∧ zs.length = i ∧ (∀ z ∈ zs, LO z ∧ z.length = 1) ∧ Dr H' g (n + 20 + 20 * i)) ⟨Same.but (same_new nD), [], upd_same, rfl, fun z hz => (by cases hz), dr_newK d1 nD⟩ ?_ ?_
    · rintro i H' hi ⟨bt, zs, hD, lz, hz, hd2⟩
      refine ⟨rfl, ?_⟩
      refine ⟨_, rfl, _, rfl, _, rfl, sg, rfl, by omega, g, n + 20 + 20 * i, (sg.length : Int), rfl, hd2, by omega, by omega, Int.lt_of_le_of_lt (b := 4) (by omega) (by decide +kernel), fun H2 x x0 x2 b2 d2 => ?_⟩
      obtain ⟨kk, rfl⟩ := Int.eq_ofNat_of_zero_le x0
      have lk : kk < (cz sg).length := by
        rw [← cz_len]
        omega
      have hc := lo _ (List.getElem_mem lk)
      have ec : atI (cz sg) ((kk : Nat) : Int) = some ((cz sg)[kk]) := atI_nat (List.getElem?_eq_getElem lk)
      generalize (cz sg)[kk] = c at hc ec
      have hD2 := b2 _ _ (Ne.symm gD) hD
      refine ⟨sg, _, c, rfl, rfl, by omega, ec, _, hD2, ?_, fun b o nb e => ?_, zs ++ [⟨#[c]⟩], ?_, ?_, fun z hz2 => ?_, dr_updK (d2.mono (by omega)) gD⟩
      · rw [List.length_map]
        exact small1000 (by omega)
      · rw [upd_ne (ne_of_none (H := H1) e nD)]
        exact b2 _ _ nb (bt _ _ nb e)
      · rw [upd_same, List.map_append]
        rfl
      · rw [List.length_append, lz]
        rfl
      · rcases List.mem_append.mp hz2 with h | h
        · exact hz z h
        · rw [List.mem_singleton.mp h]
          refine ⟨fun c' hc' => ?_, rfl⟩
          have : c' = c := by simpa using hc'
          rw [this]
          exact hc
    · rintro H' ⟨bt, zs, hD, lz, hz, hd2⟩
      have lf : (zs.flatMap cz).length = zs.length := by
        clear hD lz hd2 bt
        induction zs with
        | nil => rfl
        | cons z zs ih =>
          have l1 : (cz z).length = 1 := by rw [← cz_len]; exact (hz z List.mem_cons_self).2
          rw [List.flatMap_cons, List.length_append, l1, ih fun y hy => hz y (List.mem_cons_of_mem _ hy), List.length_cons, Nat.add_comm]
      refine ⟨_, D, zs, rfl, rfl, .inl (SqL.of hD), ?_, q H' _ (fun c hc => ?_) ?_ (b1.trans bt) (hd2.mono (by omega))⟩
      · rw [sum_len, lf, show ("" : Str).length = 0 by decide +kernel, Nat.mul_zero]
        omega
      · rw [join0] at hc
        obtain ⟨z, h1, h2⟩ := List.mem_flatMap.mp hc
        exact (hz z h1).1 c h2
      · rw [cz_len, join0, lf]
        omega
end
end KJ
set_option Elab.async false
set_option linter.all false
set_option maxRecDepth 100000
set_option maxHeartbeats 1000000
namespace KJ
open PySem PySem.Spec PyProof.Rows L2 XV NM XT XA LamX
/-! ### rows of entries, none of their lists in S -/
theorem Dr.keepS {H H' : Hp} (s : Same H H') {g : Addr} {n : Nat} (d : Dr H g n) : Dr H' g n := by
  obtain ⟨a, b, c, e, r⟩ := d
  exact ⟨a, b, c, s _ _ e, r⟩
theorem dr_lst {H : Hp} {g : Addr} {n : Nat} (d : Dr H g n) : ∃ xs, H g = some (.lst xs) := by
  obtain ⟨a, b, c, e, r⟩ := d
  exact ⟨_, e⟩
theorem ens_but {H H' : Hp} {g : Addr} {ws : List V} (hg : H g = some (.lst ws)) (b : But H H' g) : ∀ {ys : List V} {row : List En}, DaAll H ys (row.map enD) → DaAll H' ys (row.map enD)
  | [], [], _ => .nil
  | _ :: _, [], h => by cases h
  | [], _ :: _, h => by cases h
  | y :: ys, e :: row, h => by
    cases h with
    | cons h r =>
      obtain ⟨t, rfl, ht⟩ := da_en h
      exact .cons (.tup (b _ _ (ne_of ht hg (by intro z; cases z)) ht) (.cons (.int _) (.cons (.str _) (.cons (.bl _) .nil)))) (ens_but hg b r)
theorem ens_upd {H : Hp} {a : Addr} {o : HO} {ws : List V} (ha : H a = some (.lst ws)) {ys : List V} {row : List En} (h : DaAll H ys (row.map enD)) : DaAll (upd H a o) ys (row.map enD) :=
  ens_but ha (fun b o nb e => by rw [upd_ne nb]; exact e) h
inductive RA (S : List Addr) (H : Hp) : List V → List (List En) → Prop
  | nil : RA S H [] []
  | cons {b : Addr} {ys xs : List V} {row : List En} {R : List (List En)} : b ∉ S → H b = some (.lst ys) → DaAll H ys (row.map enD) → RA S H xs R → RA S H (.ref b :: xs) (row :: R)
theorem RA.keep {S : List Addr} {H H' : Hp} (s : Same H H') : ∀ {xs : List V} {R : List (List En)}, RA S H xs R → RA S H' xs R
  | _, _, .nil => .nil
  | _, _, .cons n h a r => .cons n (s _ _ h) (DaAll.keep s a) (RA.keep s r)
theorem RA.but {S : List Addr} {H H' : Hp} {g : Addr} {ws : List V} (hg : H g = some (.lst ws)) (m : g ∈ S) (b : But H H' g) : ∀ {xs : List V} {R : List (List En)}, RA S H xs R → RA S H' xs R
  | _, _, .nil => .nil
  | _, _, .cons n h a r => .cons n (b _ _ (fun z => n (z ▸ m)) h) (ens_but hg b a) (RA.but hg m b r)
theorem RA.upd {S : List Addr} {H : Hp} {a : Addr} {o : HO} {ws : List V} (ha : H a = some (.lst ws)) (m : a ∈ S) {xs : List V} {R : List (List En)} (h : RA S H xs R) : RA S (upd H a o) xs R :=
  h.but ha m fun b o nb e => by rw [upd_ne nb]; exact e
theorem RA.snoc {S : List Addr} {H : Hp} {b : Addr} {ys : List V} {row : List En} (n : b ∉ S) (hb : H b = some (.lst ys)) (a : DaAll H ys (row.map enD)) : ∀ {xs : List V} {R : List (List En)}, RA S H xs R → RA S H (xs ++ [.ref b]) (R ++ [row])
  | _, _, .nil => .cons n hb a .nil
  | _, _, .cons n1 h1 a1 r => .cons n1 h1 a1 (RA.snoc n hb a r)
theorem RA.len {S : List Addr} {H : Hp} : ∀ {xs : List V} {R : List (List En)}, RA S H xs R → xs.length = R.length
  | _, _, .nil => rfl
  | _, _, .cons _ _ _ r => congrArg (· + 1) (RA.len r)
theorem RA.sub {S S' : List Addr} {H : Hp} (i : ∀ a ∈ S', a ∈ S) : ∀ {xs : List V} {R : List (List En)}, RA S H xs R → RA S' H xs R
  | _, _, .nil => .nil
  | _, _, .cons n h a r => .cons (fun z => n (i _ z)) h a (RA.sub i r)
theorem RA.da {S : List Addr} {H : Hp} : ∀ {xs : List V} {R : List (List En)}, RA S H xs R → DaAll H xs (R.map rwD)
  | _, _, .nil => .nil
  | _, _, .cons _ h a r => .cons (.lst h a) (RA.da r)
/-- rows drawn, apart from g -/
def RG2 (H : Hp) (p g : Addr) (R : List (List En)) : Prop := p ≠ g ∧ ∃ xs, H p = some (.lst xs) ∧ RA [g] H xs R
theorem RG2.keep {H H' : Hp} {p g : Addr} {R : List (List En)} (h : RG2 H p g R) (s : Same H H') : RG2 H' p g R := by
  obtain ⟨n, xs, e, r⟩ := h
  exact ⟨n, xs, s _ _ e, r.keep s⟩
theorem RG2.but {H H' : Hp} {p g : Addr} {R : List (List En)} {ws : List V} (h : RG2 H p g R) (hg : H g = some (.lst ws)) (b : But H H' g) : RG2 H' p g R := by
  obtain ⟨n, xs, e, r⟩ := h
  exact ⟨n, xs, b _ _ n e, r.but hg List.mem_cons_self b⟩
theorem RG2.da {H : Hp} {p g : Addr} {R : List (List En)} (h : RG2 H p g R) : Da H (.ref p) (rsD R) := by
  obtain ⟨n, xs, e, r⟩ := h
  exact .lst e r.da
/-! ### what is made, by the law -/
abbrev sMd : Stmt := top 47
abbrev nMd : List Str := ["_law_letters", "_law_rows", "_law_state", "_law_word_here", "_law_found", "_law_letter", "_law_at", "_law_more", "_law_itself"]
theorem scMd : FnScope nMd ["_law_letters", "_law_rows", "_law_state", "_law_word_here"] (defScope sMd) := ⟨rfl, rfl, rfl, by decide +kernel, rfl, by decide +kernel, by decide +kernel⟩
abbrev sAll : Stmt := top 49
abbrev nAll : List Str := ["_law_letters", "_law_rows", "_law_closing", "_law_state", "_law_word_here", "_law_found"]
theorem scAll : FnScope nAll ["_law_letters", "_law_rows", "_law_closing", "_law_state", "_law_word_here"] (defScope sAll) := ⟨rfl, rfl, rfl, by decide +kernel, rfl, by decide +kernel, by decide +kernel⟩
abbrev sMRows : Stmt := top 48
abbrev nMRows : List Str := ["_law_generator_here", "_law_letters", "_law_states", "_law_signs_here", "_law_rows", "_law_state", "_law_row", "_law_turn", "_law_itself"]
theorem scMRows : FnScope nMRows ["_law_generator_here", "_law_letters", "_law_states", "_law_signs_here"] (defScope sMRows) := ⟨rfl, rfl, rfl, by decide +kernel, rfl, by decide +kernel, by decide +kernel⟩
def spMd : Sp := fun vs H Q _ => ∃ (m : Mm) (ra : Addr) (s : Nat) (y : Str), vs = [.str m.z, .ref ra, .int s, .str y] ∧ Da H (.ref ra) (rsD m.R) ∧ MmOk m ∧ s < m.R.length ∧ y.length ≤ 100 ∧ ∀ (H' : Hp) (p : Addr), Same H H' → H' p = some (.lst [.int ((prun m s (cz y)).1 : Nat), .str (Txt.join "" (prun m s (cz y)).2)]) → Q (.ref p) H'
def spAll : Sp := fun vs H Q _ => ∃ (m : Mm) (ra ca : Addr) (y : Str), vs = [.str m.z, .ref ra, .ref ca, .int (m.s : Int), .str y] ∧ Da H (.ref ra) (rsD m.R) ∧ H ca = some (.lst (m.cl.map V.str)) ∧ MmOk m ∧ y.length ≤ 100 ∧ ∀ (H' : Hp), Same H H' → Q (.str (Txt.join "" (madeP m y))) H'
def spMRows : Sp := fun vs H Q _ => ∃ (g : Addr) (n st : Nat) (z sg : Str), vs = [.ref g, .str z, .int st, .str sg] ∧ Dr H g n ∧ n ≤ 400000 ∧ z.length ≤ 3 ∧ 1 ≤ st ∧ st ≤ 12 ∧ LO sg ∧ (1 ≤ sg.length ∧ sg.length ≤ 4) ∧
  ∀ (H' : Hp) (p : Addr) (R : List (List En)), H p = none → RG2 H' p g R → R.length = st → (∀ r ∈ R, r.length = z.length + 1 ∧ ∀ e ∈ r, e.s < st ∧ LO e.w ∧ e.w.length ≤ 2) → But H H' g → Dr H' g (n + 30000) → Q (.ref p) H'
theorem sum_le2 {ps : List Str} (h : ∀ w ∈ ps, w.length ≤ 2000) : (ps.map (·.length)).sum ≤ ps.length * 2000 := by
  induction ps with
  | nil => exact Nat.le_refl _
  | cons p ps ih =>
    rw [List.map_cons, List.sum_cons, List.length_cons]
    have := h p List.mem_cons_self
    have := ih fun w hw => h w (List.mem_cons_of_mem _ hw)
    omega
theorem join_snoc (ps : List Str) (w : Str) : Txt.join "" (ps ++ [w]) = Txt.join "" ps ++ w := by
  apply Str.ext'
  apply Array.toList_inj.mp
  have h1 : cz (Txt.join "" (ps ++ [w])) = cz (Txt.join "" ps) ++ cz w := by
    rw [join0, join0, List.flatMap_append]
    simp
  rw [show (Txt.join "" ps ++ w : Str).cps = (Txt.join "" ps).cps ++ w.cps from rfl, Array.toList_append]
  exact h1
section
variable {P : Program} {w : World} {K : PySem.W.Frag} {mg : Str → Option Value} {base : Heap} {f : Addr} {fd : FuncData} {C CM : Addr}
theorem ok_md (F : FnP K "_law_made" sMd f fd) (z_len : mg "len" = none) : FnOk P w K mg base CX0 1 f fd ["_law_letters", "_law_rows", "_law_state", "_law_word_here"] spMd := by
  have nd := scMd.nd
  refine F.ok scMd (fun vs H Q E h => ?_) (fun cdv A outer s H vs Q E hr h => ?_)
  · obtain ⟨m, ra, s0, y, rfl, _⟩ := h
    rfl
  · obtain ⟨m, ra, s0, y, rfl, hda, ok, hs, ly, q⟩ := h
    have szl := sizeLine_eq
    refine ⟨_, PSs.nox (pss_cons (ps_set (i := 4) nd rfl (Or.inl rfl) (pe_lst pa_nil))
      (pss_cons (ps_for PassesOwn.never rfl (pi_str (pv 3)) (pg_name (i := 5) nd rfl (Or.inl rfl))
        (pss_cons (ps_set (i := 6) nd rfl (Or.inl rfl) (pe_bm PySem.F.plainAttrs_str PySem.F.slot_str_find PySem.F.type_str_find mt_find (pv 0) (pa_cons (pv 5) pa_nil)))
        (pss_cons (ps_asg (pe_ix ix_list (pe_ix ix_list (pv 1) (pv 2) (fun _ _ => rfl)) (pe_ifExp (pt_cmpR op_ge (pv 6) pe_int (nomark _)) (pv 6) (pe_callB call_len_str (by rfl) z_len boot_len (pa_cons (pv 0) pa_nil))) (fun _ _ => rfl)) (pg_tup rfl (pgs_cons (pg_name (i := 2) nd rfl (Or.inl rfl)) (pgs_cons (pg_name (i := 7) nd rfl (Or.inl rfl)) (pgs_cons (pg_name (i := 8) nd rfl (Or.inl rfl)) pgs_nil)))))
        (pss_cons (ps_expr (pe_bm PySem.F.plainAttrs_list PySem.F.slot_list_append PySem.F.type_list_append mt_append (pv 4) (pa_cons (pv 7) pa_nil)))
        (pss_one (ps_if (pt_val (pv 8)) (pss_one (ps_expr (pe_bm PySem.F.plainAttrs_list PySem.F.slot_list_append PySem.F.type_list_append mt_append (pv 4) (pa_cons (pv 5) pa_nil)))) pss_nil))))))
      (pss_one (ps_ret (pe_lst (pa_cons (pv 2) (pa_cons (pe_join pe_str (pv 4)) pa_nil))))))), ?_⟩
    have lz := ok.lz
    refine ⟨(by show 0 ≤ sizeLine; omega), fun l nl => ?_⟩
    have s2 := same_new (o := .lst []) nl
    have hl2 : upd H l (.lst []) l = some (.lst []) := upd_same
    have sG : Same H (rm l (upd H l (.lst []))) := fun b o e => by
      unfold rm
      rw [if_neg (ne_of_none e nl)]
      exact s2 _ _ e
    generalize upd H l (.lst []) = H3 at *
    have nlG : rm l H3 l = none := rm_at
    have hda := hda.keep sG
    have lcz := cz_len y
    obtain ⟨p', xs, ep, hxs, hP, lx⟩ := da_rs hda
    cases ep
    refine ⟨_, rfl, y, rfl, for_it walk_str (fun i σ H' => (∃ x5 x6 x7 x8, σ = [some (.str m.z), some (.ref ra), some (.int ((prun m s0 ((cz y).take i)).1 : Nat)), some (.str y), some (.ref l), x5, x6, x7, x8]) ∧ Same (rm l H3) H' ∧ H' l = some (.lst ((prun m s0 ((cz y).take i)).2.map V.str))) ⟨⟨_, _, _, _, rfl⟩, rm_s, hl2⟩ (fun _ _ _ _ _ => trivial) ?_ ?_⟩
    · rintro i v σ H4 H5 hi ⟨⟨x5, x6, x7, x8, rfl⟩, s5, hl5⟩ ⟨rfl, c, ec, rfl⟩
      rw [cz_at] at ec
      have li : i < (cz y).length := (List.getElem?_eq_some_iff.mp ec).1
      obtain ⟨st1, st2, st3⟩ := prun_ok ok hs (cz y) i (by omega)
      rw [prun_take ec]
      generalize prun m s0 ((cz y).take i) = st at *
      obtain ⟨row, er, ee, es, ew2⟩ := en_get ok st1 c
      have ex : xs[st.1]? = some (xs[st.1]'(by omega)) := List.getElem?_eq_getElem (by omega)
      obtain ⟨b, row', ys, eb, er', hb, hy⟩ := rs_at hP ex
      rw [er] at er'
      cases er'
      rw [eb] at ex
      obtain ⟨t, ey, ht⟩ := en_at hy ee
      have fo := NP.find_one m.z c
      have lz2 := cz_len m.z
      refine ⟨_, rfl, rfl, _, rfl, m.z, ⟨#[c]⟩, rfl, rfl, ?_⟩
      rw [fo]
      have s6 : ∀ o, Same (rm l H3) (upd H5 l o) := fun o b u e => by
        rw [upd_ne (ne_of_none e nlG)]
        exact s5 _ _ e
      have fin : ∀ (x6 : Int) (x5' : Option V), True := fun _ _ => trivial
      by_cases h : (cz m.z).idxOf c < (cz m.z).length
      · rw [if_pos h]
        refine ⟨_, rfl, _, rfl, ra, xs, _, _, rfl, rfl, SqL.of (s5 _ _ hxs), atI_nat ex, _, rfl, _, _, rfl, rfl, _, rfl, ite2 (fun _ => ?_) (fun n => absurd (decide_eq_true (Int.natCast_nonneg _)) n)⟩
        refine ⟨_, rfl, b, ys, _, _, rfl, rfl, SqL.of (s5 _ _ hb), atI_nat ey, t, _, rfl, SqT.of (s5 _ _ ht), rfl, _, _, rfl, _, _, rfl, _, _, rfl, rfl, ?_⟩
        refine ⟨_, rfl, .inl ⟨rfl, _, SqL.of hl5⟩, _, rfl, l, _, .str (enAt m.R st.1 ((cz m.z).idxOf c)).w, rfl, rfl, hl5, (by rw [List.length_map]; omega), ?_⟩
        refine ⟨_, rfl, (enAt m.R st.1 ((cz m.z).idxOf c)).b, rfl, ?_⟩
        cases eb2 : (enAt m.R st.1 ((cz m.z).idxOf c)).b with
        | false =>
          refine iteF ⟨⟨_, _, _, _, rfl⟩, s6 _, ?_⟩
          rw [upd_same]
          show _ = some (HO.lst ((st.2 ++ (_ :: if (enAt m.R st.1 ((cz m.z).idxOf c)).b then [(⟨#[c]⟩ : Str)] else [])).map V.str))
          rw [eb2, List.map_append]
          rfl
        | true =>
          refine iteT ⟨_, rfl, .inl ⟨rfl, _, SqL.of upd_same⟩, _, rfl, l, _, .str ⟨#[c]⟩, rfl, rfl, upd_same, (by rw [List.length_append, List.length_map]; show st.2.length + 1 < _; omega), ⟨_, _, _, _, rfl⟩, fun b u e => ?_, ?_⟩
          · rw [upd_ne (ne_of_none e nlG)]
            exact s6 _ _ _ e
          · rw [upd_same]
            show _ = some (HO.lst ((st.2 ++ (_ :: if (enAt m.R st.1 ((cz m.z).idxOf c)).b then [(⟨#[c]⟩ : Str)] else [])).map V.str))
            rw [eb2, List.map_append, List.append_assoc]
            rfl
      · rw [if_neg h]
        have e2 : (cz m.z).idxOf c = (cz m.z).length := by
          have := List.idxOf_le_length (a := c) (l := cz m.z)
          omega
        refine ⟨_, rfl, _, rfl, ra, xs, _, _, rfl, rfl, SqL.of (s5 _ _ hxs), atI_nat ex, _, rfl, _, _, rfl, rfl, _, rfl, ite2 (fun n => absurd (of_decide_eq_true n) (by decide)) (fun _ => ?_)⟩
        refine ⟨_, rfl, m.z, rfl, by omega, ?_⟩
        rw [show (m.z.length : Int) = (((cz m.z).idxOf c : Nat) : Int) by rw [e2, lz2]]
        refine ⟨b, ys, _, _, rfl, rfl, SqL.of (s5 _ _ hb), atI_nat ey, t, _, rfl, SqT.of (s5 _ _ ht), rfl, _, _, rfl, _, _, rfl, _, _, rfl, rfl, ?_⟩
        refine ⟨_, rfl, .inl ⟨rfl, _, SqL.of hl5⟩, _, rfl, l, _, .str (enAt m.R st.1 ((cz m.z).idxOf c)).w, rfl, rfl, hl5, (by rw [List.length_map]; omega), ?_⟩
        refine ⟨_, rfl, (enAt m.R st.1 ((cz m.z).idxOf c)).b, rfl, ?_⟩
        cases eb2 : (enAt m.R st.1 ((cz m.z).idxOf c)).b with
        | false =>
          refine iteF ⟨⟨_, _, _, _, rfl⟩, s6 _, ?_⟩
          rw [upd_same]
          show _ = some (HO.lst ((st.2 ++ (_ :: if (enAt m.R st.1 ((cz m.z).idxOf c)).b then [(⟨#[c]⟩ : Str)] else [])).map V.str))
          rw [eb2, List.map_append]
          rfl
        | true =>
          refine iteT ⟨_, rfl, .inl ⟨rfl, _, SqL.of upd_same⟩, _, rfl, l, _, .str ⟨#[c]⟩, rfl, rfl, upd_same, (by rw [List.length_append, List.length_map]; show st.2.length + 1 < _; omega), ⟨_, _, _, _, rfl⟩, fun b u e => ?_, ?_⟩
          · rw [upd_ne (ne_of_none e nlG)]
            exact s6 _ _ _ e
          · rw [upd_same]
            show _ = some (HO.lst ((st.2 ++ (_ :: if (enAt m.R st.1 ((cz m.z).idxOf c)).b then [(⟨#[c]⟩ : Str)] else [])).map V.str))
            rw [eb2, List.map_append, List.append_assoc]
            rfl
    · rintro σ H4 ⟨⟨x5, x6, x7, x8, rfl⟩, s4, hl4⟩
      have et : (cz y).take y.cps.size = cz y := by
        rw [show y.cps.size = (cz y).length by simp, List.take_length]
      rw [et] at hl4 ⊢
      obtain ⟨_, h2, h3⟩ := prun_all ok hs (cz y)
      have := sum_le2 h3
      refine ⟨_, rfl, ⟨_, rfl⟩, _, rfl, _, l, (prun m s0 (cz y)).2, rfl, rfl, .inl (SqL.of hl4), ?_, (by show 2 ≤ sizeLine; omega), fun t nt => ?_⟩
      · rw [show ("" : Str).length = 0 by decide +kernel, Nat.mul_zero]
        omega
      · exact q _ t ((sG.trans s4).trans (same_new nt)) upd_same
theorem ok_all (F : FnP K "_law_all_written" sAll f fd) (o_md : Ok P w K mg base "_law_made" 1 ["_law_letters", "_law_rows", "_law_state", "_law_word_here"] spMd) : FnOk P w K mg base CX0 2 f fd ["_law_letters", "_law_rows", "_law_closing", "_law_state", "_law_word_here"] spAll := by
  have nd := scAll.nd
  refine F.ok scAll (fun vs H Q E h => ?_) (fun cdv A outer s H vs Q E hr h => ?_)
  · obtain ⟨m, ra, ca, y, rfl, _⟩ := h
    rfl
  · obtain ⟨m, ra, ca, y, rfl, hda, hc, ok, ly, q⟩ := h
    have szl := sizeLine_eq
    have r1 : Room 1 (A.deeper (envOfC "_law_all_written" (defScope sAll) s.heap.objs.size f cdv)) := hr
    refine ⟨_, PSs.nox (pss_cons (ps_asg (pe_callO o_md r1 (by rfl) (pa_cons (pv 0) (pa_cons (pv 1) (pa_cons (pv 3) (pa_cons (pv 4) pa_nil))))) (pg_lst rfl (pgs_cons (pg_name (i := 3) nd rfl (Or.inl rfl)) (pgs_cons (pg_name (i := 5) nd rfl (Or.inl rfl)) pgs_nil))))
      (pss_one (ps_ret (pe_op op_add_str (pv 5) (pe_ix ix_list (pv 2) (pv 3) (fun _ _ => rfl)))))), ?_⟩
    obtain ⟨h1, h2, h3⟩ := prun_all ok ok.hs (cz y)
    have lc := ok.lc
    have lcz := cz_len y
    have e1 : m.cl[(prun m m.s (cz y)).1]? = some (m.cl[(prun m m.s (cz y)).1]'(by omega)) := List.getElem?_eq_getElem (by omega)
    have eg : m.cl.getD (prun m m.s (cz y)).1 "" = m.cl[(prun m m.s (cz y)).1]'(by omega) := by
      rw [List.getD_eq_getElem?_getD, e1]
      rfl
    have e2 : (m.cl.map V.str)[(prun m m.s (cz y)).1]? = some (.str (m.cl.getD (prun m m.s (cz y)).1 "")) := by
      rw [List.getElem?_map, e1, eg]
      rfl
    refine ⟨_, rfl, _, rfl, _, rfl, _, rfl, m, ra, m.s, y, rfl, hda, ok, ok.hs, ly, fun H1 p s1 hp => ?_⟩
    refine ⟨p, _, rfl, SqL.of hp, rfl, _, _, rfl, _, _, rfl, rfl, ?_⟩
    have l1 : (Txt.join "" (prun m m.s (cz y)).2).length = ((prun m m.s (cz y)).2.map (·.length)).sum := by
      rw [cz_len, join0, sum_len]
    have l2 := sum_le2 h3
    have l3 : (m.cl.getD (prun m m.s (cz y)).1 "").length ≤ 2000 := by
      rw [eg]
      exact short_len (ok.hc _ (List.getElem_mem _))
    refine ⟨_, rfl, _, rfl, _, rfl, ca, _, _, _, rfl, rfl, SqL.of (s1 _ _ hc), atI_nat e2, _, _, rfl, rfl, by omega, ?_⟩
    have e3 : Txt.join "" (madeP m y) = Txt.join "" (prun m m.s (cz y)).2 ++ m.cl.getD (prun m m.s (cz y)).1 "" := join_snoc _ _
    rw [← e3]
    exact q H1 s1
theorem ok_mrows (F : FnP K "_law_maker_rows" sMRows f fd) (o_rand : Ok P w K mg base "_law_random" 2 ["_law_generator_here", "_law_bound"] spRand) (o_word : Ok P w K mg base "_law_word" 3 ["_law_generator_here", "_law_signs_here", "_law_most"] spWord) (z_range : mg "range" = none) (z_len : mg "len" = none) : FnOk P w K mg base CX0 4 f fd ["_law_generator_here", "_law_letters", "_law_states", "_law_signs_here"] spMRows := by
  have nd := scMRows.nd
  refine F.ok scMRows (fun vs H Q E h => ?_) (fun cdv A outer s H vs Q E hr h => ?_)
  · obtain ⟨g, n, st, z, sg, rfl, _⟩ := h
    rfl
  · obtain ⟨g, n, st, z, sg, rfl, hd, hn, lz, st1, st2, lo, lsg, q⟩ := h
    have szl := sizeLine_eq
    have r3 : Room 3 (A.deeper (envOfC "_law_maker_rows" (defScope sMRows) s.heap.objs.size f cdv)) := hr
    have r2 := r3.mono (by decide : 2 ≤ 3)
    refine ⟨_, PSs.nox (pss_cons (ps_set (i := 4) nd rfl (Or.inl rfl) (pe_lst pa_nil))
      (pss_cons (ps_for PassesOwn.never rfl (pi_range1 (by rfl) z_range (pa_cons (pv 2) pa_nil)) (pg_name (i := 5) nd rfl (Or.inl rfl))
        (pss_cons (ps_set (i := 6) nd rfl (Or.inl rfl) (pe_lst pa_nil))
        (C8.pss_cut (ps_for PassesOwn.never rfl (pi_range1 (by rfl) z_range (pa_cons (pe_op op_add (pe_callB call_len_str (by rfl) z_len boot_len (pa_cons (pv 1) pa_nil)) pe_int) pa_nil)) (pg_name (i := 7) nd rfl (Or.inl rfl))
          (pss_cons (ps_set (i := 8) nd rfl (Or.inl rfl) (pe_cmpR op_eq (pe_callO o_rand r2 (by rfl) (pa_cons (pv 0) (pa_cons pe_int pa_nil))) pe_int (nomark _)))
          (pss_one (ps_expr (pe_bm PySem.F.plainAttrs_list PySem.F.slot_list_append PySem.F.type_list_append mt_append (pv 6) (pa_cons (pe_tup (pa_cons (pe_callO o_rand r2 (by rfl) (pa_cons (pv 0) (pa_cons (pv 2) pa_nil))) (pa_cons (pe_callO o_word r3 (by rfl) (pa_cons (pv 0) (pa_cons (pv 3) (pa_cons pe_int pa_nil)))) (pa_cons (pv 8) pa_nil)))) pa_nil))))))
        (pss_one (ps_expr (pe_bm PySem.F.plainAttrs_list PySem.F.slot_list_append PySem.F.type_list_append mt_append (pv 4) (pa_cons (pv 6) pa_nil)))))))
      (pss_one (ps_ret (pv 4))))), ?_⟩
    refine ⟨(by show 0 ≤ sizeLine; omega), fun D nD => ?_⟩
    have gD := dr_neK hd nD
    have hd0 := dr_newK (o := .lst []) hd nD
    refine ⟨_, rfl, (st : Int), rfl, by omega, by omega, for_range (lo := 0) (n := (st : Int).toNat) (fun i σ H' => (∃ x5 x6 x7 x8, σ = [some (.ref g), some (.str z), some (.int (st : Int)), some (.str sg), some (.ref D), x5, x6, x7, x8]) ∧ But H H' g ∧ Dr H' g (n + 2400 * i) ∧ ∃ (acc : List V) (R : List (List En)), H' D = some (.lst acc) ∧ RA [g, D] H' acc R ∧ R.length = i ∧ ∀ r ∈ R, r.length = z.length + 1 ∧ ∀ e ∈ r, e.s < st ∧ LO e.w ∧ e.w.length ≤ 2)
      ⟨⟨_, _, _, _, rfl⟩, Same.but (same_new nD), hd0, [], [], upd_same, .nil, rfl, fun r hr => (by cases hr)⟩ ?_ ?_⟩
    · rintro i σ H1 hi ⟨⟨x5, x6, x7, x8, rfl⟩, b1, d1, acc, R, hD, hR, lR, okR⟩
      have hi : i < st := by omega
      refine ⟨(by show 0 ≤ sizeLine; omega), fun L nL => ?_⟩
      have gL := dr_neK d1 nL
      have LD : L ≠ D := fun e => by
        rw [e, hD] at nL
        cases nL
      have s2 := same_new (o := .lst []) nL
      have hd2 := dr_newK (o := .lst []) d1 nL
      have hL2 : upd H1 L (.lst []) L = some (.lst []) := upd_same
      have hD2 := s2 _ _ hD
      have hR2 := hR.keep s2
      have b2 : But H (upd H1 L (.lst [])) g := b1.trans (Same.but s2)
      have nLH : H L = none := by
        cases e : H L with
        | none => rfl
        | some o =>
          rw [b1 _ _ (Ne.symm gL) e] at nL
          cases nL
      have hR2 : RA [g, D, L] (upd H1 L (.lst [])) acc R := by
        clear hD2 hd2 hL2 s2 b2 hR2 hD lR okR
        induction hR with
        | nil => exact .nil
        | @cons b ys xs row R n h a r ih =>
          have bL := ne_of_none h nL
          refine .cons (fun z => ?_) (same_new nL _ _ h) (DaAll.keep (same_new nL) a) ih
          simp only [List.mem_cons, List.not_mem_nil, or_false] at n z
          rcases z with z | z | z
          · exact n (.inl z)
          · exact n (.inr z)
          · exact bL z
      generalize upd H1 L (.lst []) = H2 at *
      refine ⟨fun σ' H' => (∃ x5 x7 x8, σ' = [some (.ref g), some (.str z), some (.int (st : Int)), some (.str sg), some (.ref D), x5, some (.ref L), x7, x8]) ∧ But H H' g ∧ Dr H' g (n + 2400 * (i + 1)) ∧ H' D = some (.lst acc) ∧ RA [g, D, L] H' acc R ∧ ∃ (ys : List V) (row : List En), H' L = some (.lst ys) ∧ DaAll H' ys (row.map enD) ∧ row.length = z.length + 1 ∧ ∀ e ∈ row, e.s < st ∧ LO e.w ∧ e.w.length ≤ 2, ?_, ?_⟩
      · refine ⟨_, rfl, z, rfl, by omega, _, _, rfl, rfl, (z.length : Int) + 1, rfl, by omega, by omega, for_range (lo := 0) (n := ((z.length : Int) + 1).toNat) (fun j σ H' => (∃ x5 x7 x8, σ = [some (.ref g), some (.str z), some (.int (st : Int)), some (.str sg), some (.ref D), x5, some (.ref L), x7, x8]) ∧ But H H' g ∧ Dr H' g (n + 2400 * i + 460 * j) ∧ H' D = some (.lst acc) ∧ RA [g, D, L] H' acc R ∧ ∃ (ys : List V) (row : List En), H' L = some (.lst ys) ∧ DaAll H' ys (row.map enD) ∧ row.length = j ∧ ∀ e ∈ row, e.s < st ∧ LO e.w ∧ e.w.length ≤ 2)
          ⟨⟨_, _, _, rfl⟩, b2, hd2, hD2, hR2, [], [], hL2, .nil, rfl, fun e he => (by cases he)⟩ ?_ ?_⟩
        · rintro j σ H3 hj ⟨⟨x5, x7, x8, rfl⟩, b3, d3, hD3, hR3, ys, row, hL3, hys, lrow, okrow⟩
          have hj : j < z.length + 1 := by omega
          have hij : n + 2400 * i + 460 * j ≤ 450000 := by omega
          refine ⟨_, rfl, g, _, 3, rfl, d3, by omega, by decide, by decide +kernel, fun H4 r r0 rb b4 d4 => ⟨rfl, ?_⟩⟩
          obtain ⟨gs, hg3⟩ := dr_lst d3
          have hD4 := b4 _ _ (Ne.symm gD) hD3
          have hL4 := b4 _ _ (Ne.symm gL) hL3
          have hR4 := hR3.but hg3 List.mem_cons_self b4
          have hy4 := ens_but hg3 b4 hys
          have b04 := b3.trans b4
          refine ⟨_, rfl, .inl ⟨rfl, _, SqL.of hL4⟩, _, rfl, _, rfl, g, _, (st : Int), rfl, d4, by omega, by omega, Int.lt_of_le_of_lt (b := 12) (by omega) (by decide +kernel), fun H5 k k0 kb b5 d5 => ?_⟩
          obtain ⟨k, rfl⟩ := Int.eq_ofNat_of_zero_le k0
          obtain ⟨gs4, hg4⟩ := dr_lst d4
          refine ⟨_, rfl, _, rfl, g, _, 2, sg, rfl, by decide, d5, by omega, lo, lsg, fun H6 wd low lw b6 d6 => ?_⟩
          obtain ⟨gs5, hg5⟩ := dr_lst d5
          have b56 := b5.trans b6
          have hD6 := b56 _ _ (Ne.symm gD) hD4
          have hL6 := b56 _ _ (Ne.symm gL) hL4
          have hR6 := (hR4.but hg4 List.mem_cons_self b5).but hg5 List.mem_cons_self b6
          have hy6 := ens_but hg5 b6 (ens_but hg4 b5 hy4)
          refine ⟨_, rfl, (by show 3 ≤ sizeLine; omega), fun t nt => ?_⟩
          have s7 := same_new (o := .tup [.int (k : Int), .str wd, .bl (decide (V.int r = V.int 0))]) nt
          have d7 := dr_newK (o := .tup [.int (k : Int), .str wd, .bl (decide (V.int r = V.int 0))]) d6 nt
          have ht7 : upd H6 t (.tup [.int (k : Int), .str wd, .bl (decide (V.int r = V.int 0))]) t = some (.tup [.int (k : Int), .str wd, .bl (decide (V.int r = V.int 0))]) := upd_same
          have hL7 := s7 _ _ hL6
          have hD7 := s7 _ _ hD6
          have hR7 := hR6.keep s7
          have hy7 := DaAll.keep s7 hy6
          have b07 := (b04.trans b56).trans (Same.but s7)
          generalize upd H6 t (.tup [.int (k : Int), .str wd, .bl (decide (V.int r = V.int 0))]) = H7 at *
          have ly := da_len hys
          rw [List.length_map] at ly
          have tL : t ≠ L := ne_of ht7 hL7 (by intro z; cases z)
          refine ⟨L, ys, .ref t, rfl, rfl, hL7, small1000 (by omega), ⟨_, _, _, rfl⟩, fun b o nb e => ?_, (dr_updK d7 gL).mono (by omega), ?_, hR7.upd hL7 (by simp), ys ++ [.ref t], row ++ [⟨k, wd, decide (V.int r = V.int 0)⟩], upd_same, ?_, by rw [List.length_append, lrow]; rfl, fun e he => ?_⟩
          · rw [upd_ne (ne_of_none e nLH)]
            exact b07 _ _ nb e
          · rw [upd_ne (Ne.symm LD)]
            exact hD7
          · rw [List.map_append]
            exact DaAll.app (ens_upd hL7 hy7) (.cons (.tup (by rw [upd_ne tL]; exact ht7) (.cons (.int _) (.cons (.str _) (.cons (.bl _) .nil)))) .nil)
          · rcases List.mem_append.mp he with h | h
            · exact okrow e h
            · rw [List.mem_singleton.mp h]
              exact ⟨by show k < st; omega, low, lw⟩
        · rintro σ H3 ⟨⟨x5, x7, x8, rfl⟩, b3, d3, hD3, hR3, ys, row, hL3, hys, lrow, okrow⟩
          exact ⟨⟨_, _, _, rfl⟩, b3, d3.mono (by omega), hD3, hR3, ys, row, hL3, hys, by omega, okrow⟩
      rintro σ' H3 ⟨⟨x5, x7, x8, rfl⟩, b3, d3, hD3, hR3, ys, row, hL3, hys, lrow, okrow⟩
      have la := hR3.len
      have nDH : H D = none := nD
      refine ⟨_, rfl, .inl ⟨rfl, _, SqL.of hD3⟩, _, rfl, D, acc, .ref L, rfl, rfl, hD3, small1000 (by omega), ⟨_, _, _, _, rfl⟩, fun b o nb e => ?_, dr_updK d3 gD, acc ++ [.ref L], R ++ [row], upd_same, ?_, by rw [List.length_append, lR]; rfl, fun r hr => ?_⟩
      · rw [upd_ne (ne_of_none e nDH)]
        exact b3 _ _ nb e
      · refine RA.snoc ?_ ?_ (ens_upd hD3 hys) ((hR3.upd hD3 (by simp)).sub fun a ha => ?_)
        · simp only [List.mem_cons, List.not_mem_nil, or_false, not_or]
          exact ⟨Ne.symm gL, LD⟩
        · rw [upd_ne LD]
          exact hL3
        · simp only [List.mem_cons, List.not_mem_nil, or_false] at ha ⊢
          rcases ha with h | h
          · exact .inl h
          · exact .inr (.inl h)
      · rcases List.mem_append.mp hr with h | h
        · exact okR r h
        · rw [List.mem_singleton.mp h]
          exact ⟨lrow, okrow⟩
    · rintro σ H1 ⟨⟨x5, x6, x7, x8, rfl⟩, b1, d1, acc, R, hD, hR, lR, okR⟩
      have lR : R.length = st := by omega
      exact ⟨_, rfl, q H1 D R nD ⟨Ne.symm gD, acc, hD, hR.sub fun a ha => List.mem_cons.mpr (.inl (List.mem_singleton.mp ha))⟩ lR okR b1 (d1.mono (by omega))⟩
end
end KJ
set_option Elab.async false
set_option linter.all false
set_option maxRecDepth 100000
set_option maxHeartbeats 1000000
namespace KJ
open PySem PySem.Spec PyProof.Rows L2 XV NM XT XA LamX
/-! ### what a maker tells -/
structure OkEqF (P : Program) (w : World) (K : PySem.W.Frag) (mg : Str → Option Value) (base : Heap) (C : Addr) : Prop where
  ex : ∃ g fd, PySem.W.findIn K (.ref C) "__eq__" = some (some (.ref g)) ∧ PySem.W.isFn K (.ref g) = true ∧ FnOk P w K mg base CX0 1 g fd ["self", "other"] (spEqA K C) ∧ Binds K fd ["self", "other"] []
structure OkEqM (P : Program) (w : World) (K : PySem.W.Frag) (mg : Str → Option Value) (base : Heap) (C : Addr) : Prop where
  ex : ∃ g fd, PySem.W.findIn K (.ref C) "__eq__" = some (some (.ref g)) ∧ PySem.W.isFn K (.ref g) = true ∧ FnOk P w K mg base CX0 1 g fd ["self", "other"] (spEqM K C) ∧ Binds K fd ["self", "other"] []
theorem op_ownEK {X : Cx} {CX : CXT} {C g : Addr} {n : Nat} {fd : FuncData} {ps : List Str} {sp : Sp} {E : XK} {K : PySem.W.Frag} (e : X.K = K) (hs : PySem.W.findIn K (.ref C) "__eq__" = some (some (.ref g))) (hf : PySem.W.isFn K (.ref g) = true) (F : FnOk X.prog X.w K X.mg X.base CX n g fd ps sp) (hr : Room n X.A) (hb : Binds K fd ps []) (hx : Passes CX X E) :
    OpR X (compareOp .Eq) (rOwnE K C sp E) := by
  subst e
  exact op_ownE hs hf F hr hb hx
theorem neFG (v : V) : (!decide (v = v)) = false := by simp
theorem iteNG {p q : Prop} {v : V} (h : q) : if (!decide (v = v)) = true then p else q := by
  rw [neFG]
  exact iteF h
theorem rounds_eq {st : List Nat} {j k j' k' : Nat} (h1 : j < k) (h2 : Diff st k) (h3 : pwS st j = pwS st k) (h1' : j' < k') (h2' : Diff st k') (h3' : pwS st j' = pwS st k') : j = j' ∧ k = k' := by
  have e : k = k' := by
    rcases Nat.lt_trichotomy k k' with h | h | h
    · exact absurd h3 (h2' j k h1 h)
    · exact h
    · exact absurd h3' (h2 j' k' h1' h)
  subst e
  refine ⟨?_, rfl⟩
  rcases Nat.lt_trichotomy j j' with h | h | h
  · exact absurd (h3.trans h3'.symm) (h2 j j' h h1')
  · exact h
  · exact absurd (h3'.trans h3.symm) (h2 j' j h h1)
theorem sh_pair (a b : Int) : SeqAt.shaped (.tuple [.int a, .int b]) = true := by simp [SeqAt.shaped, PyData.canLay0, PyData.canLayAll0, PyData.depth, PyData.depthAll]
abbrev sTG : Stmt := top 50
abbrev nTG : List Str := ["_law_maker", "_law_letters", "_law_rows", "_law_first", "_law_last", "_law_told", "_law_due", "_law_row", "_law_entry"]
theorem scTG : FnScope nTG ["_law_maker", "_law_letters", "_law_rows", "_law_first", "_law_last"] (defScope sTG) := ⟨rfl, rfl, rfl, by decide +kernel, rfl, by decide +kernel, by decide +kernel⟩
abbrev scTO : Scope := { kind := .function, names := [(Str.ofString ".0", .local), (Str.ofString "_law_row", .local)], isGenerator := false, isCoroutine := false }
abbrev scTI : Scope := { kind := .function, names := [(Str.ofString ".0", .local), (Str.ofString "_law_entry", .local)], isGenerator := false, isCoroutine := false }
theorem blkT : BlkOk nTG scTO scTI [("_law_entry", 8)] := blkOk_by (by decide +kernel)
def spTG (CM : Addr) : Sp := fun vs H Q _ => ∃ (x ra ca : Addr) (m : Mm), vs = [.ref x, .str m.z, .ref ra, .int (m.s : Int), .ref ca] ∧ Ma CM H x m ∧ Da H (.ref ra) (rsD m.R) ∧ H ca = some (.lst (m.cl.map V.str)) ∧ MmOk m ∧ ∀ H', Same H H' → Q (.bl true) H'
def sT (m : Mm) (x ra ca : Addr) (t d : Option V) : L2.St := [some (.ref x), some (.str m.z), some (.ref ra), some (.int (m.s : Int)), some (.ref ca), t, d, none, none]
section
variable {P : Program} {w : World} {K : PySem.W.Frag} {mg : Str → Option Value} {base : Heap} {f : Addr} {fd : FuncData} {C CM : Addr}
theorem ok_told (F : FnP K "_law_told_good" sTG f fd) (T : AT K mg C) (TM : MT K mg CM) (o_mk : OkMk P w K mg base C) (o_mkM : OkMkM P w K mg base CM) (o_eq : OkEqF P w K mg base C) (o_eqM : OkEqM P w K mg base CM) (o_letM : OkMa P w K mg base CM "letters" (spLetM CM)) (o_rowsM : OkMa P w K mg base CM "rows" (spRowsM CM)) (o_startM : OkMa P w K mg base CM "start" (spStartM CM)) (o_closM : OkMa P w K mg base CM "closing" (spClosM CM))
    (o_moved : Ok P w K mg base "moved" 5 ["automaton", "word"] (cm (spMoved K C))) (o_rounds : Ok P w K mg base "rounds" 7 ["automaton", "word"] (cm (spRounds K C))) (o_states : Ok P w K mg base "maker_states" 8 ["maker"] (cm (spStates K C CM))) (k_states : OkK P w K mg base "maker_states" 8 ["maker"] (cm (spStates K C CM))) :
    FnOk P w K mg base CX0 9 f fd ["_law_maker", "_law_letters", "_law_rows", "_law_first", "_law_last"] (spTG CM) := by
  have nd := scTG.nd
  obtain ⟨fe, fde, e1, e2, FE, be⟩ := o_eq.ex
  obtain ⟨fm, fdm, g1, g2, FG, bg⟩ := o_eqM.ex
  refine F.ok scTG (fun vs H Q E h => ?_) (fun cdv A outer s H vs Q E hr h => ?_)
  · obtain ⟨x, ra, ca, m, rfl, _⟩ := h
    rfl
  · obtain ⟨x, ra, ca, m, rfl, hx, hR, hC, ok, q⟩ := h
    have hu := hr.units
    have szl := sizeLine_eq
    have r8 : Room 8 (A.deeper (envOfC "_law_told_good" (defScope sTG) s.heap.objs.size f cdv)) := hr
    have r7 := r8.mono (by decide : 7 ≤ 8)
    have r5 := r8.mono (by decide : 5 ≤ 8)
    have r1 := r8.mono (by decide : 1 ≤ 8)
    refine ⟨_, PSs.nox (C8.pss_cut (ps_if (PW.pt (pw_or (pt_cmpR op_ne (pe_letM o_letM TM (pv 0) r1) (pv 1) (nomark _)) (pw_or (pt_cmpR (op_neD hu) (pe_rowsM o_rowsM TM (pv 0) r1) (pv 2) (nomark _)) (pw_or (pt_cmpR op_ne (pe_startM o_startM TM (pv 0) r1) (pv 3) (nomark _)) (pw_or1 (pt_cmpR (op_neD hu) (pe_closM o_closM TM (pv 0) r1) (pv 4) (nomark _))))))) (pss_one (ps_ret pe_bl)) pss_nil)
      (C8.pss_cut (ps_if (pt_cmpR op_notBl (pe_cmpR (op_ownE g1 g2 FG r1 bg pass0) (pe_mkMC1 o_mkM r7 (by rfl) (pa_cons (pe_letM o_letM TM (pv 0) r1) (pa_cons (pe_rowsM o_rowsM TM (pv 0) r1) pa_nil)) (pk_cons (pe_startM o_startM TM (pv 0) r1) (pk_cons (pe_closM o_closM TM (pv 0) r1) pk_nil))) (pv 0) (nomark _)) pe_bl (nomark _)) (pss_one (ps_ret pe_bl)) pss_nil)
      (C8.pss_cut (ps_set (i := 5) nd rfl (Or.inl rfl) (pe_lst (pa_cons (pe_rowsM o_rowsM TM (pv 0) r1) (pa_cons (pe_closM o_closM TM (pv 0) r1) pa_nil))))
      (pss_cons (ps_expr (pe_bm PySem.F.plainAttrs_list PySem.F.slot_list_append PySem.F.type_list_append mt_append (pe_ix ix_list (pe_ix ix_list (pv 5) pe_int (fun _ _ => rfl)) pe_int (fun _ _ => rfl)) (pa_cons pe_non pa_nil)))
      (pss_cons (ps_expr (pe_bm PySem.F.plainAttrs_list PySem.F.slot_list_append PySem.F.type_list_append mt_append (pe_ix ix_list (pv 5) pe_int (fun _ _ => rfl)) (pa_cons pe_non pa_nil)))
      (C8.pss_cut (ps_expr (pe_bm PySem.F.plainAttrs_list PySem.F.slot_list_append PySem.F.type_list_append mt_append (pe_ix ix_list (pv 5) pe_int (fun _ _ => rfl)) (pa_cons pe_non pa_nil)))
      (C8.pss_cut (ps_if (PW.pt (pw_or (pt_cmpR (op_neD hu) (pe_rowsM o_rowsM TM (pv 0) r1) (pv 2) (nomark _)) (pw_or1 (pt_cmpR (op_neD hu) (pe_closM o_closM TM (pv 0) r1) (pv 4) (nomark _))))) (pss_one (ps_ret pe_bl)) pss_nil)
      (C8.pss_cut (ps_set (i := 6) nd rfl (Or.inl rfl) (pe_mk1 o_mk r7 (by rfl) (pa_cons (pv 1) (pa_cons (pe_lc (own := [("_law_row", 7)]) (g := gName 7) (by rfl) nd (pi_list (pv 2)) (blkOk_by (N := nTG) (sc := defScope sTG) (own := [("_law_row", 7)]) (by decide +kernel)) (fun _ _ _ _ _ => pg_name (i := 7) nd rfl (Or.inl rfl)) (fun _ _ _ _ _ => pts_nil)
          (fun _ _ _ _ _ => pe_lc (own := [("_law_entry", 8)]) (g := gName 8) (by rfl) nd (pi_listK (K := K) rfl (pv 7)) blkT (fun _ _ _ _ _ => pg_name (i := 8) nd rfl (Or.inl rfl)) (fun _ _ _ _ _ => pts_nil) (fun _ _ _ _ _ => pe_ix (ix_tupK (K := K) rfl) (pv 8) pe_int (fun _ _ => rfl)))) pa_nil)) (pk_cons (pv 3) (pk_cons (pe_lst pa_nil) pk_nil))))
      (C8.pss_cut (ps_if (PW.pt (pw_or (pt_cmpR (op_neD hu) (pe_callO o_moved r5 (by rfl) (pa_cons (pe_callO o_states r8 (by rfl) (pa_cons (pv 0) pa_nil)) (pa_cons pe_str pa_nil))) (pe_callO o_moved r5 (by rfl) (pa_cons (pv 6) (pa_cons pe_str pa_nil))) (nomark _))
          (pw_or1 (pt_cmpR (op_neD hu) (pe_callO o_rounds r7 (by rfl) (pa_cons (pe_callO o_states r8 (by rfl) (pa_cons (pv 0) pa_nil)) (pa_cons pe_str pa_nil))) (pe_callO o_rounds r7 (by rfl) (pa_cons (pv 6) (pa_cons pe_str pa_nil))) (nomark _))))) (pss_one (ps_ret pe_bl)) pss_nil)
      (pss_one (ps_ret (pe_and (pe_cmpR op_isBl (pe_cmpR (op_ownE e1 e2 FE r1 be pass0) (pe_callO o_states r8 (by rfl) (pa_cons (pv 0) pa_nil)) (pv 6) (nomark _)) pe_bl (nomark _)) (pe_one (pe_cmpR op_isBl (pe_cmpR (op_ownE e1 e2 FE r1 be pass0) (pe_callK k_states r8 (by rfl) (pk_cons (pv 0) pk_nil)) (pv 6) (nomark _)) pe_bl (nomark _))))))))))))))), ?_⟩
    have r12 := ok.r2
    have r11 := ok.r1
    have lc := ok.lc
    have lz := ok.lz
    have l60 : ∀ r ∈ m.R, r.length ≤ 60 := fun r hr2 => by have := (ok.rw r hr2).1; omega
    have eR : PyData.eqv (rsD m.R) (rsD m.R) = true := by rw [eqv_rs, decide_eq_true rfl]
    have eC : PyData.eqv (clD m.cl) (clD m.cl) = true := by rw [eqv_cl, decide_eq_true rfl]
    have shR := shaped_rs ok.rt
    have shC := shaped_cl ok.ct
    refine ⟨fun σ' H' => σ' = sT m x ra ca none none ∧ Same H H', ?_, ?_⟩
    · refine ⟨_, rfl, x, m, rfl, hx, _, rfl, rfl, _, rfl, iteNG ?_⟩
      refine ⟨_, rfl, x, m, rfl, hx, ok.r2, l60, fun H1 p1 s1 hr1 => ⟨_, rfl, _, _, (hr1.dS fun a xs e => s1 _ _ e).dp, (hR.keep s1).dp, shR, shR, ?_⟩⟩
      rw [eR]
      refine ⟨false, rfl, iteF ?_⟩
      refine ⟨_, rfl, x, m, rfl, hx.keep s1, _, rfl, rfl, _, rfl, iteNG ?_⟩
      refine ⟨_, rfl, x, m, rfl, hx.keep s1, fun p2 np2 => ⟨_, rfl, clD m.cl, clD m.cl, (cl_da upd_same).dp, (cl_da (same_new np2 _ _ (s1 _ _ hC))).dp, shC, shC, ?_⟩⟩
      rw [eC]
      exact ⟨false, rfl, iteF ⟨rfl, s1.trans (same_new np2)⟩⟩
    rintro σ' H1 ⟨rfl, s1⟩
    refine ⟨fun σ' H' => σ' = sT m x ra ca none none ∧ Same H H', ?_, ?_⟩
    · have hx1 := hx.keep s1
      refine ⟨_, rfl, x, m, rfl, hx1, _, rfl, x, m, rfl, hx1, ok.r2, l60, fun H2 p s2 rn => ⟨_, rfl, x, m, rfl, hx1.keep s2, _, rfl, x, m, rfl, hx1.keep s2, fun c nc => ⟨rfl, rfl, fun y dy ny ndy ne => mk_spM (m := m) rfl rfl ny ndy ne upd_same ((rn.dS fun a xs e => s2 _ _ e).keep (same_new nc)) ok fun H3 s3 ha => ⟨rfl, ?_⟩⟩⟩⟩
      have S := (s2.trans (same_new nc)).trans s3
      have hx3 := hx1.keep S
      obtain ⟨dxx, _, _, hxx, _⟩ := id hx3
      obtain ⟨dyy, _, _, hyy, _⟩ := ha.ma
      refine ⟨_, rfl, y, dyy, _, .ref CM, rfl, hyy, TM.ty hxx, AT.nC, y, .ref x, m, rfl, ha.ma, ok, .inl ⟨x, m, rfl, hx3, ok, _, _, rfl, rfl, _, rfl, ite2 (fun z => ?_) (fun _ => ⟨rfl, s1.trans S⟩)⟩⟩
      rw [decide_eq_true (rfl : m = m)] at z
      cases z
    clear s1
    rintro σ' H1 ⟨rfl, s1⟩
    refine ⟨fun σ' H' => ∃ (l p c : Addr) (xs : List V), σ' = sT m x ra ca (some (.ref l)) none ∧ H' l = some (.lst [.ref p, .ref c]) ∧ H' p = some (.lst xs) ∧ H1 p = none ∧ H1 c = none ∧ (∃ b ys, xs[0]? = some (.ref b) ∧ H1 b = none ∧ H' b = some (.lst ys) ∧ ys.length ≤ 60 ∧ b ≠ p ∧ b ≠ c ∧ b ≠ l) ∧ xs.length ≤ 12 ∧ l ≠ p ∧ l ≠ c ∧ p ≠ c ∧ H' c = some (.lst (m.cl.map V.str)) ∧ Same H1 H', ?_, ?_⟩
    · have hx1 := hx.keep s1
      refine ⟨_, rfl, x, m, rfl, hx1, ok.r2, l60, fun H2 p s2 rn => ⟨_, rfl, x, m, rfl, hx1.keep s2, fun c nc => ⟨(by show 2 ≤ sizeLine; omega), fun l nl => ?_⟩⟩⟩
      obtain ⟨xs, hp, np, lxs, ndx, nwx, atx⟩ := rn
      have s3 := same_new (o := .lst (m.cl.map V.str)) nc
      have s4 := same_new (o := .lst [.ref p, .ref c]) nl
      have er : m.R[0]? = some (m.R[0]'(by omega)) := List.getElem?_eq_getElem (by omega)
      obtain ⟨b, ys, e1, nb, hb, ha⟩ := atx 0 _ (by omega) er
      have lys := da_len ha
      rw [List.length_map] at lys
      have l27 := l60 _ (List.getElem_mem (l := m.R) (n := 0) (by omega))
      refine ⟨l, p, c, xs, rfl, upd_same, s4 _ _ (s3 _ _ hp), np, was_none s2 nc, ⟨b, ys, e1, nb, s4 _ _ (s3 _ _ hb), by omega, fun z => (nwx _ (List.mem_of_getElem? e1)).1 (by rw [z]), ne_of_none hb nc, ne_of_none (s3 _ _ hb) nl⟩, by omega, Ne.symm (ne_of_none (s3 _ _ hp) nl), Ne.symm (ne_of_none upd_same nl), ne_of_none hp nc, s4 _ _ upd_same, (s2.trans s3).trans s4⟩
    rintro σ' H3 ⟨l, p, c, xs, rfl, hl, hp, np, nc, ⟨b, ys, eb, nb, hb, lys, bp, bc, bl⟩, lxs, lp, lcc, pc, hc, s3⟩
    have at0 : atI [V.ref p, V.ref c] ((0 : Nat) : Int) = some (.ref p) := atI_nat rfl
    have at1 : atI [V.ref p, V.ref c] ((1 : Nat) : Int) = some (.ref c) := atI_nat rfl
    refine ⟨_, rfl, l, _, _, _, rfl, rfl, SqL.of hl, at0, p, _, _, _, rfl, rfl, SqL.of hp, atI_nat eb, .inl ⟨rfl, _, SqL.of hb⟩, b, _, .non, rfl, rfl, hb, small1000 (by omega), ?_⟩
    have hl4 : upd H3 b (.lst (ys ++ [.non])) l = some (.lst [.ref p, .ref c]) := by rw [upd_ne (Ne.symm bl)]; exact hl
    have hp4 : upd H3 b (.lst (ys ++ [.non])) p = some (.lst xs) := by rw [upd_ne (Ne.symm bp)]; exact hp
    have hc4 : upd H3 b (.lst (ys ++ [.non])) c = some (.lst (m.cl.map V.str)) := by rw [upd_ne (Ne.symm bc)]; exact hc
    have s4 : Same H1 (upd H3 b (.lst (ys ++ [.non]))) := fun a o e => by rw [upd_ne (ne_of_none e nb)]; exact s3 _ _ e
    generalize upd H3 b (.lst (ys ++ [.non])) = H4 at *
    refine ⟨_, rfl, l, _, _, _, rfl, rfl, SqL.of hl4, at0, .inl ⟨rfl, _, SqL.of hp4⟩, p, xs, .non, rfl, rfl, hp4, small1000 (by omega), ?_⟩
    have hl5 : upd H4 p (.lst (xs ++ [.non])) l = some (.lst [.ref p, .ref c]) := by rw [upd_ne lp]; exact hl4
    have hc5 : upd H4 p (.lst (xs ++ [.non])) c = some (.lst (m.cl.map V.str)) := by rw [upd_ne (Ne.symm pc)]; exact hc4
    have s5 : Same H1 (upd H4 p (.lst (xs ++ [.non]))) := fun a o e => by rw [upd_ne (ne_of_none e np)]; exact s4 _ _ e
    generalize upd H4 p (.lst (xs ++ [.non])) = H5 at *
    refine ⟨fun σ' H' => σ' = sT m x ra ca (some (.ref l)) none ∧ Same H H', ?_, ?_⟩
    · refine ⟨_, rfl, l, _, _, _, rfl, rfl, SqL.of hl5, at1, .inl ⟨rfl, _, SqL.of hc5⟩, c, _, .non, rfl, rfl, hc5, (by rw [List.length_map]; exact small1000 (by omega)), rfl, s1.trans fun a o e => ?_⟩
      rw [upd_ne (ne_of_none e nc)]
      exact s5 _ _ e
    clear hl5 hc5 s5 hl4 hp4 hc4 s4 hl hp np nc eb nb hb lys bp bc bl lxs lcc lp pc hc s3 s1
    rintro σ' H1 ⟨rfl, s1⟩
    refine ⟨fun σ' H' => σ' = sT m x ra ca (some (.ref l)) none ∧ Same H H', ?_, ?_⟩
    · refine ⟨_, rfl, x, m, rfl, hx.keep s1, ok.r2, l60, fun H2 p1 s2 hr1 => ⟨_, rfl, _, _, (hr1.dS fun a xs e => s2 _ _ e).dp, ((hR.keep s1).keep s2).dp, shR, shR, ?_⟩⟩
      rw [eR]
      refine ⟨false, rfl, iteF ?_⟩
      refine ⟨_, rfl, x, m, rfl, (hx.keep s1).keep s2, fun p2 np2 => ⟨_, rfl, clD m.cl, clD m.cl, (cl_da upd_same).dp, (cl_da (same_new np2 _ _ (s2 _ _ (s1 _ _ hC)))).dp, shC, shC, ?_⟩⟩
      rw [eC]
      exact ⟨false, rfl, iteF ⟨rfl, (s1.trans s2).trans (same_new np2)⟩⟩
    clear s1
    rintro σ' H1 ⟨rfl, s1⟩
    refine ⟨fun σ' H' => ∃ d, σ' = sT m x ra ca (some (.ref l)) (some (.ref d)) ∧ Same H H' ∧ Au C H' d (stA m), ?_, ?_⟩
    · obtain ⟨ra', xs, era, hxs, hP, lx⟩ := da_rs (hR.keep s1)
      cases era
      refine ⟨_, rfl, _, rfl, ra, rfl, ⟨_, SqL.of hxs⟩, fun D nD => lc_list (K := K) (a := ra) (xs := xs) (fun i H' => Same H1 H' ∧ ∃ acc, H' D = some (.lst acc) ∧ Pts H' acc ((m.R.take i).map fun r => natI (r.map (·.s))) ∧ ∀ y ∈ acc, y ≠ .ref D) ⟨same_new nD, [], upd_same, .nil, fun y hy => (by cases hy)⟩ (fun i H' _ p => SqL.of (p.1 _ _ hxs)) ?_ ?_⟩
      · rintro i y H' hi ⟨sm, acc, hD, hA, nA⟩
        obtain ⟨b, row, ys, rfl, er, hb, hy⟩ := rs_at hP hi
        have li := (List.getElem?_eq_some_iff.mp er).1
        have la := hA.len
        rw [List.length_map, List.length_take] at la
        have lr := (ok.rw row (List.mem_of_getElem? er)).1
        have lys := da_len hy
        rw [List.length_map] at lys
        refine ⟨rfl, _, rfl, b, rfl, ⟨_, SqL.of (sm _ _ hb)⟩, fun D2 nD2 => lc_list (K := K) (a := b) (xs := ys) (fun j H2 => Same H' H2 ∧ H2 D2 = some (.lst ((natI ((row.take j).map (·.s))).map V.int))) ⟨same_new nD2, upd_same⟩ (fun j H2 _ p => SqL.of (p.1 _ _ (sm _ _ hb))) ?_ ?_⟩
        · rintro j u H2 hj ⟨s2, hD2⟩
          obtain ⟨d, ed, hd⟩ := hy.get hj
          rw [List.getElem?_map] at ed
          obtain ⟨e, ee, rfl⟩ := Option.map_eq_some_iff.mp ed
          obtain ⟨t, rfl, ht⟩ := da_en hd
          have lj := (List.getElem?_eq_some_iff.mp ee).1
          have a0 : atI [V.int (e.s : Int), .str e.w, .bl e.b] ((0 : Nat) : Int) = some (.int (e.s : Int)) := atI_nat rfl
          refine ⟨rfl, _, rfl, t, _, _, _, rfl, rfl, SqT.of (s2 _ _ (sm _ _ ht)), a0, _, hD2, ?_, fun c o e => ?_, ?_⟩
          · rw [List.length_map, natI_len, List.length_map, List.length_take]
            exact small1000 (by omega)
          · rw [upd_ne (ne_of_none e nD2)]
            exact s2 _ _ e
          · rw [upd_same, List.take_add_one, ee, List.map_append]
            unfold natI
            rw [List.map_append, List.map_append]
            rfl
        · rintro H2 ⟨s2, hD2⟩
          rw [lys, List.take_length] at hD2
          have hDD := s2 _ _ hD
          have nDD : D2 ≠ D := fun z => by
            rw [z, hD] at nD2
            cases nD2
          have nA2 : ∀ y ∈ acc ++ [V.ref D2], y ≠ .ref D := fun y hy => by
            rcases List.mem_append.mp hy with h | h
            · exact nA y h
            · rw [List.mem_singleton.mp h]
              exact fun z => nDD (V.ref.inj z)
          refine ⟨acc, hDD, small1000 (by omega), fun c o e => ?_, acc ++ [.ref D2], upd_same, ?_, nA2⟩
          · rw [upd_ne (ne_of_none (H := H1) e nD)]
            exact s2 _ _ (sm _ _ e)
          · rw [List.take_add_one, er, List.map_append]
            exact Pts.updL nA2 (Pts.snoc ⟨D2, rfl, hD2⟩ (hA.keep s2))
      · rintro H2 ⟨sm, acc, hD, hA, nA⟩
        rw [lx, List.take_length] at hA
        have hRL : RL H2 D (stA m).R := by
          refine ⟨acc, hD, ?_⟩
          show Pts H2 acc ((m.R.map fun r => r.map (·.s)).map natI)
          rw [List.map_map]
          exact hA
        refine ⟨_, rfl, (by show 0 ≤ sizeLine; omega), fun en nen => ⟨rfl, rfl, fun y dy ny ndy ne => mk_sp (m := stA m) ny ndy ne upd_same (hRL.keep (same_new nen)) (stA_ok ok) fun H3 s3 ha => ⟨rfl, y, rfl, ((s1.trans sm).trans (same_new nen)).trans s3, ha⟩⟩⟩
    clear s1
    rintro σ' H1 ⟨d, rfl, s1, had⟩
    have okA := stA_ok ok
    have wq : wordV (.str "abzq") = true := by decide +kernel
    have wab : wordV (.str "ab") = true := by decide +kernel
    have kl : ∀ (w : Str), w.length ≤ 100 → ∀ y', V.str w = .str y' → y'.length ≤ 100000 := fun w hw y' e => by
      rw [← V.str.inj e]
      omega
    refine ⟨fun σ' H' => σ' = sT m x ra ca (some (.ref l)) (some (.ref d)) ∧ Same H H' ∧ Au C H' d (stA m), ?_, ?_⟩
    · refine ⟨_, rfl, .ref x, rfl, .inr ⟨x, m, rfl, hx.keep s1, ok, fun H2 p s2 ap => ?_⟩⟩
      refine ⟨.ref p, .str "abzq", rfl, .inr ⟨p, stA m, rfl, ap, .str _, kl _ (by decide +kernel), .inr ⟨wq, okA, fun y' ey H3 t3 s3 n3 h3 => ?_⟩⟩⟩
      obtain rfl := V.str.inj ey
      refine ⟨_, rfl, .ref d, .str "abzq", rfl, .inr ⟨d, stA m, rfl, (had.keep s2).keep s3, .str _, kl _ (by decide +kernel), .inr ⟨wq, okA, fun y' ey H4 t4 s4 n4 h4 => ?_⟩⟩⟩
      obtain rfl := V.str.inj ey
      refine ⟨ptD _, ptD _, .lst (SqL.of (s4 _ _ h3)) (dp_ints _), .lst (SqL.of h4) (dp_ints _), pt_shaped _, pt_shaped _, ?_⟩
      rw [SeqAt.eqv_refl _ (SeqAt.canLay_of_shaped (pt_shaped _))]
      refine ⟨false, rfl, iteF ?_⟩
      have S4 := ((s1.trans s2).trans s3).trans s4
      have had4 := ((had.keep s2).keep s3).keep s4
      refine ⟨_, rfl, .ref x, rfl, .inr ⟨x, m, rfl, hx.keep S4, ok, fun H5 p s5 ap => ?_⟩⟩
      refine ⟨.ref p, .str "ab", rfl, .inr ⟨p, stA m, rfl, ap, .str _, kl _ (by decide +kernel), .inr ⟨wab, okA, fun y' ey H6 t6 j k s6 h6 jk dk ek => ?_⟩⟩⟩
      obtain rfl := V.str.inj ey
      refine ⟨_, rfl, .ref d, .str "ab", rfl, .inr ⟨d, stA m, rfl, (had4.keep s5).keep s6, .str _, kl _ (by decide +kernel), .inr ⟨wab, okA, fun y' ey H7 t7 j' k' s7 h7 jk' dk' ek' => ?_⟩⟩⟩
      obtain rfl := V.str.inj ey
      obtain ⟨rfl, rfl⟩ := rounds_eq jk dk ek jk' dk' ek'
      refine ⟨.tuple [.int (j : Int), .int ((k - j : Nat) : Int)], .tuple [.int (j : Int), .int ((k - j : Nat) : Int)], .tup (SqT.of (s7 _ _ h6)) (.cons (.int _) (.cons (.int _) .nil)), .tup (SqT.of h7) (.cons (.int _) (.cons (.int _) .nil)), sh_pair _ _, sh_pair _ _, ?_⟩
      rw [SeqAt.eqv_refl _ (SeqAt.canLay_of_shaped (sh_pair _ _))]
      exact ⟨false, rfl, iteF ⟨rfl, ((S4.trans s5).trans s6).trans s7, ((had4.keep s5).keep s6).keep s7⟩⟩
    clear s1 had
    rintro σ' H1 ⟨rfl, s1, had⟩
    refine ⟨_, rfl, .ref x, rfl, .inr ⟨x, m, rfl, hx.keep s1, ok, fun H2 p s2 ap => ?_⟩⟩
    have had2 := had.keep s2
    obtain ⟨dp, _, _, hp, _⟩ := id ap
    obtain ⟨dd, _, _, hd, _⟩ := id had2
    refine ⟨_, rfl, p, dp, _, .ref C, rfl, hp, T.ty hd, AT.nC, p, .ref d, stA m, rfl, ap, .inl ⟨d, stA m, rfl, had2, _, _, rfl, rfl, ?_⟩⟩
    rw [decide_eq_true (rfl : stA m = stA m)]
    refine ⟨true, rfl, iteT ?_⟩
    have s02 := s1.trans s2
    refine ⟨_, rfl, rfl, .ref x, rfl, .inr ⟨x, m, rfl, hx.keep s02, ok, fun H3 p3 s3 ap3 => ?_⟩⟩
    have had3 := had2.keep s3
    obtain ⟨dp3, _, _, hp3, _⟩ := id ap3
    obtain ⟨dd3, _, _, hd3, _⟩ := id had3
    refine ⟨_, rfl, p3, dp3, _, .ref C, rfl, hp3, T.ty hd3, AT.nC, p3, .ref d, stA m, rfl, ap3, .inl ⟨d, stA m, rfl, had3, _, _, rfl, rfl, ?_⟩⟩
    rw [decide_eq_true (rfl : stA m = stA m)]
    exact q _ (s02.trans s3)
end
end KJ
set_option Elab.async false
set_option linter.all false
set_option maxRecDepth 100000
set_option maxHeartbeats 1000000
namespace KJ
open PySem PySem.Spec PyProof.Rows L2 XV NM XT XA LamX
/-! ### makers that differ in one thing -/
def zLast (z : Str) : Str := cutS z none (some (-1)) ++ (if (z.cps.toList.getD (z.length - 1) 0) ≠ 122 then ("z" : Str) else ("y" : Str))
theorem menu_z {z : Str} (h : z ∈ menu) (n : z ≠ "") : (alphV (.str (zLast z)) = true ∧ (zLast z).cps.all (· < 128) = true ∧ (zLast z).length = z.length ∧ zLast z ≠ z) ∧ atI z.cps.toList (-1) = some (z.cps.toList.getD (z.length - 1) 0) ∧ (cutS z none (some (-1))).length ≤ 3 := by
  have : ∀ z ∈ menu, z ≠ "" → (alphV (.str (zLast z)) = true ∧ (zLast z).cps.all (· < 128) = true ∧ (zLast z).length = z.length ∧ zLast z ≠ z) ∧ atI z.cps.toList (-1) = some (z.cps.toList.getD (z.length - 1) 0) ∧ (cutS z none (some (-1))).length ≤ 3 := by decide +kernel
  exact this z h n
theorem menu_l {z : Str} (h : z ∈ menu) : z.length ≤ 3 := by
  have : ∀ z ∈ menu, z.length ≤ 3 := by decide +kernel
  exact this z h
theorem lo_short {y : Str} (h : LO y) (l : y.length ≤ 2000) : shortV (.str y) = true := by
  show (lowS y && decide (y.length ≤ 2000)) = true
  rw [lo_low h, decide_eq_true l]
  rfl
def mM (y : Str) : Str := y ++ ("m" : Str)
theorem mM_cz (y : Str) : cz (mM y) = cz y ++ [109] := by
  show (y.cps ++ ("m" : Str).cps).toList = _
  rw [Array.toList_append, show ("m" : Str).cps.toList = [109] by decide +kernel]
theorem mM_len (y : Str) : (mM y).length = y.length + 1 := by
  rw [cz_len, mM_cz, List.length_append, ← cz_len]
  rfl
theorem mM_ne (y : Str) : mM y ≠ y := fun h => by
  have := mM_len y
  rw [h] at this
  omega
theorem mM_lo {y : Str} (h : LO y) : LO (mM y) := fun c hc => by
  rw [mM_cz] at hc
  rcases List.mem_append.mp hc with hc | hc
  · exact h c hc
  · rw [List.mem_singleton.mp hc]
    omega
/-- the words are short, of few letters -/
structure LoM (m : Mm) : Prop where
  r : ∀ r ∈ m.R, ∀ e ∈ r, LO e.w ∧ e.w.length ≤ 100
  c : ∀ y ∈ m.cl, LO y ∧ y.length ≤ 100
def r0 (m : Mm) : List En := m.R.getD 0 []
def e0 (m : Mm) : En := (r0 m).getD 0 ⟨0, "", false⟩
def mSet0 (m : Mm) (e : En) : Mm := ⟨m.z, m.R.set 0 ((r0 m).set 0 e), m.s, m.cl⟩
def mStart (m : Mm) : Mm := ⟨m.z, m.R, (m.s + 1) % m.R.length, m.cl⟩
def mQ (m : Mm) : Mm := ⟨"q", m.R.map (fun r => r ++ r), m.s, m.cl⟩
def mLet (m : Mm) : Mm := ⟨zLast m.z, m.R, m.s, m.cl⟩
def c0 (m : Mm) : Str := m.cl.getD 0 ""
def mC0 (m : Mm) : Mm := ⟨m.z, m.R, m.s, mM (c0 m) :: m.cl.drop 1⟩
def cN (m : Mm) : Str := m.cl.getD (m.cl.length - 1) ""
def mCN (m : Mm) : Mm := ⟨m.z, m.R, m.s, m.cl.take (m.cl.length - 1) ++ [mM (cN m)]⟩
def rN (m : Mm) : List En := m.R.getD (m.R.length - 1) []
def eN (m : Mm) : En := (rN m).getD ((rN m).length - 1) ⟨0, "", false⟩
def flip (e : En) : En := ⟨e.s, e.w, !e.b⟩
def mRN (m : Mm) : Mm := ⟨m.z, m.R.take (m.R.length - 1) ++ [(rN m).take ((rN m).length - 1) ++ [flip (eN m)]], m.s, m.cl⟩
theorem flip_ne (e : En) : flip e ≠ e := fun h => by
  have := congrArg En.b h
  unfold flip at this
  cases h2 : e.b <;> simp [h2] at this
theorem Mm.ext4 {a b : Mm} (h : a = b) : a.z = b.z ∧ a.R = b.R ∧ a.s = b.s ∧ a.cl = b.cl := by
  subst h
  exact ⟨rfl, rfl, rfl, rfl⟩
theorem getD_at {α : Type} {l : List α} {i : Nat} (h : i < l.length) (d : α) : l[i]? = some (l.getD i d) := by
  rw [List.getD_eq_getElem?_getD, List.getElem?_eq_getElem h]
  rfl
theorem r0_at {m : Mm} (ok : MmOk m) : m.R[0]? = some (r0 m) ∧ (r0 m).length = m.z.length + 1 ∧ (r0 m)[0]? = some (e0 m) ∧ (e0 m).s < m.R.length ∧ shortV (.str (e0 m).w) = true ∧ r0 m ∈ m.R ∧ e0 m ∈ r0 m := by
  have h1 : m.R[0]? = some (r0 m) := getD_at (by have := ok.r1; omega) []
  have h2 := List.mem_of_getElem? h1
  obtain ⟨l, h⟩ := ok.rw _ h2
  have h3 : (r0 m)[0]? = some (e0 m) := getD_at (by omega) _
  obtain ⟨a, b⟩ := h _ (List.mem_of_getElem? h3)
  exact ⟨h1, l, h3, a, b, h2, List.mem_of_getElem? h3⟩
theorem rN_at {m : Mm} (ok : MmOk m) : m.R[m.R.length - 1]? = some (rN m) ∧ (rN m).length = m.z.length + 1 ∧ (rN m)[(rN m).length - 1]? = some (eN m) ∧ (eN m).s < m.R.length ∧ shortV (.str (eN m).w) = true ∧ rN m ∈ m.R ∧ eN m ∈ rN m := by
  have h1 : m.R[m.R.length - 1]? = some (rN m) := getD_at (by have := ok.r1; omega) []
  have h2 := List.mem_of_getElem? h1
  obtain ⟨l, h⟩ := ok.rw _ h2
  have h3 : (rN m)[(rN m).length - 1]? = some (eN m) := getD_at (by omega) _
  obtain ⟨a, b⟩ := h _ (List.mem_of_getElem? h3)
  exact ⟨h1, l, h3, a, b, h2, List.mem_of_getElem? h3⟩
theorem mStart_ok {m : Mm} (ok : MmOk m) (h : 1 < m.R.length) : MmOk (mStart m) ∧ mStart m ≠ m := by
  have hs := ok.hs
  refine ⟨⟨ok.al, ok.ascii, ok.lz, ok.r1, ok.r2, ok.rw, Nat.mod_lt _ (by omega), ok.lc, ok.hc⟩, fun e => ?_⟩
  have e : (m.s + 1) % m.R.length = m.s := (Mm.ext4 e).2.2.1
  by_cases c : m.s + 1 = m.R.length
  · rw [c, Nat.mod_self] at e
    omega
  · rw [Nat.mod_eq_of_lt (by omega)] at e
    omega
theorem mSet0_ok {m : Mm} (ok : MmOk m) {e : En} (h1 : e.s < m.R.length) (h2 : shortV (.str e.w) = true) (ne : e ≠ e0 m) : MmOk (mSet0 m e) ∧ mSet0 m e ≠ m := by
  obtain ⟨a1, a2, a3, a4, a5, a6, a7⟩ := r0_at ok
  have l : (m.R.set 0 ((r0 m).set 0 e)).length = m.R.length := List.length_set
  have r1 := ok.r1
  refine ⟨⟨ok.al, ok.ascii, ok.lz, ?_, ?_, fun q hq => ?_, ?_, ?_, ok.hc⟩, fun z => ?_⟩
  · show 1 ≤ (m.R.set 0 _).length
    omega
  · show (m.R.set 0 _).length ≤ 12
    rw [l]
    exact ok.r2
  · show _ ∧ ∀ e' ∈ q, e'.s < (m.R.set 0 _).length ∧ _
    rw [l]
    rcases List.mem_or_eq_of_mem_set (show q ∈ m.R.set 0 ((r0 m).set 0 e) from hq) with hq | hq
    · exact ok.rw q hq
    · rw [hq]
      refine ⟨by rw [List.length_set]; exact a2, fun y hy => ?_⟩
      rcases List.mem_or_eq_of_mem_set hy with hy | hy
      · exact (ok.rw _ a6).2 y hy
      · rw [hy]
        exact ⟨h1, h2⟩
  · show m.s < (m.R.set 0 _).length
    rw [l]
    exact ok.hs
  · show m.cl.length = (m.R.set 0 _).length
    rw [l]
    exact ok.lc
  · have z : m.R.set 0 ((r0 m).set 0 e) = m.R := (Mm.ext4 z).2.1
    have z2 : (m.R.set 0 ((r0 m).set 0 e))[0]? = some (r0 m) := by rw [z]; exact a1
    rw [List.getElem?_set_self (by omega)] at z2
    have z3 := Option.some.inj z2
    have z4 : ((r0 m).set 0 e)[0]? = some (e0 m) := by rw [z3]; exact a3
    rw [List.getElem?_set_self (by omega)] at z4
    exact ne (Option.some.inj z4)
theorem mQ_ok {m : Mm} (ok : MmOk m) (h : m.z = "") : MmOk (mQ m) ∧ mQ m ≠ m := by
  have l : (m.R.map (fun r => r ++ r)).length = m.R.length := List.length_map _
  have z0 : m.z.length = 0 := by
    rw [h]
    decide +kernel
  refine ⟨⟨show alphV (.str "q") = true by decide +kernel, show ("q" : Str).cps.all (· < 128) = true by decide +kernel, show ("q" : Str).length ≤ 26 by decide +kernel, ?_, ?_, fun q hq => ?_, ?_, ?_, ok.hc⟩, fun e => ?_⟩
  · show 1 ≤ (m.R.map _).length
    rw [l]
    exact ok.r1
  · show (m.R.map _).length ≤ 12
    rw [l]
    exact ok.r2
  · show q.length = ("q" : Str).length + 1 ∧ ∀ x ∈ q, x.s < (m.R.map _).length ∧ _
    rw [l]
    obtain ⟨r, hr, rfl⟩ := List.mem_map.mp hq
    obtain ⟨h1, h2⟩ := ok.rw r hr
    refine ⟨?_, fun x hx => ?_⟩
    · rw [List.length_append, h1, z0]
      decide +kernel
    · rcases List.mem_append.mp hx with hx | hx <;> exact h2 x hx
  · show m.s < (m.R.map _).length
    rw [l]
    exact ok.hs
  · show m.cl.length = (m.R.map _).length
    rw [l]
    exact ok.lc
  · have e : ("q" : Str) = m.z := (Mm.ext4 e).1
    rw [h] at e
    exact absurd e (by decide +kernel)
theorem mLet_ok {m : Mm} (ok : MmOk m) (h : m.z ∈ menu) (n : m.z ≠ "") : MmOk (mLet m) ∧ mLet m ≠ m := by
  obtain ⟨⟨h1, h2, h3, h4⟩, _⟩ := menu_z h n
  refine ⟨⟨h1, h2, ?_, ok.r1, ok.r2, fun r hr => ?_, ok.hs, ok.lc, ok.hc⟩, fun e => h4 (Mm.ext4 e).1⟩
  · show (zLast m.z).length ≤ 26
    rw [h3]
    exact ok.lz
  · show r.length = (zLast m.z).length + 1 ∧ _
    rw [h3]
    exact ok.rw r hr
theorem c_at {m : Mm} (ok : MmOk m) : m.cl[0]? = some (c0 m) ∧ m.cl[m.cl.length - 1]? = some (cN m) := by
  have h1 := ok.r1
  have h2 := ok.lc
  exact ⟨getD_at (by omega) _, getD_at (by omega) _⟩
theorem mC0_ok {m : Mm} (ok : MmOk m) (lo : LoM m) : MmOk (mC0 m) ∧ mC0 m ≠ m := by
  obtain ⟨a1, _⟩ := c_at ok
  obtain ⟨b1, b2⟩ := lo.c _ (List.mem_of_getElem? a1)
  have h1 := ok.r1
  have h2 := ok.lc
  refine ⟨⟨ok.al, ok.ascii, ok.lz, ok.r1, ok.r2, ok.rw, ok.hs, ?_, fun y hy => ?_⟩, fun e => ?_⟩
  · show (mM (c0 m) :: m.cl.drop 1).length = m.R.length
    rw [List.length_cons, List.length_drop]
    omega
  · rcases List.mem_cons.mp hy with h | h
    · rw [h]
      exact lo_short (mM_lo b1) (by rw [mM_len]; omega)
    · exact ok.hc y (List.mem_of_mem_drop h)
  · have e : mM (c0 m) :: m.cl.drop 1 = m.cl := (Mm.ext4 e).2.2.2
    have e2 : (mM (c0 m) :: m.cl.drop 1)[0]? = some (c0 m) := by rw [e]; exact a1
    exact mM_ne _ (Option.some.inj e2)
theorem last_ne {α : Type} {l : List α} {x y : α} (h : l[l.length - 1]? = some x) (ne : y ≠ x) : l.take (l.length - 1) ++ [y] ≠ l := fun e => by
  have li := (List.getElem?_eq_some_iff.mp h).1
  have e2 : (l.take (l.length - 1) ++ [y])[l.length - 1]? = some x := by rw [e]; exact h
  rw [List.getElem?_append_right (by rw [List.length_take]; omega)] at e2
  rw [List.length_take, show l.length - 1 - min (l.length - 1) l.length = 0 by omega] at e2
  exact ne (Option.some.inj e2)
theorem mCN_ok {m : Mm} (ok : MmOk m) (lo : LoM m) : MmOk (mCN m) ∧ mCN m ≠ m := by
  obtain ⟨_, a1⟩ := c_at ok
  obtain ⟨b1, b2⟩ := lo.c _ (List.mem_of_getElem? a1)
  have h1 := ok.r1
  have h2 := ok.lc
  refine ⟨⟨ok.al, ok.ascii, ok.lz, ok.r1, ok.r2, ok.rw, ok.hs, ?_, fun y hy => ?_⟩, fun e => last_ne a1 (mM_ne _) (Mm.ext4 e).2.2.2⟩
  · show (m.cl.take (m.cl.length - 1) ++ [mM (cN m)]).length = m.R.length
    rw [List.length_append, List.length_take]
    show _ + 1 = _
    omega
  · rcases List.mem_append.mp hy with h | h
    · exact ok.hc y (List.mem_of_mem_take h)
    · rw [List.mem_singleton.mp h]
      exact lo_short (mM_lo b1) (by rw [mM_len]; omega)
theorem mRN_ok {m : Mm} (ok : MmOk m) : MmOk (mRN m) ∧ mRN m ≠ m := by
  obtain ⟨a1, a2, a3, a4, a5, a6, a7⟩ := rN_at ok
  have r1 := ok.r1
  have l : (m.R.take (m.R.length - 1) ++ [(rN m).take ((rN m).length - 1) ++ [flip (eN m)]]).length = m.R.length := by
    rw [List.length_append, List.length_take]
    show _ + 1 = _
    omega
  refine ⟨⟨ok.al, ok.ascii, ok.lz, ?_, ?_, fun q hq => ?_, ?_, ?_, ok.hc⟩, fun e => last_ne a1 (last_ne a3 (flip_ne _)) (Mm.ext4 e).2.1⟩
  · show 1 ≤ (_ ++ _ : List (List En)).length
    rw [l]
    exact r1
  · show (_ ++ _ : List (List En)).length ≤ 12
    rw [l]
    exact ok.r2
  · show _ ∧ ∀ e' ∈ q, e'.s < (_ ++ _ : List (List En)).length ∧ _
    rw [l]
    rcases List.mem_append.mp hq with hq | hq
    · exact ok.rw q (List.mem_of_mem_take hq)
    · rw [List.mem_singleton.mp hq]
      refine ⟨?_, fun y hy => ?_⟩
      · show _ = m.z.length + 1
        rw [List.length_append, List.length_take]
        show _ + 1 = _
        omega
      · rcases List.mem_append.mp hy with hy | hy
        · exact (ok.rw _ a6).2 y (List.mem_of_mem_take hy)
        · rw [List.mem_singleton.mp hy]
          exact ⟨a4, a5⟩
  · show m.s < (_ ++ _ : List (List En)).length
    rw [l]
    exact ok.hs
  · show m.cl.length = (_ ++ _ : List (List En)).length
    rw [l]
    exact ok.lc
/-! slices -/
theorem cut_init (xs : List V) : cutV xs none (some (-1)) = xs.take (xs.length - 1) := by
  unfold cutV
  rw [HT.sIx_none, show HT.sIx xs.length xs.length (some (-1)) = xs.length - 1 from by
    show (if (-1 : Int) < 0 then ((-1 : Int) + (xs.length : Int)).toNat else min (-1 : Int).toNat xs.length) = _
    rw [if_pos (by decide)]
    omega, Nat.sub_zero, List.drop_zero]
theorem cut_tail (xs : List V) : cutV xs (some 1) none = xs.drop 1 := by
  unfold cutV
  rw [HT.sIx_none, show HT.sIx xs.length 0 (some 1) = min 1 xs.length from HT.sIx_nat _ _ 1]
  cases xs with
  | nil => rfl
  | cons x xs =>
    rw [List.length_cons, Nat.min_eq_left (by omega)]
    exact List.take_of_length_le (by simp)
theorem at_last {α : Type} {xs : List α} {x : α} (h : xs[xs.length - 1]? = some x) : atI xs (-1) = some x := by
  have l := (List.getElem?_eq_some_iff.mp h).1
  unfold atI ixN
  rw [if_neg (by decide), if_pos (by omega)]
  show xs[((-1 : Int) + (xs.length : Int)).toNat]? = some x
  rw [show ((-1 : Int) + (xs.length : Int)).toNat = xs.length - 1 by omega]
  exact h
theorem ixN_natF {n j : Nat} (hj : j < n) : ixN n (j : Int) = some j := by
  unfold ixN
  rw [if_pos (by omega), if_pos (by omega)]
  rfl
theorem DaAll.setAt {H : Hp} {v : V} {d : PyData} (h : Da H v d) : ∀ {xs : List V} {ds : List PyData} (i : Nat), DaAll H xs ds → DaAll H (xs.set i v) (ds.set i d)
  | _, _, _, .nil => .nil
  | _, _, 0, .cons _ r => .cons h r
  | _, _, i + 1, .cons a r => .cons a (DaAll.setAt h i r)
theorem DaAll.takeN {H : Hp} : ∀ {xs : List V} {ds : List PyData} (i : Nat), DaAll H xs ds → DaAll H (xs.take i) (ds.take i)
  | _, _, i, .nil => by
    rw [List.take_nil, List.take_nil]
    exact .nil
  | _, _, 0, .cons _ _ => .nil
  | _, _, i + 1, .cons a r => .cons a (DaAll.takeN i r)
/-! rows that are new, the first entry set -/
def NW (H0 H : Hp) (D : Addr) (R : List (List En)) : Prop := ∃ xs, H D = some (.lst xs) ∧ H0 D = none ∧ xs.length = R.length ∧ xs.Nodup ∧ ∀ (j : Nat) row, R[j]? = some row → ∃ b ys, xs[j]? = some (.ref b) ∧ H0 b = none ∧ b ≠ D ∧ H b = some (.lst ys) ∧ DaAll H ys (row.map enD)
theorem NW.keep {H0 H H' : Hp} {D : Addr} {R : List (List En)} (h : NW H0 H D R) (s : Same H H') : NW H0 H' D R := by
  obtain ⟨xs, h1, h2, h3, h4, h5⟩ := h
  refine ⟨xs, s _ _ h1, h2, h3, h4, fun j row ej => ?_⟩
  obtain ⟨b, ys, a1, a2, a3, a4, a5⟩ := h5 j row ej
  exact ⟨b, ys, a1, a2, a3, s _ _ a4, DaAll.keep s a5⟩
theorem RwN.nw {H0 H : Hp} {D : Addr} {R : List (List En)} (h : RwN H0 H D R) (s : Same H0 H) : NW H0 H D R := by
  obtain ⟨xs, h1, h2, h3, h4, h5, h6⟩ := h
  refine ⟨xs, h1, h2, h3, h4, fun j row ej => ?_⟩
  obtain ⟨b, ys, a1, a2, a3, a4⟩ := h6 j row (List.getElem?_eq_some_iff.mp ej).1 ej
  exact ⟨b, ys, a1, a2, fun z => (h5 _ (List.mem_of_getElem? a1)).1 (by rw [z]), a3, DaAll.keep s a4⟩
theorem NW.da {H0 H : Hp} {D : Addr} {R : List (List En)} (h : NW H0 H D R) : Da H (.ref D) (rsD R) := by
  obtain ⟨xs, h1, h2, h3, h4, h5⟩ := h
  refine .lst h1 (DaAll.ofGet (by rw [h3, List.length_map]) fun i x d ex ed => ?_)
  rw [List.getElem?_map] at ed
  obtain ⟨row, er, rfl⟩ := Option.map_eq_some_iff.mp ed
  obtain ⟨b, ys, a1, a2, a3, a4, a5⟩ := h5 i row er
  rw [ex] at a1
  cases a1
  exact .lst a4 a5
/-- row 0, at b0 -/
theorem NW.row0 {H0 H : Hp} {D : Addr} {R : List (List En)} {row : List En} (h : NW H0 H D R) (e : R[0]? = some row) : ∃ xs b ys, H D = some (.lst xs) ∧ xs[0]? = some (.ref b) ∧ H0 b = none ∧ b ≠ D ∧ H b = some (.lst ys) ∧ DaAll H ys (row.map enD) := by
  obtain ⟨xs, h1, h2, h3, h4, h5⟩ := h
  obtain ⟨b, ys, a1, a2, a3, a4, a5⟩ := h5 0 row e
  exact ⟨xs, b, ys, h1, a1, a2, a3, a4, a5⟩
theorem NW.set0 {H0 H : Hp} {D b t : Addr} {R : List (List En)} {row : List En} {xs ys : List V} {e : En} (h : NW H0 H D R) (er : R[0]? = some row) (hD : H D = some (.lst xs)) (hb0 : xs[0]? = some (.ref b)) (hb : H b = some (.lst ys)) (ht : Da H (.ref t) (enD e)) : NW H0 (upd H b (.lst (ys.set 0 (.ref t)))) D (R.set 0 (row.set 0 e)) := by
  obtain ⟨xs', h1, h2, h3, h4, h5⟩ := h
  rw [hD] at h1
  cases h1
  obtain ⟨b', ys', a1, a2, a3, a4, a5⟩ := h5 0 row er
  rw [hb0] at a1
  cases a1
  rw [hb] at a4
  cases a4
  refine ⟨xs, ?_, h2, by rw [List.length_set, h3], h4, fun j r ej => ?_⟩
  · rw [upd_ne (Ne.symm a3)]
    exact hD
  · by_cases c : j = 0
    · subst c
      have lR := (List.getElem?_eq_some_iff.mp er).1
      rw [List.getElem?_set_self lR] at ej
      cases ej
      refine ⟨b, _, hb0, a2, a3, upd_same, ?_⟩
      have a6 := DaAll.setAt ht 0 a5
      rw [← List.map_set] at a6
      exact ens_upd hb a6
    · rw [List.getElem?_set_ne (fun z => c z.symm)] at ej
      obtain ⟨b2, zs, d1, d2, d3, d4, d5⟩ := h5 j r ej
      refine ⟨b2, zs, d1, d2, d3, ?_, ens_upd hb d5⟩
      rw [upd_ne fun z => ?_]
      · exact d4
      · subst z
        exact c ((List.getElem?_inj (by have := (List.getElem?_eq_some_iff.mp d1).1; exact this) h4).mp (d1.trans hb0.symm))
/-! makers gathered in o, none of them m -/
def OthM (C : Addr) (m : Mm) (b0 : Addr) (H H' : Hp) (o : Addr) (ys : List V) : Prop := Same H H' ∧ H o = none ∧ H' o = some (.lst ys) ∧ ∀ y ∈ ys, ∃ b m', y = .ref b ∧ MaZ C H' b m' (fun a => a = o ∨ a = b0) ∧ MmOk m' ∧ m' ≠ m
theorem OthM.keep {C : Addr} {m : Mm} {b0 : Addr} {H H1 H2 : Hp} {o : Addr} {ys : List V} (h : OthM C m b0 H H1 o ys) (s : Same H1 H2) : OthM C m b0 H H2 o ys := by
  obtain ⟨h1, h2, h3, h4⟩ := h
  refine ⟨h1.trans s, h2, s _ _ h3, fun y hy => ?_⟩
  obtain ⟨b, m', e, a, n⟩ := h4 y hy
  exact ⟨b, m', e, a.keep s, n⟩
theorem OthM.upd0 {C : Addr} {m : Mm} {b0 : Addr} {H H1 : Hp} {o : Addr} {ys : List V} {v : HO} (h : OthM C m b0 H H1 o ys) (n0 : H b0 = none) (ne : o ≠ b0) : OthM C m b0 H (upd H1 b0 v) o ys := by
  obtain ⟨h1, h2, h3, h4⟩ := h
  refine ⟨fun c w e => ?_, h2, ?_, fun y hy => ?_⟩
  · rw [upd_ne (ne_of_none e n0)]
    exact h1 _ _ e
  · rw [upd_ne ne]
    exact h3
  · obtain ⟨b, m', e, a, n⟩ := h4 y hy
    exact ⟨b, m', e, a.upd (.inr rfl), n⟩
theorem OthM.snoc {C : Addr} {m m' : Mm} {b0 : Addr} {H H1 H2 : Hp} {o b : Addr} {ys zs : List V} (h : OthM C m b0 H H1 o ys) (s : Same H1 H2) (ha : MaZ C H2 b m' (fun a => ∃ xs, H1 a = some (.lst xs))) (hb0 : H1 b0 = some (.lst zs)) (n : MmOk m' ∧ m' ≠ m) : OthM C m b0 H (upd H2 o (.lst (ys ++ [.ref b]))) o (ys ++ [.ref b]) := by
  obtain ⟨h1, h2, h3, h4⟩ := h.keep s
  refine ⟨fun c v e => ?_, h2, upd_same, fun y hy => ?_⟩
  · rw [upd_ne (ne_of_none e h2)]
    exact h1 _ _ e
  · rcases List.mem_append.mp hy with hy | hy
    · obtain ⟨b', m1, e, a, n⟩ := h4 y hy
      exact ⟨b', m1, e, a.upd (.inl rfl), n⟩
    · refine ⟨b, m', List.mem_singleton.mp hy, (ha.sub fun a e => ?_).upd (.inl rfl), n⟩
      rcases e with e | e
      · exact ⟨_, by rw [e]; exact h.2.2.1⟩
      · exact ⟨_, by rw [e]; exact hb0⟩
end KJ
set_option Elab.async false
set_option linter.all false
set_option maxRecDepth 100000
set_option maxHeartbeats 1000000
namespace KJ
open PySem PySem.Spec PyProof.Rows L2 XV NM XT XA LamX
/-! ### equal makers -/
abbrev sEG : Stmt := top 51
abbrev nEG : List Str := ["_law_maker", "_law_letters", "_law_rows", "_law_first", "_law_last", "_law_new", "_law_state", "_law_word_here", "_law_itself", "_law_others", "_law_entry", "_law_row", "_law_other"]
theorem scEG : FnScope nEG ["_law_maker", "_law_letters", "_law_rows", "_law_first", "_law_last"] (defScope sEG) := ⟨rfl, rfl, rfl, by decide +kernel, rfl, by decide +kernel, by decide +kernel⟩
def spEG (CM : Addr) : Sp := fun vs H Q _ => ∃ (x ra ca : Addr) (m : Mm), vs = [.ref x, .str m.z, .ref ra, .int (m.s : Int), .ref ca] ∧ Ma CM H x m ∧ Da H (.ref ra) (rsD m.R) ∧ H ca = some (.lst (m.cl.map V.str)) ∧ MmOk m ∧ LoM m ∧ m.z ∈ menu ∧ ∀ H', Same H H' → Q (.bl true) H'
def sE (m : Mm) (x ra ca : Addr) (nw st wd it ot en : Option V) : L2.St := [some (.ref x), some (.str m.z), some (.ref ra), some (.int (m.s : Int)), some (.ref ca), nw, st, wd, it, ot, en, none, none]
theorem rm_same {o : Addr} {A B : Hp} (s : Same A B) : Same (rm o A) (rm o B) := fun a v e => by
  unfold rm at e ⊢
  split at e
  · cases e
  · rename_i n
    rw [if_neg n]
    exact s _ _ e
theorem rm_upd {o : Addr} {A : Hp} {v : HO} : Same (rm o A) (rm o (upd A o v)) := fun a u e => by
  unfold rm at e ⊢
  split at e
  · cases e
  · rename_i n
    rw [if_neg n, upd_ne n]
    exact e
theorem rm_upd2 {o b : Addr} {A : Hp} {v : HO} : Same (upd (rm o A) b v) (rm o (upd A b v)) ∨ b = o := by
  by_cases c : b = o
  · exact .inr c
  · refine .inl fun a u e => ?_
    by_cases h : a = b
    · subst h
      rw [upd_same] at e
      unfold rm
      rw [if_neg c, upd_same]
      exact e
    · rw [upd_ne h] at e
      unfold rm at e ⊢
      split at e
      · cases e
      · rename_i n
        rw [if_neg n, upd_ne h]
        exact e
def NB (H0 H : Hp) (D b0 : Addr) (R : List (List En)) : Prop := NW H0 H D R ∧ H0 b0 = none ∧ b0 ≠ D ∧ ∃ xs ys row, R[0]? = some row ∧ H D = some (.lst xs) ∧ xs[0]? = some (.ref b0) ∧ H b0 = some (.lst ys) ∧ DaAll H ys (row.map enD)
theorem NB.keep {H0 H H' : Hp} {D b0 : Addr} {R : List (List En)} (h : NB H0 H D b0 R) (s : Same H H') : NB H0 H' D b0 R := by
  obtain ⟨h1, h2, h3, xs, ys, row, h4, h5, h6, h7, h8⟩ := h
  exact ⟨h1.keep s, h2, h3, xs, ys, row, h4, s _ _ h5, h6, s _ _ h7, DaAll.keep s h8⟩
theorem NB.of {H0 H : Hp} {D : Addr} {R : List (List En)} {row : List En} (h : NW H0 H D R) (e : R[0]? = some row) : ∃ b0, NB H0 H D b0 R := by
  obtain ⟨xs, b, ys, h1, h2, h3, h4, h5, h6⟩ := h.row0 e
  exact ⟨b, h, h3, h4, xs, ys, row, e, h1, h2, h5, h6⟩
theorem NB.set0 {H0 H : Hp} {D b0 t : Addr} {R : List (List En)} {row : List En} {xs ys : List V} {e : En} (h : NB H0 H D b0 R) (er : R[0]? = some row) (hD : H D = some (.lst xs)) (hb0 : xs[0]? = some (.ref b0)) (hb : H b0 = some (.lst ys)) (ht : Da H (.ref t) (enD e)) : NB H0 (upd H b0 (.lst (ys.set 0 (.ref t)))) D b0 (R.set 0 (row.set 0 e)) := by
  obtain ⟨h1, h2, h3, xs', ys', row', h4, h5, h6, h7, h8⟩ := h
  rw [hb] at h7
  cases h7
  rw [er] at h4
  cases h4
  have lR := (List.getElem?_eq_some_iff.mp er).1
  refine ⟨h1.set0 er hD hb0 hb ht, h2, h3, xs, _, row.set 0 e, List.getElem?_set_self lR, by rw [upd_ne (Ne.symm h3)]; exact hD, hb0, upd_same, ?_⟩
  have a6 := DaAll.setAt ht 0 h8
  rw [← List.map_set] at a6
  exact ens_upd hb a6
section
variable {P : Program} {w : World} {K : PySem.W.Frag} {mg : Str → Option Value} {base : Heap} {f : Addr} {fd : FuncData} {C CM : Addr}
theorem ok_equal (F : FnP K "_law_equal_good" sEG f fd) (TM : MT K mg CM) (nf : PySem.W.notFirst K CM (.type "list") = true) (o_mkM : OkMkM P w K mg base CM) (o_eqM : OkEqM P w K mg base CM) (z_len : mg "len" = none) (z_list : mg "list" = none) (z_int : mg "int" = none) :
    FnOk P w K mg base CX0 8 f fd ["_law_maker", "_law_letters", "_law_rows", "_law_first", "_law_last"] (spEG CM) := by
  have nd := scEG.nd
  obtain ⟨fm, fdm, g1, g2, FG, bg⟩ := o_eqM.ex
  refine F.ok scEG (fun vs H Q E h => ?_) (fun cdv A outer s H vs Q E hr h => ?_)
  · obtain ⟨x, ra, ca, m, rfl, _⟩ := h
    rfl
  · obtain ⟨x, ra, ca, m, rfl, hx, hR, hC, ok, lo, mz, q⟩ := h
    have hu := hr.units
    have szl := sizeLine_eq
    have r7 : Room 7 (A.deeper (envOfC "_law_equal_good" (defScope sEG) s.heap.objs.size f cdv)) := hr
    have r1 := r7.mono (by decide : 1 ≤ 7)
    refine ⟨_, PSs.nox (C8.pss_cut (ps_if (pt_cmpR op_notBl (pe_cmpR (op_ownE g1 g2 FG r1 bg pass0) (pv 0) (pe_mkMC1 o_mkM r7 (by rfl) (pa_cons (pv 1) (pa_cons (pe_lc (own := [("_law_row", 11)]) (g := gName 11) (by rfl) nd (pi_list (pv 2)) (blkOk_by (N := nEG) (sc := defScope sEG) (own := [("_law_row", 11)]) (by decide +kernel)) (fun _ _ _ _ _ => pg_name (i := 11) nd rfl (Or.inl rfl)) (fun _ _ _ _ _ => pts_nil)
          (fun _ _ _ _ _ => pe_callTy (call_list_ofK (K := K) rfl) (by rfl) z_list (by decide +kernel) (pa_cons (pv 11) pa_nil))) pa_nil)) (pk_cons (pv 3) (pk_cons (pe_callTy call_list_of (by rfl) z_list (by decide +kernel) (pa_cons (pv 4) pa_nil)) pk_nil))) (nomark _)) pe_bl (nomark _)) (pss_one (ps_ret pe_bl)) pss_nil)
      (pss_cons (ps_setLc (i := 5) (own := [("_law_row", 11)]) (g := gName 11) (by rfl) nd rfl rfl (sw_true rfl rfl rfl (by decide +kernel)) (pi_list (pv 2)) (blkOk_by (N := nEG) (sc := defScope sEG) (own := [("_law_row", 11)]) (by decide +kernel)) (fun _ _ _ _ _ => pg_name (i := 11) nd rfl (Or.inl rfl)) (fun _ _ _ _ _ => pts_nil)
          (fun _ _ _ _ _ => pe_callTy (call_list_ofK (K := K) rfl) (by rfl) z_list (by decide +kernel) (pa_cons (pv 11) pa_nil)))
      (C8.pss_cut (ps_asg (pe_ix ix_list (pe_ix ix_list (pv 5) pe_int (fun _ _ => rfl)) pe_int (fun _ _ => rfl)) (pg_tup rfl (pgs_cons (pg_name (i := 6) nd rfl (Or.inl rfl)) (pgs_cons (pg_name (i := 7) nd rfl (Or.inl rfl)) (pgs_cons (pg_name (i := 8) nd rfl (Or.inl rfl)) pgs_nil)))))
      (C8.pss_cut (ps_set (i := 9) nd rfl (Or.inl rfl) (pe_lst (pa_cons (pe_mkMC1 o_mkM r7 (by rfl) (pa_cons (pv 1) (pa_cons (pv 2) pa_nil)) (pk_cons (pv 3) (pk_cons (pe_op op_cat (pe_lst (pa_cons (pe_op op_add_str (pe_ix ix_list (pv 4) pe_int (fun _ _ => rfl)) pe_str) pa_nil)) (pe_slice sl_list (pv 4) (po_some pe_int) po_none)) pk_nil))) pa_nil)))
      (C8.pss_cut (ps_for PassesOwn.never rfl (pi_list (pe_lst (pa_cons (pe_tup (pa_cons (pv 6) (pa_cons (pe_op op_add_str (pv 7) pe_str) (pa_cons (pv 8) pa_nil)))) (pa_cons (pe_tup (pa_cons (pv 6) (pa_cons (pv 7) (pa_cons (pe_not (pv 8)) pa_nil)))) (pa_cons (pe_tup (pa_cons (pe_op op_mod (pe_callTy call_int1 (by rfl) z_int (by decide +kernel) (pa_cons (pe_op op_add (pv 6) pe_int) pa_nil)) (pe_callB call_len (by rfl) z_len boot_len (pa_cons (pv 2) pa_nil))) (pa_cons (pv 7) (pa_cons (pv 8) pa_nil)))) pa_nil))))) (pg_name (i := 10) nd rfl (Or.inl rfl))
        (pss_cons (ps_asg (pv 10) (pg_sub (pe_ix ix_list (pv 5) pe_int (fun _ _ => rfl)) pe_int set_list))
        (pss_one (ps_if (pt_cmpR (op_neD hu) (pv 10) (pe_ix ix_list (pe_ix ix_list (pv 2) pe_int (fun _ _ => rfl)) pe_int (fun _ _ => rfl)) (nomark _)) (pss_one (ps_expr (pe_bm PySem.F.plainAttrs_list PySem.F.slot_list_append PySem.F.type_list_append mt_append (pv 9) (pa_cons (pe_mkMC1 o_mkM r7 (by rfl) (pa_cons (pv 1) (pa_cons (pe_lc (own := [("_law_row", 11)]) (g := gName 11) (by rfl) nd (pi_list (pv 5)) (blkOk_by (N := nEG) (sc := defScope sEG) (own := [("_law_row", 11)]) (by decide +kernel)) (fun _ _ _ _ _ => pg_name (i := 11) nd rfl (Or.inl rfl)) (fun _ _ _ _ _ => pts_nil)
          (fun _ _ _ _ _ => pe_callTy (call_list_ofK (K := K) rfl) (by rfl) z_list (by decide +kernel) (pa_cons (pv 11) pa_nil))) pa_nil)) (pk_cons (pv 3) (pk_cons (pv 4) pk_nil))) pa_nil)))) pss_nil))))
      (C8.pss_cut (ps_if (pt_cmpR op_gt (pe_callB call_len (by rfl) z_len boot_len (pa_cons (pv 2) pa_nil)) pe_int (nomark _)) (pss_one (ps_expr (pe_bm PySem.F.plainAttrs_list PySem.F.slot_list_append PySem.F.type_list_append mt_append (pv 9) (pa_cons (pe_mkMC1 o_mkM r7 (by rfl) (pa_cons (pv 1) (pa_cons (pv 2) pa_nil)) (pk_cons (pe_op op_mod (pe_callTy call_int1 (by rfl) z_int (by decide +kernel) (pa_cons (pe_op op_add (pv 3) pe_int) pa_nil)) (pe_callB call_len (by rfl) z_len boot_len (pa_cons (pv 2) pa_nil))) (pk_cons (pv 4) pk_nil))) pa_nil)))) pss_nil)
      (C8.pss_cut (ps_if (pt_cmpR op_eq (pv 1) pe_str (nomark _)) (pss_one (ps_expr (pe_bm PySem.F.plainAttrs_list PySem.F.slot_list_append PySem.F.type_list_append mt_append (pv 9) (pa_cons (pe_mkMC1 o_mkM r7 (by rfl) (pa_cons pe_str (pa_cons (pe_lc (own := [("_law_row", 11)]) (g := gName 11) (by rfl) nd (pi_list (pv 2)) (blkOk_by (N := nEG) (sc := defScope sEG) (own := [("_law_row", 11)]) (by decide +kernel)) (fun _ _ _ _ _ => pg_name (i := 11) nd rfl (Or.inl rfl)) (fun _ _ _ _ _ => pts_nil) (fun _ _ _ _ _ => pe_op op_cat (pv 11) (pv 11))) pa_nil)) (pk_cons (pv 3) (pk_cons (pv 4) pk_nil))) pa_nil)))) (pss_one (ps_expr (pe_bm PySem.F.plainAttrs_list PySem.F.slot_list_append PySem.F.type_list_append mt_append (pv 9) (pa_cons (pe_mkMC1 o_mkM r7 (by rfl) (pa_cons (pe_op op_add_str (pe_slice sl_str (pv 1) po_none (po_some (pe_un un_neg pe_int))) (pe_ifExp (pt_cmpR op_ne (pe_ix ix_str (pv 1) (pe_un un_neg pe_int) (fun _ _ => rfl)) pe_str (nomark _)) pe_str pe_str)) (pa_cons (pv 2) pa_nil)) (pk_cons (pv 3) (pk_cons (pv 4) pk_nil))) pa_nil)))))
      (C8.pss_cut (ps_asg (pe_ix ix_list (pe_ix ix_list (pv 2) (pe_un un_neg pe_int) (fun _ _ => rfl)) (pe_un un_neg pe_int) (fun _ _ => rfl)) (pg_tup rfl (pgs_cons (pg_name (i := 6) nd rfl (Or.inl rfl)) (pgs_cons (pg_name (i := 7) nd rfl (Or.inl rfl)) (pgs_cons (pg_name (i := 8) nd rfl (Or.inl rfl)) pgs_nil)))))
      (C8.pss_cut (ps_expr (pe_bm PySem.F.plainAttrs_list PySem.F.slot_list_append PySem.F.type_list_append mt_append (pv 9) (pa_cons (pe_mkMC1 o_mkM r7 (by rfl) (pa_cons (pv 1) (pa_cons (pe_op op_cat (pe_slice sl_list (pv 2) po_none (po_some (pe_un un_neg pe_int))) (pe_lst (pa_cons (pe_op op_cat (pe_slice sl_list (pe_ix ix_list (pv 2) (pe_un un_neg pe_int) (fun _ _ => rfl)) po_none (po_some (pe_un un_neg pe_int))) (pe_lst (pa_cons (pe_tup (pa_cons (pv 6) (pa_cons (pv 7) (pa_cons (pe_not (pv 8)) pa_nil)))) pa_nil))) pa_nil))) pa_nil)) (pk_cons (pv 3) (pk_cons (pv 4) pk_nil))) pa_nil)))
      (C8.pss_cut (ps_expr (pe_bm PySem.F.plainAttrs_list PySem.F.slot_list_append PySem.F.type_list_append mt_append (pv 9) (pa_cons (pe_mkMC1 o_mkM r7 (by rfl) (pa_cons (pv 1) (pa_cons (pv 2) pa_nil)) (pk_cons (pv 3) (pk_cons (pe_op op_cat (pe_slice sl_list (pv 4) po_none (po_some (pe_un un_neg pe_int))) (pe_lst (pa_cons (pe_op op_add_str (pe_ix ix_list (pv 4) (pe_un un_neg pe_int) (fun _ _ => rfl)) pe_str) pa_nil))) pk_nil))) pa_nil)))
      (C8.pss_cut (ps_if (pt_cmpR op_notBl (pe_cmpR (op_ownE g1 g2 FG r1 bg pass0) (pv 0) (pe_mkMC4 o_mkM r7 (by rfl) (pk_cons (pe_callTy call_list_of (by rfl) z_list (by decide +kernel) (pa_cons (pv 4) pa_nil)) (pk_cons (pv 3) (pk_cons (pv 2) (pk_cons (pv 1) pk_nil))))) (nomark _)) pe_bl (nomark _)) (pss_one (ps_ret pe_bl)) pss_nil)
      (pss_one (ps_ret (pe_and (pe_cmpR (op_eqD hu) (pe_lc (own := [("_law_other", 12)]) (g := gName 12) (by rfl) nd (pi_list (pv 9)) (blkOk_by (N := nEG) (sc := defScope sEG) (own := [("_law_other", 12)]) (by decide +kernel)) (fun _ _ _ _ _ => pg_name (i := 12) nd rfl (Or.inl rfl))
          (fun _ _ _ _ _ => pts_one (pt_cmpR op_notBl (pe_cmpR (op_ownEK (K := K) rfl g1 g2 FG r1 bg pass0) (pv 0) (pv 12) (nomark _)) pe_bl (nomark _))) (fun _ _ _ _ _ => pv 12)) (pe_lst pa_nil) (nomark _)) (pe_one (pe_cmpR op_isBl (pe_cmpR (op_ownE g1 g2 FG r1 bg pass0) (pv 0) (pv 2) (nomark _)) pe_bl (nomark _))))))))))))))))), ?_⟩
    obtain ⟨ra', xs, era, hra, hP, lx⟩ := da_rs hR
    cases era
    have ok1 := ok.r1
    have ok2 := ok.r2
    have lc := ok.lc
    have lz := menu_l mz
    have l60 : m.R.length ≤ 60 := by omega
    obtain ⟨dx, r', e', hx1, _⟩ := id hx
    obtain ⟨ar1, ar2, ar3, ar4, ar5, ar6, ar7⟩ := r0_at ok
    obtain ⟨nr1, nr2, nr3, nr4, nr5, nr6, nr7⟩ := rN_at ok
    obtain ⟨cc1, cc2⟩ := c_at ok
    obtain ⟨lo1, lo2⟩ := lo.r _ ar6 _ ar7
    have shR := shaped_rs ok.rt
    -- the same again
    refine ⟨fun σ' H' => σ' = sE m x ra ca (none) (none) (none) (none) (none) (none) ∧ Same H H', ?_, ?_⟩
    · refine ⟨_, rfl, _, rfl, _, rfl, ra, rfl, ⟨_, SqL.of hra⟩, fun D nD => lc_list (K := K) (a := ra) (xs := xs) (CpM H D m.R) (cm_0 nD) (fun i H' _ p => SqL.of (p.1 _ _ hra)) ?_ ?_⟩
      · rintro i y H' hi p
        obtain ⟨b, row, ys, rfl, er, hb, hy⟩ := rs_at hP hi
        exact ⟨rfl, _, rfl, b, _, rfl, .inl (SqL.of (p.1 _ _ hb)), fun l nl => cm_s p nD er hy l60 nl⟩
      · intro H1 p
        have s1 := p.1
        have rn := cm_e p nD lx
        refine ⟨_, rfl, _, rfl, ca, _, rfl, .inl (SqL.of (s1 _ _ hC)), fun l nl => ⟨rfl, rfl, fun y dy ny ndy ne => mk_spM (m := m) rfl rfl ny ndy ne upd_same ((rn.dS fun a xs e => s1 _ _ e).keep (same_new nl)) ok fun H2 s2 ha => ⟨rfl, ?_⟩⟩⟩
        have S := (s1.trans (same_new nl)).trans s2
        obtain ⟨_, _, _, hy, _⟩ := ha.ma
        refine ⟨x, dx, _, .ref CM, rfl, S _ _ hx1, TM.ty hy, AT.nC, x, .ref y, m, rfl, hx.keep S, ok, .inl ⟨y, m, rfl, ha.ma, ok, _, _, rfl, rfl, _, rfl, ite2 (fun z => ?_) (fun _ => ⟨rfl, S⟩)⟩⟩
        rw [decide_eq_true (rfl : m = m)] at z
        cases z
    rintro σ' H1 ⟨rfl, s1⟩
    -- new rows
    refine ⟨_, rfl, ra, rfl, ⟨_, SqL.of (s1 _ _ hra)⟩, fun D nD => lc_list (K := K) (a := ra) (xs := xs) (CpM H1 D m.R) (cm_0 nD) (fun i H' _ p => SqL.of (p.1 _ _ (s1 _ _ hra))) ?_ ?_⟩
    · rintro i y H' hi p
      obtain ⟨b, row, ys, rfl, er, hb, hy⟩ := rs_at (DaAll.keep s1 hP) hi
      exact ⟨rfl, _, rfl, b, _, rfl, .inl (SqL.of (p.1 _ _ hb)), fun l nl => cm_s p nD er hy l60 nl⟩
    intro H2 p
    have s2 := p.1
    have nDH : H D = none := was_none s1 nD
    have nwx := (cm_e p nD lx).nw s2
    obtain ⟨b0, nb⟩ := NB.of nwx ar1
    have nbH : NB H H2 D b0 m.R := by
      obtain ⟨⟨xs1, a1, a2, a3, a4, a5⟩, n2, n3, rest⟩ := nb
      refine ⟨⟨xs1, a1, nDH, a3, a4, fun j row ej => ?_⟩, was_none s1 n2, n3, rest⟩
      obtain ⟨b, ys, c1, c2, c3⟩ := a5 j row ej
      exact ⟨b, ys, c1, was_none s1 c2, c3⟩
    have s02 := s1.trans s2
    clear nwx nb p
    -- its first entry
    refine ⟨fun σ' H' => σ' = sE m x ra ca (some (.ref D)) (some (.int ((e0 m).s : Int))) (some (.str (e0 m).w)) (some (.bl (e0 m).b)) (none) (none) ∧ H2 = H', ?_, ?_⟩
    · obtain ⟨_, _, _, xs1, ys1, row1, h4, h5, h6, h7, h8⟩ := id nbH
      rw [ar1] at h4
      cases h4
      obtain ⟨t, ey, ht⟩ := en_at h8 ar3
      exact ⟨_, rfl, D, xs1, _, _, rfl, rfl, SqL.of h5, atI_nat h6, b0, ys1, _, _, rfl, rfl, SqL.of h7, atI_nat ey, t, _, rfl, SqT.of ht, rfl, _, _, rfl, _, _, rfl, _, _, rfl, rfl, rfl, rfl⟩
    rintro σ' _ ⟨rfl, rfl⟩
    have nbD := nbH.2.1
    -- the first of the others
    refine ⟨fun σ' H' => ∃ o ys, σ' = sE m x ra ca (some (.ref D)) (some (.int ((e0 m).s : Int))) (some (.str (e0 m).w)) (some (.bl (e0 m).b)) (some (.ref o)) (none) ∧ OthM CM m b0 H H' o ys ∧ ys.length ≤ 1 ∧ NB H (rm o H') D b0 m.R ∧ o ≠ b0, ?_, ?_⟩
    · have a0 : atI (m.cl.map V.str) ((0 : Nat) : Int) = some (.str (c0 m)) := atI_nat (by rw [List.getElem?_map, cc1]; rfl)
      obtain ⟨lc1, lc2⟩ := lo.c _ (List.mem_of_getElem? cc1)
      have hC2 := s02 _ _ hC
      refine ⟨_, rfl, _, rfl, _, rfl, _, rfl, ca, _, _, _, rfl, rfl, SqL.of hC2, a0, _, _, rfl, rfl, (by show (c0 m).length + ("m" : Str).length ≤ sizeLine; rw [show ("m" : Str).length = 1 by decide +kernel]; omega), (by show 1 ≤ sizeLine; omega), fun l1 nl1 => ?_⟩
      have s3 := same_new (o := .lst [V.str (c0 m ++ ("m" : Str))]) nl1
      refine ⟨_, rfl, _, rfl, ca, _, rfl, SqL.of (s3 _ _ hC2), fun l2 nl2 => ?_⟩
      have s4 := same_new (o := .lst (cutV (m.cl.map V.str) (some 1) none)) nl2
      refine ⟨l1, l2, _, _, rfl, rfl, s4 _ _ upd_same, upd_same, ?_, fun p np => ?_⟩
      · have := cutV_length (m.cl.map V.str) (some 1) none
        rw [List.length_map] at this
        show 1 + _ ≤ sizeLine
        omega
      have s5 := same_new (o := .lst ([V.str (c0 m ++ ("m" : Str))] ++ cutV (m.cl.map V.str) (some 1) none)) np
      have hp : upd (upd (upd H2 l1 (.lst [V.str (c0 m ++ ("m" : Str))])) l2 (.lst (cutV (m.cl.map V.str) (some 1) none))) p (.lst ([V.str (c0 m ++ ("m" : Str))] ++ cutV (m.cl.map V.str) (some 1) none)) p = some (.lst ((mC0 m).cl.map V.str)) := by
        rw [upd_same, cut_tail]
        show _ = some (HO.lst ((mM (c0 m) :: m.cl.drop 1).map V.str))
        rw [List.map_cons, List.map_drop]
        rfl
      have sX := (s3.trans s4).trans s5
      refine ⟨rfl, rfl, fun y dy ny ndy ne => mk_spM (m := mC0 m) rfl rfl ny ndy ne hp ((hR.keep s02).keep sX) (mC0_ok ok lo).1 fun H3 s6 ha => ⟨rfl, (by show 1 ≤ sizeLine; omega), fun o no => ?_⟩⟩
      have S := sX.trans s6
      have s7 := same_new (o := .lst [V.ref y]) no
      obtain ⟨_, _, _, xs1, ys1, row1, _, _, _, h7, _⟩ := id nbH
      have ob : o ≠ b0 := Ne.symm (ne_of_none (S _ _ h7) no)
      have noH : H o = none := was_none (s02.trans S) no
      refine ⟨o, _, rfl, ⟨(s02.trans S).trans s7, noH, upd_same, fun z hz => ?_⟩, Nat.le_refl _, nbH.keep fun a v e => ?_, ob⟩
      · obtain ⟨G, g1, g2, g3⟩ := ha
        refine ⟨y, mC0 m, List.mem_singleton.mp hz, ⟨G, g1.trans s7, fun a za => ?_, g3⟩, mC0_ok ok lo⟩
        rcases za with za | za
        · rw [za]
          cases e : G o with
          | none => rfl
          | some v =>
            rw [g1 _ _ e] at no
            cases no
        · exact g2 a ⟨ys1, by rw [za]; exact sX _ _ h7⟩
      · unfold rm
        rw [if_neg (ne_of_none (S _ _ e) no)]
        exact s7 _ _ (S _ _ e)
    clear nbH s2 nD s1
    rintro σ' H1 ⟨o, ys, rfl, ho, l1, nbo, ob⟩
    -- the first entry turned
    refine ⟨fun σ' H' => ∃ ys en, σ' = sE m x ra ca (some (.ref D)) (some (.int ((e0 m).s : Int))) (some (.str (e0 m).w)) (some (.bl (e0 m).b)) (some (.ref o)) (en) ∧ OthM CM m b0 H H' o ys ∧ ys.length ≤ 4 ∧ ∃ zs, H' b0 = some (.lst zs), ?_, ?_⟩
    · refine ⟨_, rfl, _, rfl, _, _, rfl, rfl, (by show (e0 m).w.length + ("m" : Str).length ≤ sizeLine; rw [show ("m" : Str).length = 1 by decide +kernel]; omega), _, rfl, (by show 3 ≤ sizeLine; omega), fun t1 nt1 => ?_⟩
      have q1 := same_new (o := .tup [.int ((e0 m).s : Int), .str ((e0 m).w ++ ("m" : Str)), .bl (e0 m).b]) nt1
      refine ⟨_, rfl, _, rfl, _, rfl, (e0 m).b, rfl, (by show 3 ≤ sizeLine; omega), fun t2 nt2 => ?_⟩
      have q2 := same_new (o := .tup [.int ((e0 m).s : Int), .str (e0 m).w, .bl (!(e0 m).b)]) nt2
      refine ⟨_, rfl, _, _, rfl, rfl, .inl ⟨_, rfl, _, rfl, _, m.R.length, rfl, .inl ⟨_, SqL.of (q2 _ _ (q1 _ _ (ho.1 _ _ hra))), lx.symm⟩, _, _, rfl, rfl, by omega, _, rfl, _, rfl, (by show 3 ≤ sizeLine; omega), fun t3 nt3 => ?_⟩⟩
      have q3 := same_new (o := .tup [.int (((e0 m).s + 1 : Int) % (m.R.length : Int)), .str (e0 m).w, .bl (e0 m).b]) nt3
      refine ⟨(by show 3 ≤ sizeLine; omega), fun lt nlt => ?_⟩
      have q4 := same_new (o := .lst [V.ref t1, .ref t2, .ref t3]) nlt
      have h1 := q4 _ _ (q3 _ _ (q2 _ _ (upd_same (H := H1) (a := t1) (o := .tup [.int ((e0 m).s : Int), .str ((e0 m).w ++ ("m" : Str)), .bl (e0 m).b]))))
      have h2 := q4 _ _ (q3 _ _ (upd_same (H := upd H1 t1 (.tup [.int ((e0 m).s : Int), .str ((e0 m).w ++ ("m" : Str)), .bl (e0 m).b])) (a := t2) (o := .tup [.int ((e0 m).s : Int), .str (e0 m).w, .bl (!(e0 m).b)])))
      have h3 := q4 _ _ (upd_same (H := upd (upd H1 t1 (.tup [.int ((e0 m).s : Int), .str ((e0 m).w ++ ("m" : Str)), .bl (e0 m).b])) t2 (.tup [.int ((e0 m).s : Int), .str (e0 m).w, .bl (!(e0 m).b)])) (a := t3) (o := .tup [.int (((e0 m).s + 1 : Int) % (m.R.length : Int)), .str (e0 m).w, .bl (e0 m).b]))
      have hlt := upd_same (H := upd (upd (upd H1 t1 (.tup [.int ((e0 m).s : Int), .str ((e0 m).w ++ ("m" : Str)), .bl (e0 m).b])) t2 (.tup [.int ((e0 m).s : Int), .str (e0 m).w, .bl (!(e0 m).b)])) t3 (.tup [.int (((e0 m).s + 1 : Int) % (m.R.length : Int)), .str (e0 m).w, .bl (e0 m).b])) (a := lt) (o := .lst [V.ref t1, .ref t2, .ref t3])
      have Q := ((q1.trans q2).trans q3).trans q4
      have lto : lt ≠ o := fun z => by
        rw [z] at nlt
        rw [q3 _ _ (q2 _ _ (q1 _ _ ho.2.2.1))] at nlt
        cases nlt
      obtain ⟨_, _, _, xs1, ys1, row1, _, _, _, h7, _⟩ := id nbo
      have ltb : lt ≠ b0 := fun z => by
        rw [z] at nlt
        rw [q3 _ _ (q2 _ _ (q1 _ _ (rm_s _ _ h7)))] at nlt
        cases nlt
      have ho5 := ho.keep Q
      have nb5 := nbo.keep (rm_same (o := o) Q)
      generalize upd (upd (upd (upd H1 t1 (.tup [.int ((e0 m).s : Int), .str ((e0 m).w ++ ("m" : Str)), .bl (e0 m).b])) t2 (.tup [.int ((e0 m).s : Int), .str (e0 m).w, .bl (!(e0 m).b)])) t3 (.tup [.int (((e0 m).s + 1 : Int) % (m.R.length : Int)), .str (e0 m).w, .bl (e0 m).b])) lt (.lst [V.ref t1, .ref t2, .ref t3]) = H5 at *
      have eI : V.int (((e0 m).s + 1 : Int) % (m.R.length : Int)) = V.int ((((e0 m).s + 1) % m.R.length : Nat) : Int) := by congr 1
      rw [eI] at h3
      -- what the three are
      have ent : ∀ (i : Nat) u, [V.ref t1, V.ref t2, V.ref t3][i]? = some u → ∃ (t : Addr) (e : En), u = .ref t ∧ H5 t = some (.tup [.int (e.s : Int), .str e.w, .bl e.b]) ∧ e.s < m.R.length ∧ shortV (.str e.w) = true := fun i u hi => by
        have hm := List.mem_of_getElem? hi
        simp only [List.mem_cons, List.not_mem_nil, or_false] at hm
        rcases hm with z | z | z
        · exact ⟨t1, ⟨(e0 m).s, (e0 m).w ++ ("m" : Str), (e0 m).b⟩, z, h1, ar4, lo_short (mM_lo lo1) (by have := mM_len (e0 m).w; unfold mM at this; show ((e0 m).w ++ ("m" : Str)).length ≤ 2000; omega)⟩
        · exact ⟨t2, ⟨(e0 m).s, (e0 m).w, !(e0 m).b⟩, z, h2, ar4, ar5⟩
        · exact ⟨t3, ⟨((e0 m).s + 1) % m.R.length, (e0 m).w, (e0 m).b⟩, z, h3, Nat.mod_lt _ (by omega), ar5⟩
      have self : m.R = m.R.set 0 ((r0 m).set 0 (e0 m)) := by
        have z1 : (r0 m).set 0 (e0 m) = r0 m := by
          apply List.ext_getElem?
          intro j
          by_cases c : j = 0
          · subst c
            rw [List.getElem?_set_self (by omega)]
            exact ar3.symm
          · rw [List.getElem?_set_ne (fun z => c z.symm)]
        rw [z1]
        apply List.ext_getElem?
        intro j
        by_cases c : j = 0
        · subst c
          rw [List.getElem?_set_self (by omega)]
          exact ar1
        · rw [List.getElem?_set_ne (fun z => c z.symm)]
      refine ⟨lt, rfl, ⟨_, SqL.of hlt⟩, for_list (K := K) (a := lt) (xs := [V.ref t1, .ref t2, .ref t3]) (fun i σ H' => ∃ ys en e, σ = sE m x ra ca (some (.ref D)) (some (.int ((e0 m).s : Int))) (some (.str (e0 m).w)) (some (.bl (e0 m).b)) (some (.ref o)) (en) ∧ OthM CM m b0 H H' o ys ∧ ys.length ≤ 1 + i ∧ H' lt = some (.lst [V.ref t1, .ref t2, .ref t3]) ∧ (∀ t ws, H5 t = some (.tup ws) → H' t = some (.tup ws)) ∧ NB H (rm o H') D b0 (m.R.set 0 ((r0 m).set 0 e))) ⟨ys, none, e0 m, rfl, ho5, by omega, hlt, fun t ws e => e, by rw [← self]; exact nb5⟩ (fun i σ H' _ ⟨_, _, _, _, _, _, z, _⟩ => SqL.of z) ?_ ?_⟩
      · rintro i u σ H6 hi ⟨ys, en, e, rfl, ho6, l6, hlt6, tp6, nb6⟩
        have hi3 : i < 3 := (List.getElem?_eq_some_iff.mp hi).1
        obtain ⟨t, e2, rfl, ht5, es2, ew2⟩ := ent i u hi
        have ht6 := tp6 _ _ ht5
        obtain ⟨_, n2, n3, xs6, ys6, row6, g4, g5, g6, g7, g8⟩ := id nb6
        have lR := (List.getElem?_eq_some_iff.mp ar1).1
        rw [List.getElem?_set_self lR] at g4
        cases g4
        have ly6 := da_len g8
        rw [List.length_map, List.length_set] at ly6
        have ix6 : ixN ys6.length ((0 : Nat) : Int) = some 0 := ixN_natF (by omega)
        refine ⟨_, rfl, _, rfl, D, xs6, _, _, rfl, rfl, SqL.of (rm_s _ _ g5), atI_nat g6, b0, ys6, _, 0, rfl, rfl, rm_s _ _ g7, ix6, ?_⟩
        have to' : t ≠ o := ne_of ht6 ho6.2.2.1 (by intro z; cases z)
        have htG : rm o H6 t = some (.tup [.int (e2.s : Int), .str e2.w, .bl e2.b]) := by
          unfold rm
          rw [if_neg to']
          exact ht6
        have nb7 : NB H (rm o (upd H6 b0 (.lst (ys6.set 0 (.ref t))))) D b0 (m.R.set 0 ((r0 m).set 0 e2)) := by
          have z := nb6.set0 (List.getElem?_set_self lR) g5 g6 g7 (e := e2) (.tup htG (.cons (.int _) (.cons (.str _) (.cons (.bl _) .nil))))
          rw [List.set_set, List.set_set] at z
          rcases rm_upd2 (o := o) (b := b0) (A := H6) (v := .lst (ys6.set 0 (.ref t))) with w | w
          · exact z.keep w
          · exact absurd w.symm ob
        have ho7 := ho6.upd0 (v := .lst (ys6.set 0 (.ref t))) n2 ob
        have hlt7 : upd H6 b0 (.lst (ys6.set 0 (.ref t))) lt = some (.lst [V.ref t1, .ref t2, .ref t3]) := by rw [upd_ne ltb]; exact hlt6
        have tp7 : ∀ t9 ws, H5 t9 = some (.tup ws) → upd H6 b0 (.lst (ys6.set 0 (.ref t))) t9 = some (.tup ws) := fun t9 ws e => by
          rw [upd_ne (ne_of (tp6 _ _ e) (rm_s _ _ g7) (by intro z; cases z))]
          exact tp6 _ _ e
        have hb7 : upd H6 b0 (.lst (ys6.set 0 (.ref t))) b0 = some (.lst (ys6.set 0 (.ref t))) := upd_same
        have ht7 := tp7 _ _ ht5
        generalize upd H6 b0 (.lst (ys6.set 0 (.ref t))) = H7 at *
        -- is it another one
        have hRa := hR.keep ho7.1
        obtain ⟨_, xsa, ea, hxa, hPa, lxa⟩ := da_rs hRa
        cases ea
        have ex0 : xsa[0]? = some (xsa[0]'(by omega)) := List.getElem?_eq_getElem (by omega)
        obtain ⟨ba, rowa, ysa, eba, era, hba, hya⟩ := rs_at hPa ex0
        rw [ar1] at era
        cases era
        rw [eba] at ex0
        obtain ⟨ta, eya, hta⟩ := en_at hya ar3
        refine ⟨_, rfl, _, rfl, ra, xsa, _, _, rfl, rfl, SqL.of hxa, atI_nat ex0, ba, ysa, _, _, rfl, rfl, SqL.of hba, atI_nat eya, enD e2, enD (e0 m), .tup (SqT.of ht7) (.cons (.int _) (.cons (.str _) (.cons (.bl _) .nil))), .tup (SqT.of hta) (.cons (.int _) (.cons (.str _) (.cons (.bl _) .nil))), shaped_en (short_ok ew2), shaped_en (short_ok ar5), ?_⟩
        rw [eqv_en]
        by_cases ce : e2 = e0 m
        · rw [decide_eq_true ce]
          exact ⟨false, rfl, iteF ⟨ys, _, e2, rfl, ho7, by omega, hlt7, tp7, nb7⟩⟩
        rw [decide_eq_false ce]
        refine ⟨true, rfl, iteT ?_⟩
        have okS := mSet0_ok ok es2 ew2 ce
        have hDn := nb7.1.da.keep rm_s
        obtain ⟨_, xsn, en', hxn, hPn, lxn⟩ := da_rs hDn
        cases en'
        rw [List.length_set] at lxn
        refine ⟨_, rfl, .inl ⟨rfl, _, SqL.of ho7.2.2.1⟩, _, rfl, _, rfl, D, rfl, ⟨_, SqL.of hxn⟩, fun D2 nD2 => lc_list (K := K) (a := D) (xs := xsn) (CpM H7 D2 (mSet0 m e2).R) (cm_0 nD2) (fun i H' _ p => SqL.of (p.1 _ _ hxn)) ?_ ?_⟩
        · rintro k y H' hk p
          obtain ⟨b, row, ys, rfl, er, hb, hy⟩ := rs_at hPn hk
          exact ⟨rfl, _, rfl, b, _, rfl, .inl (SqL.of (p.1 _ _ hb)), fun l nl => cm_s p nD2 er hy (by show (m.R.set 0 _).length ≤ 60; rw [List.length_set]; omega) nl⟩
        intro H8 p
        have sX := p.1
        have rn := cm_e p nD2 (by show _ = (m.R.set 0 _).length; rw [List.length_set]; exact lxn)
        refine ⟨_, rfl, _, rfl, rfl, rfl, fun y dy ny ndy ne => mk_spM (m := mSet0 m e2) rfl rfl ny ndy ne (sX _ _ (ho7.1 _ _ hC)) (rn.dS fun a xs e => sX _ _ e) okS.1 fun H9 s9 ha => ⟨rfl, ?_⟩⟩
        have S := sX.trans s9
        have ho9 := ho7.keep S
        refine ⟨o, _, .ref y, rfl, rfl, ho9.2.2.1, small1000 (by omega), _, _, e2, rfl, ho7.snoc S (ha.sub fun a ⟨xs, e⟩ => ⟨xs, sX _ _ e⟩) hb7 okS, ?_, ?_, fun t ws e => ?_, (nb7.keep (rm_same S)).keep rm_upd⟩
        · rw [List.length_append]
          show ys.length + 1 ≤ 1 + (i + 1)
          omega
        · rw [upd_ne lto]
          exact S _ _ hlt7
        · have z := S _ _ (tp7 _ _ e)
          rw [upd_ne (ne_of z ho9.2.2.1 (by intro z; cases z))]
          exact z
      · rintro σ H6 ⟨ys, en, e, rfl, ho6, l6, hlt6, tp6, nb6⟩
        obtain ⟨_, n2, n3, xs6, ys6, row6, g4, g5, g6, g7, g8⟩ := nb6
        exact ⟨ys, en, rfl, ho6, l6, ys6, rm_s _ _ g7⟩
    clear ho l1 nbo ys
    rintro σ' H1 ⟨ys, en, rfl, ho, l1, zs, hb0⟩
    refine ⟨fun σ' H' => ∃ ys, σ' = sE m x ra ca (some (.ref D)) (some (.int ((e0 m).s : Int))) (some (.str (e0 m).w)) (some (.bl (e0 m).b)) (some (.ref o)) (en) ∧ OthM CM m b0 H H' o ys ∧ ys.length ≤ 5 ∧ ∃ zs, H' b0 = some (.lst zs), ?_, ?_⟩
    · refine ⟨_, rfl, _, m.R.length, rfl, .inl ⟨_, SqL.of (ho.1 _ _ hra), lx.symm⟩, _, _, rfl, rfl, _, rfl, ite2 (fun c => ?_) (fun c => ⟨ys, rfl, ho, by omega, zs, hb0⟩)⟩
      have c : 1 < m.R.length := by
        have := of_decide_eq_true c
        omega
      have eI : ((m.s : Int) + 1) % (m.R.length : Int) = ((mStart m).s : Int) := by
        show _ = (((m.s + 1) % m.R.length : Nat) : Int)
        rw [Int.natCast_emod]
        rfl
      have sX : Same H1 H1 := Same.refl _
      refine ⟨_, rfl, .inl ⟨rfl, _, SqL.of ho.2.2.1⟩, _, rfl, _, rfl, _, rfl, _, _, rfl, rfl, .inl ⟨_, rfl, _, rfl, _, m.R.length, rfl, .inl ⟨_, SqL.of (ho.1 _ _ hra), lx.symm⟩, _, _, rfl, rfl, by omega, ?_⟩⟩
      refine ⟨_, rfl, rfl, rfl, fun y dy ny ndy ne => mk_spM (m := mStart m) rfl (congrArg V.int eI) ny ndy ne (ho.1 _ _ hC) (hR.keep ho.1) (mStart_ok ok c).1 fun H3 s3 ha => ⟨rfl, ?_⟩⟩
      have S := sX.trans s3
      have ho3 := ho.keep S
      refine ⟨o, _, .ref y, rfl, rfl, ho3.2.2.1, small1000 (by omega), _, rfl, ho.snoc S (ha.sub fun a ⟨xs, e⟩ => ⟨xs, sX _ _ e⟩) hb0 (mStart_ok ok c), ?_, zs, ?_⟩
      · rw [List.length_append]
        show ys.length + 1 ≤ 5
        omega
      · rw [upd_ne (Ne.symm ob)]
        exact S _ _ hb0
    clear ho l1 hb0
    rintro σ' H1 ⟨ys, rfl, ho, l1, zs, hb0⟩
    refine ⟨fun σ' H' => ∃ ys, σ' = sE m x ra ca (some (.ref D)) (some (.int ((e0 m).s : Int))) (some (.str (e0 m).w)) (some (.bl (e0 m).b)) (some (.ref o)) (en) ∧ OthM CM m b0 H H' o ys ∧ ys.length ≤ 6 ∧ ∃ zs, H' b0 = some (.lst zs), ?_, ?_⟩
    · refine ⟨_, rfl, rfl, _, rfl, ite2 (fun c => ?_) (fun c => ?_)⟩
      · have c : m.z = "" := V.str.inj (of_decide_eq_true c)
        have hra1 := ho.1 _ _ hra
        refine ⟨_, rfl, .inl ⟨rfl, _, SqL.of ho.2.2.1⟩, _, rfl, ra, rfl, ⟨_, SqL.of hra1⟩, fun D2 nD2 => lc_list (K := K) (a := ra) (xs := xs) (CpM H1 D2 (m.R.map fun r => r ++ r)) (cm_0 nD2) (fun i H' _ p => SqL.of (p.1 _ _ hra1)) ?_ ?_⟩
        · rintro i y H' hi p
          obtain ⟨b, row, ys, rfl, er, hb, hy⟩ := rs_at (DaAll.keep ho.1 hP) hi
          have lr := (ok.rw row (List.mem_of_getElem? er)).1
          have ly := da_len hy
          rw [List.length_map] at ly
          have er2 : (m.R.map fun r => r ++ r)[i]? = some (row ++ row) := by
            rw [List.getElem?_map, er]
            rfl
          have hy2 : DaAll H1 (ys ++ ys) ((row ++ row).map enD) := by
            rw [List.map_append]
            exact DaAll.app hy hy
          refine ⟨rfl, _, rfl, _, rfl, b, b, _, _, rfl, rfl, p.1 _ _ hb, p.1 _ _ hb, by omega, fun l nl => ?_⟩
          exact cm_s p nD2 er2 hy2 (by rw [List.length_map]; omega) nl
        · intro H2 p
          have sX := p.1
          have rn := cm_e p nD2 (by rw [List.length_map]; exact lx)
          refine ⟨_, rfl, _, rfl, rfl, rfl, fun y dy ny ndy ne => mk_spM (m := mQ m) rfl rfl ny ndy ne (sX _ _ (ho.1 _ _ hC)) (rn.dS fun a xs e => sX _ _ e) (mQ_ok ok c).1 fun H3 s3 ha => ⟨rfl, ?_⟩⟩
          have S := sX.trans s3
          have ho3 := ho.keep S
          refine ⟨o, _, .ref y, rfl, rfl, ho3.2.2.1, small1000 (by omega), _, rfl, ho.snoc S (ha.sub fun a ⟨xs, e⟩ => ⟨xs, sX _ _ e⟩) hb0 (mQ_ok ok c), ?_, zs, ?_⟩
          · rw [List.length_append]
            show ys.length + 1 ≤ 6
            omega
          · rw [upd_ne (Ne.symm ob)]
            exact S _ _ hb0
      · have c : m.z ≠ "" := fun z => by
          rw [z] at c
          exact c (decide_eq_true rfl)
        obtain ⟨_, z1, z2⟩ := menu_z mz c
        have okL := mLet_ok ok mz c
        have sX : Same H1 H1 := Same.refl _
        refine ⟨_, rfl, .inl ⟨rfl, _, SqL.of ho.2.2.1⟩, _, rfl, _, rfl, _, rfl, m.z, rfl, by omega, _, rfl, _, rfl, m.z, _, _, rfl, rfl, by omega, z1, rfl, _, rfl, ite2 (fun d => ?_) (fun d => ?_)⟩
        · have hc : m.z.cps.toList.getD (m.z.length - 1) 0 ≠ 122 := fun z => by
            rw [z] at d
            exact absurd d (by decide +kernel)
          have eZ : zLast m.z = cutS m.z none (some (-1)) ++ ("z" : Str) := by
            unfold zLast
            rw [if_pos hc]
          refine ⟨_, _, rfl, rfl, (by show _ + ("z" : Str).length ≤ sizeLine; rw [show ("z" : Str).length = 1 by decide +kernel]; omega), _, rfl, _, rfl, _, rfl, rfl, rfl, fun y dy ny ndy ne => mk_spM (m := mLet m) (congrArg V.str eZ.symm) rfl ny ndy ne (ho.1 _ _ hC) (hR.keep ho.1) okL.1 fun H3 s3 ha => ⟨rfl, ?_⟩⟩
          have S := sX.trans s3
          have ho3 := ho.keep S
          refine ⟨o, _, .ref y, rfl, rfl, ho3.2.2.1, small1000 (by omega), _, rfl, ho.snoc S (ha.sub fun a ⟨xs, e⟩ => ⟨xs, sX _ _ e⟩) hb0 okL, ?_, zs, ?_⟩
          · rw [List.length_append]
            show ys.length + 1 ≤ 6
            omega
          · rw [upd_ne (Ne.symm ob)]
            exact S _ _ hb0
        · have hc : ¬ m.z.cps.toList.getD (m.z.length - 1) 0 ≠ 122 := fun z => d (by
            rw [Bool.not_eq_true', decide_eq_false_iff_not]
            intro e
            have e2 := V.str.inj e
            have e3 : #[m.z.cps.toList.getD (m.z.length - 1) 0] = ("z" : Str).cps := congrArg Str.cps e2
            rw [show ("z" : Str).cps = #[122] by decide +kernel] at e3
            exact z (List.cons.inj (congrArg Array.toList e3)).1)
          have eZ : zLast m.z = cutS m.z none (some (-1)) ++ ("y" : Str) := by
            unfold zLast
            rw [if_neg hc]
          refine ⟨_, _, rfl, rfl, (by show _ + ("y" : Str).length ≤ sizeLine; rw [show ("y" : Str).length = 1 by decide +kernel]; omega), _, rfl, _, rfl, _, rfl, rfl, rfl, fun y dy ny ndy ne => mk_spM (m := mLet m) (congrArg V.str eZ.symm) rfl ny ndy ne (ho.1 _ _ hC) (hR.keep ho.1) okL.1 fun H3 s3 ha => ⟨rfl, ?_⟩⟩
          have S := sX.trans s3
          have ho3 := ho.keep S
          refine ⟨o, _, .ref y, rfl, rfl, ho3.2.2.1, small1000 (by omega), _, rfl, ho.snoc S (ha.sub fun a ⟨xs, e⟩ => ⟨xs, sX _ _ e⟩) hb0 okL, ?_, zs, ?_⟩
          · rw [List.length_append]
            show ys.length + 1 ≤ 6
            omega
          · rw [upd_ne (Ne.symm ob)]
            exact S _ _ hb0
    clear ho l1 hb0
    rintro σ' H1 ⟨ys, rfl, ho, l1, zs, hb0⟩
    -- the last entry
    have nR : m.R.length ≠ 0 := by omega
    have rowN : ∀ {A : Hp}, Same H A → ∃ bN ysN tN, xs[xs.length - 1]? = some (.ref bN) ∧ A bN = some (.lst ysN) ∧ DaAll A ysN ((rN m).map enD) ∧ ysN[ysN.length - 1]? = some (.ref tN) ∧ A tN = some (.tup [.int ((eN m).s : Int), .str (eN m).w, .bl (eN m).b]) ∧ ysN.length = (rN m).length := fun {A} s => by
      have ex : xs[xs.length - 1]? = some (xs[xs.length - 1]'(by omega)) := List.getElem?_eq_getElem (by omega)
      obtain ⟨b, row, ys, eb, er, hb, hy⟩ := rs_at (DaAll.keep s hP) ex
      rw [lx, nr1] at er
      cases er
      have ly := da_len hy
      rw [List.length_map] at ly
      obtain ⟨t, ey, ht⟩ := en_at hy nr3
      rw [eb] at ex
      exact ⟨b, ys, t, ex, hb, hy, by rw [ly]; exact ey, ht, ly⟩
    refine ⟨fun σ' H' => ∃ ys, σ' = sE m x ra ca (some (.ref D)) (some (.int ((eN m).s : Int))) (some (.str (eN m).w)) (some (.bl (eN m).b)) (some (.ref o)) (en) ∧ OthM CM m b0 H H' o ys ∧ ys.length ≤ 6 ∧ ∃ zs, H' b0 = some (.lst zs), ?_, ?_⟩
    · obtain ⟨bN, ysN, tN, f1, f2, f3, f4, f5, f6⟩ := rowN ho.1
      exact ⟨_, rfl, _, rfl, ra, xs, _, _, rfl, rfl, SqL.of (ho.1 _ _ hra), at_last f1, _, rfl, bN, ysN, _, _, rfl, rfl, SqL.of f2, at_last f4, tN, _, rfl, SqT.of f5, rfl, _, _, rfl, _, _, rfl, _, _, rfl, rfl, ys, rfl, ho, l1, zs, hb0⟩
    clear ho l1 hb0
    rintro σ' H1 ⟨ys, rfl, ho, l1, zs, hb0⟩
    refine ⟨fun σ' H' => ∃ ys, σ' = sE m x ra ca (some (.ref D)) (some (.int ((eN m).s : Int))) (some (.str (eN m).w)) (some (.bl (eN m).b)) (some (.ref o)) (en) ∧ OthM CM m b0 H H' o ys ∧ ys.length ≤ 7 ∧ ∃ zs, H' b0 = some (.lst zs), ?_, ?_⟩
    · obtain ⟨bN, ysN, tN, f1, f2, f3, f4, f5, f6⟩ := rowN ho.1
      have hra1 := ho.1 _ _ hra
      refine ⟨_, rfl, .inl ⟨rfl, _, SqL.of ho.2.2.1⟩, _, rfl, _, rfl, _, rfl, _, rfl, ra, _, rfl, SqL.of hra1, fun p1 np1 => ?_⟩
      have q1 := same_new (o := .lst (cutV xs none (some (-1)))) np1
      refine ⟨_, rfl, _, rfl, ra, xs, _, _, rfl, rfl, SqL.of (q1 _ _ hra1), at_last f1, _, rfl, _, rfl, bN, _, rfl, SqL.of (q1 _ _ f2), fun p2 np2 => ?_⟩
      have q2 := same_new (o := .lst (cutV ysN none (some (-1)))) np2
      refine ⟨_, rfl, _, rfl, _, rfl, (eN m).b, rfl, (by show 3 ≤ sizeLine; omega), fun t nt => ⟨(by show 1 ≤ sizeLine; omega), fun l2 nl2 => ?_⟩⟩
      have q3 := same_new (o := .tup [.int ((eN m).s : Int), .str (eN m).w, .bl (!(eN m).b)]) nt
      have q4 := same_new (o := .lst [V.ref t]) nl2
      have l27 := (ok.rw _ nr6).1
      have lz2 := ok.lz
      refine ⟨p2, l2, _, _, rfl, rfl, q4 _ _ (q3 _ _ upd_same), upd_same, ?_, fun p3 np3 => ⟨(by show 1 ≤ sizeLine; omega), fun l3 nl3 => ?_⟩⟩
      · have := cutV_length ysN none (some (-1))
        show _ + 1 ≤ sizeLine
        omega
      have q5 := same_new (o := .lst (cutV ysN none (some (-1)) ++ [V.ref t])) np3
      have q6 := same_new (o := .lst [V.ref p3]) nl3
      refine ⟨p1, l3, _, _, rfl, rfl, q6 _ _ (q5 _ _ (q4 _ _ (q3 _ _ (q2 _ _ upd_same)))), upd_same, ?_, fun p4 np4 => ?_⟩
      · have := cutV_length xs none (some (-1))
        show _ + 1 ≤ sizeLine
        omega
      have q7 := same_new (o := .lst (cutV xs none (some (-1)) ++ [V.ref p3])) np4
      have sX := (((((q1.trans q2).trans q3).trans q4).trans q5).trans q6).trans q7
      have ht := q7 _ _ (q6 _ _ (q5 _ _ (q4 _ _ (upd_same (H := upd (upd H1 p1 (.lst (cutV xs none (some (-1))))) p2 (.lst (cutV ysN none (some (-1))))) (a := t) (o := .tup [.int ((eN m).s : Int), .str (eN m).w, .bl (!(eN m).b)])))))
      have hp3 := q7 _ _ (q6 _ _ (upd_same (H := upd (upd (upd (upd H1 p1 (.lst (cutV xs none (some (-1))))) p2 (.lst (cutV ysN none (some (-1))))) t (.tup [.int ((eN m).s : Int), .str (eN m).w, .bl (!(eN m).b)])) l2 (.lst [V.ref t])) (a := p3) (o := .lst (cutV ysN none (some (-1)) ++ [V.ref t]))))
      have hp4 := upd_same (H := upd (upd (upd (upd (upd (upd H1 p1 (.lst (cutV xs none (some (-1))))) p2 (.lst (cutV ysN none (some (-1))))) t (.tup [.int ((eN m).s : Int), .str (eN m).w, .bl (!(eN m).b)])) l2 (.lst [V.ref t])) p3 (.lst (cutV ysN none (some (-1)) ++ [V.ref t]))) l3 (.lst [V.ref p3])) (a := p4) (o := .lst (cutV xs none (some (-1)) ++ [V.ref p3]))
      generalize upd (upd (upd (upd (upd (upd (upd H1 p1 (.lst (cutV xs none (some (-1))))) p2 (.lst (cutV ysN none (some (-1))))) t (.tup [.int ((eN m).s : Int), .str (eN m).w, .bl (!(eN m).b)])) l2 (.lst [V.ref t])) p3 (.lst (cutV ysN none (some (-1)) ++ [V.ref t]))) l3 (.lst [V.ref p3])) p4 (.lst (cutV xs none (some (-1)) ++ [V.ref p3])) = H9 at *
      have hRN : Da H9 (.ref p4) (rsD (mRN m).R) := by
        refine .lst hp4 ?_
        show DaAll H9 _ ((m.R.take (m.R.length - 1) ++ [(rN m).take ((rN m).length - 1) ++ [flip (eN m)]]).map rwD)
        rw [List.map_append, List.map_take, cut_init, lx]
        refine DaAll.app (DaAll.takeN _ (DaAll.keep (ho.1.trans sX) hP)) (.cons (.lst hp3 ?_) .nil)
        rw [List.map_append, List.map_take, cut_init, f6]
        exact DaAll.app (DaAll.takeN _ (DaAll.keep sX f3)) (.cons (.tup ht (.cons (.int _) (.cons (.str _) (.cons (.bl _) .nil)))) .nil)
      refine ⟨_, rfl, _, rfl, rfl, rfl, fun y dy ny ndy ne => mk_spM (m := mRN m) rfl rfl ny ndy ne (sX _ _ (ho.1 _ _ hC)) hRN (mRN_ok ok).1 fun H3 s3 ha => ⟨rfl, ?_⟩⟩
      have S := sX.trans s3
      have ho3 := ho.keep S
      refine ⟨o, _, .ref y, rfl, rfl, ho3.2.2.1, small1000 (by omega), _, rfl, ho.snoc S (ha.sub fun a ⟨xs, e⟩ => ⟨xs, sX _ _ e⟩) hb0 (mRN_ok ok), ?_, zs, ?_⟩
      · rw [List.length_append]
        show ys.length + 1 ≤ 7
        omega
      · rw [upd_ne (Ne.symm ob)]
        exact S _ _ hb0
    clear ho l1 hb0
    rintro σ' H1 ⟨ys, rfl, ho, l1, zs, hb0⟩
    refine ⟨fun σ' H' => ∃ ys, σ' = sE m x ra ca (some (.ref D)) (some (.int ((eN m).s : Int))) (some (.str (eN m).w)) (some (.bl (eN m).b)) (some (.ref o)) (en) ∧ OthM CM m b0 H H' o ys ∧ ys.length ≤ 8 ∧ ∃ zs, H' b0 = some (.lst zs), ?_, ?_⟩
    · have aN : atI (m.cl.map V.str) (-1) = some (.str (cN m)) := at_last (by rw [List.length_map, List.getElem?_map, cc2]; rfl)
      obtain ⟨lc1, lc2⟩ := lo.c _ (List.mem_of_getElem? cc2)
      have hC2 := ho.1 _ _ hC
      refine ⟨_, rfl, .inl ⟨rfl, _, SqL.of ho.2.2.1⟩, _, rfl, _, rfl, _, rfl, _, rfl, _, rfl, _, rfl, ca, _, rfl, SqL.of hC2, fun p1 np1 => ?_⟩
      have q1 := same_new (o := .lst (cutV (m.cl.map V.str) none (some (-1)))) np1
      refine ⟨_, rfl, _, rfl, ca, _, _, _, rfl, rfl, SqL.of (q1 _ _ hC2), aN, _, _, rfl, rfl, (by show (cN m).length + ("m" : Str).length ≤ sizeLine; rw [show ("m" : Str).length = 1 by decide +kernel]; omega), (by show 1 ≤ sizeLine; omega), fun l1 nl1 => ?_⟩
      have q2 := same_new (o := .lst [V.str (cN m ++ ("m" : Str))]) nl1
      refine ⟨p1, l1, _, _, rfl, rfl, q2 _ _ upd_same, upd_same, ?_, fun p np => ?_⟩
      · have := cutV_length (m.cl.map V.str) none (some (-1))
        rw [List.length_map] at this
        show _ + 1 ≤ sizeLine
        omega
      have q3 := same_new (o := .lst (cutV (m.cl.map V.str) none (some (-1)) ++ [V.str (cN m ++ ("m" : Str))])) np
      have sX := (q1.trans q2).trans q3
      have hp : upd (upd (upd H1 p1 (.lst (cutV (m.cl.map V.str) none (some (-1))))) l1 (.lst [V.str (cN m ++ ("m" : Str))])) p (.lst (cutV (m.cl.map V.str) none (some (-1)) ++ [V.str (cN m ++ ("m" : Str))])) p = some (.lst ((mCN m).cl.map V.str)) := by
        rw [upd_same, cut_init, List.length_map]
        show _ = some (HO.lst ((m.cl.take (m.cl.length - 1) ++ [mM (cN m)]).map V.str))
        rw [List.map_append, List.map_take]
        rfl
      refine ⟨rfl, rfl, fun y dy ny ndy ne => mk_spM (m := mCN m) rfl rfl ny ndy ne hp ((hR.keep ho.1).keep sX) (mCN_ok ok lo).1 fun H3 s3 ha => ⟨rfl, ?_⟩⟩
      have S := sX.trans s3
      have ho3 := ho.keep S
      refine ⟨o, _, .ref y, rfl, rfl, ho3.2.2.1, small1000 (by omega), _, rfl, ho.snoc S (ha.sub fun a ⟨xs, e⟩ => ⟨xs, sX _ _ e⟩) hb0 (mCN_ok ok lo), ?_, zs, ?_⟩
      · rw [List.length_append]
        show ys.length + 1 ≤ 8
        omega
      · rw [upd_ne (Ne.symm ob)]
        exact S _ _ hb0
    clear ho l1 hb0
    rintro σ' H1 ⟨ys, rfl, ho, l1, zs, hb0⟩
    refine ⟨fun σ' H' => ∃ ys, σ' = sE m x ra ca (some (.ref D)) (some (.int ((eN m).s : Int))) (some (.str (eN m).w)) (some (.bl (eN m).b)) (some (.ref o)) (en) ∧ OthM CM m b0 H H' o ys ∧ ys.length ≤ 8 ∧ ∃ zs, H' b0 = some (.lst zs), ?_, ?_⟩
    · refine ⟨_, rfl, _, rfl, ca, _, rfl, .inl (SqL.of (ho.1 _ _ hC)), fun l nl => ⟨_, rfl, _, rfl, _, rfl, rfl, rfl, fun y dy ny ndy ne => mk_spM (m := m) rfl rfl ny ndy ne upd_same ((hR.keep ho.1).keep (same_new nl)) ok fun H2 s2 ha => ⟨rfl, ?_⟩⟩⟩
      have S := (same_new nl).trans s2
      have S2 := ho.1.trans S
      obtain ⟨_, _, _, hy, _⟩ := ha.ma
      refine ⟨x, dx, _, .ref CM, rfl, S2 _ _ hx1, TM.ty hy, AT.nC, x, .ref y, m, rfl, hx.keep S2, ok, .inl ⟨y, m, rfl, ha.ma, ok, _, _, rfl, rfl, _, rfl, ite2 (fun z => ?_) (fun _ => ⟨ys, rfl, ho.keep S, l1, zs, S _ _ hb0⟩)⟩⟩
      rw [decide_eq_true (rfl : m = m)] at z
      cases z
    clear ho l1 hb0
    rintro σ' H1 ⟨ys, rfl, ho, l1, zs, hb0⟩
    have hra1 := ho.1 _ _ hra
    refine ⟨_, rfl, o, rfl, ⟨_, SqL.of ho.2.2.1⟩, fun D nD => lc_list (K := K) (a := o) (xs := ys) (fun i H' => Same H1 H' ∧ H' D = some (.lst [])) ⟨same_new nD, upd_same⟩ (fun i H' _ p => SqL.of (p.1 _ _ ho.2.2.1)) ?_ ?_⟩
    · rintro i y H2 hi ⟨s2, hD2⟩
      obtain ⟨b, m', rfl, hb, okb, nm⟩ := ho.2.2.2 y (List.mem_of_getElem? hi)
      have hb2 := (hb.keep s2).ma
      obtain ⟨_, _, _, hy, _⟩ := id hb2
      have S := ho.1.trans s2
      refine ⟨rfl, _, rfl, _, rfl, x, dx, _, .ref CM, rfl, S _ _ hx1, TM.ty hy, AT.nC, x, .ref b, m, rfl, hx.keep S, ok, .inl ⟨b, m', rfl, hb2, okb, _, _, rfl, rfl, _, rfl, ite2 (fun z => ?_) (fun _ => ⟨s2, hD2⟩)⟩⟩
      rw [decide_eq_false (fun e => nm e.symm : ¬ m = m')] at z
      cases z
    rintro H2 ⟨s2, hD2⟩
    refine ⟨(by show 0 ≤ sizeLine; omega), fun l nl => ⟨.list [], .list [], .lst (SqL.of (same_new nl _ _ hD2)) .nil, .lst (SqL.of upd_same) .nil, rfl, rfl, ?_⟩⟩
    rw [SeqAt.eqv_refl (PyData.list []) (SeqAt.canLay_of_shaped rfl)]
    have S := (ho.1.trans s2).trans (same_new (o := .lst []) nl)
    refine ⟨true, rfl, iteT ⟨_, rfl, _, rfl, x, dx, _, .type "list", rfl, S _ _ hx1, .base (.lst (S _ _ hra)), nf, x, .ref ra, m, rfl, hx.keep S, ok, .inr ⟨⟨"list", by decide +kernel, .base (.lst (S _ _ hra))⟩, _, _, rfl, rfl, q _ S⟩⟩⟩
end
end KJ
set_option Elab.async false
set_option linter.all false
set_option maxRecDepth 100000
set_option maxHeartbeats 1000000
namespace KJ
open PySem PySem.Spec PyProof.Rows L2 XV NM XT XA
/-! ### what is refused: one question, a lambda -/
abbrev sCaught : Stmt := top 52
abbrev nCaught : List Str := ["_law_call", "_law_error", "e", "_law_kinds"]
theorem scCaught : FnScope nCaught ["_law_call"] (defScope sCaught) := ⟨rfl, rfl, rfl, by decide +kernel, rfl, by decide +kernel, by decide +kernel⟩
def kindsV (j : Nat) : List V := [.bl (decide (j = 4)), .bl (decide (j = 1)), .bl (decide (j = 2)), .bl (decide (j = 3)), .bl (decide (j = 5))]
/-- the lambda raises the error j with x -/
def TTc (K : PySem.W.Frag) : (XK → Hp → VK → Prop) → Hp → VK → Prop := fun tl H Q => ∃ (j : Nat) (x : V) (d : PyData), j < 6 ∧ Da H x d ∧ ShOk d ∧ (∀ (E : XK) (Q' : VK), Rz E H (CF K j) x → tl E H Q') ∧
  ∀ (H' : Hp) (p kl : Addr), Same H H' → H' p = some (.lst [.ref kl, .str d.shown]) → H' kl = some (.lst (kindsV j)) → Q (.ref p) H'
theorem gives_caught {X : Cx} {k : Nat} {g : Addr} {cdg : Value} (Z : ClF X.prog X.w X.K X.mg X.base) (ag : X.A.guards = some []) (hr : Room (k + 1) X.A) (z_isinstance : X.mg "isinstance" = none) (z_repr : X.mg "repr" = none) :
    GivesS X nCaught "_law_caught" (defScope sCaught) g cdg (defBody sCaught) "_law_call" (TTc X.K) := by
  intro f s H Q tl CC act hext hC ⟨j, x, d, hj, hx, sh, hz, q⟩
  have nd := scCaught.nd
  have szl := sizeLine_eq
  have g0 : X.mg "InvalidMaker" = some (.ref (CF X.K 4)) := Z.g 4 (by decide)
  have g1 : X.mg "InvalidList" = some (.ref (CF X.K 1)) := Z.g 1 (by decide)
  have g2 : X.mg "InvalidNumber" = some (.ref (CF X.K 2)) := Z.g 2 (by decide)
  have g3 : X.mg "InvalidWord" = some (.ref (CF X.K 3)) := Z.g 3 (by decide)
  have g5 : X.mg "TooLong" = some (.ref (CF X.K 5)) := Z.g 5 (by decide)
  have gE : X.mg "LoopError" = some (.ref (CF X.K 6)) := Z.g 6 (by decide)
  have hr2 : Room k (X.A.deeper (envOfC "_law_caught" (defScope sCaught) s.heap.objs.size g cdg)) := hr.deeper _
  have hu : ((inX X nCaught "_law_caught" (defScope sCaught) g cdg s H).nox).A.units + 64 < cLine := hr2.units
  have ag2 : ((inX X nCaught "_law_caught" (defScope sCaught) g cdg s H).nox).A.guards = some [] := ag
  refine ⟨_, (pss_cons (ps_set (i := 1) nd rfl (Or.inl rfl) pe_non)
      (C8.pss_cut (ps_try_keep (i := 2) rfl rfl rfl nd rfl rfl ⟨by rfl, by decide, .inl gE⟩ L2.takes0
        (fun W pn xe tk _ => pss_one (ps_expr (act W pn xe _ _ tk)))
        (fun a oe cls d pn hz hf => pss_one (ps_set (i := 1) nd rfl (Or.inl rfl) (pv 2))))
      (pss_cons (ps_if (pt_cmp (pc_isN (pv 1))) (pss_one (ps_ret pe_str)) pss_nil)
      (pss_cons (ps_set (i := 3) nd rfl (Or.inl rfl) (pe_lst (pa_cons (pe_callB call_isZ (by rfl) z_isinstance (by decide +kernel) (pa_cons (pv 1) (pa_cons (pe_glob (v := .ref (CF X.K 4)) (by rfl) g0 rfl) pa_nil)))
        (pa_cons (pe_callB call_isZ (by rfl) z_isinstance (by decide +kernel) (pa_cons (pv 1) (pa_cons (pe_glob (v := .ref (CF X.K 1)) (by rfl) g1 rfl) pa_nil)))
        (pa_cons (pe_callB call_isZ (by rfl) z_isinstance (by decide +kernel) (pa_cons (pv 1) (pa_cons (pe_glob (v := .ref (CF X.K 2)) (by rfl) g2 rfl) pa_nil))) pa_nil)))))
      (pss_one (ps_ret (pe_lst (pa_cons (pe_op op_cat (pv 3) (pe_lst (pa_cons (pe_callB call_isZ (by rfl) z_isinstance (by decide +kernel) (pa_cons (pv 1) (pa_cons (pe_glob (v := .ref (CF X.K 3)) (by rfl) g3 rfl) pa_nil))) (pa_cons (pe_callB call_isZ (by rfl) z_isinstance (by decide +kernel) (pa_cons (pv 1) (pa_cons (pe_glob (v := .ref (CF X.K 5)) (by rfl) g5 rfl) pa_nil))) pa_nil))))
        (pa_cons (pe_callB (call_reprD ag2 hu) (by rfl) z_repr (by decide +kernel) (pa_cons (pe_zget (pv 1)) pa_nil)) pa_nil))))))))), ?_⟩
  refine ⟨fun σ' H' => ∃ (a dx : Addr), σ' = [some (.ref f), some (.ref a), none, none] ∧ Same H H' ∧ H' a = some (exz a (.ref (CF X.K j)) (some dx)) ∧ H' dx = some (.xd [("value", x)]), ?_, ?_⟩
  · refine ⟨rfl, hC, hz _ _ fun H' dx sm nd => ?_⟩
    refine ⟨true, Z.exm j hj, fun _ a na => ?_, fun z => nomatch z⟩
    refine ⟨_, rfl, fun na2 => ⟨a, dx, rfl, (sm.trans (same_new nd)).trans (same_new na2), upd_same, ?_⟩⟩
    rw [upd_ne (ne_of_none upd_same na2)]
    exact upd_same
  · rintro σ' H1 ⟨a, dx, rfl, sm, ha, hdx⟩
    refine ⟨_, rfl, _, rfl, ite2 (fun c => nomatch c) (fun _ => ?_)⟩
    refine ⟨_, rfl, _, _, _, _, _, _, _, rfl, ha, hdx, Z.e _ hj, (fun u r => r), Z.kit _ hj 4 (by decide), _, rfl, _, _, _, _, _, _, _, rfl, ha, hdx, Z.e _ hj, (fun u r => r), Z.kit _ hj 1 (by decide), _, rfl, _, _, _, _, _, _, _, rfl, ha, hdx, Z.e _ hj, (fun u r => r), Z.kit _ hj 2 (by decide), (by show 3 ≤ sizeLine; omega), fun k0 nk0 => ?_⟩
    have s1 := same_new (o := .lst [.bl (decide (j = 4)), .bl (decide (j = 1)), .bl (decide (j = 2))]) nk0
    refine ⟨_, rfl, _, rfl, _, _, _, _, _, _, _, rfl, s1 _ _ ha, s1 _ _ hdx, Z.e _ hj, (fun u r => r), Z.kit _ hj 3 (by decide), _, rfl, _, _, _, _, _, _, _, rfl, s1 _ _ ha, s1 _ _ hdx, Z.e _ hj, (fun u r => r), Z.kit _ hj 5 (by decide), (by show 2 ≤ sizeLine; omega), fun k1 nk1 => ?_⟩
    have s2 := same_new (o := .lst [.bl (decide (j = 3)), .bl (decide (j = 5))]) nk1
    refine ⟨k0, k1, _, _, rfl, rfl, s2 _ _ upd_same, upd_same, (by show 3 + 2 ≤ sizeLine; omega), fun kl nkl => ?_⟩
    have s3 := same_new (o := .lst (kindsV j)) nkl
    have S := (s1.trans s2).trans s3
    refine ⟨_, rfl, a, _, dx, _, x, rfl, S _ _ ha, S _ _ hdx, Z.f _ hj, look_v _ _, ?_⟩
    refine ⟨x, d, rfl, ((hx.keep sm).keep S).dp, sh.s, sh.h, sh.dp, Nat.le_trans sh.l (by omega), (by show 2 ≤ sizeLine; omega), fun p np => ?_⟩
    have s4 := same_new (o := .lst [.ref kl, .str d.shown]) np
    exact q _ p kl ((sm.trans S).trans s4) upd_same (s4 _ _ upd_same)
end KJ
set_option Elab.async false
set_option linter.all false
set_option maxRecDepth 100000
set_option maxHeartbeats 1000000
namespace KJ
open PySem PySem.Spec PyProof.Rows L2 XV NM XT XA LamX
/-! ### written data whose parts stand in names -/
def tR (ks : List (Nat × PyData)) (d : PyData) : TE := fun σ H Q => ∃ (du : Addr) (xs : List V), σ[0]? = some (some (.ref du)) ∧ H du = some (.lst xs) ∧ (∀ p ∈ ks, ∃ v, σ[p.1]? = some (some v) ∧ Da (rm du H) v p.2) ∧ ∀ (u : V) (H' : Hp), Same H H' → Da (rm du H') u d → Q u H'
def tRs (ks : List (Nat × PyData)) (ds : List PyData) : TA := fun σ H Q => ∃ (du : Addr) (xs : List V), σ[0]? = some (some (.ref du)) ∧ H du = some (.lst xs) ∧ (∀ p ∈ ks, ∃ v, σ[p.1]? = some (some v) ∧ Da (rm du H) v p.2) ∧ ∀ (us : List V) (H' : Hp), Same H H' → DaAll (rm du H') us ds → us.length = ds.length → Q us H'
theorem rm_new {d p : Addr} {H : Hp} {o : HO} (h : H d ≠ none) (np : H p = none) : rm d (upd H p o) p = some o := by
  unfold rm
  rw [if_neg (fun z => h (by rw [← z]; exact np))]
  exact upd_same
theorem ks_keep {ks : List (Nat × PyData)} {σ : L2.St} {d : Addr} {H H' : Hp} (s : Same H H') (h : ∀ p ∈ ks, ∃ v, σ[p.1]? = some (some v) ∧ Da (rm d H) v p.2) : ∀ p ∈ ks, ∃ v, σ[p.1]? = some (some v) ∧ Da (rm d H') v p.2 := fun p hp => by
  obtain ⟨v, e, hd⟩ := h p hp
  exact ⟨v, e, hd.keep (rm_same s)⟩
section
variable {X : Cx} {ks : List (Nat × PyData)} {d : PyData} {ds es : List PyData} {e a b : Expr} {xs : List Expr} {p p1 p2 p3 pos : Pos}
theorem some_ne {H : Hp} {d : Addr} {o : HO} (h : H d = some o) : H d ≠ none := by
  rw [h]
  exact fun z => nomatch z
theorem R_lit (h : PE X e (tLitN d)) : PE X e (tR ks d) :=
  PE.le h fun σ H Q ⟨du, xs, h0, h1, h2, z⟩ u H' s hu => z u H' s (hu.keep (dif_rm (some_ne h1)))
theorem R_var {i : Nat} (h : PE X e (tVar i)) (hm : (i, d) ∈ ks) : PE X e (tR ks d) :=
  PE.le h fun σ H Q ⟨du, xs, h0, h1, h2, z⟩ => by
    obtain ⟨v, e1, hd⟩ := h2 _ hm
    exact ⟨v, e1, z v H (Same.refl _) hd⟩
theorem R_nil : PA X [] (tRs ks []) := PA.le pa_nil fun σ H Q ⟨du, xs, h0, h1, h2, z⟩ => z [] H (Same.refl _) .nil rfl
theorem R_cons (he : PE X e (tR ks d)) (ha : PA X xs (tRs ks ds)) (hs : starEach (e :: xs) X.env = (false, eval e X.env) :: starEach xs X.env := by rfl) : PA X (e :: xs) (tRs ks (d :: ds)) :=
  PA.le (pa_cons he ha hs) fun σ H Q ⟨du, xs, h0, h1, h2, z⟩ => ⟨du, xs, h0, h1, h2, fun u H1 s1 d1 => ⟨du, xs, h0, s1 _ _ h1, ks_keep s1 h2, fun us H2 s2 d2 l2 => z (u :: us) H2 (s1.trans s2) (.cons (d1.keep (rm_same s2)) d2) (by rw [List.length_cons, List.length_cons, l2])⟩⟩
theorem R_lst (ha : PA X xs (tRs ks ds)) (h : ds.length ≤ 1000) : PE X (.List xs p) (tR ks (.list ds)) :=
  PE.le (pe_lst ha) fun σ H Q ⟨du, ys, h0, h1, h2, z⟩ => ⟨du, ys, h0, h1, h2, fun us H1 s1 d1 l1 => ⟨by rw [l1, sizeLine_eq]; omega, fun p np => z _ _ (s1.trans (same_new np)) (.lst (rm_new (some_ne (s1 _ _ h1)) np) (d1.keep (rm_same (same_new np))))⟩⟩
theorem R_tup {k1 : _} (ha : PA X xs (tRs ks ds)) (h : ds.length ≤ 1000) : PE X (.Tuple xs k1 p) (tR ks (.tuple ds)) :=
  PE.le (pe_tup ha) fun σ H Q ⟨du, ys, h0, h1, h2, z⟩ => ⟨du, ys, h0, h1, h2, fun us H1 s1 d1 l1 => ⟨by rw [l1, sizeLine_eq]; omega, fun p np => z _ _ (s1.trans (same_new np)) (.tup (rm_new (some_ne (s1 _ _ h1)) np) (d1.keep (rm_same (same_new np))))⟩⟩
/-- the first of a list of two -/
theorem R_ix0 {d1 d2 : PyData} {j1 : _} (he : PE X e (tR ks (.list [d1, d2]))) : PE X (.Subscript e (.Constant (.int 0) j1 p1) pos) (tR ks d1) :=
  PE.le (pe_ix ix_list he pe_int (fun _ _ => rfl)) fun σ H Q ⟨du, ys, h0, h1, h2, z⟩ => ⟨du, ys, h0, h1, h2, fun u H1 s1 dd => by
    cases dd with
    | @lst a us _ ha hall =>
    cases hall with
    | @cons v1 _ vs _ q1 r1 =>
    cases r1 with
    | @cons v2 _ vs2 _ q2 r2 =>
    cases r2
    exact ⟨a, _, 0, v1, rfl, rfl, SqL.of (rm_s _ _ ha), rfl, z v1 H1 s1 q1⟩⟩
theorem R_sl1 {d1 d2 : PyData} {j1 : _} (he : PE X e (tR ks (.list [d1, d2]))) : PE X (.Subscript e (.Slice none (some (.Constant (.int 1) j1 p1)) none p2) pos) (tR ks (.list [d1])) :=
  PE.le (pe_slice sl_list he po_none (po_some pe_int)) fun σ H Q ⟨du, ys, h0, h1, h2, z⟩ => ⟨du, ys, h0, h1, h2, fun u H1 s1 dd => by
    cases dd with
    | @lst a us _ ha hall =>
    cases hall with
    | @cons v1 _ vs _ q1 r1 =>
    cases r1 with
    | @cons v2 _ vs2 _ q2 r2 =>
    cases r2
    refine ⟨_, rfl, a, _, rfl, SqL.of (rm_s _ _ ha), fun p np => z _ _ (s1.trans (same_new np)) (.lst (rm_new (some_ne (s1 _ _ h1)) np) ?_)⟩
    have e : cutV [v1, v2] none (some 1) = [v1] := rfl
    rw [e]
    exact .cons (q1.keep (rm_same (same_new np))) .nil⟩
theorem R_cat (ha : PE X a (tR ks (.list ds))) (hb : PE X b (tR ks (.list es))) (h : ds.length + es.length ≤ 1000) : PE X (.BinOp a .Add b pos) (tR ks (.list (ds ++ es))) :=
  PE.le (pe_op op_cat ha hb) fun σ H Q ⟨du, ys, h0, h1, h2, z⟩ => ⟨du, ys, h0, h1, h2, fun u H1 s1 d1 => ⟨du, ys, h0, s1 _ _ h1, ks_keep s1 h2, fun u2 H2 s2 d2 => by
    cases d1 with
    | @lst a1 us1 _ ha1 q1 =>
    cases d2 with
    | @lst a2 us2 _ ha2 q2 =>
    have l1 := da_len q1
    have l2 := da_len q2
    exact ⟨a1, a2, us1, us2, rfl, rfl, s2 _ _ (rm_s _ _ ha1), rm_s _ _ ha2, by rw [sizeLine_eq]; omega, fun p np => z _ _ ((s1.trans s2).trans (same_new np)) (.lst (rm_new (some_ne (s2 _ _ (s1 _ _ h1))) np) (((q1.keep (rm_same s2)).app q2).keep (rm_same (same_new np))))⟩⟩⟩
theorem R_rep13 {j1 : _} (ha : PE X a (tR ks (.list [d]))) : PE X (.BinOp a .Mult (.Constant (.int 13) j1 p1) pos) (tR ks (.list (List.replicate 13 d))) :=
  PE.le (pe_op op_rep ha pe_int) fun σ H Q ⟨du, ys, h0, h1, h2, z⟩ => ⟨du, ys, h0, h1, h2, fun u H1 s1 d1 => by
    cases d1 with
    | @lst a1 us1 _ ha1 q1 =>
    cases q1 with
    | @cons v0 _ vs _ q2 r =>
    cases r
    refine ⟨a1, 13, [v0], rfl, rfl, rm_s _ _ ha1, by decide, by decide, (by show 1 * 13 ≤ sizeLine; rw [sizeLine_eq]; decide), fun p np => ?_⟩
    have e : (List.replicate (13 : Int).toNat [v0]).flatten = List.replicate 13 v0 := rfl
    rw [e]
    exact z _ _ (s1.trans (same_new np)) (.lst (rm_new (some_ne (s1 _ _ h1)) np) (DaAll.rep (q2.keep (rm_same (same_new np))) 13))⟩
theorem R_tuple (ha : PE X e (tR ks (.list ds))) (hg : Gl X "tuple") (hm : X.mg "tuple" = none)
    (he : starEach [e] X.env = (false, eval e X.env) :: starEach [] X.env := by rfl) (hpl : (backTo pos (starEach ([] : List Expr) X.env)).any (·.1) = false := by rfl) : PE X (.Call (.Name "tuple" p) [e] [] pos) (tR ks (.tuple ds)) :=
  PE.le (pe_callTy call_tuple_of hg hm (by decide +kernel) (pa_cons ha pa_nil he) (by decide) (by decide) he hpl) fun σ H Q ⟨du, ys, h0, h1, h2, z⟩ => ⟨du, ys, h0, h1, h2, fun u H1 s1 d1 => by
    cases d1 with
    | @lst a1 us1 _ ha1 q1 =>
    exact ⟨a1, us1, rfl, .inl ⟨SqL.of (rm_s _ _ ha1), fun p np => z _ _ (s1.trans (same_new np)) (.tup (rm_new (some_ne (s1 _ _ h1)) np) (q1.keep (rm_same (same_new np))))⟩⟩⟩
end
/-! the texts that are too long -/
theorem wordV_long {z : Str} (h : 20000 < z.length) : wordV (.str z) = false := by
  have e : wordV (.str z) = (lowS z && decide (z.length ≤ 20000)) := rfl
  rw [e, decide_eq_false (by omega), Bool.and_false]
theorem mul_len (c : Nat) (z : Str) (hz : cz z = [c]) (n : Nat) : (Txt.mul z (n : Int)).length = n := by
  have e : cz (Txt.mul z (n : Int)) = NP.pw (cz z) (n : Int).toNat := NP.cs_mul z (Int.natCast_nonneg n)
  rw [cz_len, e, NP.pw_len, hz, Int.toNat_natCast]
  simp
theorem mul_lo (z : Str) (hz : LO z) (n : Nat) : LO (Txt.mul z (n : Int)) := fun c hc => by
  have e : cz (Txt.mul z (n : Int)) = NP.pw (cz z) (n : Int).toNat := NP.cs_mul z (Int.natCast_nonneg n)
  rw [e] at hc
  unfold NP.pw at hc
  obtain ⟨l, hl, h⟩ := List.mem_flatten.mp hc
  rw [(List.mem_replicate.mp hl).2] at h
  exact hz c h
theorem longA : MulOk "a" 20001 ∧ ShOk (.str (Txt.mul "a" 20001)) ∧ wordV (.str (Txt.mul "a" 20001)) = false ∧ (Txt.mul "a" 20001).length = 20001 := by
  have l : (Txt.mul "a" 20001).length = 20001 := mul_len 97 "a" (by decide +kernel) 20001
  have o : LO (Txt.mul "a" 20001) := mul_lo "a" (LO.of (by decide +kernel)) 20001
  refine ⟨⟨by decide +kernel, fun _ _ => by decide +kernel, fun _ _ => by decide +kernel⟩, ?_, ?_, l⟩
  · exact sh_lo o (by rw [l]; decide)
  · exact wordV_long (by rw [l]; decide)
theorem aLong {X : Cx} {p1 p2 p3 : Pos} {j1 j2 : _} : PE X (.BinOp (.Constant (.str "a") j1 p1) .Mult (.Constant (.int 20001) j2 p2) p3) (tLitN (.str (Txt.mul "a" 20001))) :=
  PE.le (pe_op op_mulS pe_str pe_int) fun σ H Q z => ⟨"a", 20001, rfl, rfl, longA.1, z _ H (Same.refl _) (.str _)⟩
theorem mulA2 : MulOk "a" 2001 := ⟨by decide +kernel, fun _ _ => by decide +kernel, fun _ _ => by decide +kernel⟩
theorem aLong2 {X : Cx} {p1 p2 p3 : Pos} {j1 j2 : _} : PE X (.BinOp (.Constant (.str "a") j1 p1) .Mult (.Constant (.int 2001) j2 p2) p3) (tLitN (.str (Txt.mul "a" 2001))) :=
  PE.le (pe_op op_mulS pe_str pe_int) fun σ H Q z => ⟨"a", 2001, rfl, rfl, mulA2, z _ H (Same.refl _) (.str _)⟩
/-! the data -/
def en0 : PyData := .tuple [.int 0, .str "", .bool false]
def en1 : PyData := .tuple [.int 0, .str "x", .bool true]
def plD : PyData := .list [en0, en1]
def A2 : PyData := .str (Txt.mul "a" 2001)
def bads1 : List PyData := [.none, .int 3, .str "ba", .str "aa", .str "A", .list [.str "a"]]
def bads2a : List PyData := [.none, .tuple [], .list [], .list (List.replicate 13 plD), .list [.list [en0]], .list [.list [en0, en1, en0]], .list [.tuple [en0, en1]], .tuple [plD], .list [.list [.tuple [.int 0, .str "", .bool false], .tuple [.int 1, .str "", .bool true]]]]
def bads2b : List PyData := [.list [.list [en0, .tuple [.int 0, .str ""]]], .list [.list [en0, .list [.int 0, .str "", .bool false]]], .list [.list [en0, .tuple [.int 0, .str "A", .bool false]]], .list [.list [en0, .none]]]
def bads2c : List PyData := [.list [.list [en0, .tuple [.int 0, .str "", .int 0]]], .list [.list [en0, .tuple [.bool true, .str "", .bool false]]], .list [.list [en0, .tuple [.int 0, .none, .bool false]]]]
def bads2d : List PyData := [.list [.list [en0, .tuple [.int 0, A2, .bool false]]], .list [.list [en0, .tuple [.int (-1), .str "", .bool true]]]]
def bads3 : List PyData := [.none, .int (-1), .int 2, .bool true, .str "0"]
def bads4 : List PyData := [.none, .tuple [], .list [.str "", .str "", .str ""], .list [.str ""], .list [.str "", .none], .list [.str "", .str "A"], .list [.str "", A2], .tuple [.str "", .str ""]]
def bads5 : List PyData := [.none, .int 0, .str "a", .list [.list [.int 0]]]
def bads6 : List PyData := [.none, .int 0, .str "A", .str "a b", .list [.str "a"], .str (Txt.mul "a" 20001)]
def slB (n : Nat) : PyData → Bool
  | .str z => decide (z.length < n)
  | _ => true
def seB : PyData → Bool
  | .tuple [a, b, c] => slB 100001 b
  | _ => true
def inB (d : PyData) : Bool := (itemsD d).all fun r => decide (lenD r ≤ 60) && (itemsD r).all seB
def nbD : PyData → Bool
  | .bool _ => false
  | _ => true
def alphD : PyData → Bool
  | .str z => alphV (.str z)
  | _ => false
def wordD : PyData → Bool
  | .str z => wordV (.str z)
  | _ => false
theorem alph_da {H : Hp} {v : V} {d : PyData} (h : Da H v d) : alphV v = alphD d := by cases h <;> rfl
theorem word_da {H : Hp} {v : V} {d : PyData} (h : Da H v d) : wordV v = wordD d := by cases h <;> rfl
theorem slB_da {H : Hp} {v : V} {d : PyData} {n : Nat} (h : Da H v d) (e : slB n d = true) : ∀ z, v = .str z → z.length < n := fun z ez => by
  subst ez
  cases h
  exact of_decide_eq_true e
theorem slB_SL {d : PyData} (e : slB 100001 d = true) : SL d := fun z ez => by
  subst ez
  have := of_decide_eq_true e
  omega
theorem seB_SE {d : PyData} (e : seB d = true) : SE d := fun a b c ed => by
  subst ed
  exact slB_SL e
theorem inB_in {d : PyData} (e : inB d = true) : ∀ r ∈ itemsD d, lenD r ≤ 60 ∧ ∀ e ∈ itemsD r, SE e := fun r hr => by
  have h := List.all_eq_true.mp e r hr
  rw [Bool.and_eq_true] at h
  exact ⟨of_decide_eq_true h.1, fun x hx => seB_SE (List.all_eq_true.mp h.2 x hx)⟩
theorem nb_da {d : PyData} (e : nbD d = true) : ∀ b, d ≠ .bool b := fun b z => by
  subst z
  cases e
theorem ok1 : ∀ d ∈ bads1, shB d = true ∧ alphD d = false ∧ slB 64 d = true := by decide +kernel
/-! the long ones -/
def Sk (n : Nat) (s : Str) : Prop := PyData.strOk s = true ∧ s.length ≤ n
theorem Sk.of {n : Nat} {a : Str} (h : PyData.strOk a = true) (l : a.length ≤ n) : Sk n a := ⟨h, l⟩
theorem Sk.app {n m : Nat} {a b : Str} (h : Sk n a) (k : Sk m b) : Sk (n + m) (a ++ b) := by
  refine ⟨?_, ?_⟩
  · have h1 := h.1
    have k1 := k.1
    unfold PyData.strOk at h1 k1 ⊢
    rw [show (a ++ b).cps = a.cps ++ b.cps from rfl, Array.all_append, h1, k1]
    rfl
  · rw [strLen_append]
    have h2 := h.2
    have k2 := k.2
    omega
theorem Sk.le {n m : Nat} {a : Str} (h : Sk n a) (l : n ≤ m) : Sk m a := ⟨h.1, Nat.le_trans h.2 l⟩
theorem sk_l1 {n : Nat} {x : Str} (h : Sk n x) : Sk (n + 20) (listText [x]) := by
  have e : listText [x] = (("[" : Str) ++ ("" : Str) ++ x) ++ ("]" : Str) := rfl
  rw [e]
  exact ((((Sk.of (n := 1) (a := "[") (by decide +kernel) (by decide +kernel)).app (Sk.of (n := 0) (a := "") (by decide +kernel) (by decide +kernel))).app h).app (Sk.of (n := 1) (a := "]") (by decide +kernel) (by decide +kernel))).le (by omega)
theorem sk_l2 {n m : Nat} {x y : Str} (h : Sk n x) (k : Sk m y) : Sk (n + m + 20) (listText [x, y]) := by
  have e : listText [x, y] = ((("[" : Str) ++ ("" : Str) ++ x) ++ (", " : Str) ++ y) ++ ("]" : Str) := rfl
  rw [e]
  exact ((((((Sk.of (n := 1) (a := "[") (by decide +kernel) (by decide +kernel)).app (Sk.of (n := 0) (a := "") (by decide +kernel) (by decide +kernel))).app h).app (Sk.of (n := 2) (a := ", ") (by decide +kernel) (by decide +kernel))).app k).app (Sk.of (n := 1) (a := "]") (by decide +kernel) (by decide +kernel))).le (by omega)
theorem sk_t3 {n m o : Nat} {x y z : Str} (h : Sk n x) (k : Sk m y) (l : Sk o z) : Sk (n + m + o + 20) (tupleText [x, y, z]) := by
  have e : tupleText [x, y, z] = ("(" : Str) ++ (x ++ (", " : Str) ++ (y ++ (", " : Str) ++ z)) ++ (")" : Str) := rfl
  rw [e]
  exact (((Sk.of (n := 1) (a := "(") (by decide +kernel) (by decide +kernel)).app ((h.app (Sk.of (n := 2) (a := ", ") (by decide +kernel) (by decide +kernel))).app ((k.app (Sk.of (n := 2) (a := ", ") (by decide +kernel) (by decide +kernel))).app l))).app (Sk.of (n := 1) (a := ")") (by decide +kernel) (by decide +kernel))).le (by omega)
theorem lenA2 : (Txt.mul "a" 2001).length = 2001 := mul_len 97 "a" (by decide +kernel) 2001
theorem shA2 : ShOk A2 := sh_lo (mul_lo "a" (LO.of (by decide +kernel)) 2001) (by
  show (Txt.mul "a" 2001).length ≤ 50000
  rw [lenA2]
  decide)
theorem skA2 : Sk 100000 (reprText (Txt.mul "a" 2001)) := by
  have h := shA2
  have e : A2.shown = reprText (Txt.mul "a" 2001) := by simp [PyData.shown, A2]
  refine ⟨?_, ?_⟩
  · rw [← e]
    exact h.o
  · rw [← e]
    exact h.l
theorem skA3 : Sk 2003 (reprText (Txt.mul "a" 2001)) := ⟨skA2.1, by
  have r := repr_lo (mul_lo "a" (LO.of (by decide +kernel)) 2001)
  rw [cz_len, show cz (reprText (Txt.mul "a" 2001)) = _ from r]
  simp only [List.length_cons, List.length_append, List.length_nil]
  rw [← cz_len]
  have h : (Txt.mul "a" ((2001 : Nat) : Int)).length = 2001 := lenA2
  omega⟩
theorem shortA2 : shortD A2 = false := by
  have e : shortD A2 = (lowS (Txt.mul "a" 2001) && decide ((Txt.mul "a" 2001).length ≤ 2000)) := rfl
  rw [e, lenA2]
  simp
theorem slA2 : slB 100001 A2 = true := by
  have e : slB 100001 A2 = decide ((Txt.mul "a" 2001).length < 100001) := rfl
  rw [e, lenA2]
  rfl
def long2 : PyData := .list [.list [en0, .tuple [.int 0, A2, .bool false]]]
def long4 : PyData := .list [.str "", A2]
theorem shL2 : ShOk long2 := by
  have e : long2.shown = listText [listText [tupleText [toString (0 : Int), reprText "", ("False" : Str)], tupleText [toString (0 : Int), reprText (Txt.mul "a" 2001), ("False" : Str)]]] := by simp [PyData.shown, PyData.shownAll, long2, en0, A2]
  have k : Sk 10000 long2.shown := by
    rw [e]
    exact (sk_l1 (sk_l2 (sk_t3 (Sk.of (n := 1) (a := _) (by decide +kernel) (by decide +kernel)) (Sk.of (n := 2) (a := _) (by decide +kernel) (by decide +kernel)) (Sk.of (n := 5) (a := _) (by decide +kernel) (by decide +kernel))) (sk_t3 (Sk.of (n := 1) (a := _) (by decide +kernel) (by decide +kernel)) skA3 (Sk.of (n := 5) (a := _) (by decide +kernel) (by decide +kernel))))).le (by omega)
  exact ⟨by decide +kernel, by decide +kernel, by decide +kernel, by have := k.2; omega, k.1⟩
theorem shL4 : ShOk long4 := by
  have e : long4.shown = listText [reprText "", reprText (Txt.mul "a" 2001)] := by simp [PyData.shown, PyData.shownAll, long4, A2]
  have k : Sk 10000 long4.shown := by
    rw [e]
    exact (sk_l2 (Sk.of (n := 2) (a := _) (by decide +kernel) (by decide +kernel)) skA3).le (by omega)
  exact ⟨by decide +kernel, by decide +kernel, by decide +kernel, by have := k.2; omega, k.1⟩
theorem ok2s : ∀ d ∈ ((bads2a ++ bads2b) ++ bads2c) ++ [.list [.list [en0, .tuple [.int (-1), .str "", .bool true]]]], shB d = true ∧ entsD (("a" : Str).length + 1) d = false ∧ lenD d ≤ 100 ∧ inB d = true := by decide +kernel
theorem ok2 : ∀ d ∈ ((bads2a ++ bads2b) ++ bads2c) ++ bads2d, ShOk d ∧ entsD (("a" : Str).length + 1) d = false ∧ lenD d ≤ 100 ∧ inB d = true := fun d hd => by
  rcases List.mem_append.mp hd with h | h
  · obtain ⟨h1, h2⟩ := ok2s d (List.mem_append.mpr (.inl h))
    exact ⟨shB_ok h1, h2⟩
  · rcases List.mem_cons.mp h with h | h
    · have ed : d = long2 := h
      subst ed
      refine ⟨shL2, ?_, by decide, ?_⟩
      · simp [entsD, entD, shortA2, long2, itemsD]
      · simp [inB, long2, itemsD, lenD, seB, slA2, en0]
        decide +kernel
    · obtain ⟨h1, h2⟩ := ok2s d (List.mem_append.mpr (.inr h))
      exact ⟨shB_ok h1, h2⟩
theorem ok3 : ∀ d ∈ bads3, shB d = true ∧ belD 2 d = false := by decide +kernel
theorem ok4s : ∀ d ∈ ([.none, .tuple [], .list [.str "", .str "", .str ""], .list [.str ""], .list [.str "", .none], .list [.str "", .str "A"], .tuple [.str "", .str ""]] : List PyData), shB d = true ∧ wrdsD 2 d = false ∧ lenD d ≤ 100 ∧ ((itemsD d).all fun e => slB 100001 e) = true := by decide +kernel
theorem ok4 : ∀ d ∈ bads4, ShOk d ∧ wrdsD 2 d = false ∧ lenD d ≤ 100 ∧ ((itemsD d).all fun e => slB 100001 e) = true := fun d hd => by
  by_cases c : d = long4
  · subst c
    refine ⟨shL4, ?_, by decide, ?_⟩
    · simp [wrdsD, shortA2, long4]
    · simp [long4, itemsD, slA2]
      decide +kernel
  · have hm : d ∈ ([.none, .tuple [], .list [.str "", .str "", .str ""], .list [.str ""], .list [.str "", .none], .list [.str "", .str "A"], .tuple [.str "", .str ""]] : List PyData) := by
      simp only [bads4, List.mem_cons, List.not_mem_nil, or_false] at hd ⊢
      rcases hd with h | h | h | h | h | h | h | h
      · exact .inl h
      · exact .inr (.inl h)
      · exact .inr (.inr (.inl h))
      · exact .inr (.inr (.inr (.inl h)))
      · exact .inr (.inr (.inr (.inr (.inl h))))
      · exact .inr (.inr (.inr (.inr (.inr (.inl h)))))
      · exact absurd h c
      · exact .inr (.inr (.inr (.inr (.inr (.inr h)))))
    obtain ⟨h1, h2⟩ := ok4s d hm
    exact ⟨shB_ok h1, h2⟩
theorem ok5 : ∀ d ∈ bads5, shB d = true ∧ nbD d = true := by decide +kernel
theorem ok6 : ∀ d ∈ bads6, ShOk d ∧ wordD d = false ∧ ∀ z, d = .str z → z.length ≤ 100000 := fun d hd => by
  have hd : d = .none ∨ d = .int 0 ∨ d = .str "A" ∨ d = .str "a b" ∨ d = .list [.str "a"] ∨ d = .str (Txt.mul "a" 20001) := by simpa only [bads6, List.mem_cons, List.not_mem_nil, or_false] using hd
  have fin : ∀ d, (shB d && (!wordD d && slB 64 d)) = true → ShOk d ∧ wordD d = false ∧ ∀ z, d = .str z → z.length ≤ 100000 := fun d h => by
    rw [Bool.and_eq_true, Bool.and_eq_true, Bool.not_eq_true'] at h
    obtain ⟨h1, h2, h3⟩ := h
    refine ⟨shB_ok h1, h2, fun z e => ?_⟩
    subst e
    have := of_decide_eq_true (show decide (z.length < 64) = true from h3)
    omega
  rcases hd with h | h | h | h | h | h
  · exact h ▸ fin .none (by decide +kernel)
  · exact h ▸ fin (.int 0) (by decide +kernel)
  · exact h ▸ fin (.str "A") (by decide +kernel)
  · exact h ▸ fin (.str "a b") (by decide +kernel)
  · exact h ▸ fin (.list [.str "a"]) (by decide +kernel)
  · refine h ▸ ⟨longA.2.1, longA.2.2.1, fun z e => ?_⟩
    rw [← PyData.str.inj e, longA.2.2.2]
    decide
theorem rows2_ok : entsD (("a" : Str).length + 1) (.list [plD, plD]) = true ∧ lenD (.list [plD, plD]) = 2 ∧ inB (.list [plD, plD]) = true := by decide +kernel
/-! what stands while the errors are gathered at du -/
structure RF (T : List (Addr × Str)) (B : Hp) (du : Addr) (n : Nat) (H : Hp) : Prop where
  ex : ExtN B H
  tb : Tabs T H
  nn : B du = none
  at_ : H du = some (.lst (List.replicate n (V.bl true)))
theorem tabs_upd {T : List (Addr × Str)} {H : Hp} {du : Addr} {xs ys : List V} (t : Tabs T H) (e : H du = some (.lst xs)) : Tabs T (upd H du (.lst ys)) := fun p hp => by
  obtain ⟨ps, h1, h2, h3⟩ := t p hp
  refine ⟨ps, ?_, h2, fun pos cv hc => ?_⟩
  · rw [upd_ne (fun z => by rw [z, e] at h1; cases h1)]
    exact h1
  · obtain ⟨c, e1, e2⟩ := h3 pos cv hc
    refine ⟨c, e1, ?_⟩
    rw [upd_ne (fun z => by rw [z, e] at e2; unfold CodeO at e2; cases e2)]
    exact e2
theorem RF.lst {T : List (Addr × Str)} {B H H1 : Hp} {du : Addr} {n : Nat} (r : RF T B du n H) (s : Same H H1) : RF T B du n H1 := ⟨r.ex.trans (ExtN.of s), r.tb.ext s, r.nn, s _ _ r.at_⟩
theorem RF.snoc {T : List (Addr × Str)} {B H1 H2 H3 : Hp} {du : Addr} {n : Nat} (r : RF T B du n H1) (x : ExtN H1 H2) (t : Tabs T H2) (s : Same H2 H3) : H3 du = some (.lst (List.replicate n (V.bl true))) ∧ RF T B du (n + 1) (upd H3 du (.lst (List.replicate n (V.bl true) ++ [.bl true]))) := by
  have e : H3 du = some (.lst (List.replicate n (V.bl true))) := s _ _ (x _ _ r.at_ fun _ z => by cases z)
  refine ⟨e, fun b o h q => ?_, tabs_upd (t.ext s) e, r.nn, ?_⟩
  · rw [upd_ne (ne_of_none h r.nn)]
    by_cases c : ∃ o', H2 b = some o'
    · exact s _ _ (x _ _ (r.ex _ _ h q) q)
    · exact s _ _ (x _ _ (r.ex _ _ h q) q)
  · rw [upd_same, List.replicate_succ']
theorem RF.rm {T : List (Addr × Str)} {B H : Hp} {du : Addr} {n : Nat} (r : RF T B du n H) : RF T (rm du H) du n H ∧ ExtN B (rm du H) := ⟨⟨ExtN.of rm_s, r.tb, rm_at, r.at_⟩, ext_rm r.ex r.nn⟩
theorem RF.back {T : List (Addr × Str)} {B D H : Hp} {du : Addr} {n : Nat} (r : RF T D du n H) (x : ExtN B D) (nn : B du = none) : RF T B du n H := ⟨x.trans r.ex, r.tb, nn, r.at_⟩
theorem RF.du {T : List (Addr × Str)} {B H : Hp} {du : Addr} {n : Nat} (r : RF T B du n H) : H du ≠ none := by
  rw [r.at_]
  exact fun z => nomatch z
def resJ (j : Nat) (s : Str) : PyData := .list [.list [.bool (decide (j = 4)), .bool (decide (j = 1)), .bool (decide (j = 2)), .bool (decide (j = 3)), .bool (decide (j = 5))], .str s]
theorem resJ_sh (j : Nat) {s : Str} (h : PyData.strOk s = true) : SeqAt.shaped (resJ j s) = true := by simp [SeqAt.shaped, resJ, PyData.canLay0, PyData.canLayAll0, PyData.depth, PyData.depthAll, h]
theorem resJ_dp {K : PySem.W.Frag} {H : Hp} {p k : Addr} {j : Nat} {s : Str} (h : H p = some (.lst [.ref k, .str s])) (hk : H k = some (.lst (kindsV j))) : Dp K H (.ref p) (resJ j s) :=
  .lst (SqL.of h) (.cons (.lst (SqL.of hk) (.cons (.bl _) (.cons (.bl _) (.cons (.bl _) (.cons (.bl _) (.cons (.bl _) .nil)))))) (.cons (.str _) .nil))
end KJ
set_option Elab.async false
set_option linter.all false
set_option maxRecDepth 100000
set_option maxHeartbeats 2000000
namespace KJ
open PySem PySem.Spec PyProof.Rows L2 XV NM XT XA LamX
/-! ### what making a maker refuses -/
abbrev sMR : Stmt := top 53
abbrev nMR : List Str := ["_law_due", "_law_plain", "_law_bad", "_law_bads", "_law_told", "_law_item"]
theorem scMR : FnScope nMR [] (defScope sMR) := ⟨rfl, rfl, rfl, by decide +kernel, rfl, by decide +kernel, by decide +kernel⟩
abbrev scM1 : Scope := { kind := .function, names := [(Str.ofString "_law_bad", .free), (Str.ofString "Maker", .globalImplicit)], isGenerator := false, isCoroutine := false }
abbrev scM3 : Scope := { kind := .function, names := [(Str.ofString "_law_bad", .free), (Str.ofString "_law_plain", .free), (Str.ofString "Maker", .globalImplicit)], isGenerator := false, isCoroutine := false }
theorem lamM1 : LamP (defScope sMR) scM1 [] := lamP_by (by decide +kernel)
theorem lamM3 : LamP (defScope sMR) scM3 [] := lamP_by (by decide +kernel)
def qMR : Str := "_law_made_refused.<locals>.<lambda>"
def qUR : Str := "_law_used_refused.<locals>.<lambda>"
abbrev TT2 (Tb Tb2 : Addr) : List (Addr × Str) := [(Tb, qMR), (Tb2, qUR)]
def spMR (Tb Tb2 : Addr) : Sp := fun vs H Q _ => vs = [] ∧ Tabs [(Tb, qMR), (Tb2, qUR)] H ∧ ∀ H', ExtN H H' → Tabs [(Tb, qMR), (Tb2, qUR)] H' → Q (.bl true) H'
section
variable {P : Program} {w : World} {K : PySem.W.Frag} {mg : Str → Option Value} {base : Heap} {f : Addr} {fd : FuncData} {CM : Addr}
theorem ok_mref {cd Tb Tb2 fc : Addr} {fdc : FuncData} (F : FnP K "_law_made_refused" sMR f fd) (hcd : fd.code = .ref cd) (TB : TabB base mg cd Tb) (ne12 : Tb ≠ Tb2) (F_caught : FnP K "_law_caught" sCaught fc fdc) (g_caught : mg "_law_caught" = some (.ref fc)) (b_caught : L2.Binds K fdc ["_law_call"] []) (Z : ClF P w K mg base) (o_mkM : OkMkM P w K mg base CM)
    (z_isinstance : mg "isinstance" = none) (z_repr : mg "repr" = none) (z_tuple : mg "tuple" = none) :
    FnG P w K mg base CX0 10 f fd [] (spMR Tb Tb2) := by
  have nd := scMR.nd
  have hu2 : ∀ p ∈ [(Tb, qMR), (Tb2, qUR)], p.1 = Tb → p.2 = qMR := fun p hp e => by
    rcases List.mem_cons.mp hp with h | h
    · rw [h]
    · rw [List.mem_singleton.mp h] at e
      exact absurd e.symm ne12
  refine okGC F hcd scMR (fun vs H Q E h => ?_) (fun A outer s H vs Q E ag hr h => ?_)
  · obtain ⟨rfl, _⟩ := h
    rfl
  · obtain ⟨rfl, tb, q⟩ := h
    have hu := hr.units
    have szl := sizeLine_eq
    have r9 : Room 9 (A.deeper (envOfC "_law_made_refused" (defScope sMR) s.heap.objs.size f (.ref cd))) := hr
    refine ⟨_, PSs.nox (C8.pss_cut (ps_asg (pe_tup (pa_cons (pe_lst pa_nil) (pa_cons (pe_litN 5 (d := plD) rfl) pa_nil))) (pg_tup rfl (pgs_cons (pg_name (i := 0) nd rfl (Or.inl rfl)) (pgs_cons (pg_name (i := 1) nd rfl (Or.inr rfl)) pgs_nil))))
      (C8.pss_cut (ps_for PassesOwn.never rfl (pi_list (pe_litN 5 (d := .list bads1) rfl)) (pg_name (i := 2) nd rfl (Or.inr rfl))
        (pss_one (ps_expr (pe_bm PySem.F.plainAttrs_list PySem.F.slot_list_append PySem.F.type_list_append mt_append (pv 0) (pa_cons (pe_cmpR (op_eqD hu) (pe_lamcallS (k := 7) (T := [(Tb, qMR), (Tb2, qUR)]) (tb := _) F_caught g_caught (by rfl) b_caught scCaught rfl (Or.inl rfl) (fun cdg => gives_caught (k := 8) Z ag r9 z_isinstance z_repr) TB rfl (.head _) hu2 r9 lamM1 rfl (fun _ _ _ _ _ => rfl)
          (fun A outer s H E f c' hr2 => pe_mkMX0K (K := K) rfl o_mkM (takes_of rfl rfl rfl rfl) hr2 (by rfl) (pa_cons (pv 2) (pa_cons pe_non pa_nil)) (pk_cons pe_non pk_nil)))
          (pe_lst (pa_cons (pe_lst (pa_cons pe_bl (pa_cons pe_bl (pa_cons pe_bl (pa_cons pe_bl (pa_cons pe_bl pa_nil)))))) (pa_cons (pe_callB (call_reprD ag hu) (by rfl) z_repr (by decide +kernel) (pa_cons (pv 2) pa_nil)) pa_nil))) (nomark _)) pa_nil)))))
      (C8.pss_cut (ps_set (i := 3) nd rfl (Or.inl rfl) (R_lst (ks := [(1, plD)]) (ds := bads2a) (R_cons (R_lit (pe_litN 4 (d := .none) rfl)) (R_cons (R_lit (pe_litN 4 (d := .tuple []) rfl)) (R_cons (R_lit (pe_litN 4 (d := .list []) rfl)) (R_cons (R_rep13 (d := plD) (R_lst (R_cons (R_var (ks := [(1, plD)]) (d := plD) (pv 1) (.head _)) R_nil) (by decide))) (R_cons (R_lst (R_cons (R_sl1 (d1 := en0) (d2 := en1) (R_var (ks := [(1, plD)]) (d := plD) (pv 1) (.head _))) R_nil) (by decide)) (R_cons (R_lst (R_cons (R_cat (ds := [en0, en1]) (es := [en0]) (R_var (ks := [(1, plD)]) (d := plD) (pv 1) (.head _)) (R_sl1 (d1 := en0) (d2 := en1) (R_var (ks := [(1, plD)]) (d := plD) (pv 1) (.head _))) (by decide)) R_nil) (by decide)) (R_cons (R_lst (R_cons (R_tuple (ds := [en0, en1]) (R_var (ks := [(1, plD)]) (d := plD) (pv 1) (.head _)) (by rfl) z_tuple) R_nil) (by decide)) (R_cons (R_tup (R_cons (R_var (ks := [(1, plD)]) (d := plD) (pv 1) (.head _)) R_nil) (by decide)) (R_cons (R_lit (pe_litN 4 (d := .list [.list [.tuple [.int 0, .str "", .bool false], .tuple [.int 1, .str "", .bool true]]]) rfl)) R_nil))))))))) (by decide)))
      (C8.pss_cut (ps_set (i := 3) nd rfl (Or.inl rfl) (R_cat (ks := [(1, plD), (3, .list bads2a)]) (ds := bads2a) (es := bads2b) (R_var (pv 3) (.tail _ (.head _))) (R_lst (ks := [(1, plD), (3, .list bads2a)]) (ds := bads2b) (R_cons (R_lst (R_cons (R_lst (R_cons (R_ix0 (d1 := en0) (d2 := en1) (R_var (ks := [(1, plD), (3, .list bads2a)]) (d := plD) (pv 1) (.head _))) (R_cons (R_lit (pe_litN 4 (d := .tuple [.int 0, .str ""]) rfl)) R_nil)) (by decide)) R_nil) (by decide)) (R_cons (R_lst (R_cons (R_lst (R_cons (R_ix0 (d1 := en0) (d2 := en1) (R_var (ks := [(1, plD), (3, .list bads2a)]) (d := plD) (pv 1) (.head _))) (R_cons (R_lit (pe_litN 4 (d := .list [.int 0, .str "", .bool false]) rfl)) R_nil)) (by decide)) R_nil) (by decide)) (R_cons (R_lst (R_cons (R_lst (R_cons (R_ix0 (d1 := en0) (d2 := en1) (R_var (ks := [(1, plD), (3, .list bads2a)]) (d := plD) (pv 1) (.head _))) (R_cons (R_lit (pe_litN 4 (d := .tuple [.int 0, .str "A", .bool false]) rfl)) R_nil)) (by decide)) R_nil) (by decide)) (R_cons (R_lst (R_cons (R_lst (R_cons (R_ix0 (d1 := en0) (d2 := en1) (R_var (ks := [(1, plD), (3, .list bads2a)]) (d := plD) (pv 1) (.head _))) (R_cons (R_lit (pe_litN 4 (d := .none) rfl)) R_nil)) (by decide)) R_nil) (by decide)) R_nil)))) (by decide)) (by decide)))
      (C8.pss_cut (ps_set (i := 3) nd rfl (Or.inl rfl) (R_cat (ks := [(1, plD), (3, .list (bads2a ++ bads2b))]) (ds := bads2a ++ bads2b) (es := bads2c) (R_var (pv 3) (.tail _ (.head _))) (R_lst (ks := [(1, plD), (3, .list (bads2a ++ bads2b))]) (ds := bads2c) (R_cons (R_lst (R_cons (R_lst (R_cons (R_ix0 (d1 := en0) (d2 := en1) (R_var (ks := [(1, plD), (3, .list (bads2a ++ bads2b))]) (d := plD) (pv 1) (.head _))) (R_cons (R_lit (pe_litN 4 (d := .tuple [.int 0, .str "", .int 0]) rfl)) R_nil)) (by decide)) R_nil) (by decide)) (R_cons (R_lst (R_cons (R_lst (R_cons (R_ix0 (d1 := en0) (d2 := en1) (R_var (ks := [(1, plD), (3, .list (bads2a ++ bads2b))]) (d := plD) (pv 1) (.head _))) (R_cons (R_lit (pe_litN 4 (d := .tuple [.bool true, .str "", .bool false]) rfl)) R_nil)) (by decide)) R_nil) (by decide)) (R_cons (R_lst (R_cons (R_lst (R_cons (R_ix0 (d1 := en0) (d2 := en1) (R_var (ks := [(1, plD), (3, .list (bads2a ++ bads2b))]) (d := plD) (pv 1) (.head _))) (R_cons (R_lit (pe_litN 4 (d := .tuple [.int 0, .none, .bool false]) rfl)) R_nil)) (by decide)) R_nil) (by decide)) R_nil))) (by decide)) (by decide)))
      (C8.pss_cut (ps_for PassesOwn.never rfl (pi_list (R_cat (ks := [(1, plD), (3, .list ((bads2a ++ bads2b) ++ bads2c))]) (ds := (bads2a ++ bads2b) ++ bads2c) (es := bads2d) (R_var (pv 3) (.tail _ (.head _))) (R_lst (ks := [(1, plD), (3, .list ((bads2a ++ bads2b) ++ bads2c))]) (ds := bads2d) (R_cons (R_lst (R_cons (R_lst (R_cons (R_ix0 (d1 := en0) (d2 := en1) (R_var (ks := [(1, plD), (3, .list ((bads2a ++ bads2b) ++ bads2c))]) (d := plD) (pv 1) (.head _))) (R_cons (R_tup (R_cons (R_lit (pe_litN 4 (d := .int 0) rfl)) (R_cons (R_lit (d := A2) aLong2) (R_cons (R_lit (pe_litN 4 (d := .bool false) rfl)) R_nil))) (by decide)) R_nil)) (by decide)) R_nil) (by decide)) (R_cons (R_lst (R_cons (R_lst (R_cons (R_ix0 (d1 := en0) (d2 := en1) (R_var (ks := [(1, plD), (3, .list ((bads2a ++ bads2b) ++ bads2c))]) (d := plD) (pv 1) (.head _))) (R_cons (R_lit (pe_litN 4 (d := .tuple [.int (-1), .str "", .bool true]) rfl)) R_nil)) (by decide)) R_nil) (by decide)) R_nil)) (by decide)) (by decide))) (pg_name (i := 2) nd rfl (Or.inr rfl))
        (pss_one (ps_expr (pe_bm PySem.F.plainAttrs_list PySem.F.slot_list_append PySem.F.type_list_append mt_append (pv 0) (pa_cons (pe_cmpR (op_eqD hu) (pe_lamcallS (k := 7) (T := [(Tb, qMR), (Tb2, qUR)]) (tb := _) F_caught g_caught (by rfl) b_caught scCaught rfl (Or.inl rfl) (fun cdg => gives_caught (k := 8) Z ag r9 z_isinstance z_repr) TB rfl (.head _) hu2 r9 lamM1 rfl (fun _ _ _ _ _ => rfl)
          (fun A outer s H E f c' hr2 => pe_mkMX1K (K := K) rfl o_mkM (takes_of rfl rfl rfl rfl) hr2 (by rfl) (pa_cons pe_str (pa_cons (pv 2) pa_nil)) (pk_cons pe_int (pk_cons pe_non pk_nil))))
          (pe_lst (pa_cons (pe_lst (pa_cons pe_bl (pa_cons pe_bl (pa_cons pe_bl (pa_cons pe_bl (pa_cons pe_bl pa_nil)))))) (pa_cons (pe_callB (call_reprD ag hu) (by rfl) z_repr (by decide +kernel) (pa_cons (pv 2) pa_nil)) pa_nil))) (nomark _)) pa_nil)))))
      (C8.pss_cut (ps_for PassesOwn.never rfl (pi_list (pe_litN 5 (d := .list bads3) rfl)) (pg_name (i := 2) nd rfl (Or.inr rfl))
        (pss_cons (ps_set (i := 4) nd rfl (Or.inl rfl) (pe_lamcallS (k := 7) (T := [(Tb, qMR), (Tb2, qUR)]) (tb := _) F_caught g_caught (by rfl) b_caught scCaught rfl (Or.inl rfl) (fun cdg => gives_caught (k := 8) Z ag r9 z_isinstance z_repr) TB rfl (.head _) hu2 r9 lamM3 rfl (fun _ _ _ _ _ => rfl)
          (fun A outer s H E f c' hr2 => pe_mkMX1K (K := K) rfl o_mkM (takes_of rfl rfl rfl rfl) hr2 (by rfl) (pa_cons pe_str (pa_cons (R_lst (ks := [(1, plD)]) (ds := [plD, plD]) (R_cons (R_var (ks := [(1, plD)]) (d := plD) (pv 1) (.head _)) (R_cons (R_var (ks := [(1, plD)]) (d := plD) (pv 1) (.head _)) R_nil)) (by decide)) pa_nil)) (pk_cons (pv 2) (pk_cons pe_non pk_nil)))))
          (pss_one (ps_expr (pe_bm PySem.F.plainAttrs_list PySem.F.slot_list_append PySem.F.type_list_append mt_append (pv 0) (pa_cons (pe_cmpR (op_eqD hu) (pv 4)
          (pe_lst (pa_cons (pe_lst (pa_cons pe_bl (pa_cons pe_bl (pa_cons pe_bl (pa_cons pe_bl (pa_cons pe_bl pa_nil)))))) (pa_cons (pe_callB (call_reprD ag hu) (by rfl) z_repr (by decide +kernel) (pa_cons (pv 2) pa_nil)) pa_nil))) (nomark _)) pa_nil))))))
      (C8.pss_cut (ps_for PassesOwn.never rfl (pi_list (pe_lstL (ds := bads4) (pa_consL (pe_litN 4 (d := .none) rfl) (pa_consL (pe_litN 4 (d := .tuple []) rfl) (pa_consL (pe_litN 4 (d := .list [.str "", .str "", .str ""]) rfl) (pa_consL (pe_litN 4 (d := .list [.str ""]) rfl) (pa_consL (pe_litN 4 (d := .list [.str "", .none]) rfl) (pa_consL (pe_litN 4 (d := .list [.str "", .str "A"]) rfl) (pa_consL (pe_lstL (ds := [.str "", A2]) (pa_consL (pe_litN 4 (d := .str "") rfl) (pa_consL aLong2 pa_nilL)) (by decide)) (pa_consL (pe_litN 4 (d := .tuple [.str "", .str ""]) rfl) pa_nilL)))))))) (by decide))) (pg_name (i := 2) nd rfl (Or.inr rfl))
        (pss_cons (ps_set (i := 4) nd rfl (Or.inl rfl) (pe_lamcallS (k := 7) (T := [(Tb, qMR), (Tb2, qUR)]) (tb := _) F_caught g_caught (by rfl) b_caught scCaught rfl (Or.inl rfl) (fun cdg => gives_caught (k := 8) Z ag r9 z_isinstance z_repr) TB rfl (.head _) hu2 r9 lamM3 rfl (fun _ _ _ _ _ => rfl)
          (fun A outer s H E f c' hr2 => pe_mkMX0K (K := K) rfl o_mkM (takes_of rfl rfl rfl rfl) hr2 (by rfl) (pa_cons pe_str (pa_cons (R_lst (ks := [(1, plD)]) (ds := [plD, plD]) (R_cons (R_var (ks := [(1, plD)]) (d := plD) (pv 1) (.head _)) (R_cons (R_var (ks := [(1, plD)]) (d := plD) (pv 1) (.head _)) R_nil)) (by decide)) pa_nil)) (pk_cons (pv 2) pk_nil))))
          (pss_one (ps_expr (pe_bm PySem.F.plainAttrs_list PySem.F.slot_list_append PySem.F.type_list_append mt_append (pv 0) (pa_cons (pe_cmpR (op_eqD hu) (pv 4)
          (pe_lst (pa_cons (pe_lst (pa_cons pe_bl (pa_cons pe_bl (pa_cons pe_bl (pa_cons pe_bl (pa_cons pe_bl pa_nil)))))) (pa_cons (pe_callB (call_reprD ag hu) (by rfl) z_repr (by decide +kernel) (pa_cons (pv 2) pa_nil)) pa_nil))) (nomark _)) pa_nil))))))
      (pss_one (ps_ret (pe_cmpR (op_eqD hu) (pe_lc (own := [("_law_item", 5)]) (g := gName 5) (by rfl) nd (pi_list (pv 0)) (blkOk_by (N := nMR) (sc := defScope sMR) (own := [("_law_item", 5)]) (by decide +kernel)) (fun _ _ _ _ _ => pg_name (i := 5) nd rfl (Or.inl rfl))
          (fun _ _ _ _ _ => pts_one (pt_not (pt_val (pv 5)))) (fun _ _ _ _ _ => pv 5)) (pe_lst pa_nil) (nomark _)))))))))))), ?_⟩
    refine ⟨fun σ' H' => ∃ du vp, σ' = [some (.ref du), some vp, none, none, none, none] ∧ RF [(Tb, qMR), (Tb2, qUR)] H du 0 H' ∧ Da (rm du H') vp plD, ?_, ?_⟩
    · refine ⟨(by show 0 ≤ sizeLine; omega), fun du nd' => fun vp H2 s2 d2 => ⟨(by show 2 ≤ sizeLine; omega), fun t nt => ?_⟩⟩
      have hdu : upd H du (.lst []) du = some (.lst []) := upd_same
      have S := s2.trans (same_new (o := .tup [V.ref du, vp]) nt)
      refine ⟨t, _, rfl, SqT.of upd_same, rfl, _, _, rfl, _, _, rfl, rfl, ?_⟩
      exact ⟨du, vp, rfl, ⟨ExtN.of ((same_new nd').trans S), tb.ext ((same_new nd').trans S), nd', S _ _ hdu⟩, (d2.keep (dif_rm (some_ne hdu))).keep (rm_same (same_new nt))⟩
    rintro σ' H1 ⟨du, vp, rfl, rf, hvp⟩
    refine ⟨fun σ' H' => (∃ y t, σ' = [some (.ref du), some vp, y, none, t, none]) ∧ RF [(Tb, qMR), (Tb2, qUR)] H du 6 H' ∧ Da (rm du H') vp plD, ?_, ?_⟩
    · refine fun v8 H8 s8 d8 => ?_
      have rf8 := rf.lst s8
      have d8 := d8.keep (dif_rm (H' := H8) rf.du)
      have hp8 := hvp.keep (rm_same s8)
      obtain ⟨rD, xD⟩ := rf8.rm
      cases d8 with
      | @lst a8 xs8 _ h8 da8 =>
      have l8 : xs8.length = 6 := da8.length
      refine ⟨a8, rfl, ⟨_, SqL.of (rm_s _ _ h8)⟩, for_list (K := K) (a := a8) (xs := xs8) (fun i σ H' => (∃ y t, σ = [some (.ref du), some vp, y, none, t, none]) ∧ RF [(Tb, qMR), (Tb2, qUR)] (rm du H8) du (0 + i) H') ⟨⟨_, _, rfl⟩, rD⟩ (fun i σ H' _ p => SqL.of (p.2.ex _ _ h8 fun _ z => by cases z)) ?_ ?_⟩
      · rintro i v σ H1 hi ⟨⟨y, t, rfl⟩, r1⟩
        obtain ⟨d, ed, hd⟩ := da8.get hi
        have hi7 := (List.getElem?_eq_some_iff.mp hi).1
        obtain ⟨k1, k2, k3⟩ := ok1 d (List.mem_of_getElem? ed)
        have sh := shB_ok k1
        have hd := hd.keepN r1.ex
        refine ⟨_, rfl, .inl ⟨rfl, _, SqL.of r1.at_⟩, r1.tb, fun H2 x2 t2 => ⟨3, v, d, by decide, hd.keepN x2, sh, fun E' Q' rz => ?_, fun H3 p kl s3 hp hkl => ?_⟩⟩
        · have hd2 := hd.keepN x2
          refine ⟨_, rfl, rfl, rfl, fun xn dx nx ndx ne => ?_⟩
          have S := (same_new (o := .own xn) ndx).trans (same_new (o := .ins CM dx []) (H := upd H2 dx (.own xn)) (by rw [upd_ne (Ne.symm ne)]; exact nx))
          exact ⟨xn, dx, _, _, _, _, rfl, upd_same, .inl ⟨da_knG (hd2.keep S), slB_da hd2 k3, (alph_da hd2).trans k2, rz.at S⟩⟩
        · have hd3 := (hd.keepN x2).keep s3
          refine ⟨(by show 5 ≤ sizeLine; omega), fun l1 nl1 => ⟨_, rfl, v, d, rfl, (hd3.keep (same_new nl1)).dp, sh.s, sh.h, sh.dp, Nat.le_trans sh.l (by omega), (by show 2 ≤ sizeLine; omega), fun l2 nl2 => ?_⟩⟩
          have s4 := (same_new (o := .lst (kindsV 3)) nl1).trans (same_new (o := .lst [.ref l1, .str d.shown]) nl2)
          refine ⟨resJ 3 d.shown, resJ 3 d.shown, resJ_dp (s4 _ _ hp) (s4 _ _ hkl), resJ_dp upd_same (same_new nl2 _ _ upd_same), resJ_sh 3 sh.o, resJ_sh 3 sh.o, ?_⟩
          rw [SeqAt.eqv_refl _ (SeqAt.canLay_of_shaped (resJ_sh 3 sh.o))]
          obtain ⟨e3, r3⟩ := r1.snoc x2 t2 (s3.trans s4)
          exact ⟨du, _, .bl true, rfl, rfl, e3, (by rw [List.length_replicate]; exact small1000 (by omega)), ⟨_, _, rfl⟩, r3⟩
      · rintro σ H' ⟨⟨y, t, rfl⟩, r⟩
        rw [l8] at r
        exact ⟨⟨_, _, rfl⟩, r.back xD rf.nn, hp8.keepN (r.rm).2⟩
    clear rf hvp
    rintro σ' H1 ⟨⟨y, t, rfl⟩, rf, hvp⟩
    refine ⟨fun σ' H' => ∃ y t v3, σ' = [some (.ref du), some vp, y, some v3, t, none] ∧ RF [(Tb, qMR), (Tb2, qUR)] H du 6 H' ∧ Da (rm du H') vp plD ∧ Da (rm du H') v3 (.list (bads2a)), ?_, ?_⟩
    · exact ⟨du, _, rfl, rf.at_, fun p hp => (by rw [List.mem_singleton.mp hp]; exact ⟨vp, rfl, hvp⟩), fun u H2 s2 d2 => ⟨y, t, u, rfl, rf.lst s2, hvp.keep (rm_same s2), d2⟩⟩
    clear rf hvp
    rintro σ' H1 ⟨y, t, v3, rfl, rf, hvp, hv3⟩
    refine ⟨fun σ' H' => ∃ y t v3, σ' = [some (.ref du), some vp, y, some v3, t, none] ∧ RF [(Tb, qMR), (Tb2, qUR)] H du 6 H' ∧ Da (rm du H') vp plD ∧ Da (rm du H') v3 (.list (bads2a ++ bads2b)), ?_, ?_⟩
    · exact ⟨du, _, rfl, rf.at_, fun p hp => (by rcases List.mem_cons.mp hp with hp | hp; exact (by rw [hp]; exact ⟨vp, rfl, hvp⟩); rw [List.mem_singleton.mp hp]; exact ⟨v3, rfl, hv3⟩), fun u H2 s2 d2 => ⟨y, t, u, rfl, rf.lst s2, hvp.keep (rm_same s2), d2⟩⟩
    clear rf hvp hv3
    rintro σ' H1 ⟨y, t, v3, rfl, rf, hvp, hv3⟩
    refine ⟨fun σ' H' => ∃ y t v3, σ' = [some (.ref du), some vp, y, some v3, t, none] ∧ RF [(Tb, qMR), (Tb2, qUR)] H du 6 H' ∧ Da (rm du H') vp plD ∧ Da (rm du H') v3 (.list ((bads2a ++ bads2b) ++ bads2c)), ?_, ?_⟩
    · exact ⟨du, _, rfl, rf.at_, fun p hp => (by rcases List.mem_cons.mp hp with hp | hp; exact (by rw [hp]; exact ⟨vp, rfl, hvp⟩); rw [List.mem_singleton.mp hp]; exact ⟨v3, rfl, hv3⟩), fun u H2 s2 d2 => ⟨y, t, u, rfl, rf.lst s2, hvp.keep (rm_same s2), d2⟩⟩
    clear rf hvp hv3
    rintro σ' H1 ⟨y, t, v3, rfl, rf, hvp, hv3⟩
    refine ⟨fun σ' H' => (∃ y t, σ' = [some (.ref du), some vp, y, some v3, t, none]) ∧ RF [(Tb, qMR), (Tb2, qUR)] H du 24 H' ∧ Da (rm du H') vp plD, ?_, ?_⟩
    · refine ⟨du, _, rfl, rf.at_, fun p hp => (by rcases List.mem_cons.mp hp with hp | hp; exact (by rw [hp]; exact ⟨vp, rfl, hvp⟩); rw [List.mem_singleton.mp hp]; exact ⟨v3, rfl, hv3⟩), fun v8 H8 s8 d8 => ?_⟩
      have rf8 := rf.lst s8
      have hp8 := hvp.keep (rm_same s8)
      obtain ⟨rD, xD⟩ := rf8.rm
      cases d8 with
      | @lst a8 xs8 _ h8 da8 =>
      have l8 : xs8.length = 18 := da8.length
      refine ⟨a8, rfl, ⟨_, SqL.of (rm_s _ _ h8)⟩, for_list (K := K) (a := a8) (xs := xs8) (fun i σ H' => (∃ y t, σ = [some (.ref du), some vp, y, some v3, t, none]) ∧ RF [(Tb, qMR), (Tb2, qUR)] (rm du H8) du (6 + i) H') ⟨⟨_, _, rfl⟩, rD⟩ (fun i σ H' _ p => SqL.of (p.2.ex _ _ h8 fun _ z => by cases z)) ?_ ?_⟩
      · rintro i v σ H1 hi ⟨⟨y, t, rfl⟩, r1⟩
        obtain ⟨d, ed, hd⟩ := da8.get hi
        have hi7 := (List.getElem?_eq_some_iff.mp hi).1
        obtain ⟨sh, k2, k3, k4⟩ := ok2 d (List.mem_of_getElem? ed)
        have sh := sh
        have hd := hd.keepN r1.ex
        refine ⟨_, rfl, .inl ⟨rfl, _, SqL.of r1.at_⟩, r1.tb, fun H2 x2 t2 => ⟨1, v, d, by decide, hd.keepN x2, sh, fun E' Q' rz => ?_, fun H3 p kl s3 hp hkl => ?_⟩⟩
        · have hd2 := hd.keepN x2
          refine ⟨_, rfl, rfl, rfl, fun xn dx nx ndx ne => ?_⟩
          have S := (same_new (o := .own xn) ndx).trans (same_new (o := .ins CM dx []) (H := upd H2 dx (.own xn)) (by rw [upd_ne (Ne.symm ne)]; exact nx))
          exact ⟨xn, dx, _, _, _, _, rfl, upd_same, .inr ⟨"a", rfl, (by decide +kernel), (by decide +kernel), d, hd2.keep S, k3, inB_in k4, .inl ⟨k2, rz.at S⟩⟩⟩
        · have hd3 := (hd.keepN x2).keep s3
          refine ⟨(by show 5 ≤ sizeLine; omega), fun l1 nl1 => ⟨_, rfl, v, d, rfl, (hd3.keep (same_new nl1)).dp, sh.s, sh.h, sh.dp, Nat.le_trans sh.l (by omega), (by show 2 ≤ sizeLine; omega), fun l2 nl2 => ?_⟩⟩
          have s4 := (same_new (o := .lst (kindsV 1)) nl1).trans (same_new (o := .lst [.ref l1, .str d.shown]) nl2)
          refine ⟨resJ 1 d.shown, resJ 1 d.shown, resJ_dp (s4 _ _ hp) (s4 _ _ hkl), resJ_dp upd_same (same_new nl2 _ _ upd_same), resJ_sh 1 sh.o, resJ_sh 1 sh.o, ?_⟩
          rw [SeqAt.eqv_refl _ (SeqAt.canLay_of_shaped (resJ_sh 1 sh.o))]
          obtain ⟨e3, r3⟩ := r1.snoc x2 t2 (s3.trans s4)
          exact ⟨du, _, .bl true, rfl, rfl, e3, (by rw [List.length_replicate]; exact small1000 (by omega)), ⟨_, _, rfl⟩, r3⟩
      · rintro σ H' ⟨⟨y, t, rfl⟩, r⟩
        rw [l8] at r
        exact ⟨⟨_, _, rfl⟩, r.back xD rf.nn, hp8.keepN (r.rm).2⟩
    clear rf hvp hv3
    rintro σ' H1 ⟨⟨y, t, rfl⟩, rf, hvp⟩
    refine ⟨fun σ' H' => (∃ y t, σ' = [some (.ref du), some vp, y, some v3, t, none]) ∧ RF [(Tb, qMR), (Tb2, qUR)] H du 29 H' ∧ Da (rm du H') vp plD, ?_, ?_⟩
    · refine fun v8 H8 s8 d8 => ?_
      have rf8 := rf.lst s8
      have d8 := d8.keep (dif_rm (H' := H8) rf.du)
      have hp8 := hvp.keep (rm_same s8)
      obtain ⟨rD, xD⟩ := rf8.rm
      cases d8 with
      | @lst a8 xs8 _ h8 da8 =>
      have l8 : xs8.length = 5 := da8.length
      refine ⟨a8, rfl, ⟨_, SqL.of (rm_s _ _ h8)⟩, for_list (K := K) (a := a8) (xs := xs8) (fun i σ H' => (∃ y t, σ = [some (.ref du), some vp, y, some v3, t, none]) ∧ RF [(Tb, qMR), (Tb2, qUR)] (rm du H8) du (24 + i) H') ⟨⟨_, _, rfl⟩, rD⟩ (fun i σ H' _ p => SqL.of (p.2.ex _ _ h8 fun _ z => by cases z)) ?_ ?_⟩
      · rintro i v σ H1 hi ⟨⟨y, t, rfl⟩, r1⟩
        obtain ⟨d, ed, hd⟩ := da8.get hi
        have hi7 := (List.getElem?_eq_some_iff.mp hi).1
        obtain ⟨k1, k2⟩ := ok3 d (List.mem_of_getElem? ed)
        have sh := shB_ok k1
        have hd := hd.keepN r1.ex
        refine ⟨r1.tb, fun H2 x2 t2 => ⟨2, v, d, by decide, hd.keepN x2, sh, fun E' Q' rz => ?_, fun H3 p kl s3 hp hkl => ?_⟩⟩
        · have hd2 := hd.keepN x2
          refine ⟨du, _, rfl, x2 _ _ r1.at_ (fun _ z => by cases z), fun p hp => (by rw [List.mem_singleton.mp hp]; exact ⟨vp, rfl, hp8.keepN (ext_rm (r1.ex.trans x2) rm_at)⟩), fun vr H4 s4 dr0 => ⟨_, rfl, rfl, rfl, fun xn dx nx ndx ne => ?_⟩⟩
          have dr := dr0.keep rm_s
          have S := (same_new (o := .own xn) ndx).trans (same_new (o := .ins CM dx []) (H := upd H4 dx (.own xn)) (by rw [upd_ne (Ne.symm ne)]; exact nx))
          exact ⟨xn, dx, _, _, _, _, rfl, upd_same, .inr ⟨"a", rfl, (by decide +kernel), (by decide +kernel), _, dr.keep S, (by rw [rows2_ok.2.1]; decide), inB_in rows2_ok.2.2, .inr ⟨rows2_ok.1, da_knG ((hd2.keep s4).keep S), .inl ⟨by rw [rows2_ok.2.1]; exact (bel_da hd2 2).trans k2, rz.at (s4.trans S)⟩⟩⟩⟩
        · have hd3 := (hd.keepN x2).keep s3
          have hdu3 : H3 du = some (.lst _) := s3 _ _ (x2 _ _ r1.at_ fun _ z => by cases z)
          refine ⟨_, rfl, .inl ⟨rfl, _, SqL.of hdu3⟩, _, rfl, ?_⟩
          refine ⟨(by show 5 ≤ sizeLine; omega), fun l1 nl1 => ⟨_, rfl, v, d, rfl, (hd3.keep (same_new nl1)).dp, sh.s, sh.h, sh.dp, Nat.le_trans sh.l (by omega), (by show 2 ≤ sizeLine; omega), fun l2 nl2 => ?_⟩⟩
          have s4 := (same_new (o := .lst (kindsV 2)) nl1).trans (same_new (o := .lst [.ref l1, .str d.shown]) nl2)
          refine ⟨resJ 2 d.shown, resJ 2 d.shown, resJ_dp (s4 _ _ hp) (s4 _ _ hkl), resJ_dp upd_same (same_new nl2 _ _ upd_same), resJ_sh 2 sh.o, resJ_sh 2 sh.o, ?_⟩
          rw [SeqAt.eqv_refl _ (SeqAt.canLay_of_shaped (resJ_sh 2 sh.o))]
          obtain ⟨e3, r3⟩ := r1.snoc x2 t2 (s3.trans s4)
          exact ⟨du, _, .bl true, rfl, rfl, e3, (by rw [List.length_replicate]; exact small1000 (by omega)), ⟨_, _, rfl⟩, r3⟩
      · rintro σ H' ⟨⟨y, t, rfl⟩, r⟩
        rw [l8] at r
        exact ⟨⟨_, _, rfl⟩, r.back xD rf.nn, hp8.keepN (r.rm).2⟩
    clear rf hvp
    rintro σ' H1 ⟨⟨y, t, rfl⟩, rf, hvp⟩
    refine ⟨fun σ' H' => (∃ y t, σ' = [some (.ref du), some vp, y, some v3, t, none]) ∧ RF [(Tb, qMR), (Tb2, qUR)] H du 37 H' ∧ Da (rm du H') vp plD, ?_, ?_⟩
    · refine fun v8 H8 s8 d8 => ?_
      have rf8 := rf.lst s8
      have d8 := d8.keep (dif_rm (H' := H8) rf.du)
      have hp8 := hvp.keep (rm_same s8)
      obtain ⟨rD, xD⟩ := rf8.rm
      cases d8 with
      | @lst a8 xs8 _ h8 da8 =>
      have l8 : xs8.length = 8 := da8.length
      refine ⟨a8, rfl, ⟨_, SqL.of (rm_s _ _ h8)⟩, for_list (K := K) (a := a8) (xs := xs8) (fun i σ H' => (∃ y t, σ = [some (.ref du), some vp, y, some v3, t, none]) ∧ RF [(Tb, qMR), (Tb2, qUR)] (rm du H8) du (29 + i) H') ⟨⟨_, _, rfl⟩, rD⟩ (fun i σ H' _ p => SqL.of (p.2.ex _ _ h8 fun _ z => by cases z)) ?_ ?_⟩
      · rintro i v σ H1 hi ⟨⟨y, t, rfl⟩, r1⟩
        obtain ⟨d, ed, hd⟩ := da8.get hi
        have hi7 := (List.getElem?_eq_some_iff.mp hi).1
        obtain ⟨sh, k2, k3, k4⟩ := ok4 d (List.mem_of_getElem? ed)
        have sh := sh
        have hd := hd.keepN r1.ex
        refine ⟨r1.tb, fun H2 x2 t2 => ⟨1, v, d, by decide, hd.keepN x2, sh, fun E' Q' rz => ?_, fun H3 p kl s3 hp hkl => ?_⟩⟩
        · have hd2 := hd.keepN x2
          refine ⟨du, _, rfl, x2 _ _ r1.at_ (fun _ z => by cases z), fun p hp => (by rw [List.mem_singleton.mp hp]; exact ⟨vp, rfl, hp8.keepN (ext_rm (r1.ex.trans x2) rm_at)⟩), fun vr H4 s4 dr0 => ⟨_, rfl, rfl, rfl, fun xn dx nx ndx ne => ?_⟩⟩
          have dr := dr0.keep rm_s
          have S := (same_new (o := .own xn) ndx).trans (same_new (o := .ins CM dx []) (H := upd H4 dx (.own xn)) (by rw [upd_ne (Ne.symm ne)]; exact nx))
          exact ⟨xn, dx, _, _, _, _, rfl, upd_same, .inr ⟨"a", rfl, (by decide +kernel), (by decide +kernel), _, dr.keep S, (by rw [rows2_ok.2.1]; decide), inB_in rows2_ok.2.2, .inr ⟨rows2_ok.1, .int 0, .inr ⟨by rw [rows2_ok.2.1]; decide, d, (hd2.keep s4).keep S, k3, (fun e he => slB_SL (List.all_eq_true.mp k4 e he)), .inl ⟨by rw [rows2_ok.2.1]; exact k2, rz.at (s4.trans S)⟩⟩⟩⟩⟩
        · have hd3 := (hd.keepN x2).keep s3
          have hdu3 : H3 du = some (.lst _) := s3 _ _ (x2 _ _ r1.at_ fun _ z => by cases z)
          refine ⟨_, rfl, .inl ⟨rfl, _, SqL.of hdu3⟩, _, rfl, ?_⟩
          refine ⟨(by show 5 ≤ sizeLine; omega), fun l1 nl1 => ⟨_, rfl, v, d, rfl, (hd3.keep (same_new nl1)).dp, sh.s, sh.h, sh.dp, Nat.le_trans sh.l (by omega), (by show 2 ≤ sizeLine; omega), fun l2 nl2 => ?_⟩⟩
          have s4 := (same_new (o := .lst (kindsV 1)) nl1).trans (same_new (o := .lst [.ref l1, .str d.shown]) nl2)
          refine ⟨resJ 1 d.shown, resJ 1 d.shown, resJ_dp (s4 _ _ hp) (s4 _ _ hkl), resJ_dp upd_same (same_new nl2 _ _ upd_same), resJ_sh 1 sh.o, resJ_sh 1 sh.o, ?_⟩
          rw [SeqAt.eqv_refl _ (SeqAt.canLay_of_shaped (resJ_sh 1 sh.o))]
          obtain ⟨e3, r3⟩ := r1.snoc x2 t2 (s3.trans s4)
          exact ⟨du, _, .bl true, rfl, rfl, e3, (by rw [List.length_replicate]; exact small1000 (by omega)), ⟨_, _, rfl⟩, r3⟩
      · rintro σ H' ⟨⟨y, t, rfl⟩, r⟩
        rw [l8] at r
        exact ⟨⟨_, _, rfl⟩, r.back xD rf.nn, hp8.keepN (r.rm).2⟩
    clear rf hvp
    rintro σ' H1 ⟨⟨y, t, rfl⟩, rf, hvp⟩
    refine ⟨_, rfl, du, rfl, ⟨_, SqL.of rf.at_⟩, fun D nD => lc_list (K := K) (a := du) (xs := List.replicate 37 (V.bl true)) (fun i H' => Same H1 H' ∧ H' D = some (.lst [])) ⟨same_new nD, upd_same⟩ (fun i H' _ p => SqL.of (p.1 _ _ rf.at_)) ?_ ?_⟩
    · rintro i v H2 hi ⟨s2, hD⟩
      obtain rfl := List.eq_of_mem_replicate (List.mem_of_getElem? hi)
      exact ⟨rfl, _, rfl, true, rfl, iteF ⟨s2, hD⟩⟩
    rintro H2 ⟨s2, hD2⟩
    refine ⟨(by show 0 ≤ sizeLine; omega), fun l nl => ⟨.list [], .list [], .lst (SqL.of (same_new nl _ _ hD2)) .nil, .lst (SqL.of upd_same) .nil, rfl, rfl, ?_⟩⟩
    rw [SeqAt.eqv_refl (PyData.list []) (SeqAt.canLay_of_shaped rfl)]
    have r := rf.lst (s2.trans (same_new (o := .lst []) nl))
    exact q _ r.ex r.tb
end
end KJ
set_option Elab.async false
set_option linter.all false
set_option maxRecDepth 100000
set_option maxHeartbeats 1000000
namespace KJ
open PySem PySem.Spec PyProof.Rows L2 XV NM XT XA LamX
/-! ### makers that write much -/
theorem cz_app (a b : Str) : cz (a ++ b) = cz a ++ cz b := NP.cs_app a b
theorem pw_one1 (k n : Nat) : NP.pw [k] n = List.replicate n k := by
  induction n with
  | zero => rfl
  | succ n ih => rw [NP.pw_succ, ih]; rfl
theorem cz_mul1 (k : Nat) (z : Str) (hz : cz z = [k]) (n : Nat) : cz (Txt.mul z (n : Int)) = List.replicate n k := by
  have e : cz (Txt.mul z (n : Int)) = NP.pw (cz z) (n : Int).toNat := NP.cs_mul z (Int.natCast_nonneg n)
  rw [e, hz, Int.toNat_natCast, pw_one1]
def X2 : Str := Txt.mul "x" 2000
def mW (c : Str) : Mm := ⟨"b", [[⟨0, X2, false⟩, ⟨0, "", true⟩]], 0, [c]⟩
theorem czX2 : cz X2 = List.replicate 2000 120 := cz_mul1 120 "x" (by decide +kernel) 2000
theorem lenX2 : X2.length = 2000 := mul_len 120 "x" (by decide +kernel) 2000
theorem loX2 : LO X2 := mul_lo "x" (LO.of (by decide +kernel)) 2000
theorem mW_ok {c : Str} (hc : LO c) (lc : c.length ≤ 2000) : MmOk (mW c) := by
  refine ⟨(by decide +kernel : alphV (.str "b") = true), (by decide +kernel : ("b" : Str).cps.all (· < 128) = true), (by decide +kernel : ("b" : Str).length ≤ 26), Nat.le_refl 1, (by decide : 1 ≤ 12), fun r hr => ?_, (by decide : 0 < 1), rfl, fun y hy => ?_⟩
  · have er : r = [⟨0, X2, false⟩, ⟨0, "", true⟩] := List.mem_singleton.mp hr
    subst er
    refine ⟨(by decide +kernel : 2 = ("b" : Str).length + 1), fun e he => ?_⟩
    rcases List.mem_cons.mp he with h | h
    · rw [h]
      exact ⟨(by decide : 0 < 1), lo_short loX2 (by rw [lenX2]; decide)⟩
    · rw [List.mem_singleton.mp h]
      exact ⟨(by decide : 0 < 1), (by decide +kernel : shortV (.str "") = true)⟩
  · rw [List.mem_singleton.mp hy]
    exact lo_short hc lc
theorem run_b (c : Str) : ∀ n : Nat, prun (mW c) 0 (List.replicate n 98) = (0, List.replicate n X2)
  | 0 => rfl
  | n + 1 => by
    rw [List.replicate_succ', prun_snoc, run_b c n]
    have i0 : (cz (mW c).z).idxOf 98 = 0 := (by decide +kernel : (cz "b").idxOf 98 = 0)
    unfold pstep
    rw [i0]
    show (0, List.replicate n X2 ++ [X2]) = _
    rw [← List.replicate_succ']
theorem run_bc (c : Str) (n : Nat) : prun (mW c) 0 (List.replicate n 98 ++ [99]) = (0, List.replicate n X2 ++ ([("" : Str), (⟨#[99]⟩ : Str)] : List Str)) := by
  rw [prun_snoc, run_b c n]
  have i0 : (cz (mW c).z).idxOf 99 = 1 := (by decide +kernel : (cz "b").idxOf 99 = 1)
  unfold pstep
  rw [i0]
  rfl
theorem made_b {y c : Str} {n : Nat} (h : cz y = List.replicate n 98) : madeP (mW c) y = List.replicate n X2 ++ [c] := by
  unfold madeP
  show (prun (mW c) 0 (cz y)).2 ++ [[c].getD (prun (mW c) 0 (cz y)).1 ""] = _
  rw [h, run_b]
  rfl
theorem made_bc {y c : Str} {n : Nat} (h : cz y = List.replicate n 98 ++ [99]) : madeP (mW c) y = (List.replicate n X2 ++ ([("" : Str), (⟨#[99]⟩ : Str)] : List Str)) ++ [c] := by
  unfold madeP
  show (prun (mW c) 0 (cz y)).2 ++ [[c].getD (prun (mW c) 0 (cz y)).1 ""] = _
  rw [h, run_bc]
  rfl
theorem tot_app (a b : List Str) : tot (a ++ b) = tot a + tot b := by
  unfold tot
  rw [List.map_append, List.sum_append]
theorem tot_rep (n : Nat) : tot (List.replicate n X2) = n * 2000 := by
  induction n with
  | zero => rfl
  | succ n ih =>
    rw [List.replicate_succ]
    show X2.length + tot (List.replicate n X2) = _
    rw [ih, lenX2]
    omega
theorem tot_one (c : Str) : tot [c] = c.length := by
  show c.length + 0 = _
  omega
theorem tot_b {y c : Str} {n : Nat} (h : cz y = List.replicate n 98) : tot (madeP (mW c) y) = n * 2000 + c.length := by
  rw [made_b h, tot_app, tot_rep, tot_one]
theorem tot_bc {y c : Str} {n : Nat} (h : cz y = List.replicate n 98 ++ [99]) : tot (madeP (mW c) y) = n * 2000 + 1 + c.length := by
  rw [made_bc h, tot_app, tot_app, tot_rep, tot_one, show tot ([("" : Str), (⟨#[99]⟩ : Str)] : List Str) = 1 by decide +kernel]
theorem flat_rep (n : Nat) : (List.replicate n X2).flatMap cz = List.replicate (n * 2000) 120 := by
  induction n with
  | zero => rfl
  | succ n ih =>
    rw [List.replicate_succ, List.flatMap_cons, ih, czX2, List.replicate_append_replicate]
    congr 1
    omega
theorem b_word (n : Nat) (l : n ≤ 20000) : wordV (.str (Txt.mul "b" (n : Int))) = true := lo_word (mul_lo "b" (LO.of (by decide +kernel)) n) (by rw [mul_len 98 "b" (by decide +kernel) n]; exact l)
theorem b_len (n : Nat) : (Txt.mul "b" (n : Int)).length = n := mul_len 98 "b" (by decide +kernel) n
theorem cz_b (n : Nat) : cz (Txt.mul "b" (n : Int)) = List.replicate n 98 := cz_mul1 98 "b" (by decide +kernel) n
theorem cz_bc (n : Nat) : cz (Txt.mul "b" (n : Int) ++ ("c" : Str)) = List.replicate n 98 ++ [99] := by
  rw [cz_app, cz_b, show cz ("c" : Str) = [99] by decide +kernel]
theorem bc_len (n : Nat) : (Txt.mul "b" (n : Int) ++ ("c" : Str)).length = n + 1 := by
  rw [cz_len, cz_bc, List.length_append, List.length_replicate]
  rfl
theorem bc_word (n : Nat) (l : n + 1 ≤ 20000) : wordV (.str (Txt.mul "b" (n : Int) ++ ("c" : Str))) = true := lo_word (fun c hc => by
  rw [cz_bc] at hc
  rcases List.mem_append.mp hc with h | h
  · rw [List.eq_of_mem_replicate h]
    exact .inr (.inl rfl)
  · rw [List.mem_singleton.mp h]
    exact .inr (.inr (.inl rfl))) (by rw [bc_len]; exact l)
theorem made_just : Txt.join "" (madeP (mW "") (Txt.mul "b" 10)) = Txt.mul "x" 20000 := by
  have e : cz (Txt.join "" (madeP (mW "") (Txt.mul "b" 10))) = cz (Txt.mul "x" 20000) := by
    have h1 : cz (Txt.mul "b" 10) = List.replicate 10 98 := cz_b 10
    have h2 : cz (Txt.mul "x" 20000) = List.replicate 20000 120 := cz_mul1 120 "x" (by decide +kernel) 20000
    rw [made_b h1, join0, List.flatMap_append, flat_rep, h2, show (([""] : List Str).flatMap cz) = [] by decide +kernel, List.append_nil]
  apply Str.ext'
  exact Array.toList_inj.mp e
theorem made_w9 : (Txt.join "" (madeP (mW "yy") (Txt.mul "b" 9))).length = 18002 := by
  have h1 : cz (Txt.mul "b" 9) = List.replicate 9 98 := cz_b 9
  rw [cz_len, made_b h1, join0, List.flatMap_append, flat_rep, List.length_append, List.length_replicate, show (([("yy" : Str)] : List Str).flatMap cz).length = 2 by decide +kernel]
theorem mulB10 : MulOk "b" 10 := ⟨by decide +kernel, fun _ _ => by decide +kernel, fun _ _ => by decide +kernel⟩
theorem mulB300 : MulOk "b" 300 := ⟨by decide +kernel, fun _ _ => by decide +kernel, fun _ _ => by decide +kernel⟩
theorem mulB9 : MulOk "b" 9 := ⟨by decide +kernel, fun _ _ => by decide +kernel, fun _ _ => by decide +kernel⟩
theorem mulX2 : MulOk "x" 2000 := ⟨by decide +kernel, fun _ _ => by decide +kernel, fun _ _ => by decide +kernel⟩
theorem mulX20 : MulOk "x" 20000 := ⟨by decide +kernel, fun _ _ => by decide +kernel, fun _ _ => by decide +kernel⟩
theorem xLong {X : Cx} {p1 p2 p3 : Pos} {j1 j2 : _} : PE X (.BinOp (.Constant (.str "x") j1 p1) .Mult (.Constant (.int 2000) j2 p2) p3) (tLitN (.str X2)) :=
  PE.le (pe_op op_mulS pe_str pe_int) fun σ H Q z => ⟨"x", 2000, rfl, rfl, mulX2, z _ H (Same.refl _) (.str _)⟩
theorem pe_tupL {X : Cx} {es : List Expr} {ds : List PyData} {k1 : _} {p : Pos} (ha : PA X es (tLitsN ds)) (h : ds.length ≤ 1000) : PE X (.Tuple es k1 p) (tLitN (.tuple ds)) :=
  PE.le (pe_tup ha) fun σ H Q z vs H1 s1 p1 l1 => ⟨by rw [l1, sizeLine_eq]; omega, fun p np => z _ _ (s1.trans (same_new np)) (.tup (dif_at s1 np) (p1.keep (dif_s (same_new np))))⟩
theorem MaZ.rm {C : Addr} {H : Hp} {x d : Addr} {m : Mm} {Z : Addr → Prop} (h : MaZ C H x m Z) (z : Z d) : Ma C (XV.rm d H) x m := by
  obtain ⟨G, s, nz, g⟩ := h
  refine g.keep fun a o e => ?_
  unfold XV.rm
  rw [if_neg (ne_of_none e (nz d z))]
  exact s _ _ e
theorem sh5 : (PyData.int 20002).shown = ("20002" : Str) ∧ (PyData.int 600003).shown = ("600003" : Str) ∧ (PyData.int 20001).shown = ("20001" : Str) := by decide +kernel
theorem shI : shB (.int 20002) = true ∧ shB (.int 600003) = true ∧ shB (.int 20001) = true := by decide +kernel
end KJ
set_option Elab.async false
set_option linter.all false
set_option maxRecDepth 100000
set_option maxHeartbeats 2000000
namespace KJ
open PySem PySem.Spec PyProof.Rows L2 XV NM XT XA LamX
/-! ### what using a maker refuses -/
abbrev sUR : Stmt := top 54
abbrev nUR : List Str := ["_law_maker", "_law_due", "_law_wide", "_law_bad", "_law_just", "_law_item"]
theorem scUR : FnScope nUR ["_law_maker"] (defScope sUR) := ⟨rfl, rfl, rfl, by decide +kernel, rfl, by decide +kernel, by decide +kernel⟩
abbrev scU1 : Scope := { kind := .function, names := [(Str.ofString "_law_bad", .free), (Str.ofString "made_word", .globalImplicit)], isGenerator := false, isCoroutine := false }
abbrev scU2 : Scope := { kind := .function, names := [(Str.ofString "_law_bad", .free), (Str.ofString "maker_states", .globalImplicit)], isGenerator := false, isCoroutine := false }
abbrev scU3 : Scope := { kind := .function, names := [(Str.ofString "_law_bad", .free), (Str.ofString "_law_maker", .free), (Str.ofString "made_word", .globalImplicit)], isGenerator := false, isCoroutine := false }
abbrev scU4 : Scope := { kind := .function, names := [(Str.ofString "_law_wide", .free), (Str.ofString "made_word", .globalImplicit)], isGenerator := false, isCoroutine := false }
abbrev scU6 : Scope := { kind := .function, names := [(Str.ofString "_law_just", .free), (Str.ofString "made_word", .globalImplicit)], isGenerator := false, isCoroutine := false }
theorem lamU1 : LamP (defScope sUR) scU1 [] := lamP_by (by decide +kernel)
theorem lamU2 : LamP (defScope sUR) scU2 [] := lamP_by (by decide +kernel)
theorem lamU3 : LamP (defScope sUR) scU3 [] := lamP_by (by decide +kernel)
theorem lamU4 : LamP (defScope sUR) scU4 [] := lamP_by (by decide +kernel)
theorem lamU6 : LamP (defScope sUR) scU6 [] := lamP_by (by decide +kernel)
def spUR (CM Tb Tb2 : Addr) : Sp := fun vs H Q _ => ∃ (x : Addr) (m : Mm), vs = [.ref x] ∧ Ma CM H x m ∧ MmOk m ∧ Tabs [(Tb, qMR), (Tb2, qUR)] H ∧ ∀ H', ExtN H H' → Tabs [(Tb, qMR), (Tb2, qUR)] H' → Q (.bl true) H'
section
variable {P : Program} {w : World} {K : PySem.W.Frag} {mg : Str → Option Value} {base : Heap} {f : Addr} {fd : FuncData} {C CM : Addr}
theorem ok_uref {cd Tb Tb2 fc : Addr} {fdc : FuncData} (F : FnP K "_law_used_refused" sUR f fd) (hcd : fd.code = .ref cd) (TB : TabB base mg cd Tb2) (ne12 : Tb ≠ Tb2) (F_caught : FnP K "_law_caught" sCaught fc fdc) (g_caught : mg "_law_caught" = some (.ref fc)) (b_caught : L2.Binds K fdc ["_law_call"] []) (Z : ClF P w K mg base) (o_mkM : OkMkM P w K mg base CM)
    (o_made : OkX P w K mg base "made_word" 4 ["maker", "word"] (spMade K CM)) (o_madeC : Ok P w K mg base "made_word" 4 ["maker", "word"] (cm (spMade K CM))) (o_states : OkX P w K mg base "maker_states" 8 ["maker"] (spStates K C CM)) (z_isinstance : mg "isinstance" = none) (z_repr : mg "repr" = none) (z_len : mg "len" = none) :
    FnG P w K mg base CX0 11 f fd ["_law_maker"] (spUR CM Tb Tb2) := by
  have nd := scUR.nd
  have hu2 : ∀ p ∈ [(Tb, qMR), (Tb2, qUR)], p.1 = Tb2 → p.2 = qUR := fun p hp e => by
    rcases List.mem_cons.mp hp with h | h
    · rw [h] at e
      exact absurd e ne12
    · rw [List.mem_singleton.mp h]
  refine okGC F hcd scUR (fun vs H Q E h => ?_) (fun A outer s H vs Q E ag hr h => ?_)
  · obtain ⟨x, m, rfl, _⟩ := h
    rfl
  · obtain ⟨x, m, rfl, hx, ok, tb, q⟩ := h
    have hu := hr.units
    have szl := sizeLine_eq
    have r10 : Room 10 (A.deeper (envOfC "_law_used_refused" (defScope sUR) s.heap.objs.size f (.ref cd))) := hr
    have r7 := r10.mono (by decide : 7 ≤ 10)
    have r4 := r10.mono (by decide : 4 ≤ 10)
    refine ⟨_, PSs.nox (C8.pss_cut (ps_asg (pe_tup (pa_cons (pe_lst pa_nil) (pa_cons (pe_mkMC0 o_mkM r7 (by rfl) (pa_cons pe_str (pa_cons (pe_lstL (pa_consL (pe_lstL (pa_consL (pe_tupL (pa_consL (pe_litN 4 (d := .int 0) rfl) (pa_consL xLong (pa_consL (pe_litN 4 (d := .bool false) rfl) pa_nilL))) (by decide)) (pa_consL (pe_litN 4 (d := .tuple [.int 0, .str "", .bool true]) rfl) pa_nilL)) (by decide)) pa_nilL) (by decide)) pa_nil)) (pk_cons (pe_lst (pa_cons pe_str pa_nil)) pk_nil)) pa_nil))) (pg_tup rfl (pgs_cons (pg_name (i := 1) nd rfl (Or.inl rfl)) (pgs_cons (pg_name (i := 2) nd rfl (Or.inr rfl)) pgs_nil))))
      (C8.pss_cut (ps_for PassesOwn.never rfl (pi_list (pe_litN 5 (d := .list bads5) rfl)) (pg_name (i := 3) nd rfl (Or.inr rfl))
        (C8.pss_cut (ps_expr (pe_bm PySem.F.plainAttrs_list PySem.F.slot_list_append PySem.F.type_list_append mt_append (pv 1) (pa_cons (pe_cmpR (op_eqD hu) (pe_lamcallS (k := 8) (T := [(Tb, qMR), (Tb2, qUR)]) (tb := _) F_caught g_caught (by rfl) b_caught scCaught rfl (Or.inl rfl) (fun cdg => gives_caught (k := 9) Z ag r10 z_isinstance z_repr) TB rfl (.tail _ (.head _)) hu2 r10 lamU1 rfl (fun _ _ _ _ _ => rfl)
          (fun A outer s H E f c' hr2 => pe_callX (E := E) o_made (takes_of rfl rfl rfl rfl) (hr2.mono (by decide)) (by rfl) (pa_cons (pv 3) (pa_cons (pe_non) pa_nil))))
          (pe_lst (pa_cons (pe_lst (pa_cons pe_bl (pa_cons pe_bl (pa_cons pe_bl (pa_cons pe_bl (pa_cons pe_bl pa_nil)))))) (pa_cons (pe_callB (call_reprD ag hu) (by rfl) z_repr (by decide +kernel) (pa_cons (pv 3) pa_nil)) pa_nil))) (nomark _)) pa_nil)))
        (pss_one (ps_expr (pe_bm PySem.F.plainAttrs_list PySem.F.slot_list_append PySem.F.type_list_append mt_append (pv 1) (pa_cons (pe_cmpR (op_eqD hu) (pe_lamcallS (k := 8) (T := [(Tb, qMR), (Tb2, qUR)]) (tb := _) F_caught g_caught (by rfl) b_caught scCaught rfl (Or.inl rfl) (fun cdg => gives_caught (k := 9) Z ag r10 z_isinstance z_repr) TB rfl (.tail _ (.head _)) hu2 r10 lamU2 rfl (fun _ _ _ _ _ => rfl)
          (fun A outer s H E f c' hr2 => pe_callX (E := E) o_states (takes_of rfl rfl rfl rfl) hr2 (by rfl) (pa_cons (pv 3) pa_nil)))
          (pe_lst (pa_cons (pe_lst (pa_cons pe_bl (pa_cons pe_bl (pa_cons pe_bl (pa_cons pe_bl (pa_cons pe_bl pa_nil)))))) (pa_cons (pe_callB (call_reprD ag hu) (by rfl) z_repr (by decide +kernel) (pa_cons (pv 3) pa_nil)) pa_nil))) (nomark _)) pa_nil))))))
      (C8.pss_cut (ps_for PassesOwn.never rfl (pi_list (pe_lstL (ds := bads6) (pa_consL (pe_litN 4 (d := .none) rfl) (pa_consL (pe_litN 4 (d := .int 0) rfl) (pa_consL (pe_litN 4 (d := .str "A") rfl) (pa_consL (pe_litN 4 (d := .str "a b") rfl) (pa_consL (pe_litN 4 (d := .list [.str "a"]) rfl) (pa_consL aLong pa_nilL)))))) (by decide))) (pg_name (i := 3) nd rfl (Or.inr rfl))
        (pss_one (ps_expr (pe_bm PySem.F.plainAttrs_list PySem.F.slot_list_append PySem.F.type_list_append mt_append (pv 1) (pa_cons (pe_cmpR (op_eqD hu) (pe_lamcallS (k := 8) (T := [(Tb, qMR), (Tb2, qUR)]) (tb := _) F_caught g_caught (by rfl) b_caught scCaught rfl (Or.inl rfl) (fun cdg => gives_caught (k := 9) Z ag r10 z_isinstance z_repr) TB rfl (.tail _ (.head _)) hu2 r10 lamU3 rfl (fun _ _ _ _ _ => rfl)
          (fun A outer s H E f c' hr2 => pe_callX (E := E) o_made (takes_of rfl rfl rfl rfl) (hr2.mono (by decide)) (by rfl) (pa_cons (pv 0) (pa_cons (pv 3) pa_nil))))
          (pe_lst (pa_cons (pe_lst (pa_cons pe_bl (pa_cons pe_bl (pa_cons pe_bl (pa_cons pe_bl (pa_cons pe_bl pa_nil)))))) (pa_cons (pe_callB (call_reprD ag hu) (by rfl) z_repr (by decide +kernel) (pa_cons (pv 3) pa_nil)) pa_nil))) (nomark _)) pa_nil)))))
      (C8.pss_cut (ps_expr (pe_bm PySem.F.plainAttrs_list PySem.F.slot_list_append PySem.F.type_list_append mt_append (pv 1) (pa_cons (pe_cmpR (op_eqD hu) (pe_lamcallS (k := 8) (T := [(Tb, qMR), (Tb2, qUR)]) (tb := _) F_caught g_caught (by rfl) b_caught scCaught rfl (Or.inl rfl) (fun cdg => gives_caught (k := 9) Z ag r10 z_isinstance z_repr) TB rfl (.tail _ (.head _)) hu2 r10 lamU4 rfl (fun _ _ _ _ _ => rfl)
          (fun A outer s H E f c' hr2 => pe_callX (E := E) o_made (takes_of rfl rfl rfl rfl) (hr2.mono (by decide)) (by rfl) (pa_cons (pv 2) (pa_cons (pe_op op_mulS pe_str pe_int) pa_nil))))
          (pe_lst (pa_cons (pe_lst (pa_cons pe_bl (pa_cons pe_bl (pa_cons pe_bl (pa_cons pe_bl (pa_cons pe_bl pa_nil)))))) (pa_cons pe_str pa_nil))) (nomark _)) pa_nil)))
      (C8.pss_cut (ps_expr (pe_bm PySem.F.plainAttrs_list PySem.F.slot_list_append PySem.F.type_list_append mt_append (pv 1) (pa_cons (pe_cmpR (op_eqD hu) (pe_lamcallS (k := 8) (T := [(Tb, qMR), (Tb2, qUR)]) (tb := _) F_caught g_caught (by rfl) b_caught scCaught rfl (Or.inl rfl) (fun cdg => gives_caught (k := 9) Z ag r10 z_isinstance z_repr) TB rfl (.tail _ (.head _)) hu2 r10 lamU4 rfl (fun _ _ _ _ _ => rfl)
          (fun A outer s H E f c' hr2 => pe_callX (E := E) o_made (takes_of rfl rfl rfl rfl) (hr2.mono (by decide)) (by rfl) (pa_cons (pv 2) (pa_cons (pe_op op_add_str (pe_op op_mulS pe_str pe_int) pe_str) pa_nil))))
          (pe_lst (pa_cons (pe_lst (pa_cons pe_bl (pa_cons pe_bl (pa_cons pe_bl (pa_cons pe_bl (pa_cons pe_bl pa_nil)))))) (pa_cons pe_str pa_nil))) (nomark _)) pa_nil)))
      (C8.pss_cut (ps_set (i := 4) nd rfl (Or.inr rfl) (pe_mkMC0 o_mkM r7 (by rfl) (pa_cons pe_str (pa_cons (pe_lstL (pa_consL (pe_lstL (pa_consL (pe_tupL (pa_consL (pe_litN 4 (d := .int 0) rfl) (pa_consL xLong (pa_consL (pe_litN 4 (d := .bool false) rfl) pa_nilL))) (by decide)) (pa_consL (pe_litN 4 (d := .tuple [.int 0, .str "", .bool true]) rfl) pa_nilL)) (by decide)) pa_nilL) (by decide)) pa_nil)) (pk_cons (pe_lst (pa_cons pe_str pa_nil)) pk_nil)))
      (C8.pss_cut (ps_expr (pe_bm PySem.F.plainAttrs_list PySem.F.slot_list_append PySem.F.type_list_append mt_append (pv 1) (pa_cons (pe_cmpR (op_eqD hu) (pe_lamcallS (k := 8) (T := [(Tb, qMR), (Tb2, qUR)]) (tb := _) F_caught g_caught (by rfl) b_caught scCaught rfl (Or.inl rfl) (fun cdg => gives_caught (k := 9) Z ag r10 z_isinstance z_repr) TB rfl (.tail _ (.head _)) hu2 r10 lamU6 rfl (fun _ _ _ _ _ => rfl)
          (fun A outer s H E f c' hr2 => pe_callX (E := E) o_made (takes_of rfl rfl rfl rfl) (hr2.mono (by decide)) (by rfl) (pa_cons (pv 4) (pa_cons (pe_op op_add_str (pe_op op_mulS pe_str pe_int) pe_str) pa_nil))))
          (pe_lst (pa_cons (pe_lst (pa_cons pe_bl (pa_cons pe_bl (pa_cons pe_bl (pa_cons pe_bl (pa_cons pe_bl pa_nil)))))) (pa_cons pe_str pa_nil))) (nomark _)) pa_nil)))
      (C8.pss_cut (ps_if (pt_cmpR op_ne (pe_callO o_madeC r4 (by rfl) (pa_cons (pv 4) (pa_cons (pe_op op_mulS pe_str pe_int) pa_nil))) (pe_op op_mulS pe_str pe_int) (nomark _)) (pss_one (ps_ret pe_bl)) pss_nil)
      (pss_one (ps_ret (pe_and (pe_cmpR (op_eqD hu) (pe_lc (own := [("_law_item", 5)]) (g := gName 5) (by rfl) nd (pi_list (pv 1)) (blkOk_by (N := nUR) (sc := defScope sUR) (own := [("_law_item", 5)]) (by decide +kernel)) (fun _ _ _ _ _ => pg_name (i := 5) nd rfl (Or.inl rfl))
          (fun _ _ _ _ _ => pts_one (pt_not (pt_val (pv 5)))) (fun _ _ _ _ _ => pv 5)) (pe_lst pa_nil) (nomark _)) (pe_one (pe_cmpR op_eq (pe_callB call_len_str (by rfl) z_len (by decide +kernel) (pa_cons (pe_callO o_madeC r4 (by rfl) (pa_cons (pv 2) (pa_cons (pe_op op_mulS pe_str pe_int) pa_nil))) pa_nil)) pe_int (nomark _)))))))))))))), ?_⟩
    refine ⟨fun σ' H' => ∃ du wx, σ' = [some (.ref x), some (.ref du), some (.ref wx), none, none, none] ∧ RF [(Tb, qMR), (Tb2, qUR)] H du 0 H' ∧ Ma CM (rm du H') wx (mW "yy"), ?_, ?_⟩
    · refine ⟨(by show 0 ≤ sizeLine; omega), fun du nd' => fun vr H2 s2 d2 => ?_⟩
      have hdu : upd H du (.lst []) du = some (.lst []) := upd_same
      have d2' := d2.keep dif_same
      cases d2' with
      | @lst ra xr _ hra dra =>
      have dR : Da H2 (.ref ra) (rsD (mW "yy").R) := .lst hra dra
      refine ⟨(by show 1 ≤ sizeLine; omega), fun en nen => ⟨rfl, rfl, fun y dy ny ndy ne => mk_spM (m := mW "yy") rfl rfl ny ndy ne upd_same (dR.keep (same_new nen)) (mW_ok (LO.of (by decide +kernel)) (by decide +kernel)) fun H3 s3 ha => ⟨rfl, ?_⟩⟩⟩
      have S1 := (s2.trans (same_new (o := .lst [.str "yy"]) nen)).trans s3
      refine ⟨(by show 2 ≤ sizeLine; omega), fun t nt => ?_⟩
      have S := S1.trans (same_new (o := .tup [V.ref du, .ref y]) nt)
      refine ⟨t, _, rfl, SqT.of upd_same, rfl, _, _, rfl, _, _, rfl, rfl, ?_⟩
      exact ⟨du, y, rfl, ⟨ExtN.of ((same_new nd').trans S), tb.ext ((same_new nd').trans S), nd', S _ _ hdu⟩, (ha.rm ⟨_, same_new nen _ _ (s2 _ _ hdu)⟩).keep (rm_same (same_new nt))⟩
    rintro σ' H1 ⟨du, wx, rfl, rf, hw⟩
    refine ⟨fun σ' H' => (∃ y, σ' = [some (.ref x), some (.ref du), some (.ref wx), y, none, none]) ∧ RF [(Tb, qMR), (Tb2, qUR)] H du 8 H' ∧ Ma CM (rm du H') wx (mW "yy"), ?_, ?_⟩
    · refine fun v8 H8 s8 d8 => ?_
      have rf8 := rf.lst s8
      have d8 := d8.keep (dif_rm (H' := H8) rf.du)
      have hw8 := hw.keep (rm_same s8)
      obtain ⟨rD, xD⟩ := rf8.rm
      cases d8 with
      | @lst a8 xs8 _ h8 da8 =>
      have l8 : xs8.length = 4 := da8.length
      refine ⟨a8, rfl, ⟨_, SqL.of (rm_s _ _ h8)⟩, for_list (K := K) (a := a8) (xs := xs8) (fun i σ H' => (∃ y, σ = [some (.ref x), some (.ref du), some (.ref wx), y, none, none]) ∧ RF [(Tb, qMR), (Tb2, qUR)] (rm du H8) du (0 + 2 * i) H') ⟨⟨_, rfl⟩, rD⟩ (fun i σ H' _ p => SqL.of (p.2.ex _ _ h8 fun _ z => by cases z)) ?_ ?_⟩
      · rintro i v σ H1 hi ⟨⟨y, rfl⟩, r1⟩
        obtain ⟨d, ed, hd⟩ := da8.get hi
        have hi7 := (List.getElem?_eq_some_iff.mp hi).1
        obtain ⟨k1, k2⟩ := ok5 d (List.mem_of_getElem? ed)
        have sh := shB_ok k1
        have hd0 := hd
        have hd := hd.keepN r1.ex
        refine ⟨fun σ' H' => (∃ y : Unit, σ' = [some (.ref x), some (.ref du), some (.ref wx), some v, none, none]) ∧ RF [(Tb, qMR), (Tb2, qUR)] (rm du H8) du (0 + 2 * i + 1) H', ?_, ?_⟩
        · refine ⟨_, rfl, .inl ⟨rfl, _, SqL.of r1.at_⟩, r1.tb, fun H2 x2 t2 => ⟨4, v, d, by decide, hd.keepN x2, sh, fun E' Q' rz => ?_, fun H3 p kl s3 hp hkl => ?_⟩⟩
          · have hd2 := hd.keepN x2
            exact ⟨_, rfl, _, _, rfl, .inl ⟨da_noA hd2 (nb_da k2), rz⟩⟩
          · have hd3 := (hd.keepN x2).keep s3
            refine ⟨(by show 5 ≤ sizeLine; omega), fun l1 nl1 => ⟨_, rfl, v, d, rfl, (hd3.keep (same_new nl1)).dp, sh.s, sh.h, sh.dp, Nat.le_trans sh.l (by omega), (by show 2 ≤ sizeLine; omega), fun l2 nl2 => ?_⟩⟩
            have s4 := (same_new (o := .lst (kindsV 4)) nl1).trans (same_new (o := .lst [.ref l1, .str d.shown]) nl2)
            refine ⟨resJ 4 d.shown, resJ 4 d.shown, resJ_dp (s4 _ _ hp) (s4 _ _ hkl), resJ_dp upd_same (same_new nl2 _ _ upd_same), resJ_sh 4 sh.o, resJ_sh 4 sh.o, ?_⟩
            rw [SeqAt.eqv_refl _ (SeqAt.canLay_of_shaped (resJ_sh 4 sh.o))]
            obtain ⟨e3, r3⟩ := r1.snoc x2 t2 (s3.trans s4)
            exact ⟨du, _, .bl true, rfl, rfl, e3, (by rw [List.length_replicate]; exact small1000 (by omega)), ⟨(), rfl⟩, r3⟩
        clear hd r1
        rintro σ H1 ⟨⟨_, rfl⟩, r1⟩
        have hd := hd0.keepN r1.ex
        refine ⟨_, rfl, .inl ⟨rfl, _, SqL.of r1.at_⟩, r1.tb, fun H2 x2 t2 => ⟨4, v, d, by decide, hd.keepN x2, sh, fun E' Q' rz => ?_, fun H3 p kl s3 hp hkl => ?_⟩⟩
        · have hd2 := hd.keepN x2
          exact ⟨_, rfl, _, rfl, .inl ⟨da_noA hd2 (nb_da k2), rz⟩⟩
        · have hd3 := (hd.keepN x2).keep s3
          refine ⟨(by show 5 ≤ sizeLine; omega), fun l1 nl1 => ⟨_, rfl, v, d, rfl, (hd3.keep (same_new nl1)).dp, sh.s, sh.h, sh.dp, Nat.le_trans sh.l (by omega), (by show 2 ≤ sizeLine; omega), fun l2 nl2 => ?_⟩⟩
          have s4 := (same_new (o := .lst (kindsV 4)) nl1).trans (same_new (o := .lst [.ref l1, .str d.shown]) nl2)
          refine ⟨resJ 4 d.shown, resJ 4 d.shown, resJ_dp (s4 _ _ hp) (s4 _ _ hkl), resJ_dp upd_same (same_new nl2 _ _ upd_same), resJ_sh 4 sh.o, resJ_sh 4 sh.o, ?_⟩
          rw [SeqAt.eqv_refl _ (SeqAt.canLay_of_shaped (resJ_sh 4 sh.o))]
          obtain ⟨e3, r3⟩ := r1.snoc x2 t2 (s3.trans s4)
          exact ⟨du, _, .bl true, rfl, rfl, e3, (by rw [List.length_replicate]; exact small1000 (by omega)), ⟨_, rfl⟩, r3⟩
      · rintro σ H' ⟨⟨y, rfl⟩, r⟩
        rw [l8] at r
        exact ⟨⟨_, rfl⟩, r.back xD rf.nn, hw8.keepN (r.rm).2⟩
    clear rf hw
    rintro σ' H1 ⟨⟨y, rfl⟩, rf, hw⟩
    refine ⟨fun σ' H' => (∃ y, σ' = [some (.ref x), some (.ref du), some (.ref wx), y, none, none]) ∧ RF [(Tb, qMR), (Tb2, qUR)] H du 14 H' ∧ Ma CM (rm du H') wx (mW "yy"), ?_, ?_⟩
    · refine fun v8 H8 s8 d8 => ?_
      have rf8 := rf.lst s8
      have d8 := d8.keep (dif_rm (H' := H8) rf.du)
      have hw8 := hw.keep (rm_same s8)
      obtain ⟨rD, xD⟩ := rf8.rm
      cases d8 with
      | @lst a8 xs8 _ h8 da8 =>
      have l8 : xs8.length = 6 := da8.length
      refine ⟨a8, rfl, ⟨_, SqL.of (rm_s _ _ h8)⟩, for_list (K := K) (a := a8) (xs := xs8) (fun i σ H' => (∃ y, σ = [some (.ref x), some (.ref du), some (.ref wx), y, none, none]) ∧ RF [(Tb, qMR), (Tb2, qUR)] (rm du H8) du (8 + i) H') ⟨⟨_, rfl⟩, rD⟩ (fun i σ H' _ p => SqL.of (p.2.ex _ _ h8 fun _ z => by cases z)) ?_ ?_⟩
      · rintro i v σ H1 hi ⟨⟨y, rfl⟩, r1⟩
        obtain ⟨d, ed, hd⟩ := da8.get hi
        have hi7 := (List.getElem?_eq_some_iff.mp hi).1
        obtain ⟨sh, k2, k3⟩ := ok6 d (List.mem_of_getElem? ed)
        have sh := sh
        have hd0 := hd
        have hd := hd.keepN r1.ex
        refine ⟨_, rfl, .inl ⟨rfl, _, SqL.of r1.at_⟩, r1.tb, fun H2 x2 t2 => ⟨3, v, d, by decide, hd.keepN x2, sh, fun E' Q' rz => ?_, fun H3 p kl s3 hp hkl => ?_⟩⟩
        · have hd2 := hd.keepN x2
          refine ⟨_, rfl, _, rfl, _, _, rfl, .inr ⟨x, m, rfl, hx.keepN (xD.trans (r1.ex.trans x2)), ok, da_knG hd2, fun y ey => ?_, .inl ⟨(word_da hd2).trans k2, rz⟩⟩⟩
          subst ey
          cases hd2
          exact k3 _ rfl
        · have hd3 := (hd.keepN x2).keep s3
          refine ⟨(by show 5 ≤ sizeLine; omega), fun l1 nl1 => ⟨_, rfl, v, d, rfl, (hd3.keep (same_new nl1)).dp, sh.s, sh.h, sh.dp, Nat.le_trans sh.l (by omega), (by show 2 ≤ sizeLine; omega), fun l2 nl2 => ?_⟩⟩
          have s4 := (same_new (o := .lst (kindsV 3)) nl1).trans (same_new (o := .lst [.ref l1, .str d.shown]) nl2)
          refine ⟨resJ 3 d.shown, resJ 3 d.shown, resJ_dp (s4 _ _ hp) (s4 _ _ hkl), resJ_dp upd_same (same_new nl2 _ _ upd_same), resJ_sh 3 sh.o, resJ_sh 3 sh.o, ?_⟩
          rw [SeqAt.eqv_refl _ (SeqAt.canLay_of_shaped (resJ_sh 3 sh.o))]
          obtain ⟨e3, r3⟩ := r1.snoc x2 t2 (s3.trans s4)
          exact ⟨du, _, .bl true, rfl, rfl, e3, (by rw [List.length_replicate]; exact small1000 (by omega)), ⟨_, rfl⟩, r3⟩
      · rintro σ H' ⟨⟨y, rfl⟩, r⟩
        rw [l8] at r
        exact ⟨⟨_, rfl⟩, r.back xD rf.nn, hw8.keepN (r.rm).2⟩
    clear rf hw
    rintro σ' H1 ⟨⟨y, rfl⟩, rf, hw⟩
    refine ⟨fun σ' H' => σ' = [some (.ref x), some (.ref du), some (.ref wx), y, none, none] ∧ RF [(Tb, qMR), (Tb2, qUR)] H du 15 H' ∧ Ma CM (rm du H') wx (mW "yy"), ?_, ?_⟩
    · obtain ⟨r1, xD⟩ := rf.rm
      refine ⟨_, rfl, .inl ⟨rfl, _, SqL.of r1.at_⟩, r1.tb, fun H2 x2 t2 => ⟨5, .int 20002, .int 20002, by decide, .int _, shB_ok shI.1, fun E' Q' rz => ?_, fun H3 p kl s3 hp hkl => ?_⟩⟩
      · refine ⟨_, rfl, "b", 10, rfl, rfl, mulB10, _, _, rfl, .inr ⟨wx, mW "yy", rfl, hw.keepN ((ExtN.of rm_s).trans x2), mW_ok (LO.of (by decide +kernel)) (by decide +kernel), .str _, fun y ey => ?_, .inr ⟨b_word 10 (by decide), fun y ey => .inl ?_⟩⟩⟩
        · rw [← V.str.inj ey]
          exact Nat.le_trans (Nat.le_of_eq (b_len 10)) (by decide)
        · obtain rfl := V.str.inj ey
          have e : tot (madeP (mW "yy") (Txt.mul "b" 10)) = 20002 := (tot_b (cz_b 10)).trans (by decide +kernel)
          rw [e]
          exact ⟨by decide, rz⟩
      · rw [sh5.1] at hp
        refine ⟨(by show 5 ≤ sizeLine; omega), fun l1 nl1 => ⟨(by show 2 ≤ sizeLine; omega), fun l2 nl2 => ?_⟩⟩
        have s4 := (same_new (o := .lst (kindsV 5)) nl1).trans (same_new (o := .lst [.ref l1, .str "20002"]) nl2)
        have so : PyData.strOk "20002" = true := by decide +kernel
        refine ⟨resJ 5 "20002", resJ 5 "20002", resJ_dp (s4 _ _ hp) (s4 _ _ hkl), resJ_dp upd_same (same_new nl2 _ _ upd_same), resJ_sh 5 so, resJ_sh 5 so, ?_⟩
        rw [SeqAt.eqv_refl _ (SeqAt.canLay_of_shaped (resJ_sh 5 so))]
        obtain ⟨e3, r3⟩ := r1.snoc x2 t2 (s3.trans s4)
        exact ⟨du, _, .bl true, rfl, rfl, e3, (by rw [List.length_replicate]; exact small1000 (by omega)), rfl, r3.back xD rf.nn, hw.keepN (r3.rm).2⟩
    clear rf hw
    rintro σ' H1 ⟨rfl, rf, hw⟩
    refine ⟨fun σ' H' => σ' = [some (.ref x), some (.ref du), some (.ref wx), y, none, none] ∧ RF [(Tb, qMR), (Tb2, qUR)] H du 16 H' ∧ Ma CM (rm du H') wx (mW "yy"), ?_, ?_⟩
    · obtain ⟨r1, xD⟩ := rf.rm
      refine ⟨_, rfl, .inl ⟨rfl, _, SqL.of r1.at_⟩, r1.tb, fun H2 x2 t2 => ⟨5, .int 600003, .int 600003, by decide, .int _, shB_ok shI.2.1, fun E' Q' rz => ?_, fun H3 p kl s3 hp hkl => ?_⟩⟩
      · refine ⟨_, rfl, "b", 300, rfl, rfl, mulB300, _, _, rfl, rfl, (Nat.le_trans (Nat.le_of_eq (congrArg (· + ("c" : Str).length) (b_len 300))) (by rw [sizeLine_eq]; decide +kernel)), _, _, rfl, .inr ⟨wx, mW "yy", rfl, hw.keepN ((ExtN.of rm_s).trans x2), mW_ok (LO.of (by decide +kernel)) (by decide +kernel), .str _, fun y ey => ?_, .inr ⟨bc_word 300 (by decide), fun y ey => .inl ?_⟩⟩⟩
        · rw [← V.str.inj ey]
          exact Nat.le_trans (Nat.le_of_eq (bc_len 300)) (by decide)
        · obtain rfl := V.str.inj ey
          have e : tot (madeP (mW "yy") (Txt.mul "b" 300 ++ ("c" : Str))) = 600003 := (tot_bc (cz_bc 300)).trans (by decide +kernel)
          rw [e]
          exact ⟨by decide, rz⟩
      · rw [sh5.2.1] at hp
        refine ⟨(by show 5 ≤ sizeLine; omega), fun l1 nl1 => ⟨(by show 2 ≤ sizeLine; omega), fun l2 nl2 => ?_⟩⟩
        have s4 := (same_new (o := .lst (kindsV 5)) nl1).trans (same_new (o := .lst [.ref l1, .str "600003"]) nl2)
        have so : PyData.strOk "600003" = true := by decide +kernel
        refine ⟨resJ 5 "600003", resJ 5 "600003", resJ_dp (s4 _ _ hp) (s4 _ _ hkl), resJ_dp upd_same (same_new nl2 _ _ upd_same), resJ_sh 5 so, resJ_sh 5 so, ?_⟩
        rw [SeqAt.eqv_refl _ (SeqAt.canLay_of_shaped (resJ_sh 5 so))]
        obtain ⟨e3, r3⟩ := r1.snoc x2 t2 (s3.trans s4)
        exact ⟨du, _, .bl true, rfl, rfl, e3, (by rw [List.length_replicate]; exact small1000 (by omega)), rfl, r3.back xD rf.nn, hw.keepN (r3.rm).2⟩
    clear rf hw
    rintro σ' H1 ⟨rfl, rf, hw⟩
    refine ⟨fun σ' H' => ∃ jx, σ' = [some (.ref x), some (.ref du), some (.ref wx), y, some (.ref jx), none] ∧ RF [(Tb, qMR), (Tb2, qUR)] H du 16 H' ∧ Ma CM (rm du H') wx (mW "yy") ∧ Ma CM (rm du H') jx (mW ""), ?_, ?_⟩
    · refine fun vr H2 s2 d2 => ?_
      have d2' := d2.keep dif_same
      cases d2' with
      | @lst ra xr _ hra dra =>
      have dR : Da H2 (.ref ra) (rsD (mW "").R) := .lst hra dra
      refine ⟨(by show 1 ≤ sizeLine; omega), fun en nen => ⟨rfl, rfl, fun j dy ny ndy ne => mk_spM (m := mW "") rfl rfl ny ndy ne upd_same (dR.keep (same_new nen)) (mW_ok (LO.of (by decide +kernel)) (by decide +kernel)) fun H3 s3 ha => ⟨rfl, ?_⟩⟩⟩
      have S1 := (s2.trans (same_new (o := .lst [.str ""]) nen)).trans s3
      exact ⟨j, rfl, rf.lst S1, hw.keep (rm_same S1), ha.rm ⟨_, same_new nen _ _ (s2 _ _ rf.at_)⟩⟩
    clear rf hw
    rintro σ' H1 ⟨jx, rfl, rf, hw, hj⟩
    refine ⟨fun σ' H' => σ' = [some (.ref x), some (.ref du), some (.ref wx), y, some (.ref jx), none] ∧ RF [(Tb, qMR), (Tb2, qUR)] H du 17 H' ∧ Ma CM (rm du H') wx (mW "yy") ∧ Ma CM (rm du H') jx (mW ""), ?_, ?_⟩
    · obtain ⟨r1, xD⟩ := rf.rm
      refine ⟨_, rfl, .inl ⟨rfl, _, SqL.of r1.at_⟩, r1.tb, fun H2 x2 t2 => ⟨5, .int 20001, .int 20001, by decide, .int _, shB_ok shI.2.2, fun E' Q' rz => ?_, fun H3 p kl s3 hp hkl => ?_⟩⟩
      · refine ⟨_, rfl, "b", 10, rfl, rfl, mulB10, _, _, rfl, rfl, (Nat.le_trans (Nat.le_of_eq (congrArg (· + ("c" : Str).length) (b_len 10))) (by rw [sizeLine_eq]; decide +kernel)), _, _, rfl, .inr ⟨jx, mW "", rfl, hj.keepN ((ExtN.of rm_s).trans x2), mW_ok (LO.of (by decide +kernel)) (by decide +kernel), .str _, fun y ey => ?_, .inr ⟨bc_word 10 (by decide), fun y ey => .inl ?_⟩⟩⟩
        · rw [← V.str.inj ey]
          exact Nat.le_trans (Nat.le_of_eq (bc_len 10)) (by decide)
        · obtain rfl := V.str.inj ey
          have e : tot (madeP (mW "") (Txt.mul "b" 10 ++ ("c" : Str))) = 20001 := (tot_bc (cz_bc 10)).trans (by decide +kernel)
          rw [e]
          exact ⟨by decide, rz⟩
      · rw [sh5.2.2] at hp
        refine ⟨(by show 5 ≤ sizeLine; omega), fun l1 nl1 => ⟨(by show 2 ≤ sizeLine; omega), fun l2 nl2 => ?_⟩⟩
        have s4 := (same_new (o := .lst (kindsV 5)) nl1).trans (same_new (o := .lst [.ref l1, .str "20001"]) nl2)
        have so : PyData.strOk "20001" = true := by decide +kernel
        refine ⟨resJ 5 "20001", resJ 5 "20001", resJ_dp (s4 _ _ hp) (s4 _ _ hkl), resJ_dp upd_same (same_new nl2 _ _ upd_same), resJ_sh 5 so, resJ_sh 5 so, ?_⟩
        rw [SeqAt.eqv_refl _ (SeqAt.canLay_of_shaped (resJ_sh 5 so))]
        obtain ⟨e3, r3⟩ := r1.snoc x2 t2 (s3.trans s4)
        exact ⟨du, _, .bl true, rfl, rfl, e3, (by rw [List.length_replicate]; exact small1000 (by omega)), rfl, r3.back xD rf.nn, hw.keepN (r3.rm).2, hj.keepN (r3.rm).2⟩
    clear rf hw hj
    rintro σ' H1 ⟨rfl, rf, hw, hj⟩
    refine ⟨fun σ' H' => σ' = [some (.ref x), some (.ref du), some (.ref wx), y, some (.ref jx), none] ∧ RF [(Tb, qMR), (Tb2, qUR)] H du 17 H' ∧ Ma CM (rm du H') wx (mW "yy"), ?_, ?_⟩
    · refine ⟨_, rfl, "b", 10, rfl, rfl, mulB10, _, _, rfl, .inr ⟨jx, mW "", rfl, hj.keep rm_s, mW_ok (LO.of (by decide +kernel)) (by decide +kernel), .str _, fun y ey => ?_, .inr ⟨b_word 10 (by decide), fun y ey => .inr ?_⟩⟩⟩
      · rw [← V.str.inj ey]
        exact Nat.le_trans (Nat.le_of_eq (b_len 10)) (by decide)
      · obtain rfl := V.str.inj ey
        have e : tot (madeP (mW "") (Txt.mul "b" 10)) = 20000 := (tot_b (cz_b 10)).trans (by decide +kernel)
        rw [e]
        refine ⟨by decide, fun H2 s2 => ⟨"x", 20000, rfl, rfl, mulX20, ?_⟩⟩
        have ej : Txt.join "" (madeP (mW "") (Txt.mul "b" 10)) = Txt.mul "x" 20000 := made_just
        rw [ej]
        generalize Txt.mul "x" 20000 = zz
        exact ⟨rfl, _, rfl, iteNG ⟨rfl, rf.lst s2, hw.keep (rm_same s2)⟩⟩
    clear rf hw hj
    rintro σ' H1 ⟨rfl, rf, hw⟩
    refine ⟨_, rfl, du, rfl, ⟨_, SqL.of rf.at_⟩, fun D nD => lc_list (K := K) (a := du) (xs := List.replicate 17 (V.bl true)) (fun i H' => Same H1 H' ∧ H' D = some (.lst [])) ⟨same_new nD, upd_same⟩ (fun i H' _ p => SqL.of (p.1 _ _ rf.at_)) ?_ ?_⟩
    · rintro i v H2 hi ⟨s2, hD⟩
      obtain rfl := List.eq_of_mem_replicate (List.mem_of_getElem? hi)
      exact ⟨rfl, _, rfl, true, rfl, iteF ⟨s2, hD⟩⟩
    rintro H2 ⟨s2, hD2⟩
    refine ⟨(by show 0 ≤ sizeLine; omega), fun l nl => ⟨.list [], .list [], .lst (SqL.of (same_new nl _ _ hD2)) .nil, .lst (SqL.of upd_same) .nil, rfl, rfl, ?_⟩⟩
    rw [SeqAt.eqv_refl (PyData.list []) (SeqAt.canLay_of_shaped rfl)]
    have s3 := s2.trans (same_new (o := .lst []) nl)
    have r := rf.lst s3
    refine ⟨true, rfl, iteT ?_⟩
    refine ⟨_, rfl, "b", 9, rfl, rfl, mulB9, _, _, rfl, .inr ⟨wx, mW "yy", rfl, (hw.keep rm_s).keep s3, mW_ok (LO.of (by decide +kernel)) (by decide +kernel), .str _, fun y ey => ?_, .inr ⟨b_word 9 (by decide), fun y ey => .inr ?_⟩⟩⟩
    · rw [← V.str.inj ey]
      exact Nat.le_trans (Nat.le_of_eq (b_len 9)) (by decide)
    · obtain rfl := V.str.inj ey
      have e : tot (madeP (mW "yy") (Txt.mul "b" 9)) = 18002 := (tot_b (cz_b 9)).trans (by decide +kernel)
      rw [e]
      refine ⟨by decide, fun H4 s4 => ⟨_, rfl, ?_, rfl, ?_⟩⟩
      · rw [show Txt.join "" (madeP (mW "yy") (Txt.mul "b" 9)) = Txt.join "" (madeP (mW "yy") (Txt.mul "b" 9)) from rfl, made_w9, sizeLine_eq]
        decide
      · rw [made_w9]
        have r5 := r.lst s4
        exact q _ r5.ex r5.tb
end
end KJ
set_option Elab.async false
set_option linter.all false
set_option maxRecDepth 100000
set_option maxHeartbeats 1000000
namespace KJ
open PySem PySem.Spec PyProof.Rows L2 XV NM XT XA LamX
theorem nf_list {K : PySem.W.Frag} {mg : Str → Option Value} {C : Addr} (T : MT K mg C) : PySem.W.notFirst K C (.type "list") = true := by
  have h := T.kt "list" (by decide +kernel)
  have e0 : (Value.type "list" == Value.ref C) = false := beq_eq_false_iff_ne.mpr fun z => by cases z
  unfold PySem.W.kitOne at h
  rw [e0, if_neg (by decide)] at h
  unfold PySem.W.kitCls at h
  dsimp only at h
  unfold PySem.W.notFirst
  by_cases c : ((PySem.W.clsIn K C).isSome && PySem.W.typeIn K (.ref C) == some (.type "type")) = true
  · rw [if_pos c] at h
    rw [h]
    simp
  · rw [if_neg c] at h
    cases h
theorem seqN {K : PySem.W.Frag} {H H' : Hp} {a : Addr} {xs : List V} (e : ExtN H H') (h : SqL K H a xs) : SqL K H' a xs := by
  rcases h with (h | ⟨o, h⟩) | h
  · exact .inl (.inl (e _ _ h fun _ z => by cases z))
  · exact .inl (.inr ⟨o, e _ _ h fun _ z => by cases z⟩)
  · exact .inr h
theorem menu_mm : ∀ z ∈ menu, alphV (.str z) = true ∧ z.cps.all (· < 128) = true ∧ z.length ≤ 3 ∧ (cz z).all loB = true := by decide +kernel
/-- what is made of few letters is small -/
theorem enAt_mem {R : List (List En)} {s k : Nat} : (∃ r ∈ R, enAt R s k ∈ r) ∨ enAt R s k = ⟨0, "", false⟩ := by
  unfold enAt
  rw [List.getD_eq_getElem?_getD, List.getD_eq_getElem?_getD]
  cases e : R[s]? with
  | none =>
    refine .inr ?_
    simp
  | some r =>
    simp only [Option.getD_some]
    cases e2 : r[k]? with
    | none => exact .inr rfl
    | some x => exact .inl ⟨r, List.mem_of_getElem? e, List.mem_of_getElem? e2⟩
theorem enAt_lo {m : Mm} (lo : LoM m) (s k : Nat) : (enAt m.R s k).w.length ≤ 100 := by
  rcases @enAt_mem m.R s k with ⟨r, hr, he⟩ | h
  · exact (lo.r r hr _ he).2
  · rw [h]
    decide +kernel
theorem prun_lo {m : Mm} (lo : LoM m) (s : Nat) : ∀ cs : List Nat, ∀ w ∈ (prun m s cs).2, w.length ≤ 100 := by
  have key : ∀ (cs : List Nat) (st : Nat × List Str), (∀ w ∈ st.2, w.length ≤ 100) → ∀ w ∈ (cs.foldl (pstep m.z m.R) st).2, w.length ≤ 100 := by
    intro cs
    induction cs with
    | nil => exact fun st h => h
    | cons c cs ih =>
      intro st h
      refine ih _ fun w hw => ?_
      rcases List.mem_append.mp hw with hw | hw
      · exact h w hw
      · rcases List.mem_cons.mp hw with e | hw
        · rw [e]
          exact enAt_lo lo _ _
        · split at hw
          · rw [List.mem_singleton.mp hw]
            show 1 ≤ 100
            decide
          · cases hw
  exact fun cs => key cs (s, []) fun w hw => (by cases hw)
theorem sum_le3 {ps : List Str} (h : ∀ w ∈ ps, w.length ≤ 100) : (ps.map (·.length)).sum ≤ ps.length * 100 := by
  induction ps with
  | nil => exact Nat.le_refl 0
  | cons p ps ih =>
    rw [List.map_cons, List.sum_cons, List.length_cons]
    have := h p List.mem_cons_self
    have := ih fun w hw => h w (List.mem_cons_of_mem _ hw)
    omega
theorem tot_lo {m : Mm} (ok : MmOk m) (lo : LoM m) {y : Str} (ly : y.length ≤ 12) : tot (madeP m y) ≤ 20000 := by
  obtain ⟨h1, h2, h3⟩ := made_small ok y
  have h4 : ∀ w ∈ madeP m y, w.length ≤ 100 := fun w hw => by
    unfold madeP at hw
    rcases List.mem_append.mp hw with h | h
    · exact prun_lo lo _ _ w h
    · rw [List.mem_singleton.mp h]
      have lc := ok.lc
      have e1 : m.cl[(prun m m.s (cz y)).1]? = some (m.cl[(prun m m.s (cz y)).1]'(by omega)) := List.getElem?_eq_getElem (by omega)
      rw [List.getD_eq_getElem?_getD, e1]
      exact (lo.c _ (List.getElem_mem _)).2
  have h5 := sum_le3 h4
  show ((madeP m y).map (·.length)).sum ≤ 20000
  omega
/-! what stands within the law's loop -/
structure LS (C : Addr) (H : Hp) (g p q y : Addr) (n : Nat) (m : Mm) : Prop where
  dr : Dr H g n
  rg : RG2 H p g m.R
  cl : H q = some (.lst (m.cl.map V.str))
  qg : q ≠ g
  au : MaZ C H y m (fun a => a = g)
theorem LS.keep {C : Addr} {H H' : Hp} {g p q y : Addr} {n : Nat} {m : Mm} (h : LS C H g p q y n m) (s : Same H H') : LS C H' g p q y n m :=
  ⟨Dr.keepS s h.dr, h.rg.keep s, s _ _ h.cl, h.qg, h.au.keep s⟩
theorem LS.but {C : Addr} {H H' : Hp} {g p q y : Addr} {n k : Nat} {m : Mm} (h : LS C H g p q y n m) (b : But H H' g) (d : Dr H' g k) : LS C H' g p q y k m := by
  obtain ⟨ws, hg⟩ := dr_lst h.dr
  exact ⟨d, h.rg.but hg b, b _ _ h.qg h.cl, h.qg, h.au.but rfl b⟩
def mF : Mm := ⟨"", [[⟨0, "", false⟩]], 0, ["q"]⟩
theorem okF : MmOk mF := ⟨by decide +kernel, by decide +kernel, by decide +kernel, by decide +kernel, by decide +kernel, by decide +kernel, by decide +kernel, by decide +kernel, by decide +kernel⟩
end KJ
set_option Elab.async false
set_option linter.all false
set_option maxRecDepth 100000
set_option maxHeartbeats 4000000
/-! The end of a law whose def is told of where nothing guards, with tables of code objects. -/
namespace XV
open PySem PySem.Spec PyProof.Rows L2 LamX
/-- H tells of the script and the tables ts alone -/
def OnlyT (H : Hp) (ts : List Addr) : Prop := ∀ b, H b = none ∨ (b ∈ ts ∧ H b = some (.tbl #[])) ∨ ∃ o xs, H b = some (.frz o (.lst xs))
theorem law_gT {P : Program} {w : World} {K : PySem.W.Frag} {mg mb : Str → Option Value} {k : Nat} {fa a : Addr} {cs : List (Addr × Addr)} {fd : FuncData} {x : Str} {sp : Sp} {s : Shared} {us : List Value} {ns : List Int}
    (KX : K.In s.heap) (gn : s.heap.Ns mainGlobals mg) (bn : s.heap.Ns builtinsNs mb) (bb : ∀ y : Str, y ≠ "__name__" → mb y = bootBuiltins y) (nl : s.heap.NoLimit) (g0 : s.gens = #[])
    (hT : ∀ p ∈ cs, s.heap.get? p.2 = some { cls := .none, data := .fields #[] }) (nT : ∀ p ∈ cs, K.lookup p.2 = none) (hC : ∀ p ∈ cs, PySem.W.CodeHd s.heap p.1 p.2)
    (hbm : ∃ (bm : Addr) (ob : Obj), mg "__builtins__" = some (.ref bm) ∧ bm ≠ builtinsNs ∧ s.heap.get? bm = some ob ∧ ob.cls = .type "module" ∧ ob.dict = some builtinsNs ∧ ob.data = .plain)
    (ha : s.heap.get? a = some { cls := .type "list", data := .seq us.toArray }) (hi : IntsAre us ns) (hl : ns.length ≤ sizeLine) (hr : Room k callerA)
    (F : ∀ base : Heap, K.In base → base.Ns mainGlobals mg → (∀ p ∈ cs, TabB base mg p.1 p.2) → FnG P w K mg base CX0 k fa fd [x] sp) (hb : ∀ (s' : Shared) (u : Value), BindsTo s' fd ⟨[u], []⟩ [(x, u)])
    (hsp : ∀ H : Hp, (∀ p ∈ cs, H p.2 = some (.tbl #[])) → SqL K H a (ns.map V.int) → sp [.ref a] H (fun v _ => v = .bl true) fun _ _ _ => False) :
    codeAny (model P w) callerA (.call (.ref fa) ⟨[.ref a], []⟩) (fun r s' => r = .ok (.ret (.bool true)) ∧ OldK s.heap s'.heap ∧ s'.os = s.os ∧ AllBare s'.gens) s := by
  have rv := vals_ints hi
  have len := hi.length
  have isT : ∀ b ∈ cs.map (·.2), s.heap.get? b = some { cls := .none, data := .fields #[] } := by
    intro b hb
    obtain ⟨p, hp, rfl⟩ := List.mem_map.mp hb
    exact hT p hp
  have aT : a ∉ cs.map (·.2) := fun z => by
    have q := congrArg Obj.data (Option.some.inj (ha.symm.trans (isT a z)))
    cases q
  have mem : ∀ p ∈ cs, p.2 ∈ cs.map (·.2) := fun p hp => List.mem_map.mpr ⟨p, hp, rfl⟩
  have main : ∀ H : Hp, (∀ p ∈ cs, H p.2 = some (.tbl #[])) → OnlyT H (cs.map (·.2)) → SqL K H a (ns.map V.int) → HOk P w H s.heap → (∀ b, H b ≠ none → b = a ∨ b ∈ cs.map (·.2)) → (H a ≠ none → K.lookup a = none) →
      codeAny (model P w) callerA (.call (.ref fa) ⟨[.ref a], []⟩) (fun r s' => r = .ok (.ret (.bool true)) ∧ OldK s.heap s'.heap ∧ s'.os = s.os ∧ AllBare s'.gens) s := by
    intro H tabs only told ok alone notK
    have part : ∀ {b : Addr} {o : Obj}, s.heap.get? b = some o → H b = none → (hidT s.heap H).get? b = some o := fun e n => hidT_get e n
    -- what is neither a list nor an empty table is not told of
    have off : ∀ {b : Addr} {o : Obj}, s.heap.get? b = some o → (∀ vs n, o.data ≠ .seq vs n) → o.data ≠ .fields #[] → H b = none := by
      intro b o e d1 d2
      by_cases q : H b = none
      · exact q
      · rcases alone b q with rfl | hb
        · rw [ha] at e
          cases e
          exact (d1 _ _ rfl).elim
        · rw [isT b hb] at e
          cases e
          exact (d2 rfl).elim
    have dictN : ∀ {b : Addr} {o : Obj} {es : Array DictEntry} {ep : Nat}, s.heap.get? b = some o → o.data = .dict es ep → H b = none := fun e d =>
      off e (fun vs n z => nomatch (d.symm.trans z)) fun z => nomatch (d.symm.trans z)
    have nsP : ∀ {b : Addr} {m : Str → Option Value}, s.heap.Ns b m → (hidT s.heap H).Ns b m := by
      rintro b m ⟨o, es, ep, e, d, r⟩
      exact ⟨o, es, ep, part e (dictN e d), d, r⟩
    have KP : K.In (hidT s.heap H) := fun b o e => part (KX b o e) (by
      by_cases q : H b = none
      · exact q
      · rcases alone b q with rfl | hb
        · rw [notK q] at e
          cases e
        · obtain ⟨p, hp, rfl⟩ := List.mem_map.mp hb
          rw [nT p hp] at e
          cases e)
    have md : Mod K mg (hidT s.heap H) := ⟨KP, nsP gn, ⟨mb, nsP bn, bb⟩, nl.imp fun _ z => ⟨nsP z.1, z.2⟩⟩
    have TB : ∀ p ∈ cs, TabB (hidT s.heap H) mg p.1 p.2 := by
      intro p hp
      have tp := hT p hp
      obtain ⟨og, esg, epg, eg, dg, _⟩ := id gn
      refine ⟨?_, ?_, fun z => ?_⟩
      · obtain ⟨o, vs, file, tf, flags, tg, inF, text, tt, e1, r1, r2, r3, r4⟩ := hC p hp
        refine ⟨o, vs, file, tf, flags, tg, inF, text, tt, part e1 (off e1 (fun ws n z => nomatch (r2.symm.trans z)) fun z => ?_), r1, r2, r3, r4⟩
        rw [r2] at z
        cases z
        simp at r3
      · obtain ⟨bm, ob, b1, b2, b3, b4, b5, b6⟩ := hbm
        refine ⟨bm, ob, b1, b2, fun q => ?_, fun q => ?_, part b3 (off b3 (fun vs n z => nomatch (b6.symm.trans z)) fun z => nomatch (b6.symm.trans z)), b4, b5, b6⟩
        · subst q
          cases eg.symm.trans b3
          exact nomatch (dg.symm.trans b6)
        · subst q
          cases tp.symm.trans b3
          cases b6
      · rw [← z] at tp
        cases tp.symm.trans eg
        cases dg
    have st : Env0 P w K mg (hidT s.heap H) callerA [] s H := { frames := rfl, mod := md, bs := fun b o e => of_hidT e, bsz := Nat.le_of_eq (hidT_size _ _), funs := trivial, frf := fun b z => absurd (show b ∈ ([] : List Addr) from z) (by simp), hok := ok, bare := .of_eq g0 }
    refine codeAny_mono ((F _ KP (nsP gn) TB).go callerA [] s H ⟨[.ref a], []⟩ [.ref a] [.ref a] _ _ rfl hr st (hb s (.ref a)) (.cons rfl .nil) (hsp H tabs told)) fun r s' h => ?_
    cases r with
    | error er => exact h.elim
    | ok fl => cases fl with
      | next => exact h.elim
      | brk => exact h.elim
      | cont => exact h.elim
      | ret u =>
        obtain ⟨v, H', os, bare, un, ok', r', q⟩ := h
        obtain rfl : v = .bl true := q
        obtain rfl : u = Value.bool true := r'
        have key : ∀ b o, b ∉ cs.map (·.2) → s.heap.get? b = some o → s'.heap.get? b = some o := by
          intro b o nb e
          by_cases q : H b = none
          · exact un.keep b o e q (fun z => nomatch (show b ∈ ([] : List Addr) from z)) (by simp)
          · rcases only b with z | ⟨z, _⟩ | ⟨ob, xs, z⟩
            · exact absurd z q
            · exact absurd z nb
            · obtain ⟨e1, _⟩ := ok b _ z
              obtain ⟨e2, _⟩ := ok' b _ (un.frzs b ob _ z)
              rw [e] at e1
              cases e1
              exact e2
        have more : ∀ p ∈ cs, ∃ m : Array Value, s'.heap.get? p.2 = some { cls := .none, data := .fields m } := fun p hp => by
          obtain ⟨m, z⟩ := un.tbls p.2 #[] (tabs p hp)
          exact ⟨_, ok' p.2 _ z⟩
        refine ⟨rfl, ⟨fun b o e => ?_, fun b o e => ?_⟩, os, bare⟩
        · by_cases hb : b ∈ cs.map (·.2)
          · obtain ⟨p, hp, rfl⟩ := List.mem_map.mp hb
            obtain ⟨m, hm⟩ := more p hp
            cases (hT p hp).symm.trans e
            exact .inr (.inl ⟨((hC p hp).tab (hT p hp)).isCodeTable, rfl, #[], m, rfl, by rw [Array.empty_append]; exact hm⟩)
          · exact .inl (key b o hb e)
        · by_cases hb : b ∈ cs.map (·.2)
          · obtain ⟨p, hp, rfl⟩ := List.mem_map.mp hb
            obtain ⟨m, hm⟩ := more p hp
            exact ⟨_, hm⟩
          · exact ⟨o, key b o hb e⟩
  let o1 : Obj := { cls := .type "list", data := .seq us.toArray }
  cases hk : K.lookup a with
  | some o =>
    obtain rfl := Option.some.inj (ha.symm.trans (KX a o hk))
    have yes : ∀ b ∈ cs.map (·.2), (fun b : Addr => if b ∈ cs.map (·.2) then some (HO.tbl #[]) else none) b = some (.tbl #[]) := fun b e => if_pos e
    have no : ∀ b, b ∉ cs.map (·.2) → (fun b : Addr => if b ∈ cs.map (·.2) then some (HO.tbl #[]) else none) b = none := fun b e => if_neg e
    refine main (fun b => if b ∈ cs.map (·.2) then some (.tbl #[]) else none) (fun p hp => yes _ (mem p hp)) (fun b => ?_) (.inr ⟨_, us.toArray, _, hk, rfl, rfl, rfl, by rw [List.size_toArray, len]; exact hl, by simpa using rv⟩) (fun b u z => ?_) (fun b z => ?_) fun z => absurd (no a aT) z
    · by_cases e : b ∈ cs.map (·.2)
      · exact .inr (.inl ⟨e, yes b e⟩)
      · exact .inl (no b e)
    · by_cases e : b ∈ cs.map (·.2)
      · cases (yes b e).symm.trans z
        exact isT b e
      · cases (no b e).symm.trans z
    · by_cases e : b ∈ cs.map (·.2)
      · exact .inr e
      · exact absurd (no b e) z
  | none =>
    have at_ : ∀ b : Addr, b = a → (fun b : Addr => if b = a then some (HO.frz o1 (.lst (ns.map V.int))) else if b ∈ cs.map (·.2) then some (.tbl #[]) else none) b = some (.frz o1 (.lst (ns.map V.int))) := fun b e => if_pos e
    have yes : ∀ b ∈ cs.map (·.2), (fun b : Addr => if b = a then some (HO.frz o1 (.lst (ns.map V.int))) else if b ∈ cs.map (·.2) then some (.tbl #[]) else none) b = some (.tbl #[]) := fun b e => (if_neg (fun z : b = a => aT (by rw [← z]; exact e))).trans (if_pos e)
    have no : ∀ b, b ≠ a → b ∉ cs.map (·.2) → (fun b : Addr => if b = a then some (HO.frz o1 (.lst (ns.map V.int))) else if b ∈ cs.map (·.2) then some (.tbl #[]) else none) b = none := fun b e e2 => (if_neg e).trans (if_neg e2)
    refine main (fun b => if b = a then some (.frz o1 (.lst (ns.map V.int))) else if b ∈ cs.map (·.2) then some (.tbl #[]) else none) (fun p hp => yes _ (mem p hp)) (fun b => ?_) (.inl (.inr ⟨o1, if_pos rfl⟩)) (fun b u z => ?_) (fun b z => ?_) fun _ => hk
    · by_cases e : b = a
      · exact .inr (.inr ⟨_, _, at_ b e⟩)
      · by_cases e2 : b ∈ cs.map (·.2)
        · exact .inr (.inl ⟨e2, yes b e2⟩)
        · exact .inl (no b e e2)
    · by_cases e : b = a
      · cases (at_ b e).symm.trans z
        subst e
        exact ⟨ha, by rw [List.length_map]; exact hl, us, _, rv, ha⟩
      · by_cases e2 : b ∈ cs.map (·.2)
        · cases (yes b e2).symm.trans z
          exact isT b e2
        · cases (no b e e2).symm.trans z
    · by_cases e : b = a
      · exact .inl e
      · by_cases e2 : b ∈ cs.map (·.2)
        · exact .inr e2
        · exact absurd (no b e e2) z
theorem walk_ofGT {l : PySem.W.OpenLaw} {n k : Nat} {q : Program} {loose : List Str} {XP : (Str → Option Value) → Heap → Prop} {YP : World → Heap → Prop} {d : DefRec} {x : Str}
    (hn : l.most = some n) (hz : n ≤ sizeLine) (hd : d.params.defaults = []) (hr : Room k callerA)
    (F : ∀ (w : World) (mg : Str → Option Value) (fa : Addr) (h : Heap), YP w h → h.Ns mainGlobals mg → mg d.name = some (.ref fa) →
      ∃ (K : PySem.W.Frag) (fd : FuncData) (cs : List (Addr × Addr)) (sp : Sp), K.In h ∧ (∀ p ∈ cs, h.get? p.2 = some { cls := .none, data := .fields #[] }) ∧ (∀ p ∈ cs, K.lookup p.2 = none) ∧ (∀ p ∈ cs, PySem.W.CodeHd h p.1 p.2) ∧ (∀ (s : Shared) (u : Value), BindsTo s fd ⟨[u], []⟩ [(x, u)]) ∧
        (∀ (H : Hp) (a : Addr) (ns : List Int), ns.length ≤ n → (∀ p ∈ cs, H p.2 = some (.tbl #[])) → SqL K H a (ns.map V.int) → sp [.ref a] H (fun v _ => v = .bl true) fun _ _ _ => False) ∧
        ∀ base : Heap, K.In base → base.Ns mainGlobals mg → (∀ p ∈ cs, TabB base mg p.1 p.2) → FnG l.prog w K mg base CX0 k fa fd [x] sp) :
    PySem.W.WalkO q loose XP YP l.row.toRowW d [] (fun f vs => PySem.call f vs) := by
  refine Att.attach_call hn hd fun w s₀ s₁ mg mb fa o pm cd doc a us ns G Y ho hd' hcd hmg hobj hints hlen hg => ?_
  obtain ⟨K, fd, cs, sp, KX, hT, nT, hC, hb, hsp, hF⟩ := F w mg fa _ Y G.T.g hmg
  exact law_gT KX G.T.g G.T.b G.T.builtins G.T.nolimit hg hT nT hC G.T.bmain hobj hints (Nat.le_trans hlen hz) hr hF hb fun H hO hS => hsp H a ns hlen hO hS
end XV
set_option Elab.async false
set_option linter.all false
set_option maxRecDepth 100000
set_option maxHeartbeats 2000000
namespace KJ
open PySem PySem.Spec PyProof.Rows L2 XV NM XT XA LamX
/-! ### the law -/
abbrev sLaw : Stmt := top 55
abbrev nLaw : List Str := ["_law_script", "_law_index", "_law_generator_here", "_law_letters", "_law_states", "_law_rows", "_law_first", "_law_last", "_law_given", "_law_kept", "_law_maker", "_law_word_here", "_law_due", "_law_state", "_law_row"]
theorem scLaw : FnScope nLaw ["_law_script"] (defScope sLaw) := ⟨rfl, rfl, rfl, by decide +kernel, rfl, by decide +kernel, by decide +kernel⟩
def spLaw (K : PySem.W.Frag) (Tb Tb2 : Addr) : Sp := fun vs H Q _ => ∃ (a : Addr) (ns : List Int), vs = [.ref a] ∧ SqL K H a (ns.map L2.V.int) ∧ ns.length ≤ 63 ∧ Tabs [(Tb, qMR), (Tb2, qUR)] H ∧ ∀ H' : Hp, Q (.bl true) H'
section
variable {P : Program} {w : World} {K : PySem.W.Frag} {mg : Str → Option Value} {base : Heap} {f : Addr} {fd : FuncData} {C CM Tb Tb2 : Addr}
theorem ok_law (F : FnP K "law" sLaw f fd) (TM : MT K mg CM) (o_mkM : OkMkM P w K mg base CM) (o_gen : Ok P w K mg base "_law_generator" 1 ["_law_script", "_law_index"] (spGen K)) (o_rand : Ok P w K mg base "_law_random" 2 ["_law_generator_here", "_law_bound"] spRand) (o_signs : Ok P w K mg base "_law_signs" 3 ["_law_generator_here"] spSigns)
    (o_mrows : Ok P w K mg base "_law_maker_rows" 4 ["_law_generator_here", "_law_letters", "_law_states", "_law_signs_here"] spMRows) (o_word : Ok P w K mg base "_law_word" 3 ["_law_generator_here", "_law_signs_here", "_law_most"] spWord)
    (o_all : Ok P w K mg base "_law_all_written" 2 ["_law_letters", "_law_rows", "_law_closing", "_law_state", "_law_word_here"] spAll) (o_madeC : Ok P w K mg base "made_word" 4 ["maker", "word"] (cm (spMade K CM))) (k_madeC : OkK P w K mg base "made_word" 4 ["maker", "word"] (cm (spMade K CM)))
    (o_toldG : Ok P w K mg base "_law_told_good" 9 ["_law_maker", "_law_letters", "_law_rows", "_law_first", "_law_last"] (spTG CM)) (o_equalG : Ok P w K mg base "_law_equal_good" 8 ["_law_maker", "_law_letters", "_law_rows", "_law_first", "_law_last"] (spEG CM))
    (o_used : OkG P w K mg base "_law_used_refused" 11 ["_law_maker"] (spUR CM Tb Tb2)) (o_mref : OkG P w K mg base "_law_made_refused" 10 [] (spMR Tb Tb2)) (o_startM : OkMa P w K mg base CM "start" (spStartM CM)) (z_range : mg "range" = none) (z_list : mg "list" = none) : FnG P w K mg base CX0 12 f fd ["_law_script"] (spLaw K Tb Tb2) := by
  have nd := scLaw.nd
  refine okG F scLaw (fun vs H Q E h => ?_) (fun cdv A outer s H vs Q E ag hr h => ?_)
  · obtain ⟨a, ns, rfl, _⟩ := h
    rfl
  · obtain ⟨a, ns, rfl, hS, hlen, tb, q⟩ := h
    have szl := sizeLine_eq
    have r11 : Room 11 (A.deeper (envOfC "law" (defScope sLaw) s.heap.objs.size f cdv)) := hr
    have r10 := r11.mono (by decide : 10 ≤ 11)
    have r9 := r11.mono (by decide : 9 ≤ 11)
    have r8 := r11.mono (by decide : 8 ≤ 11)
    have r7 := r11.mono (by decide : 7 ≤ 11)
    have r4 := r11.mono (by decide : 4 ≤ 11)
    have r3 := r11.mono (by decide : 3 ≤ 11)
    have r2 := r11.mono (by decide : 2 ≤ 11)
    have r1 := r11.mono (by decide : 1 ≤ 11)
    refine ⟨_, PSs.nox (C8.pss_cut (ps_for PassesOwn.never rfl (pi_range1 (by rfl) z_range (pa_cons pe_int pa_nil)) (pg_name (i := 1) nd rfl (Or.inl rfl))
        (C8.pss_cut (ps_set (i := 2) nd rfl (Or.inr rfl) (pe_callO o_gen r1 (by rfl) (pa_cons (pv 0) (pa_cons (pv 1) pa_nil))))
        (C8.pss_cut (ps_par (i := 3) (j := 4) rfl nd rfl rfl (by decide) rfl rfl (pa_cons (pe_callO o_signs r3 (by rfl) (pa_cons (pv 2) pa_nil)) (pa_cons (pe_op op_add pe_int (pe_callO o_rand r2 (by rfl) (pa_cons (pv 2) (pa_cons pe_int pa_nil)))) pa_nil)) (by rfl))
        (C8.pss_cut (ps_par (i := 5) (j := 6) rfl nd rfl rfl (by decide) rfl rfl (pa_cons (pe_callO o_mrows r4 (by rfl) (pa_cons (pv 2) (pa_cons (pv 3) (pa_cons (pv 4) (pa_cons pe_str pa_nil))))) (pa_cons (pe_callO o_rand r2 (by rfl) (pa_cons (pv 2) (pa_cons (pv 4) pa_nil))) pa_nil)) (by rfl))
        (C8.pss_cut (ps_setLc (i := 7) (own := [("_law_state", 13)]) (g := gName 13) (by rfl) nd rfl rfl (sw_true rfl rfl rfl (by decide +kernel)) (pi_range1 (by rfl) z_range (pa_cons (pv 4) pa_nil)) (blkOk_by (N := nLaw) (sc := defScope sLaw) (own := [("_law_state", 13)]) (by decide +kernel)) (fun _ _ _ _ _ => pg_name (i := 13) nd rfl (Or.inl rfl)) (fun _ _ _ _ _ => pts_nil)
          (fun _ _ _ _ _ => (pe_callO o_word r3 (by rfl) (pa_cons (pv 2) (pa_cons pe_str (pa_cons pe_int pa_nil))))))
        (C8.pss_cut (ps_par (i := 8) (j := 9) rfl nd rfl rfl (by decide) rfl rfl (pa_cons (pe_lc (own := [("_law_row", 14)]) (g := gName 14) (by rfl) nd (pi_list (pv 5)) (blkOk_by (N := nLaw) (sc := defScope sLaw) (own := [("_law_row", 14)]) (by decide +kernel)) (fun _ _ _ _ _ => pg_name (i := 14) nd rfl (Or.inl rfl)) (fun _ _ _ _ _ => pts_nil)
          (fun _ _ _ _ _ => pe_callTy (call_list_ofK (K := K) rfl) (by rfl) z_list (by decide +kernel) (pa_cons (pv 14) pa_nil))) (pa_cons (pe_callTy call_list_of (by rfl) z_list (by decide +kernel) (pa_cons (pv 7) pa_nil)) pa_nil)) (by rfl))
        (pss_cons (ps_set (i := 10) nd rfl (Or.inl rfl) (pe_mkMC1 o_mkM r7 (by rfl) (pa_cons (pv 3) (pa_cons (pv 8) pa_nil)) (pk_cons (pv 6) (pk_cons (pv 9) pk_nil))))
        (pss_cons (ps_expr (pe_bm PySem.F.plainAttrs_list PySem.F.slot_list_append PySem.F.type_list_append mt_append (pe_ix ix_list (pv 8) pe_int (fun _ _ => rfl)) (pa_cons pe_non pa_nil)))
        (C8.pss_cut (ps_expr (pe_bm PySem.F.plainAttrs_list PySem.F.slot_list_append PySem.F.type_list_append mt_append (pv 9) (pa_cons pe_non pa_nil)))
        (C8.pss_cut (ps_for PassesOwn.never rfl (pi_list (pe_lst (pa_cons pe_str (pa_cons (pv 3) (pa_cons pe_str (pa_cons (pe_callO o_word r3 (by rfl) (pa_cons (pv 2) (pa_cons pe_str (pa_cons pe_int pa_nil)))) (pa_cons (pe_callO o_word r3 (by rfl) (pa_cons (pv 2) (pa_cons pe_str (pa_cons pe_int pa_nil)))) pa_nil))))))) (pg_name (i := 11) nd rfl (Or.inl rfl))
          (pss_cons (ps_set (i := 12) nd rfl (Or.inl rfl) (pe_callO o_all r2 (by rfl) (pa_cons (pv 3) (pa_cons (pv 5) (pa_cons (pv 7) (pa_cons (pv 6) (pa_cons (pv 11) pa_nil)))))))
          (pss_one (ps_if (PW.pt (pw_or (pt_cmpR op_ne (pe_callO o_madeC r4 (by rfl) (pa_cons (pv 10) (pa_cons (pv 11) pa_nil))) (pv 12) (nomark _)) (pw_or1 (pt_cmpR op_ne (pe_callK k_madeC r4 (by rfl) (pk_cons (pv 11) (pk_cons (pv 10) pk_nil))) (pv 12) (nomark _))))) (pss_one (ps_ret pe_bl)) pss_nil))))
        (pss_cons (ps_if (PW.pt (pw_or (pt_not (pt_val (pe_callO o_toldG r9 (by rfl) (pa_cons (pv 10) (pa_cons (pv 3) (pa_cons (pv 5) (pa_cons (pv 6) (pa_cons (pv 7) pa_nil)))))))) (pw_or1 (pt_not (pt_val (pe_callO o_equalG r8 (by rfl) (pa_cons (pv 10) (pa_cons (pv 3) (pa_cons (pv 5) (pa_cons (pv 6) (pa_cons (pv 7) pa_nil))))))))))) (pss_one (ps_ret pe_bl)) pss_nil)
        (pss_one (ps_if (PW.pt (pw_and (pt_cmpR op_eq (pv 1) pe_int (nomark _)) (pw_and1 (pt_not (pt_val (pe_callG o_used ag r11 (by rfl) (pa_cons (pv 10) pa_nil))))))) (pss_one (ps_ret pe_bl)) pss_nil)))))))))))))
      (pss_one (ps_ret (pe_and (pe_callG0 o_mref ag r10 (by rfl)) (pe_one (pe_cmpR op_eq (pe_startM o_startM TM (pe_mkMC0 o_mkM r7 (by rfl) (pa_cons pe_str (pa_cons (pe_lit 4 (d := rsD mF.R) rfl) pa_nil)) (pk_cons (pe_lst (pa_cons pe_str pa_nil)) pk_nil)) r1) pe_int (nomark _))))))), ?_⟩
    refine ⟨fun σ' H' => (∃ x1 x2 x3 x4 x5 x6 x7 x8 x9 x10 x11 x12, σ' = [some (.ref a), x1, x2, x3, x4, x5, x6, x7, x8, x9, x10, x11, x12, none, none]) ∧ ExN H H' ∧ Tabs [(Tb, qMR), (Tb2, qUR)] H', ?_, ?_⟩
    · refine ⟨3, rfl, by decide, by decide, for_range (lo := 0) (n := 3) (fun i σ H' => (∃ x1 x2 x3 x4 x5 x6 x7 x8 x9 x10 x11 x12, σ = [some (.ref a), x1, x2, x3, x4, x5, x6, x7, x8, x9, x10, x11, x12, none, none]) ∧ ExN H H' ∧ Tabs [(Tb, qMR), (Tb2, qUR)] H') ⟨⟨_, _, _, _, _, _, _, _, _, _, _, _, rfl⟩, LamX.ExtN.refl _, tb⟩ ?_ (fun σ' H' z => z)⟩
      rintro i σ H1 hi ⟨⟨x1, x2, x3, x4, x5, x6, x7, x8, x9, x10, x11, x12, rfl⟩, xn, t1⟩
      rw [Int.zero_add]
      refine ⟨fun σ' H' => ∃ g, σ' = [some (.ref a), some (.int (i : Int)), some (.ref g), x3, x4, x5, x6, x7, x8, x9, x10, x11, x12, none, none] ∧ Same H1 H' ∧ H1 g = none ∧ Dr H' g (1000 * i), ?_, ?_⟩
      · exact ⟨_, rfl, _, rfl, a, ns, i, rfl, seqN xn hS, by omega, fun H2 g s1 ng d1 => ⟨g, rfl, s1, ng, d1⟩⟩
      rintro σ' H2 ⟨g, rfl, s2, ng, d2⟩
      refine ⟨fun σ' H' => ∃ (z : Str) (st : Nat), σ' = [some (.ref a), some (.int (i : Int)), some (.ref g), some (.str z), some (.int (st : Int)), x5, x6, x7, x8, x9, x10, x11, x12, none, none] ∧ Same H1 H' ∧ Dr H' g (1000 * i + 40) ∧ z ∈ menu ∧ 1 ≤ st ∧ st ≤ 5, ?_, ?_⟩
      · refine ⟨_, rfl, g, 1000 * i, rfl, d2, by omega, fun H3 z mz b3 d3 => ⟨_, rfl, g, 1000 * i + 20, 5, rfl, d3, by omega, by decide, by decide +kernel, fun H4 r r0 rb b4 d4 => ⟨_, _, rfl, rfl, _, _, rfl, ?_⟩⟩⟩
        obtain ⟨r, rfl⟩ := Int.eq_ofNat_of_zero_le r0
        refine ⟨z, 1 + r, ?_, fun b o e => b4 _ _ (ne_of_none e ng) (b3 _ _ (ne_of_none e ng) (s2 _ _ e)), d4.mono (by omega), mz, by omega, by omega⟩
        rw [show ((1 + r : Nat) : Int) = 1 + (r : Int) by omega]
        rfl
      clear d2 s2
      rintro σ' H3 ⟨z, st, rfl, s3, d3, mz, st1, st5⟩
      refine ⟨fun σ' H' => ∃ (p : Addr) (R : List (List En)) (k0 : Nat), σ' = [some (.ref a), some (.int (i : Int)), some (.ref g), some (.str z), some (.int (st : Int)), some (.ref p), some (.int (k0 : Int)), x7, x8, x9, x10, x11, x12, none, none] ∧ Same H1 H' ∧ Dr H' g (1000 * i + 30060) ∧ RG2 H' p g R ∧ R.length = st ∧ (∀ r ∈ R, r.length = z.length + 1 ∧ ∀ e ∈ r, e.s < st ∧ LO e.w ∧ e.w.length ≤ 2) ∧ k0 < st, ?_, ?_⟩
      · refine ⟨_, rfl, _, rfl, _, rfl, g, _, st, z, "abx", rfl, d3, by omega, menu_l mz, st1, by omega, LO.of (by decide +kernel), by decide +kernel, fun H4 p R np hR lR hr b4 d4 => ?_⟩
        refine ⟨_, rfl, _, rfl, g, _, (st : Int), rfl, d4, by omega, by omega, Int.lt_of_le_of_lt (b := 12) (by omega) (by decide +kernel), fun H5 k0 k1 k2 b5 d5 => ?_⟩
        obtain ⟨k0, rfl⟩ := Int.eq_ofNat_of_zero_le k1
        obtain ⟨ws, hg⟩ := dr_lst d4
        refine ⟨_, _, rfl, p, R, k0, rfl, fun b o e => ?_, d5.mono (by omega), hR.but hg b5, lR, hr, by omega⟩
        have ne := ne_of_none e ng
        exact b5 _ _ ne (b4 _ _ ne (s3 _ _ e))
      clear s3 d3
      rintro σ' H3 ⟨p, R, k0, rfl, s3, d3, hR, lR, hr, kl⟩
      refine ⟨fun σ' H' => ∃ (m : Mm) (p q0 : Addr), σ' = [some (.ref a), some (.int (i : Int)), some (.ref g), some (.str m.z), some (.int (m.R.length : Int)), some (.ref p), some (.int (m.s : Int)), some (.ref q0), x8, x9, x10, x11, x12, none, none] ∧ Same H1 H' ∧ Dr H' g (1000 * i + 36060) ∧ RG2 H' p g m.R ∧ H' q0 = some (.lst (m.cl.map V.str)) ∧ q0 ≠ g ∧ MmOk m ∧ LoM m ∧ m.z ∈ menu, ?_, ?_⟩
      · refine ⟨_, rfl, (st : Int), rfl, by omega, by omega, fun D nD => lc_range (lo := 0) (n := (st : Int).toNat) (fun j H' => But H3 H' g ∧ Dr H' g (1000 * i + 30060 + 400 * j) ∧ D ≠ g ∧ ∃ cl : List Str, H' D = some (.lst (cl.map V.str)) ∧ cl.length = j ∧ ∀ y ∈ cl, LO y ∧ y.length ≤ 2) ?_ ?_ ?_⟩
        · have gD := dr_neK d3 nD
          exact ⟨Same.but (same_new nD), dr_newK d3 nD, Ne.symm gD, [], upd_same, rfl, fun x hx => (by cases hx)⟩
        · rintro j H4 hj ⟨b4, d4, gD, cl, hD, le, lo⟩
          have hj : j < st := hj
          refine ⟨rfl, _, rfl, g, _, 2, "aby", rfl, by decide, d4, by omega, LO.of (by decide +kernel), by decide +kernel, fun H5 y loy ly b5 d5 => ?_⟩
          have hD5 := b5 _ _ gD hD
          refine ⟨_, hD5, ?_, fun b o nb e => ?_, dr_updK (d5.mono (by omega)) (Ne.symm gD), gD, cl ++ [y], ?_, ?_, fun x hx => ?_⟩
          · rw [List.length_map]
            exact small1000 (by omega)
          · rw [upd_ne (ne_of_none e nD)]
            exact b5 _ _ nb (b4 _ _ nb e)
          · rw [upd_same, List.map_append]
            rfl
          · rw [List.length_append]
            show cl.length + 1 = j + 1
            omega
          · rcases List.mem_append.mp hx with h | h
            · exact lo x h
            · rw [List.mem_singleton.mp h]
              exact ⟨loy, ly⟩
        · rintro H4 ⟨b4, d4, gD, cl, hD, le, lo⟩
          have le : cl.length = st := le
          subst lR
          obtain ⟨ws, hg⟩ := dr_lst d3
          obtain ⟨m1, m2, m3, m4⟩ := menu_mm z mz
          refine ⟨⟨z, R, k0, cl⟩, p, D, rfl, fun b o e => b4 _ _ (ne_of_none e ng) (s3 _ _ e), d4.mono (by have : (R.length : Int).toNat = R.length := rfl; omega), hR.but hg b4, hD, gD, ⟨m1, m2, ?_, st1, ?_, fun r hr2 => ⟨(hr r hr2).1, fun e he => ?_⟩, kl, le, fun y hy => lo_short (lo y hy).1 (by have := (lo y hy).2; omega)⟩, ⟨fun r hr2 e he => ?_, fun y hy => ⟨(lo y hy).1, by have := (lo y hy).2; omega⟩⟩, mz⟩
          · show z.length ≤ 26
            omega
          · show R.length ≤ 12
            omega
          · obtain ⟨e1, e2, e3⟩ := (hr r hr2).2 e he
            exact ⟨e1, lo_short e2 (by omega)⟩
          · obtain ⟨e1, e2, e3⟩ := (hr r hr2).2 e he
            exact ⟨e2, by omega⟩
      clear d3 hr hR s3 mz st1 st5 kl lR R z p k0
      rintro σ' H5 ⟨m, p, q0, rfl, s5, d5, rg5, hq5, qg, ok, lo, mz⟩
      obtain ⟨p', xs, ep, hp5, hP5, lx⟩ := da_rs rg5.da
      cases ep
      have ok1 := ok.r1
      have ok2 := ok.r2
      have lc := ok.lc
      obtain ⟨ar1, _⟩ := r0_at ok
      refine ⟨fun σ' H' => ∃ D l b0, σ' = [some (.ref a), some (.int (i : Int)), some (.ref g), some (.str m.z), some (.int (m.R.length : Int)), some (.ref p), some (.int (m.s : Int)), some (.ref q0), some (.ref D), some (.ref l), x10, x11, x12, none, none] ∧ Same H5 H' ∧ NB H5 H' D b0 m.R ∧ H5 l = none ∧ D ≠ l ∧ b0 ≠ l ∧ H' l = some (.lst (m.cl.map V.str)), ?_, ?_⟩
      · refine ⟨_, rfl, p, rfl, ⟨_, SqL.of hp5⟩, fun D nD => lc_list (K := K) (a := p) (xs := xs) (CpM H5 D m.R) (cm_0 nD) (fun i H' _ p => SqL.of (p.1 _ _ hp5)) ?_ ?_⟩
        · rintro k y H' hk pc
          obtain ⟨b, row, ys, rfl, er, hb, hy⟩ := rs_at hP5 hk
          exact ⟨rfl, _, rfl, b, _, rfl, .inl (SqL.of (pc.1 _ _ hb)), fun l nl => cm_s pc nD er hy (by omega) nl⟩
        · intro H6 pc
          refine ⟨_, rfl, q0, _, rfl, .inl (SqL.of (pc.1 _ _ hq5)), fun l nl => ⟨_, _, rfl, ?_⟩⟩
          obtain ⟨b0, nb⟩ := NB.of ((cm_e pc nD lx).nw pc.1) ar1
          have s6 := same_new (o := .lst (m.cl.map V.str)) nl
          obtain ⟨_, _, _, _, _, _, _, hD, _, hb, _⟩ := id nb
          exact ⟨D, l, b0, rfl, pc.1.trans s6, nb.keep s6, was_none pc.1 nl, ne_of_none hD nl, ne_of_none hb nl, upd_same⟩
      rintro σ' H6 ⟨D, l, b0, rfl, s6, nb, nl, Dl, bl, hl⟩
      obtain ⟨nw, nb0, bD, xs6, ys6, row6, er6, hD, e0, hb, hy6⟩ := id nb
      have nD : H5 D = none := by
        obtain ⟨_, _, n, _⟩ := nw
        exact n
      have a0 : atI xs6 ((0 : Nat) : Int) = some (.ref b0) := atI_nat e0
      have lz := ok.lz
      obtain ⟨ws6, hg6⟩ := dr_lst (Dr.keepS s6 d5)
      have ls6 : xs6.length ≤ 60 ∧ ys6.length ≤ 60 := by
        obtain ⟨zs, z1, _, z3, _⟩ := nw
        rw [hD] at z1
        cases z1
        have l6 := da_len hy6
        rw [List.length_map, (ok.rw row6 (List.mem_of_getElem? er6)).1] at l6
        omega
      refine ⟨_, rfl, _, rfl, _, rfl, _, rfl, rfl, rfl, fun y dy ny ndy ne => mk_spM (m := m) rfl rfl ny ndy ne hl nw.da ok fun H7 s7 ha => ⟨rfl, ?_⟩⟩
      have hD7 := s7 _ _ hD
      have hl7 := s7 _ _ hl
      have hb7 := s7 _ _ hb
      refine ⟨_, rfl, D, xs6, _, _, rfl, rfl, SqL.of hD7, a0, .inl ⟨rfl, _, SqL.of hb7⟩, b0, _, .non, rfl, rfl, hb7, small1000 (by omega), ?_⟩
      have s57 := s6.trans s7
      have s8 : Same H5 (upd H7 b0 (.lst (ys6 ++ [.non]))) := fun c o e => by
        rw [upd_ne (ne_of_none e nb0)]
        exact s57 _ _ e
      have hl8 : upd H7 b0 (.lst (ys6 ++ [.non])) l = some (.lst (m.cl.map V.str)) := by rw [upd_ne (Ne.symm bl)]; exact hl7
      have ha8 := ha.upd (o := b0) (v := .lst (ys6 ++ [.non])) ⟨_, hb⟩
      generalize upd H7 b0 (.lst (ys6 ++ [.non])) = H8 at *
      refine ⟨fun σ' H' => σ' = [some (.ref a), some (.int (i : Int)), some (.ref g), some (.str m.z), some (.int (m.R.length : Int)), some (.ref p), some (.int (m.s : Int)), some (.ref q0), some (.ref D), some (.ref l), some (.ref y), x11, x12, none, none] ∧ Same H5 H' ∧ MaZ CM H' y m (fun a => a = g), ?_, ?_⟩
      · refine ⟨_, rfl, .inl ⟨rfl, _, SqL.of hl8⟩, l, _, .non, rfl, rfl, hl8, ?_, rfl, fun c o e => ?_, ?_⟩
        · rw [List.length_map]
          exact small1000 (by omega)
        · rw [upd_ne (ne_of_none e nl)]
          exact s8 _ _ e
        · exact (ha8.upd (o := l) ⟨_, hl⟩).sub fun c e => ⟨_, (show c = g from e) ▸ hg6⟩
      clear ha8 ha hl8 s8 s57 hb7 hl7 hD7 s7
      rintro σ' H10 ⟨rfl, s10, au⟩
      have ls : LS CM H10 g p q0 y (1000 * i + 36060) m := ⟨Dr.keepS s10 d5, rg5.keep s10, s10 _ _ hq5, qg, au⟩
      have S10 := s5.trans s10
      refine ⟨fun σ' H' => (∃ y11 y12, σ' = [some (.ref a), some (.int (i : Int)), some (.ref g), some (.str m.z), some (.int (m.R.length : Int)), some (.ref p), some (.int (m.s : Int)), some (.ref q0), some (.ref D), some (.ref l), some (.ref y), y11, y12, none, none]) ∧ Same H1 H' ∧ ∃ n, LS CM H' g p q0 y n m, ?_, ?_⟩
      · refine ⟨_, rfl, _, rfl, g, _, 12, "abcz", rfl, by decide, ls.dr, by omega, LO.of (by decide +kernel), by decide +kernel, fun H11 y1 lo1 l1 b11 d11 => ⟨_, rfl, g, _, 12, "abq", rfl, by decide, d11, by omega, LO.of (by decide +kernel), by decide +kernel, fun H12 y2 lo2 l2 b12 d12 => ⟨(by show 5 ≤ sizeLine; omega), fun lw nlw => ?_⟩⟩⟩
        have s13 := same_new (o := .lst [V.str "", .str m.z, .str "az", .str y1, .str y2]) nlw
        have ls13 := ((ls.but b11 d11).but b12 d12).keep s13
        have S13 : Same H1 (upd H12 lw (.lst [V.str "", .str m.z, .str "az", .str y1, .str y2])) := fun c o e => by
          have ne := ne_of_none e ng
          exact s13 _ _ (b12 _ _ ne (b11 _ _ ne (S10 _ _ e)))
        have hlw : upd H12 lw (.lst [V.str "", .str m.z, .str "az", .str y1, .str y2]) lw = some (.lst [V.str "", .str m.z, .str "az", .str y1, .str y2]) := upd_same
        generalize upd H12 lw (.lst [V.str "", .str m.z, .str "az", .str y1, .str y2]) = H13 at *
        refine ⟨lw, rfl, ⟨_, SqL.of hlw⟩, for_list (K := K) (a := lw) (xs := [V.str "", .str m.z, .str "az", .str y1, .str y2]) (fun k σ H' => (∃ y11 y12, σ = [some (.ref a), some (.int (i : Int)), some (.ref g), some (.str m.z), some (.int (m.R.length : Int)), some (.ref p), some (.int (m.s : Int)), some (.ref q0), some (.ref D), some (.ref l), some (.ref y), y11, y12, none, none]) ∧ Same H13 H') ⟨⟨_, _, rfl⟩, Same.refl _⟩ (fun k σ H' _ p => SqL.of (p.2 _ _ hlw)) ?_ ?_⟩
        · rintro k u σ H14 hk ⟨⟨y11, y12, rfl⟩, s14⟩
          obtain ⟨wy, rfl, hw, hl12⟩ : ∃ wy, u = .str wy ∧ wordV (.str wy) = true ∧ wy.length ≤ 12 := by
            have hm := List.mem_of_getElem? hk
            simp only [List.mem_cons, List.not_mem_nil, or_false] at hm
            have lm := menu_l mz
            rcases hm with e | e | e | e | e
            · exact ⟨_, e, lo_word (LO.of (by decide +kernel)) (by decide +kernel), by decide +kernel⟩
            · exact ⟨_, e, lo_word (LO.of (menu_mm _ mz).2.2.2) (by omega), by omega⟩
            · exact ⟨_, e, lo_word (LO.of (by decide +kernel)) (by decide +kernel), by decide +kernel⟩
            · exact ⟨_, e, lo_word lo1 (by omega), by omega⟩
            · exact ⟨_, e, lo_word lo2 (by omega), by omega⟩
          have ls14 := ls13.keep s14
          refine ⟨_, rfl, _, rfl, _, rfl, _, rfl, _, rfl, m, p, q0, wy, rfl, ls14.rg.da, ls14.cl, ok, by omega, fun H15 s15 => ?_⟩
          have kl : ∀ y', V.str wy = .str y' → y'.length ≤ 100000 := fun y' e => by
            rw [← V.str.inj e]
            omega
          have ls15 := ls14.keep s15
          refine ⟨_, rfl, _, rfl, _, _, rfl, .inr ⟨y, m, rfl, ls15.au.ma, ok, .str _, kl, .inr ⟨hw, fun y' ey => .inr ?_⟩⟩⟩
          obtain rfl := V.str.inj ey
          refine ⟨tot_lo ok lo hl12, fun H16 s16 => ⟨_, rfl, rfl, _, rfl, iteNG ?_⟩⟩
          have ls16 := ls15.keep s16
          refine ⟨_, rfl, _, rfl, rfl, _, _, rfl, .inr ⟨y, m, rfl, ls16.au.ma, ok, .str _, kl, .inr ⟨hw, fun y' ey => .inr ?_⟩⟩⟩
          obtain rfl := V.str.inj ey
          exact ⟨tot_lo ok lo hl12, fun H17 s17 => ⟨_, rfl, rfl, _, rfl, iteNG ⟨⟨_, _, rfl⟩, ((s14.trans s15).trans s16).trans s17⟩⟩⟩
        · rintro σ H14 ⟨⟨y11, y12, rfl⟩, s14⟩
          exact ⟨⟨_, _, rfl⟩, S13.trans s14, _, ls13.keep s14⟩
      clear ls S10 au s10
      rintro σ' H10 ⟨⟨y11, y12, rfl⟩, S10, n10, ls⟩
      refine ⟨_, rfl, _, rfl, _, rfl, _, rfl, _, rfl, y, p, q0, m, rfl, ls.au.ma, ls.rg.da, ls.cl, ok, fun H11 s11 => ⟨true, rfl, iteF ?_⟩⟩
      have ls11 := ls.keep s11
      refine ⟨_, rfl, _, rfl, _, rfl, _, rfl, _, rfl, y, p, q0, m, rfl, ls11.au.ma, ls11.rg.da, ls11.cl, ok, lo, mz, fun H12 s12 => ⟨true, rfl, iteF ?_⟩⟩
      have ls12 := ls11.keep s12
      have S12 := (S10.trans s11).trans s12
      refine ⟨_, rfl, rfl, _, rfl, ite2 (fun _ => ?_) (fun _ => iteF ⟨⟨_, _, _, _, _, _, _, _, _, _, _, _, rfl⟩, xn.trans (ExN.of S12), t1.ext S12⟩)⟩
      exact ⟨_, rfl, y, m, rfl, ls12.au.ma, ok, t1.ext S12, fun H13 x13 t13 => ⟨true, rfl, iteF ⟨⟨_, _, _, _, _, _, _, _, _, _, _, _, rfl⟩, (xn.trans (ExN.of S12)).trans x13, t13⟩⟩⟩
    rintro σ H1 ⟨⟨x1, x2, x3, x4, x5, x6, x7, x8, x9, x10, x11, x12, rfl⟩, xn, t1⟩
    clear hS xn tb
    refine ⟨rfl, t1, fun H2 x2 t2 => ⟨true, rfl, iteT ?_⟩⟩
    refine fun v0 H3 s3 dv => ?_
    obtain ⟨ra, _, rfl, _⟩ := da_rs (R := mF.R) dv
    have dR : Da H3 (.ref ra) (rsD mF.R) := dv
    refine ⟨(by show 1 ≤ sizeLine; omega), fun en nen => ⟨rfl, rfl, fun x dx nx ndx ne => mk_spM (m := mF) rfl rfl nx ndx ne upd_same (dR.keep (same_new nen)) okF fun H4 s4 ha => ⟨rfl, x, mF, rfl, ha.ma, rfl, ?_⟩⟩⟩
    exact q _
end
end KJ
set_option Elab.async false
set_option linter.all false
set_option maxRecDepth 100000
set_option maxHeartbeats 2000000
namespace XV
open PySem PySem.Spec PyProof.Rows L2
/-! ### what isinstance says of a class, by its order of classes -/
def mroB (K : PySem.W.Frag) (C : Addr) (m : List Value) : Bool := match K.lookup C with
  | some ⟨t, _, .cls cd, _⟩ => decide (t = .type "type") && decide (cd.mro = m)
  | _ => false
theorem mroB_ok {K : PySem.W.Frag} {C : Addr} {m : List Value} (h : mroB K C m = true) : (∃ cd, PySem.W.clsIn K C = some cd ∧ cd.mro = m) ∧ PySem.W.typeIn K (.ref C) = some (.type "type") := by
  unfold mroB at h
  split at h
  · rename_i t d cd sl ho
    obtain ⟨h1, h2⟩ := He.ba h
    have e1 : t = .type "type" := of_decide_eq_true h1
    have e2 : cd.mro = m := of_decide_eq_true h2
    refine ⟨⟨cd, ?_, e2⟩, ?_⟩
    · unfold PySem.W.clsIn
      rw [ho]
    · show (K.lookup C).map (fun o => o.cls) = _
      rw [ho, e1]
      rfl
  · cases h
theorem sub_mro {K : PySem.W.Frag} {C : Addr} {m : List Value} (h : mroB K C m = true) (hm : m.isEmpty = false) (b : Value) : PySem.W.subIn K (.ref C) b = some (m.contains b) := by
  obtain ⟨⟨cd, h1, h2⟩, _⟩ := mroB_ok h
  show PySem.W.mroIn K C b = _
  unfold PySem.W.mroIn
  rw [h1]
  show (if cd.mro.isEmpty = true then none else some (cd.mro.contains b)) = _
  rw [h2, hm, if_neg Bool.false_ne_true]
theorem kit_mro {K : PySem.W.Frag} {C D : Addr} {m m' : List Value} (h : mroB K C m = true) (hm : m.isEmpty = false) (h' : mroB K D m' = true) (hs : C = D → m.contains (.ref D) = true) : PySem.W.kitOne K (.ref C) (.ref D) = some (m.contains (.ref D)) := by
  unfold PySem.W.kitOne
  by_cases e : C = D
  · rw [hs e, if_pos (beq_iff_eq.mpr (congrArg Value.ref e))]
  · rw [if_neg (fun z => e (Value.ref.inj (beq_iff_eq.mp z)))]
    obtain ⟨⟨cd, h1, _⟩, h2⟩ := mroB_ok h'
    show (if ((PySem.W.clsIn K D).isSome && PySem.W.typeIn K (.ref D) == some (.type "type")) = true then PySem.W.subIn K (.ref C) (.ref D) else none) = _
    rw [h1, h2, if_pos (by rw [Bool.and_eq_true]; exact ⟨rfl, beq_iff_eq.mpr rfl⟩)]
    exact sub_mro h hm _
theorem kit_ve {K : PySem.W.Frag} {C : Addr} {m : List Value} (h : mroB K C m = true) (hm : m.isEmpty = false) : PySem.W.kitOne K (.ref C) (.type "ValueError") = some (m.contains (.type "ValueError")) := by
  unfold PySem.W.kitOne
  rw [if_neg (fun z => by cases (beq_iff_eq.mp z))]
  show (if PySem.W.kitMeta "ValueError" = true then PySem.W.subIn K (.ref C) (.type "ValueError") else none) = _
  rw [if_pos (by decide +kernel)]
  exact sub_mro h hm _
/-! ### a part of the heap, each object once, written out -/
def refsK (o : Obj) : List Addr := match o.data with
  | .dict es _ => es.toList.flatMap fun e => He.refV e.val
  | .func fd => He.refV fd.code ++ (He.refV fd.defaults ++ He.refV fd.kwdefaults)
  | .cls cd => [cd.ns]
  | _ => []
def refsA (g : Addr → Option Obj) (a : Addr) : List Addr := match g a with
  | some o => refsK o
  | none => []
def frcA {α : Type} (l : List Addr) (k : List Addr → α) : α := match l with
  | [] => k []
  | a :: r => HandSHeadRun.frNat a fun a => frcA r fun r => k (a :: r)
theorem frcA_eq {α : Type} : ∀ (l : List Addr) (k : List Addr → α), frcA l k = k l
  | [], _ => rfl
  | a :: r, k => by
    show HandSHeadRun.frNat a (fun a => frcA r fun r => k (a :: r)) = _
    rw [HandSHeadRun.frNat_eq, frcA_eq r]
def asK (g : Addr → Option Obj) : List Addr := frcA (refsA g mainGlobals) fun l1 => frcA (l1.flatMap (refsA g)) fun l2 => frcA (l2.flatMap (refsA g)) fun l3 => frcA (l3.flatMap (refsA g)) fun l4 => mainGlobals :: (l1 ++ (l2 ++ (l3 ++ l4)))
def frcK {α : Type} (l : PySem.W.Frag) (k : PySem.W.Frag → α) : α := match l with
  | [] => k []
  | (a, o) :: r => HandSHeadRun.frNat a fun a => frcK r fun r => k ((a, o) :: r)
theorem frcK_eq {α : Type} : ∀ (l : PySem.W.Frag) (k : PySem.W.Frag → α), frcK l k = k l
  | [], _ => rfl
  | (a, o) :: r, k => by
    show HandSHeadRun.frNat a (fun a => frcK r fun r => k ((a, o) :: r)) = _
    rw [HandSHeadRun.frNat_eq, frcK_eq r]
def hookF (α : Type) (obs : PySem.W.Frag → α) (val : α) : PySem.W.Hook where
  α := α
  obs := fun s => obs (He.frG s.heap.get? (asK s.heap.get?))
  val := fun _ => val
  says := fun _ h => ∃ K : PySem.W.Frag, K.In h ∧ obs K = val
  of := fun _ _ e => ⟨_, He.frG_in, e⟩
  keeps := fun _ _ _ ⟨K, hK, c⟩ k => ⟨K, PySem.W.Frag.In.keeps hK k, c⟩
def obF {α : Type} (obs : PySem.W.Frag → α) (s : PySem.W.SharedT) : α := frcK (He.frG (HandSHeadRun.getT s) (asK (HandSHeadRun.getT s))) obs
theorem obF_eq {α : Type} {obs : PySem.W.Frag → α} {val : α} (s : PySem.W.SharedT) : obF obs s = (hookF α obs val).obs s.abs := by
  unfold obF
  rw [frcK_eq]
  have e : HandSHeadRun.getT s = s.abs.heap.get? := funext (HandSHeadRun.getT_eq s)
  rw [e]
  rfl
theorem map_two {S A B C D : Type} {e : Option S} {f : S → A} {g : S → B} {o : S → C} {o' : S → D} {a : A} {b : B} {c : C} {d : D} (h1 : e.map (fun s => (f s, g s, o s)) = some (a, b, c)) (h2 : e.map (fun s => o' s) = some d) :
    e.map (fun s => (f s, g s, (o s, o' s))) = some (a, b, (c, d)) := by
  cases e with
  | none => cases h1
  | some s =>
    have z1 : (f s, g s, o s) = (a, b, c) := Option.some.inj h1
    have z2 : o' s = d := Option.some.inj h2
    cases z2
    cases z1
    rfl
/-! ### .. the tables of code objects left out -/
theorem tabs_say {h : Heap} {as : List Addr} {tf : List He.Defn} (e : He.tabsB h.get? tf (He.frT h.get? as) = true) (p : He.Defn) (hp : p ∈ tf) :
    PySem.W.codeHdIn (He.frT h.get? as) (He.cT (He.frT h.get? as) p).1 (He.cT (He.frT h.get? as) p).2 = true ∧ (He.frT h.get? as).lookup (He.cT (He.frT h.get? as) p).2 = none ∧ h.get? (He.cT (He.frT h.get? as) p).2 = some { cls := .none, data := .fields #[] } := by
  unfold He.tabsB at e
  obtain ⟨a, b⟩ := He.ba (List.all_eq_true.mp e p hp)
  split at b
  · next o q => exact ⟨a, He.frT_none q b, by rw [q, He.emptyTab_eq b]⟩
  · cases b
def hookFT (α : Type) (obs : PySem.W.Frag → α) (val : α) (tf : List He.Defn) : PySem.W.Hook where
  α := α × Bool
  obs := fun s => (obs (He.frT s.heap.get? (asK s.heap.get?)), He.tabsB s.heap.get? tf (He.frT s.heap.get? (asK s.heap.get?)))
  val := fun _ => (val, true)
  says := fun _ h => ∃ K : PySem.W.Frag, K.In h ∧ obs K = val ∧ ∀ p ∈ tf, PySem.W.codeHdIn K (He.cT K p).1 (He.cT K p).2 = true ∧ K.lookup (He.cT K p).2 = none ∧ h.get? (He.cT K p).2 = some { cls := .none, data := .fields #[] }
  of := fun _ _ e => ⟨_, He.frT_in, congrArg Prod.fst e, fun p hp => tabs_say (congrArg Prod.snd e) p hp⟩
  keeps := fun _ _ _ ⟨K, hK, c, t⟩ k => ⟨K, PySem.W.Frag.In.keeps hK k, c, fun p hp => ⟨(t p hp).1, (t p hp).2.1, k _ _ (t p hp).2.2⟩⟩
def obFT {α : Type} (obs : PySem.W.Frag → α) (tf : List He.Defn) (s : PySem.W.SharedT) : α × Bool := frcK (He.frT (HandSHeadRun.getT s) (asK (HandSHeadRun.getT s))) fun K => (obs K, He.tabsB (HandSHeadRun.getT s) tf K)
theorem obFT_eq {α : Type} {obs : PySem.W.Frag → α} {val : α} {tf : List He.Defn} (s : PySem.W.SharedT) : obFT obs tf s = (hookFT α obs val tf).obs s.abs := by
  unfold obFT
  rw [frcK_eq]
  have e : HandSHeadRun.getT s = s.abs.heap.get? := funext (HandSHeadRun.getT_eq s)
  rw [e]
  rfl
theorem code_at {K : PySem.W.Frag} {p : He.Defn} {x qual : Str} {params : Arguments} {body : List Stmt} {scope : Scope} {dvs : List V} {kws : List (Str × V)} {fd : FuncData} (F : FunD K x qual params body scope dvs kws (He.fAd K p) fd) : fd.code = .ref (He.codeOf K p) := by
  obtain ⟨_, _, _, _, _, _, _, _, _, _, rfl, lk, hcd, _, _⟩ := F.ex
  obtain ⟨c, rfl⟩ := He.codeIn_ref hcd
  exact congrArg Value.ref (He.codeOf_eq lk rfl).symm
end XV
set_option Elab.async false
set_option linter.all false
set_option maxRecDepth 100000
set_option maxHeartbeats 0
namespace KJ
open PySem PySem.Spec PyProof.Rows L2 XV
/-! ### what the top must say -/
def dF (x : Str) (i : Nat) : He.DefD := ⟨(x, none), x, x, defArgs (top i), defBody (top i), defScope (top i), [], []⟩
def dM (c x q : Str) (s : Stmt) (dv : List He.Dv) (kv : List (Str × He.Dv)) : He.DefD := ⟨(c, some x), x, q, defArgs s, defBody s, defScope s, dv, kv⟩
def dI (x q : Str) (l : Nat) (fld : Str) : He.DefD := ⟨(x, some "__init__"), "__init__", q, initA fld ⟨l, 17, l, 21⟩ ⟨l, 23, l, 28⟩ ⟨l, 29, l, 33⟩, initB fld ⟨l + 1, 8, l + 1, 12⟩ ⟨l + 1, 8, l + 1, 18⟩ ⟨l + 1, 21, l + 1, 26⟩ ⟨l + 1, 8, l + 1, 26⟩, initS fld, [.non], []⟩
def fn : List He.DefD := [dI "InvalidAutomaton" "InvalidAutomaton.__init__" 18 "value", dI "InvalidList" "InvalidList.__init__" 14 "value", dI "InvalidNumber" "InvalidNumber.__init__" 6 "value", dI "InvalidWord" "InvalidWord.__init__" 10 "value", dI "InvalidMaker" "InvalidMaker.__init__" 22 "value", dI "TooLong" "TooLong.__init__" 26 "value", dF "is_whole" 10, dF "is_count" 11, dF "is_count_below" 12, dF "is_string_of_letters" 13, dF "is_word" 14, dF "moved" 18, dF "rounds" 19, dF "turns_by" 20, dF "turns_of_step" 21, dF "is_alphabet" 22, dF "is_list_of_rows" 23, dF "is_row" 24, dF "is_rising" 25, dF "require_automaton" 26, dF "require_reading" 27, dF "columns_of" 28, dF "maker_states" 32, dF "made_word" 33, dF "require_maker" 34] ++
  [dF "is_list_of_entries" 35, dF "is_entry" 36, dF "is_short_word" 37, dF "is_list_of_words" 38, dF "parts_made" 39, dF "letters_of_parts" 40, dF "_law_hash" 42, dF "_law_random" 43, dF "_law_generator" 44, dF "_law_word" 45, dF "_law_signs" 46, dF "_law_made" 47, dF "_law_maker_rows" 48, dF "_law_all_written" 49, dF "_law_told_good" 50, dF "_law_equal_good" 51, dF "_law_caught" 52, dF "_law_made_refused" 53, dF "_law_used_refused" 54, dF "law" 55, dM "Automaton" "__init__" "Automaton.__init__" sInitA [] [("start", .int 0)], dM "Automaton" "letters" "Automaton.letters" sLettersA [] [], dM "Automaton" "rows" "Automaton.rows" sRowsA [] [], dM "Automaton" "start" "Automaton.start" sStartA [] [], dM "Automaton" "ends" "Automaton.ends" sEndsA [] []] ++
  [dM "Automaton" "__eq__" "Automaton.__eq__" sEqA [] [], dM "Maker" "__init__" "Maker.__init__" sInitM [] [("start", .int 0)], dM "Maker" "letters" "Maker.letters" sLettersM [] [], dM "Maker" "rows" "Maker.rows" sRowsM [] [], dM "Maker" "start" "Maker.start" sStartM [] [], dM "Maker" "closing" "Maker.closing" sClosM [] [], dM "Maker" "__eq__" "Maker.__eq__" sEqM [] []]
def fa : List He.Fa := [.glo "is_whole", .glo "is_count", .glo "is_count_below", .glo "is_string_of_letters", .glo "is_word", .glo "moved", .glo "rounds", .glo "turns_by", .glo "turns_of_step", .glo "is_alphabet", .glo "is_list_of_rows", .glo "is_row", .glo "is_rising", .glo "require_automaton", .glo "require_reading", .glo "columns_of", .glo "maker_states", .glo "made_word", .glo "require_maker", .glo "is_list_of_entries", .glo "is_entry", .glo "is_short_word", .glo "is_list_of_words", .glo "parts_made", .glo "letters_of_parts"] ++
  [.glo "_law_hash", .glo "_law_random", .glo "_law_generator", .glo "_law_word", .glo "_law_signs", .glo "_law_made", .glo "_law_maker_rows", .glo "_law_all_written", .glo "_law_told_good", .glo "_law_equal_good", .glo "_law_caught", .glo "_law_made_refused", .glo "_law_used_refused", .glo "law", .free "int", .free "range", .free "len", .free "sum", .free "max", .free "isinstance", .free "bool", .free "str", .free "sorted", .free "set", .free "list"] ++
  [.free "all", .free "enumerate", .free "tuple", .free "zip", .free "repr", .int "LONGEST_WORD" 20000, .int "MOST_STATES" 12, .int "LONGEST_PIECE" 2000, .glo "Automaton", .cls "Automaton", .mkr "Automaton", .noat "Automaton" "_letters", .noat "Automaton" "_rows", .noat "Automaton" "_start", .noat "Automaton" "_ends", .meth "Automaton" "letters", .meth "Automaton" "rows", .meth "Automaton" "start", .meth "Automaton" "ends", .meth "Automaton" "__eq__", .glo "Maker", .cls "Maker", .mkr "Maker", .noat "Maker" "_letters", .noat "Maker" "_rows"] ++
  [.noat "Maker" "_start", .noat "Maker" "_closing", .meth "Maker" "letters", .meth "Maker" "rows", .meth "Maker" "start", .meth "Maker" "closing", .meth "Maker" "__eq__"]
def tf : List He.Defn := [("_law_made_refused", none), ("_law_used_refused", none)]
abbrev GA (K : PySem.W.Frag) : Addr := He.ga K "Automaton"
abbrev GM (K : PySem.W.Frag) : Addr := He.ga K "Maker"
def bxX (K : PySem.W.Frag) : Bool := (List.range 6).all fun i => xclsB K (nmF i) "value"
def mroI (K : PySem.W.Frag) (i : Nat) : List Value := .ref (CF K i) :: .ref (CF K 6) :: He.veBase
def bxK (K : PySem.W.Frag) : Bool := ecls0B K "LoopError" && ((Nat.blt (CF K 6) (CF K 2) && (Nat.blt (CF K 2) (CF K 3) && (Nat.blt (CF K 3) (CF K 1) && (Nat.blt (CF K 1) (CF K 0) && (Nat.blt (CF K 0) (CF K 4) && (Nat.blt (CF K 4) (CF K 5))))))) && (((List.range 6).all fun i => mroB K (CF K i) (mroI K i)) && mroB K (CF K 6) (.ref (CF K 6) :: He.veBase)))
def bxT_GA (K : PySem.W.Frag) : Bool := He.eqO (PySem.W.findIn K (.ref (GA K)) "__class__") (some (some (.builtin "object.__class__"))) && (He.eqO (PySem.W.specialIn K (.builtin "object.__class__") "__get__") (some (some (.builtin "getset_descriptor.__get__"))) &&
  (decide (PySem.W.takesIn K (.builtin "object.__class__") = some true) && (decide (PySem.W.mroIn K (GA K) (.type "object") = some true) && (decide (PySem.W.kitOne K (.ref (GA K)) (.ref (GA K)) = some true) &&
  (tysD.all fun T => decide (PySem.W.kitOne K (.type T) (.ref (GA K)) = some false))))))
def bxT_GM (K : PySem.W.Frag) : Bool := He.eqO (PySem.W.findIn K (.ref (GM K)) "__class__") (some (some (.builtin "object.__class__"))) && (He.eqO (PySem.W.specialIn K (.builtin "object.__class__") "__get__") (some (some (.builtin "getset_descriptor.__get__"))) &&
  (decide (PySem.W.takesIn K (.builtin "object.__class__") = some true) && (decide (PySem.W.mroIn K (GM K) (.type "object") = some true) && (decide (PySem.W.kitOne K (.ref (GM K)) (.ref (GM K)) = some true) &&
  (tysD.all fun T => decide (PySem.W.kitOne K (.type T) (.ref (GM K)) = some false))))))
def bxN (K : PySem.W.Frag) : Bool := decide (¬ ((He.tabOf K (He.codeOf K ("_law_made_refused", none))) = (He.tabOf K (He.codeOf K ("_law_used_refused", none)))))
def bx (K : PySem.W.Frag) : Bool := bxX K && (bxK K && ((bxT_GA K && bxT_GM K) && bxN K))
end KJ
set_option Elab.async false
set_option linter.all false
set_option maxRecDepth 100000
set_option maxHeartbeats 0
namespace KJ
open PySem PySem.Spec PyProof.Rows L2 XV
section
variable {P : Program} {w : World} {K : PySem.W.Frag} {mg : Str → Option Value} {base h : Heap}
theorem cl_of (X : K.In h) (G : h.Ns mainGlobals mg) (c : He.SaysD fa fn K) (b : bx K = true) : ClF P w K mg base := by
  obtain ⟨b1, b⟩ := He.ba b
  obtain ⟨b2, _⟩ := He.ba b
  obtain ⟨b2, b⟩ := He.ba b2
  obtain ⟨k1, b⟩ := He.ba b
  obtain ⟨k3, k4⟩ := He.ba b
  obtain ⟨q0, k1⟩ := He.ba k1
  obtain ⟨q1, k1⟩ := He.ba k1
  obtain ⟨q2, k1⟩ := He.ba k1
  obtain ⟨q3, k1⟩ := He.ba k1
  obtain ⟨q4, k1⟩ := He.ba k1
  have q5 := k1
  have a6_2 : CF K 6 < CF K 2 := Nat.le_of_ble_eq_true q0
  have a2_3 : CF K 2 < CF K 3 := Nat.le_of_ble_eq_true q1
  have a3_1 : CF K 3 < CF K 1 := Nat.le_of_ble_eq_true q2
  have a1_0 : CF K 1 < CF K 0 := Nat.le_of_ble_eq_true q3
  have a0_4 : CF K 0 < CF K 4 := Nat.le_of_ble_eq_true q4
  have a4_5 : CF K 4 < CF K 5 := Nat.le_of_ble_eq_true q5
  have a6_3 : CF K 6 < CF K 3 := Nat.lt_trans a6_2 a2_3
  have a2_1 : CF K 2 < CF K 1 := Nat.lt_trans a2_3 a3_1
  have a3_0 : CF K 3 < CF K 0 := Nat.lt_trans a3_1 a1_0
  have a1_4 : CF K 1 < CF K 4 := Nat.lt_trans a1_0 a0_4
  have a0_5 : CF K 0 < CF K 5 := Nat.lt_trans a0_4 a4_5
  have a6_1 : CF K 6 < CF K 1 := Nat.lt_trans a6_3 a3_1
  have a2_0 : CF K 2 < CF K 0 := Nat.lt_trans a2_1 a1_0
  have a3_4 : CF K 3 < CF K 4 := Nat.lt_trans a3_0 a0_4
  have a1_5 : CF K 1 < CF K 5 := Nat.lt_trans a1_4 a4_5
  have a6_0 : CF K 6 < CF K 0 := Nat.lt_trans a6_1 a1_0
  have a2_4 : CF K 2 < CF K 4 := Nat.lt_trans a2_0 a0_4
  have a3_5 : CF K 3 < CF K 5 := Nat.lt_trans a3_4 a4_5
  have a6_4 : CF K 6 < CF K 4 := Nat.lt_trans a6_0 a0_4
  have a2_5 : CF K 2 < CF K 5 := Nat.lt_trans a2_4 a4_5
  have a6_5 : CF K 6 < CF K 5 := Nat.lt_trans a6_4 a4_5
  have five : ∀ i, i < 6 → i = 0 ∨ i = 1 ∨ i = 2 ∨ i = 3 ∨ i = 4 ∨ i = 5 := fun i h => by omega
  have lL : ∀ i, i < 6 → CF K 6 < CF K i := fun i hi => by
    rcases five i hi with rfl | rfl | rfl | rfl | rfl | rfl <;> assumption
  have ne : ∀ i, i < 6 → ∀ j, j < 6 → i ≠ j → ¬ CF K i = CF K j := fun i hi j hj hij => by
    rcases five i hi with rfl | rfl | rfl | rfl | rfl | rfl <;> rcases five j hj with rfl | rfl | rfl | rfl | rfl | rfl <;> first
      | exact absurd rfl hij
      | exact Nat.ne_of_lt (by assumption)
      | exact fun z => absurd z.symm (Nat.ne_of_lt (by assumption))
  have hm : ∀ i, i < 6 → mroB K (CF K i) (mroI K i) = true := fun i hi => List.all_eq_true.mp k3 i (List.mem_range.mpr hi)
  have ct : ∀ i x, (mroI K i).contains (.ref x) = (decide (CF K i = x) || decide (CF K 6 = x)) := fun i x => by
    have e : ∀ y : Addr, (Value.ref x == Value.ref y) = decide (y = x) := fun y => by
      by_cases q : y = x
      · rw [q, decide_eq_true rfl]; exact beq_iff_eq.mpr rfl
      · rw [decide_eq_false q]; exact beq_eq_false_iff_ne.mpr (fun z => q (Value.ref.inj z).symm)
    have e2 : ∀ n : String, (Value.ref x == Value.type n) = false := fun n => beq_eq_false_iff_ne.mpr (fun z => by cases z)
    unfold mroI He.veBase
    simp only [List.contains_cons, List.contains_nil, e, e2, Bool.or_false]
  have hx : ∀ i, i < 6 → xclsB K (nmF i) "value" = true := fun i hi => List.all_eq_true.mp b1 i (List.mem_range.mpr hi)
  have gL := (He.ba b2).1
  have eL : ExcC K (CF K 6) := excB_ok (He.ba (He.ba (He.ba b2).2).2).2
  have tL := (mroB_ok k4).2
  refine ⟨?_, ?_, ?_, ?_, ?_, ?_, ?_⟩
  · intro i hi
    have x0 : ∃ fI fd, XCls P w K mg base (nmF 0) "value" (CF K 0) fI fd := by
      obtain ⟨fd, F⟩ := c.def_ 0 (d := dI "InvalidAutomaton" "InvalidAutomaton.__init__" 18 "value") rfl
      exact ⟨_, fd, xcls_V (nm := "InvalidAutomaton") X G (hx 0 (by decide)) F⟩
    have x1 : ∃ fI fd, XCls P w K mg base (nmF 1) "value" (CF K 1) fI fd := by
      obtain ⟨fd, F⟩ := c.def_ 1 (d := dI "InvalidList" "InvalidList.__init__" 14 "value") rfl
      exact ⟨_, fd, xcls_V (nm := "InvalidList") X G (hx 1 (by decide)) F⟩
    have x2 : ∃ fI fd, XCls P w K mg base (nmF 2) "value" (CF K 2) fI fd := by
      obtain ⟨fd, F⟩ := c.def_ 2 (d := dI "InvalidNumber" "InvalidNumber.__init__" 6 "value") rfl
      exact ⟨_, fd, xcls_V (nm := "InvalidNumber") X G (hx 2 (by decide)) F⟩
    have x3 : ∃ fI fd, XCls P w K mg base (nmF 3) "value" (CF K 3) fI fd := by
      obtain ⟨fd, F⟩ := c.def_ 3 (d := dI "InvalidWord" "InvalidWord.__init__" 10 "value") rfl
      exact ⟨_, fd, xcls_V (nm := "InvalidWord") X G (hx 3 (by decide)) F⟩
    have x4 : ∃ fI fd, XCls P w K mg base (nmF 4) "value" (CF K 4) fI fd := by
      obtain ⟨fd, F⟩ := c.def_ 4 (d := dI "InvalidMaker" "InvalidMaker.__init__" 22 "value") rfl
      exact ⟨_, fd, xcls_V (nm := "InvalidMaker") X G (hx 4 (by decide)) F⟩
    have x5 : ∃ fI fd, XCls P w K mg base (nmF 5) "value" (CF K 5) fI fd := by
      obtain ⟨fd, F⟩ := c.def_ 5 (d := dI "TooLong" "TooLong.__init__" 26 "value") rfl
      exact ⟨_, fd, xcls_V (nm := "TooLong") X G (hx 5 (by decide)) F⟩
    match i, hi with
    | 0, _ => exact x0
    | 1, _ => exact x1
    | 2, _ => exact x2
    | 3, _ => exact x3
    | 4, _ => exact x4
    | 5, _ => exact x5
    | _ + 6, hi => exact absurd hi (by omega)
  · intro i hi
    by_cases q : i < 6
    · exact PySem.W.mg_of X G (He.eqO_ok (He.ba (hx i q)).1)
    · obtain rfl : i = 6 := by omega
      exact PySem.W.mg_of X G (He.eqO_ok gL)
  · intro i hi
    exact (xcls_E (hx i hi)).1
  · intro i hi
    exact (xcls_E (hx i hi)).2
  · intro i hi j hj
    rw [kit_mro (hm i hi) rfl (hm j hj) (fun e => by rw [ct, decide_eq_true e]; rfl), ct]
    have nL : ¬ CF K 6 = CF K j := fun z => absurd z (Nat.ne_of_lt (lL j hj))
    rw [decide_eq_false nL, Bool.or_false]
    by_cases q : i = j
    · rw [q, decide_eq_true rfl, decide_eq_true rfl]
    · rw [decide_eq_false q, decide_eq_false (ne i hi j hj q)]
  · intro i hi
    refine PySem.W.exm_ref eL.hs eL.hd tL ?_
    rw [sub_mro (hm i hi) rfl, ct, decide_eq_true (rfl : CF K 6 = CF K 6), Bool.or_true]
  · intro i hi
    have e2 : ExcC K (CF K i) := (xcls_E (hx i hi)).1
    refine PySem.W.exm_ref e2.hs e2.hd (mroB_ok (hm i hi)).2 ?_
    rw [sub_mro (hm i hi) rfl, ct, decide_eq_true (rfl : CF K i = CF K i), Bool.true_or]
theorem tt_GA (X : K.In h) (G : h.Ns mainGlobals mg) (c : He.SaysD fa fn K) (b : bx K = true) : AT K mg (GA K) := by
  obtain ⟨_, b⟩ := He.ba b
  obtain ⟨_, t⟩ := He.ba b
  obtain ⟨t, _⟩ := He.ba t
  obtain ⟨t, _⟩ := He.ba t
  obtain ⟨t1, t⟩ := He.ba t
  obtain ⟨t2, t⟩ := He.ba t
  obtain ⟨t3, t⟩ := He.ba t
  obtain ⟨t4, t⟩ := He.ba t
  obtain ⟨t5, t6⟩ := He.ba t
  exact ⟨⟨He.cls_ok (c.fact 59 (f := .cls "Automaton") rfl), He.eqO_ok t1, He.eqO_ok t2, of_decide_eq_true t3, of_decide_eq_true t4, of_decide_eq_true t5⟩, He.noat_ok (c.fact 61 (f := .noat "Automaton" "_letters") rfl), He.noat_ok (c.fact 62 (f := .noat "Automaton" "_rows") rfl), He.noat_ok (c.fact 63 (f := .noat "Automaton" "_start") rfl), He.noat_ok (c.fact 64 (f := .noat "Automaton" "_ends") rfl), He.glo_ok X G (c.fact 58 (f := .glo "Automaton") rfl), fun T hT => of_decide_eq_true (List.all_eq_true.mp t6 T hT)⟩
theorem tt_GM (X : K.In h) (G : h.Ns mainGlobals mg) (c : He.SaysD fa fn K) (b : bx K = true) : MT K mg (GM K) := by
  obtain ⟨_, b⟩ := He.ba b
  obtain ⟨_, t⟩ := He.ba b
  obtain ⟨t, _⟩ := He.ba t
  obtain ⟨_, t⟩ := He.ba t
  obtain ⟨t1, t⟩ := He.ba t
  obtain ⟨t2, t⟩ := He.ba t
  obtain ⟨t3, t⟩ := He.ba t
  obtain ⟨t4, t⟩ := He.ba t
  obtain ⟨t5, t6⟩ := He.ba t
  exact ⟨⟨He.cls_ok (c.fact 71 (f := .cls "Maker") rfl), He.eqO_ok t1, He.eqO_ok t2, of_decide_eq_true t3, of_decide_eq_true t4, of_decide_eq_true t5⟩, He.noat_ok (c.fact 73 (f := .noat "Maker" "_letters") rfl), He.noat_ok (c.fact 74 (f := .noat "Maker" "_rows") rfl), He.noat_ok (c.fact 75 (f := .noat "Maker" "_start") rfl), He.noat_ok (c.fact 76 (f := .noat "Maker" "_closing") rfl), He.glo_ok X G (c.fact 70 (f := .glo "Maker") rfl), fun T hT => of_decide_eq_true (List.all_eq_true.mp t6 T hT)⟩
theorem facts {f : Addr} (X : K.In h) (G : h.Ns mainGlobals mg) (hfa : mg ("law" : Str) = some (.ref f)) (c : He.SaysD fa fn K) (b : bx K = true) :
    ∃ fd : FuncData, (∀ (s : Shared) (v : Value), BindsTo s fd ⟨[v], []⟩ [("_law_script", v)]) ∧ ∀ base : Heap, K.In base → base.Ns mainGlobals mg → (∀ p ∈ tf.map (He.cT K), LamX.TabB base mg p.1 p.2) → FnG P w K mg base CX0 12 f fd ["_law_script"] (spLaw K (He.tabOf K (He.codeOf K ("_law_made_refused", none))) (He.tabOf K (He.codeOf K ("_law_used_refused", none)))) := by
  obtain ⟨fd_is_whole, F_is_whole⟩ := c.def_ 6 (d := dF "is_whole" 10) rfl
  obtain ⟨fd_is_count, F_is_count⟩ := c.def_ 7 (d := dF "is_count" 11) rfl
  obtain ⟨fd_is_count_below, F_is_count_below⟩ := c.def_ 8 (d := dF "is_count_below" 12) rfl
  obtain ⟨fd_is_string_of_letters, F_is_string_of_letters⟩ := c.def_ 9 (d := dF "is_string_of_letters" 13) rfl
  obtain ⟨fd_is_word, F_is_word⟩ := c.def_ 10 (d := dF "is_word" 14) rfl
  obtain ⟨fd_moved, F_moved⟩ := c.def_ 11 (d := dF "moved" 18) rfl
  obtain ⟨fd_rounds, F_rounds⟩ := c.def_ 12 (d := dF "rounds" 19) rfl
  obtain ⟨fd_turns_by, F_turns_by⟩ := c.def_ 13 (d := dF "turns_by" 20) rfl
  obtain ⟨fd_turns_of_step, F_turns_of_step⟩ := c.def_ 14 (d := dF "turns_of_step" 21) rfl
  obtain ⟨fd_is_alphabet, F_is_alphabet⟩ := c.def_ 15 (d := dF "is_alphabet" 22) rfl
  obtain ⟨fd_is_list_of_rows, F_is_list_of_rows⟩ := c.def_ 16 (d := dF "is_list_of_rows" 23) rfl
  obtain ⟨fd_is_row, F_is_row⟩ := c.def_ 17 (d := dF "is_row" 24) rfl
  obtain ⟨fd_is_rising, F_is_rising⟩ := c.def_ 18 (d := dF "is_rising" 25) rfl
  obtain ⟨fd_require_automaton, F_require_automaton⟩ := c.def_ 19 (d := dF "require_automaton" 26) rfl
  obtain ⟨fd_require_reading, F_require_reading⟩ := c.def_ 20 (d := dF "require_reading" 27) rfl
  obtain ⟨fd_columns_of, F_columns_of⟩ := c.def_ 21 (d := dF "columns_of" 28) rfl
  obtain ⟨fd_maker_states, F_maker_states⟩ := c.def_ 22 (d := dF "maker_states" 32) rfl
  obtain ⟨fd_made_word, F_made_word⟩ := c.def_ 23 (d := dF "made_word" 33) rfl
  obtain ⟨fd_require_maker, F_require_maker⟩ := c.def_ 24 (d := dF "require_maker" 34) rfl
  obtain ⟨fd_is_list_of_entries, F_is_list_of_entries⟩ := c.def_ 25 (d := dF "is_list_of_entries" 35) rfl
  obtain ⟨fd_is_entry, F_is_entry⟩ := c.def_ 26 (d := dF "is_entry" 36) rfl
  obtain ⟨fd_is_short_word, F_is_short_word⟩ := c.def_ 27 (d := dF "is_short_word" 37) rfl
  obtain ⟨fd_is_list_of_words, F_is_list_of_words⟩ := c.def_ 28 (d := dF "is_list_of_words" 38) rfl
  obtain ⟨fd_parts_made, F_parts_made⟩ := c.def_ 29 (d := dF "parts_made" 39) rfl
  obtain ⟨fd_letters_of_parts, F_letters_of_parts⟩ := c.def_ 30 (d := dF "letters_of_parts" 40) rfl
  obtain ⟨fd__law_hash, F__law_hash⟩ := c.def_ 31 (d := dF "_law_hash" 42) rfl
  obtain ⟨fd__law_random, F__law_random⟩ := c.def_ 32 (d := dF "_law_random" 43) rfl
  obtain ⟨fd__law_generator, F__law_generator⟩ := c.def_ 33 (d := dF "_law_generator" 44) rfl
  obtain ⟨fd__law_word, F__law_word⟩ := c.def_ 34 (d := dF "_law_word" 45) rfl
  obtain ⟨fd__law_signs, F__law_signs⟩ := c.def_ 35 (d := dF "_law_signs" 46) rfl
  obtain ⟨fd__law_made, F__law_made⟩ := c.def_ 36 (d := dF "_law_made" 47) rfl
  obtain ⟨fd__law_maker_rows, F__law_maker_rows⟩ := c.def_ 37 (d := dF "_law_maker_rows" 48) rfl
  obtain ⟨fd__law_all_written, F__law_all_written⟩ := c.def_ 38 (d := dF "_law_all_written" 49) rfl
  obtain ⟨fd__law_told_good, F__law_told_good⟩ := c.def_ 39 (d := dF "_law_told_good" 50) rfl
  obtain ⟨fd__law_equal_good, F__law_equal_good⟩ := c.def_ 40 (d := dF "_law_equal_good" 51) rfl
  obtain ⟨fd__law_caught, F__law_caught⟩ := c.def_ 41 (d := dF "_law_caught" 52) rfl
  obtain ⟨fd__law_made_refused, F__law_made_refused⟩ := c.def_ 42 (d := dF "_law_made_refused" 53) rfl
  obtain ⟨fd__law_used_refused, F__law_used_refused⟩ := c.def_ 43 (d := dF "_law_used_refused" 54) rfl
  obtain ⟨fd_law, F_law⟩ := c.def_ 44 (d := dF "law" 55) rfl
  obtain ⟨fdm_GA___init__, FGA___init__⟩ := c.def_ 45 (d := dM "Automaton" "__init__" "Automaton.__init__" sInitA [] [("start", .int 0)]) rfl
  obtain ⟨fdm_GA_letters, FGA_letters⟩ := c.def_ 46 (d := dM "Automaton" "letters" "Automaton.letters" sLettersA [] []) rfl
  obtain ⟨fdm_GA_rows, FGA_rows⟩ := c.def_ 47 (d := dM "Automaton" "rows" "Automaton.rows" sRowsA [] []) rfl
  obtain ⟨fdm_GA_start, FGA_start⟩ := c.def_ 48 (d := dM "Automaton" "start" "Automaton.start" sStartA [] []) rfl
  obtain ⟨fdm_GA_ends, FGA_ends⟩ := c.def_ 49 (d := dM "Automaton" "ends" "Automaton.ends" sEndsA [] []) rfl
  obtain ⟨fdm_GA___eq__, FGA___eq__⟩ := c.def_ 50 (d := dM "Automaton" "__eq__" "Automaton.__eq__" sEqA [] []) rfl
  obtain ⟨fdm_GM___init__, FGM___init__⟩ := c.def_ 51 (d := dM "Maker" "__init__" "Maker.__init__" sInitM [] [("start", .int 0)]) rfl
  obtain ⟨fdm_GM_letters, FGM_letters⟩ := c.def_ 52 (d := dM "Maker" "letters" "Maker.letters" sLettersM [] []) rfl
  obtain ⟨fdm_GM_rows, FGM_rows⟩ := c.def_ 53 (d := dM "Maker" "rows" "Maker.rows" sRowsM [] []) rfl
  obtain ⟨fdm_GM_start, FGM_start⟩ := c.def_ 54 (d := dM "Maker" "start" "Maker.start" sStartM [] []) rfl
  obtain ⟨fdm_GM_closing, FGM_closing⟩ := c.def_ 55 (d := dM "Maker" "closing" "Maker.closing" sClosM [] []) rfl
  obtain ⟨fdm_GM___eq__, FGM___eq__⟩ := c.def_ 56 (d := dM "Maker" "__eq__" "Maker.__eq__" sEqM [] []) rfl
  have g_is_whole : mg "is_whole" = some (.ref (He.ga K "is_whole")) := He.glo_ok X G (c.fact 0 (f := .glo "is_whole") rfl)
  have g_is_count : mg "is_count" = some (.ref (He.ga K "is_count")) := He.glo_ok X G (c.fact 1 (f := .glo "is_count") rfl)
  have g_is_count_below : mg "is_count_below" = some (.ref (He.ga K "is_count_below")) := He.glo_ok X G (c.fact 2 (f := .glo "is_count_below") rfl)
  have g_is_string_of_letters : mg "is_string_of_letters" = some (.ref (He.ga K "is_string_of_letters")) := He.glo_ok X G (c.fact 3 (f := .glo "is_string_of_letters") rfl)
  have g_is_word : mg "is_word" = some (.ref (He.ga K "is_word")) := He.glo_ok X G (c.fact 4 (f := .glo "is_word") rfl)
  have g_moved : mg "moved" = some (.ref (He.ga K "moved")) := He.glo_ok X G (c.fact 5 (f := .glo "moved") rfl)
  have g_rounds : mg "rounds" = some (.ref (He.ga K "rounds")) := He.glo_ok X G (c.fact 6 (f := .glo "rounds") rfl)
  have g_turns_by : mg "turns_by" = some (.ref (He.ga K "turns_by")) := He.glo_ok X G (c.fact 7 (f := .glo "turns_by") rfl)
  have g_turns_of_step : mg "turns_of_step" = some (.ref (He.ga K "turns_of_step")) := He.glo_ok X G (c.fact 8 (f := .glo "turns_of_step") rfl)
  have g_is_alphabet : mg "is_alphabet" = some (.ref (He.ga K "is_alphabet")) := He.glo_ok X G (c.fact 9 (f := .glo "is_alphabet") rfl)
  have g_is_list_of_rows : mg "is_list_of_rows" = some (.ref (He.ga K "is_list_of_rows")) := He.glo_ok X G (c.fact 10 (f := .glo "is_list_of_rows") rfl)
  have g_is_row : mg "is_row" = some (.ref (He.ga K "is_row")) := He.glo_ok X G (c.fact 11 (f := .glo "is_row") rfl)
  have g_is_rising : mg "is_rising" = some (.ref (He.ga K "is_rising")) := He.glo_ok X G (c.fact 12 (f := .glo "is_rising") rfl)
  have g_require_automaton : mg "require_automaton" = some (.ref (He.ga K "require_automaton")) := He.glo_ok X G (c.fact 13 (f := .glo "require_automaton") rfl)
  have g_require_reading : mg "require_reading" = some (.ref (He.ga K "require_reading")) := He.glo_ok X G (c.fact 14 (f := .glo "require_reading") rfl)
  have g_columns_of : mg "columns_of" = some (.ref (He.ga K "columns_of")) := He.glo_ok X G (c.fact 15 (f := .glo "columns_of") rfl)
  have g_maker_states : mg "maker_states" = some (.ref (He.ga K "maker_states")) := He.glo_ok X G (c.fact 16 (f := .glo "maker_states") rfl)
  have g_made_word : mg "made_word" = some (.ref (He.ga K "made_word")) := He.glo_ok X G (c.fact 17 (f := .glo "made_word") rfl)
  have g_require_maker : mg "require_maker" = some (.ref (He.ga K "require_maker")) := He.glo_ok X G (c.fact 18 (f := .glo "require_maker") rfl)
  have g_is_list_of_entries : mg "is_list_of_entries" = some (.ref (He.ga K "is_list_of_entries")) := He.glo_ok X G (c.fact 19 (f := .glo "is_list_of_entries") rfl)
  have g_is_entry : mg "is_entry" = some (.ref (He.ga K "is_entry")) := He.glo_ok X G (c.fact 20 (f := .glo "is_entry") rfl)
  have g_is_short_word : mg "is_short_word" = some (.ref (He.ga K "is_short_word")) := He.glo_ok X G (c.fact 21 (f := .glo "is_short_word") rfl)
  have g_is_list_of_words : mg "is_list_of_words" = some (.ref (He.ga K "is_list_of_words")) := He.glo_ok X G (c.fact 22 (f := .glo "is_list_of_words") rfl)
  have g_parts_made : mg "parts_made" = some (.ref (He.ga K "parts_made")) := He.glo_ok X G (c.fact 23 (f := .glo "parts_made") rfl)
  have g_letters_of_parts : mg "letters_of_parts" = some (.ref (He.ga K "letters_of_parts")) := He.glo_ok X G (c.fact 24 (f := .glo "letters_of_parts") rfl)
  have g__law_hash : mg "_law_hash" = some (.ref (He.ga K "_law_hash")) := He.glo_ok X G (c.fact 25 (f := .glo "_law_hash") rfl)
  have g__law_random : mg "_law_random" = some (.ref (He.ga K "_law_random")) := He.glo_ok X G (c.fact 26 (f := .glo "_law_random") rfl)
  have g__law_generator : mg "_law_generator" = some (.ref (He.ga K "_law_generator")) := He.glo_ok X G (c.fact 27 (f := .glo "_law_generator") rfl)
  have g__law_word : mg "_law_word" = some (.ref (He.ga K "_law_word")) := He.glo_ok X G (c.fact 28 (f := .glo "_law_word") rfl)
  have g__law_signs : mg "_law_signs" = some (.ref (He.ga K "_law_signs")) := He.glo_ok X G (c.fact 29 (f := .glo "_law_signs") rfl)
  have g__law_made : mg "_law_made" = some (.ref (He.ga K "_law_made")) := He.glo_ok X G (c.fact 30 (f := .glo "_law_made") rfl)
  have g__law_maker_rows : mg "_law_maker_rows" = some (.ref (He.ga K "_law_maker_rows")) := He.glo_ok X G (c.fact 31 (f := .glo "_law_maker_rows") rfl)
  have g__law_all_written : mg "_law_all_written" = some (.ref (He.ga K "_law_all_written")) := He.glo_ok X G (c.fact 32 (f := .glo "_law_all_written") rfl)
  have g__law_told_good : mg "_law_told_good" = some (.ref (He.ga K "_law_told_good")) := He.glo_ok X G (c.fact 33 (f := .glo "_law_told_good") rfl)
  have g__law_equal_good : mg "_law_equal_good" = some (.ref (He.ga K "_law_equal_good")) := He.glo_ok X G (c.fact 34 (f := .glo "_law_equal_good") rfl)
  have g__law_caught : mg "_law_caught" = some (.ref (He.ga K "_law_caught")) := He.glo_ok X G (c.fact 35 (f := .glo "_law_caught") rfl)
  have g__law_made_refused : mg "_law_made_refused" = some (.ref (He.ga K "_law_made_refused")) := He.glo_ok X G (c.fact 36 (f := .glo "_law_made_refused") rfl)
  have g__law_used_refused : mg "_law_used_refused" = some (.ref (He.ga K "_law_used_refused")) := He.glo_ok X G (c.fact 37 (f := .glo "_law_used_refused") rfl)
  have g_law : mg "law" = some (.ref (He.ga K "law")) := He.glo_ok X G (c.fact 38 (f := .glo "law") rfl)
  have z_int : mg "int" = none := He.free_ok X G (c.fact 39 (f := .free "int") rfl)
  have z_range : mg "range" = none := He.free_ok X G (c.fact 40 (f := .free "range") rfl)
  have z_len : mg "len" = none := He.free_ok X G (c.fact 41 (f := .free "len") rfl)
  have z_sum : mg "sum" = none := He.free_ok X G (c.fact 42 (f := .free "sum") rfl)
  have z_max : mg "max" = none := He.free_ok X G (c.fact 43 (f := .free "max") rfl)
  have z_isinstance : mg "isinstance" = none := He.free_ok X G (c.fact 44 (f := .free "isinstance") rfl)
  have z_bool : mg "bool" = none := He.free_ok X G (c.fact 45 (f := .free "bool") rfl)
  have z_str : mg "str" = none := He.free_ok X G (c.fact 46 (f := .free "str") rfl)
  have z_sorted : mg "sorted" = none := He.free_ok X G (c.fact 47 (f := .free "sorted") rfl)
  have z_set : mg "set" = none := He.free_ok X G (c.fact 48 (f := .free "set") rfl)
  have z_list : mg "list" = none := He.free_ok X G (c.fact 49 (f := .free "list") rfl)
  have z_all : mg "all" = none := He.free_ok X G (c.fact 50 (f := .free "all") rfl)
  have z_enumerate : mg "enumerate" = none := He.free_ok X G (c.fact 51 (f := .free "enumerate") rfl)
  have z_tuple : mg "tuple" = none := He.free_ok X G (c.fact 52 (f := .free "tuple") rfl)
  have z_zip : mg "zip" = none := He.free_ok X G (c.fact 53 (f := .free "zip") rfl)
  have z_repr : mg "repr" = none := He.free_ok X G (c.fact 54 (f := .free "repr") rfl)
  obtain ⟨t_LONGEST_WORD, h_LONGEST_WORD⟩ := He.int_ok X G (c.fact 55 (f := .int "LONGEST_WORD" 20000) rfl)
  obtain ⟨t_MOST_STATES, h_MOST_STATES⟩ := He.int_ok X G (c.fact 56 (f := .int "MOST_STATES" 12) rfl)
  obtain ⟨t_LONGEST_PIECE, h_LONGEST_PIECE⟩ := He.int_ok X G (c.fact 57 (f := .int "LONGEST_PIECE" 2000) rfl)
  have MKGA : Mk K (GA K) (He.ma K (GA K) "__init__") := He.mkr_ok (c.fact 60 (f := .mkr "Automaton") rfl)
  obtain ⟨mGA_letters1, mGA_letters2, mGA_letters3⟩ := He.meth_ok (c.fact 65 (f := .meth "Automaton" "letters") rfl)
  obtain ⟨mGA_rows1, mGA_rows2, mGA_rows3⟩ := He.meth_ok (c.fact 66 (f := .meth "Automaton" "rows") rfl)
  obtain ⟨mGA_start1, mGA_start2, mGA_start3⟩ := He.meth_ok (c.fact 67 (f := .meth "Automaton" "start") rfl)
  obtain ⟨mGA_ends1, mGA_ends2, mGA_ends3⟩ := He.meth_ok (c.fact 68 (f := .meth "Automaton" "ends") rfl)
  obtain ⟨mGA___eq__1, mGA___eq__2, mGA___eq__3⟩ := He.meth_ok (c.fact 69 (f := .meth "Automaton" "__eq__") rfl)
  have TGA := tt_GA X G c b
  have MKGM : Mk K (GM K) (He.ma K (GM K) "__init__") := He.mkr_ok (c.fact 72 (f := .mkr "Maker") rfl)
  obtain ⟨mGM_letters1, mGM_letters2, mGM_letters3⟩ := He.meth_ok (c.fact 77 (f := .meth "Maker" "letters") rfl)
  obtain ⟨mGM_rows1, mGM_rows2, mGM_rows3⟩ := He.meth_ok (c.fact 78 (f := .meth "Maker" "rows") rfl)
  obtain ⟨mGM_start1, mGM_start2, mGM_start3⟩ := He.meth_ok (c.fact 79 (f := .meth "Maker" "start") rfl)
  obtain ⟨mGM_closing1, mGM_closing2, mGM_closing3⟩ := He.meth_ok (c.fact 80 (f := .meth "Maker" "closing") rfl)
  obtain ⟨mGM___eq__1, mGM___eq__2, mGM___eq__3⟩ := He.meth_ok (c.fact 81 (f := .meth "Maker" "__eq__") rfl)
  have TGM := tt_GM X G c b
  have eL := hfa.symm.trans g_law
  cases eL
  have bL := FunD.bindsA (ps := ["_law_script"]) F_law fun _ _ _ _ _ _ us hl => match us, hl with | [_], _ => rfl
  refine ⟨fd_law, fun s v => bL s [v] rfl, fun base Xb _ TB => ?_⟩
  have Z : ClF P w K mg base := cl_of X G c b
  have o__law_hash := Ok.mk' (P := P) (w := w) (base := base) F__law_hash g__law_hash (fun _ _ _ _ _ _ us hl => match us, hl with | [_, _], _ => rfl) (ok_hash F__law_hash z_int)
  have o__law_random := Ok.mk' (P := P) (w := w) (base := base) F__law_random g__law_random (fun _ _ _ _ _ _ us hl => match us, hl with | [_, _], _ => rfl) (ok_rand F__law_random o__law_hash z_int z_range)
  have o__law_generator := Ok.mk' (P := P) (w := w) (base := base) F__law_generator g__law_generator (fun _ _ _ _ _ _ us hl => match us, hl with | [_, _], _ => rfl) (ok_gen F__law_generator z_int z_len z_sum z_max)
  have o_is_whole := Ok.mk' (P := P) (w := w) (base := base) F_is_whole g_is_whole (fun _ _ _ _ _ _ us hl => match us, hl with | [_], _ => rfl) (ok_whole F_is_whole z_isinstance z_int z_bool)
  have o_is_count := Ok.mk' (P := P) (w := w) (base := base) F_is_count g_is_count (fun _ _ _ _ _ _ us hl => match us, hl with | [_], _ => rfl) (ok_count F_is_count o_is_whole)
  have o_is_count_below := Ok.mk' (P := P) (w := w) (base := base) F_is_count_below g_is_count_below (fun _ _ _ _ _ _ us hl => match us, hl with | [_, _], _ => rfl) (ok_below F_is_count_below o_is_count)
  have o_is_string_of_letters := Ok.mk' (P := P) (w := w) (base := base) F_is_string_of_letters g_is_string_of_letters (fun _ _ _ _ _ _ us hl => match us, hl with | [_], _ => rfl) (ok_low F_is_string_of_letters z_isinstance z_str)
  have o_is_word := Ok.mk' (P := P) (w := w) (base := base) F_is_word g_is_word (fun _ _ _ _ _ _ us hl => match us, hl with | [_], _ => rfl) (ok_isWord F_is_word o_is_string_of_letters z_len h_LONGEST_WORD)
  have o_is_alphabet := Ok.mk' (P := P) (w := w) (base := base) F_is_alphabet g_is_alphabet (fun _ _ _ _ _ _ us hl => match us, hl with | [_], _ => rfl) (ok_alph F_is_alphabet o_is_word z_sorted z_set)
  have o_is_row := Ok.mk' (P := P) (w := w) (base := base) F_is_row g_is_row (fun _ _ _ _ _ _ us hl => match us, hl with | [_, _, _], _ => rfl) (ok_row F_is_row o_is_count_below z_isinstance z_list z_len z_all)
  have o_is_list_of_rows := Ok.mk' (P := P) (w := w) (base := base) F_is_list_of_rows g_is_list_of_rows (fun _ _ _ _ _ _ us hl => match us, hl with | [_, _], _ => rfl) (ok_lrows F_is_list_of_rows o_is_row z_isinstance z_list z_len z_all h_MOST_STATES)
  have o_is_rising := Ok.mk' (P := P) (w := w) (base := base) F_is_rising g_is_rising (fun _ _ _ _ _ _ us hl => match us, hl with | [_, _], _ => rfl) (ok_ris F_is_rising o_is_row z_isinstance z_list z_len z_sorted z_set)
  have x_require_automaton := OkX.mk' (P := P) (w := w) (base := base) F_require_automaton g_require_automaton (fun _ _ _ _ _ _ us hl => match us, hl with | [_], _ => rfl) (ok_reqA F_require_automaton TGA Z z_isinstance)
  have x_require_reading := OkX.mk' (P := P) (w := w) (base := base) F_require_reading g_require_reading (fun _ _ _ _ _ _ us hl => match us, hl with | [_, _], _ => rfl) (ok_reqR F_require_reading Z x_require_automaton o_is_word)
  have o_turns_of_step := Ok.mk' (P := P) (w := w) (base := base) F_turns_of_step g_turns_of_step (fun _ _ _ _ _ _ us hl => match us, hl with | [_], _ => rfl) (ok_turns F_turns_of_step z_list z_range z_len)
  have o_is_short_word := Ok.mk' (P := P) (w := w) (base := base) F_is_short_word g_is_short_word (fun _ _ _ _ _ _ us hl => match us, hl with | [_], _ => rfl) (ok_short F_is_short_word o_is_string_of_letters z_len h_LONGEST_PIECE)
  have o_is_entry := Ok.mk' (P := P) (w := w) (base := base) F_is_entry g_is_entry (fun _ _ _ _ _ _ us hl => match us, hl with | [_, _], _ => rfl) (ok_ent F_is_entry o_is_count_below o_is_short_word z_isinstance z_tuple z_len z_bool)
  have o_is_list_of_entries := Ok.mk' (P := P) (w := w) (base := base) F_is_list_of_entries g_is_list_of_entries (fun _ _ _ _ _ _ us hl => match us, hl with | [_, _], _ => rfl) (ok_ents F_is_list_of_entries o_is_entry z_isinstance z_list z_len z_all h_MOST_STATES)
  have o_is_list_of_words := Ok.mk' (P := P) (w := w) (base := base) F_is_list_of_words g_is_list_of_words (fun _ _ _ _ _ _ us hl => match us, hl with | [_, _], _ => rfl) (ok_wrds F_is_list_of_words o_is_short_word z_isinstance z_list z_len z_all)
  have x_require_maker := OkX.mk' (P := P) (w := w) (base := base) F_require_maker g_require_maker (fun _ _ _ _ _ _ us hl => match us, hl with | [_], _ => rfl) (ok_reqM F_require_maker TGM Z z_isinstance)
  have o_letters_of_parts := Ok.mk' (P := P) (w := w) (base := base) F_letters_of_parts g_letters_of_parts (fun _ _ _ _ _ _ us hl => match us, hl with | [_], _ => rfl) (ok_lop F_letters_of_parts z_sum z_len)
  have o__law_signs := Ok.mk' (P := P) (w := w) (base := base) F__law_signs g__law_signs (fun _ _ _ _ _ _ us hl => match us, hl with | [_], _ => rfl) (ok_signs F__law_signs o__law_random)
  have o__law_word := Ok.mk' (P := P) (w := w) (base := base) F__law_word g__law_word (fun _ _ _ _ _ _ us hl => match us, hl with | [_, _, _], _ => rfl) (ok_word F__law_word o__law_random z_range z_len)
  have o__law_made := Ok.mk' (P := P) (w := w) (base := base) F__law_made g__law_made (fun _ _ _ _ _ _ us hl => match us, hl with | [_, _, _, _], _ => rfl) (ok_md F__law_made z_len)
  have o__law_all_written := Ok.mk' (P := P) (w := w) (base := base) F__law_all_written g__law_all_written (fun _ _ _ _ _ _ us hl => match us, hl with | [_, _, _, _, _], _ => rfl) (ok_all F__law_all_written o__law_made)
  have o__law_maker_rows := Ok.mk' (P := P) (w := w) (base := base) F__law_maker_rows g__law_maker_rows (fun _ _ _ _ _ _ us hl => match us, hl with | [_, _, _, _], _ => rfl) (ok_mrows F__law_maker_rows o__law_random o__law_word z_range z_len)
  have ot_letters : OkMa P w K mg base (GA K) "letters" (spLetA (GA K)) := ⟨_, _, ok_letA FGA_letters TGA, ⟨mGA_letters1, mGA_letters2, mGA_letters3⟩, FunD.bindsN FGA_letters fun _ _ _ _ _ _ us hl => match us, hl with | [_], _ => rfl⟩
  have ot_rows : OkMa P w K mg base (GA K) "rows" (spRowsA (GA K)) := ⟨_, _, ok_rowsA FGA_rows TGA z_list, ⟨mGA_rows1, mGA_rows2, mGA_rows3⟩, FunD.bindsN FGA_rows fun _ _ _ _ _ _ us hl => match us, hl with | [_], _ => rfl⟩
  have ot_start : OkMa P w K mg base (GA K) "start" (spStartA (GA K)) := ⟨_, _, ok_startA FGA_start TGA, ⟨mGA_start1, mGA_start2, mGA_start3⟩, FunD.bindsN FGA_start fun _ _ _ _ _ _ us hl => match us, hl with | [_], _ => rfl⟩
  have ot_ends : OkMa P w K mg base (GA K) "ends" (spEndsA (GA K)) := ⟨_, _, ok_endsA FGA_ends TGA z_list, ⟨mGA_ends1, mGA_ends2, mGA_ends3⟩, FunD.bindsN FGA_ends fun _ _ _ _ _ _ us hl => match us, hl with | [_], _ => rfl⟩
  have om_letters : OkMa P w K mg base (GM K) "letters" (spLetM (GM K)) := ⟨_, _, ok_letM FGM_letters TGM, ⟨mGM_letters1, mGM_letters2, mGM_letters3⟩, FunD.bindsN FGM_letters fun _ _ _ _ _ _ us hl => match us, hl with | [_], _ => rfl⟩
  have om_rows : OkMa P w K mg base (GM K) "rows" (spRowsM (GM K)) := ⟨_, _, ok_rowsM FGM_rows TGM z_list, ⟨mGM_rows1, mGM_rows2, mGM_rows3⟩, FunD.bindsN FGM_rows fun _ _ _ _ _ _ us hl => match us, hl with | [_], _ => rfl⟩
  have om_start : OkMa P w K mg base (GM K) "start" (spStartM (GM K)) := ⟨_, _, ok_startM FGM_start TGM, ⟨mGM_start1, mGM_start2, mGM_start3⟩, FunD.bindsN FGM_start fun _ _ _ _ _ _ us hl => match us, hl with | [_], _ => rfl⟩
  have om_closing : OkMa P w K mg base (GM K) "closing" (spClosM (GM K)) := ⟨_, _, ok_closM FGM_closing TGM z_list, ⟨mGM_closing1, mGM_closing2, mGM_closing3⟩, FunD.bindsN FGM_closing fun _ _ _ _ _ _ us hl => match us, hl with | [_], _ => rfl⟩
  have nf := nf_list TGM
  have o_cols2 := Ok.mk' (P := P) (w := w) (base := base) F_columns_of g_columns_of (fun _ _ _ _ _ _ us hl => match us, hl with | [_, _], _ => rfl) (ok_cols2 F_columns_of TGA ot_letters TGM om_letters z_enumerate z_len)
  have o_parts_made := Ok.mk' (P := P) (w := w) (base := base) F_parts_made g_parts_made (fun _ _ _ _ _ _ us hl => match us, hl with | [_, _, _], _ => rfl) (ok_parts F_parts_made TGM om_rows o_cols2 z_zip)
  have x_made_word := OkX.mk' (P := P) (w := w) (base := base) F_made_word g_made_word (fun _ _ _ _ _ _ us hl => match us, hl with | [_, _], _ => rfl) (ok_made F_made_word TGM Z x_require_maker o_is_word o_parts_made om_start om_closing o_letters_of_parts h_LONGEST_WORD)
  have k_made_word := OkKX.mk' (P := P) (w := w) (base := base) F_made_word g_made_word (fun _ _ _ _ _ _ us hl => match us, hl with | [_, _], _ => rfl) (ok_made F_made_word TGM Z x_require_maker o_is_word o_parts_made om_start om_closing o_letters_of_parts h_LONGEST_WORD)
  have o_columns_of : Ok P w K mg base "columns_of" 2 ["machine", "word"] (spCols (GA K)) := by
    obtain ⟨fc2, fdc2, Fc2, rc2⟩ := o_cols2.ex
    exact ⟨fc2, fdc2, FnOk.weak Fc2 fun _ _ _ _ h => cols_weak h, rc2⟩
  have x_moved := OkX.mk' (P := P) (w := w) (base := base) F_moved g_moved (fun _ _ _ _ _ _ us hl => match us, hl with | [_, _], _ => rfl) (ok_moved F_moved TGA x_require_reading ot_rows o_columns_of z_list z_range z_len)
  have x_turns_by := OkX.mk' (P := P) (w := w) (base := base) F_turns_by g_turns_by (fun _ _ _ _ _ _ us hl => match us, hl with | [_, _], _ => rfl) (ok_turnsBy F_turns_by x_moved o_turns_of_step)
  have x_rounds := OkX.mk' (P := P) (w := w) (base := base) F_rounds g_rounds (fun _ _ _ _ _ _ us hl => match us, hl with | [_, _], _ => rfl) (ok_rounds F_rounds x_turns_by)
  obtain ⟨mvGAA, kbGAA⟩ := FunD.kbinds0 (ps := ["self", "letters", "rows", "start", "ends"]) FGA___init__ 3 ["ends"] [("start", V.int 0)] (fun us mz zs => us ++ mz ++ zs) (fun z => by cases z) (fun q hq => hq) (fun r1 r2 r3 => Vals.append (Vals.append r1 r2) r3) (fun D doc pm an cdv ct us mv ws l1 l2 l3 => match us, mv, ws, l1, l2, l3 with | [_, _, _], [_], [_], _, _, _ => ⟨_, _, _, _, _, _, rfl, rfl, rfl⟩)
  obtain ⟨mvGAB, kbGAB⟩ := FunD.kbinds0 (ps := ["self", "letters", "rows", "start", "ends"]) FGA___init__ 3 ["start", "ends"] [] (fun us mz zs => us ++ zs) (fun z => by cases z) (fun q hq => by cases hq) (fun r1 r2 r3 => Vals.append r1 r3) (fun D doc pm an cdv ct us mv ws l1 l2 l3 => match us, mv, ws, l1, l2, l3 with | [_, _, _], [], [_, _], _, _, _ => rfl)
  have o_mk : OkMk P w K mg base (GA K) := ⟨_, _, mvGAA, MKGA, ok_initA FGA___init__ TGA o_is_alphabet o_is_list_of_rows o_is_count_below o_is_rising z_len z_list, kbGAA, kbGAB, TGA.g⟩
  have x_maker_states := OkX.mk' (P := P) (w := w) (base := base) F_maker_states g_maker_states (fun _ _ _ _ _ _ us hl => match us, hl with | [_], _ => rfl) (ok_states F_maker_states TGM x_require_maker o_mk om_letters om_rows om_start)
  have k_maker_states := OkKX.mk' (P := P) (w := w) (base := base) F_maker_states g_maker_states (fun _ _ _ _ _ _ us hl => match us, hl with | [_], _ => rfl) (ok_states F_maker_states TGM x_require_maker o_mk om_letters om_rows om_start)
  obtain ⟨mvGMA, kbGMA⟩ := FunD.kbinds0 (ps := ["self", "letters", "rows", "start", "closing"]) FGM___init__ 3 ["closing"] [("start", V.int 0)] (fun us mz zs => us ++ mz ++ zs) (fun z => by cases z) (fun q hq => hq) (fun r1 r2 r3 => Vals.append (Vals.append r1 r2) r3) (fun D doc pm an cdv ct us mv ws l1 l2 l3 => match us, mv, ws, l1, l2, l3 with | [_, _, _], [_], [_], _, _, _ => ⟨_, _, _, _, _, _, rfl, rfl, rfl⟩)
  obtain ⟨mvGMB, kbGMB⟩ := FunD.kbinds0 (ps := ["self", "letters", "rows", "start", "closing"]) FGM___init__ 3 ["start", "closing"] [] (fun us mz zs => us ++ zs) (fun z => by cases z) (fun q hq => by cases hq) (fun r1 r2 r3 => Vals.append r1 r3) (fun D doc pm an cdv ct us mv ws l1 l2 l3 => match us, mv, ws, l1, l2, l3 with | [_, _, _], [], [_, _], _, _, _ => rfl)
  obtain ⟨mvGMC, kbGMC⟩ := FunD.kbinds0 (ps := ["self", "letters", "rows", "start", "closing"]) FGM___init__ 1 ["closing", "start", "rows", "letters"] [] (fun us mz zs => us ++ zs.reverse) (fun z => by cases z) (fun q hq => by cases hq) (fun r1 r2 r3 => Vals.append r1 (vals_rev r3)) (fun D doc pm an cdv ct us mv ws l1 l2 l3 => match us, mv, ws, l1, l2, l3 with | [_], [], [_, _, _, _], _, _, _ => rfl)
  have o_mkM : OkMkM P w K mg base (GM K) := ⟨_, _, mvGMA, MKGM, ok_initM FGM___init__ TGM Z o_is_alphabet o_is_list_of_entries o_is_count_below o_is_list_of_words z_len z_list, kbGMA, kbGMB, kbGMC, TGM.g⟩
  have o_eq : OkEqF P w K mg base (GA K) := ⟨_, _, mGA___eq__1, mGA___eq__2, ok_eqA FGA___eq__ TGA z_isinstance, FunD.bindsN FGA___eq__ fun _ _ _ _ _ _ us hl => match us, hl with | [_, _], _ => rfl⟩
  have o_eqM : OkEqM P w K mg base (GM K) := ⟨_, _, mGM___eq__1, mGM___eq__2, ok_eqM FGM___eq__ TGM z_isinstance, FunD.bindsN FGM___eq__ fun _ _ _ _ _ _ us hl => match us, hl with | [_, _], _ => rfl⟩
  have o__law_told_good := Ok.mk' (P := P) (w := w) (base := base) F__law_told_good g__law_told_good (fun _ _ _ _ _ _ us hl => match us, hl with | [_, _, _, _, _], _ => rfl) (ok_told F__law_told_good TGA TGM o_mk o_mkM o_eq o_eqM om_letters om_rows om_start om_closing x_moved.calm x_rounds.calm x_maker_states.calm k_maker_states.calm)
  have o__law_equal_good := Ok.mk' (P := P) (w := w) (base := base) F__law_equal_good g__law_equal_good (fun _ _ _ _ _ _ us hl => match us, hl with | [_, _, _, _, _], _ => rfl) (ok_equal F__law_equal_good TGM nf o_mkM o_eqM z_len z_list z_int)
  have hcd__law_made_refused := XV.code_at (p := ("_law_made_refused", none)) F__law_made_refused
  have TB__law_made_refused : LamX.TabB base mg (He.codeOf K ("_law_made_refused", none)) (He.tabOf K (He.codeOf K ("_law_made_refused", none))) := TB (He.cT K ("_law_made_refused", none)) (List.mem_map.mpr ⟨_, List.mem_cons_self, rfl⟩)
  have hcd__law_used_refused := XV.code_at (p := ("_law_used_refused", none)) F__law_used_refused
  have TB__law_used_refused : LamX.TabB base mg (He.codeOf K ("_law_used_refused", none)) (He.tabOf K (He.codeOf K ("_law_used_refused", none))) := TB (He.cT K ("_law_used_refused", none)) (List.mem_map.mpr ⟨_, List.mem_cons_of_mem _ List.mem_cons_self, rfl⟩)
  have ne12 : (He.tabOf K (He.codeOf K ("_law_made_refused", none))) ≠ (He.tabOf K (He.codeOf K ("_law_used_refused", none))) := of_decide_eq_true (He.ba (He.ba (He.ba b).2).2).2
  have bCa : L2.Binds K fd__law_caught ["_law_call"] [] := FunD.bindsN F__law_caught fun _ _ _ _ _ _ us hl => match us, hl with | [_], _ => rfl
  have Fmr := ok_mref (P := P) (w := w) F__law_made_refused hcd__law_made_refused TB__law_made_refused ne12 F__law_caught g__law_caught bCa Z o_mkM z_isinstance z_repr z_tuple
  have o__law_made_refused := OkG.mk' (P := P) (w := w) (base := base) F__law_made_refused g__law_made_refused (fun _ _ _ _ _ _ us hl => match us, hl with | [], _ => rfl) Fmr
  have Fur := ok_uref (P := P) (w := w) F__law_used_refused hcd__law_used_refused TB__law_used_refused ne12 F__law_caught g__law_caught bCa Z o_mkM x_made_word x_made_word.calm x_maker_states z_isinstance z_repr z_len
  have o__law_used_refused := OkG.mk' (P := P) (w := w) (base := base) F__law_used_refused g__law_used_refused (fun _ _ _ _ _ _ us hl => match us, hl with | [_], _ => rfl) Fur
  exact ok_law F_law TGM o_mkM o__law_generator o__law_random o__law_signs o__law_maker_rows o__law_word o__law_all_written x_made_word.calm k_made_word.calm o__law_told_good o__law_equal_good o__law_used_refused o__law_made_refused om_start z_range z_list
end
end KJ
set_option Elab.async false
set_option linter.all false
set_option maxRecDepth 100000
set_option maxHeartbeats 0
namespace KJ
open PySem PySem.Spec PyProof.Rows L2 XV
abbrev R : PySem.W.OpenRow := PySem.W.OpenLaw.row PySem.Challenge.rw_openloops_k28_words_made_by_makers
abbrev qv : Program := PySem.W.view R.prog [55]
def names : List PySem.Str := (["LoopError", "InvalidNumber", "InvalidWord", "InvalidList", "InvalidAutomaton", "InvalidMaker", "TooLong", "LONGEST_WORD", "is_whole", "is_count", "is_count_below", "is_string_of_letters", "is_word", "MOST_STATES", "Automaton", "moved", "rounds", "turns_by", "turns_of_step", "is_alphabet"] : List PySem.Str) ++ (["is_list_of_rows", "is_row", "is_rising", "require_automaton", "require_reading", "columns_of", "LONGEST_PIECE", "Maker", "maker_states", "made_word", "require_maker", "is_list_of_entries", "is_entry", "is_short_word", "is_list_of_words", "parts_made", "letters_of_parts", "_law_hash", "_law_random", "_law_generator"] : List PySem.Str) ++ (["_law_word", "_law_signs", "_law_made", "_law_maker_rows", "_law_all_written", "_law_told_good", "_law_equal_good", "_law_caught", "_law_made_refused", "_law_used_refused"] : List PySem.Str)
noncomputable abbrev endR (w : World) (os : OsState) : Option PySem.W.SharedT := HandSHeadRun.endF (HandSHeadRun.stepQ (HandSHeadRun.denQ HandSHeadRun.tabQ) R.prog w) 12000 R.prog w os
end KJ
set_option Elab.async false
set_option linter.all false
set_option maxRecDepth 100000
set_option maxHeartbeats 0
namespace KJ
open PySem PySem.Spec PyProof.Rows L2 XV
def obsK (K : PySem.W.Frag) : He.AlD × Bool := (He.obsD fa fn K, bx K)
abbrev hk : PySem.W.Hook := hookFT (He.AlD × Bool) obsK (He.valD fn, true) tf
def ob (s : PySem.W.SharedT) : (He.AlD × Bool) × Bool := obFT obsK tf s
theorem ob_eq (s : PySem.W.SharedT) : ob s = hk.obs s.abs := obFT_eq (val := (He.valD fn, true)) s
theorem run (w : World) : HandSHeadRun.RunEq R qv hk ob 12000 names w := by
  intro os
  kernel_rfl
end KJ
set_option Elab.async false
set_option linter.all false
set_option maxRecDepth 100000
set_option maxHeartbeats 0
open PySem PySem.W PySem.Calls PyProof.Rows
theorem PySem.Challenge.cw_openloops_k28_words_made_by_makers_holds : PySem.Challenge.rw_openloops_k28_words_made_by_makers.Holds := by
  w_on; o_law
  refine HandSHeadRun.head_any (r := OpenLaw.row PySem.Challenge.rw_openloops_k28_words_made_by_makers) (q := view (OpenLaw.row PySem.Challenge.rw_openloops_k28_words_made_by_makers).prog [55]) (H := KJ.hk) (ob := KJ.ob) (M := 12000) (loose := KJ.names)
    (d := HandSHeadRun.topDef (OpenLaw.row PySem.Challenge.rw_openloops_k28_words_made_by_makers).prog 55) (kwd := []) KJ.ob_eq
    (by kernel_rfl) (fun s => by kernel_rfl) KJ.run (by kernel_rfl) (by kernel_rfl) (by kernel_rfl) (by rfl) (by first | assumption | decide +kernel) (by decide +kernel) ⟨rfl, rfl, rfl, rfl, rfl, by decide +kernel⟩ ?hw ?hc
  case hw => w_witness2
  case hc =>
    refine XV.walk_ofGT (l := PySem.Challenge.rw_openloops_k28_words_made_by_makers) (n := 63) (k := 12) (x := "_law_script") rfl (by decide) (by kernel_rfl) ⟨rfl, by decide, by decide⟩ ?F
    intro w mg fa h Y G hmg0
    obtain ⟨K, KX, cb, tb⟩ := Y
    have c : He.SaysD KJ.fa KJ.fn K := congrArg Prod.fst cb
    have b : KJ.bx K = true := congrArg Prod.snd cb
    have hmg : mg ("law" : PySem.Str) = some (.ref fa) := by
      have e : (HandSHeadRun.topDef (OpenLaw.row PySem.Challenge.rw_openloops_k28_words_made_by_makers).prog 55).name = ("law" : PySem.Str) := by kernel_rfl
      rw [← e]
      exact hmg0
    obtain ⟨fd, hb, hF⟩ := KJ.facts (P := (PySem.Challenge.rw_openloops_k28_words_made_by_makers).prog) (w := w) KX G hmg c b
    exact ⟨K, fd, KJ.tf.map (He.cT K), KJ.spLaw K (He.tabOf K (He.codeOf K ("_law_made_refused", none))) (He.tabOf K (He.codeOf K ("_law_used_refused", none))), KX, (fun p hp => by obtain ⟨d, hd, rfl⟩ := List.mem_map.mp hp; exact (tb d hd).2.2), (fun p hp => by obtain ⟨d, hd, rfl⟩ := List.mem_map.mp hp; exact (tb d hd).2.1), (fun p hp => by obtain ⟨d, hd, rfl⟩ := List.mem_map.mp hp; exact codeHd_of_K KX (tb d hd).1), hb, fun H a ns hl hT hS => ⟨a, ns, rfl, hS, hl, (fun p hp => (List.mem_cons.mp hp).elim (fun e => by cases e; exact LamX.TabS.nil (hT _ (List.mem_map.mpr ⟨_, List.mem_cons_self, rfl⟩))) (fun e => by cases List.mem_singleton.mp e; exact LamX.TabS.nil (hT _ (List.mem_map.mpr ⟨_, List.mem_cons_of_mem _ List.mem_cons_self, rfl⟩)))), fun _ => rfl⟩, hF⟩
