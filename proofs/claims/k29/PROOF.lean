import PyProof.Rows.All
import Wide.All
import OpenK.AllK
import Wide.FinOn
import HandS.ForMost
import HandS.Exc
import HandS.ExcInit
import HandS.ExcIs
import HandS.ExcField
import HandS.ExcOwn
import HandS.Defaults
import HandS.HeadHook2
import HandS.ExcValue
import HandS.Wide
import HandS.WideBits
import HandS.Style
import HandS.IsInst
import PySem.Challenge.RW_openloops_k29_whole_first_parting_inputs
import KE.DataAny
import HandS.StrMore
import HandS.Zip
import KE.GoesZip
import KE.GoesMore
import KE.GoesEnum
import HandS.Comp
import HandS.Ends
import HandS.HeadEnd
import HandS.TryMany
import HandS.Deep
import PyProof.ReprRoads
import HandS.Gcd
import HandS.SlotsOwn
import HandS.Codes
import KE.KMathGC
import PyProof.NeKinds
import PyProof.EqKinds
import PyProof.Rows.StrCountLaw
import HandS.Base
import HandS.Conv
import PyProof.EnumFor
import PyProof.Draws
import HandS.Iter
import HandS.DictComp
import HandS.Walk
import HandS.SetFor
import PyProof.StrWalks
import PyProof.EnumMake
import HandS.SetTxtIn
import HandS.Strs
import PyProof.Rows.SortStr
import PyProof.StrLawsIn
import PyProof.StrBlock2
import PyProof.Rows.StrNews2
import HandS.AnyAll
import HandS.Lambda
import HandS.Nested
import HandS.MakeKwOnly
import HandS.GenList
import HandS.CallLocal
import HandS.Words
import HandS.DictTup
import KE.KDictDisplayH
import HandS.Small
import HandS.EndTab
import HandS.WordsExc
import HandS.HeadHook3
import HandS.HeadHook4
import HandS.Head0
import HandS.Head1
import HandS.Head2
import HandS.HeadHook1
set_option Elab.async false
set_option linter.all false
set_option maxRecDepth 100000
set_option maxHeartbeats 2000000
/-! Own error classes whose instances are held as values: C(..) with any keywords, e.f, isinstance(e, C). -/
namespace XV
open PySem PySem.Spec PyProof.Rows L2 PySem.HandSPX

section
variable {prog : Program} {w : World} {A : Around} {E : Value → Shared → Prop} {R : Result → Shared → Prop}
variable {h : Heap} {g : Array GenState} {d : Drawn} {t : Nat} {os : OsState}
variable {nm q : Str} {C N : Addr} {bs bm bmB : List Value} {hdct : Bool} {sn : List Str} {sub : List Value} {ab : Bool} {col : Option Bool} {dd : Option Addr}
variable {k0 k1 k2 k3 k5 : Option Value} {B newId initId : String}

/-- the check ahead of __new__, whatever keywords there are -/
theorem chkNew {M : Model} (F : ExcBaseFacts B newId initId bmB) (hT : ∀ X : String, bm.contains (.type X) = bmB.contains (.type X))
    {rest : List Value} {kw : List (Str × Value)} {Q : Unit → Shared → Prop}
    (hC : h.get? C = some (excClassObj nm q C N bs bm hdct sn sub ab col dd k0 k1 k2 k3 k5 newId)) (hq : Q () ⟨h, g, d, t, os⟩) :
    wpAny M A (checkBuiltinCall newId ⟨.ref C :: rest, kw⟩) Q E ⟨h, g, d, t, os⟩ := by
  have cB : (Value.ref C :: bm).contains (.type B) = true := by
    rw [List.contains_cons, hT, F.hasB]
    exact Bool.or_true _
  have star := F.noStar
  simp only [checkBuiltinCall, F.newKind, F.newSplit, F.newRow]
  repeat (first
    | refine wpAny_loadPart_at hC ?_
    | (refine wpAny_isSubtype_exc hC ?_; rw [cB])
    | refine wpAny_staticBase_exc hC ?_
    | refine wpAny_madeBy_exc hC ?_
    | simp only [bne_self_eq_false, Bool.false_eq_true, if_false]
    | wp_step)
  exact hq

theorem runNew (F : ExcBaseFacts B newId initId bmB) (hT : ∀ X : String, bm.contains (.type X) = bmB.contains (.type X))
    {rest : List Value} {kw : List (Str × Value)}
    (hC : h.get? C = some (excClassObj nm q C N bs bm hdct sn sub ab col dd k0 k1 k2 k3 k5 newId))
    (hq : R (.ok (.ret (.ref (h.objs.size + 1)))) ⟨(h.push (PySem.W.kdv_tup rest)).push (excO C h.objs.size), g, d, t, os⟩) (hz : rest.length ≤ sizeLine) :
    codeAny (model prog w) A (.builtin newId ⟨.ref C :: rest, kw⟩) R ⟨h, g, d, t, os⟩ := by
  have ends := F.ends
  have cB : (Value.ref C :: bm).contains (.type B) = true := by
    rw [List.contains_cons, hT, F.hasB]
    exact Bool.or_true _
  have cA : (Value.ref C :: bm).contains (.type "AttributeError") = false := by
    rw [List.contains_cons, hT, F.noAttr] <;> rfl
  have cN : (Value.ref C :: bm).contains (.type "NameError") = false := by
    rw [List.contains_cons, hT, F.noName] <;> rfl
  refine codeAny_builtinAt F.entry ?_
  unfold Builtin.«BaseException.__new__»
  refine PySem.wpAt_bind ?_
  show PySem.wpAt _ _ _ (stack >>= _) _ _ _
  refine PySem.wpAt_bind (PySem.wpAt_stack fun p below => PySem.wpAt_of_wpAny ?_)
  wp_walk
  refine PySem.wpAt_of_wpAny ?_
  rw [F.owner]
  repeat (first
    | with_reducible refine wpAny_madeHere_exc F.canon hC ?_
    | with_reducible refine wpAny_loadPart_at hC ?_
    | (with_reducible refine wpAny_isSubtype_exc hC ?_; first | rw [cB] | rw [cA] | rw [cN])
    | wp_step)
  show R _ _
  rw [Heap.size_push]
  exact hq

theorem typeCall (F : ExcBaseFacts B newId initId bmB) (hT : ∀ X : String, bm.contains (.type X) = bmB.contains (.type X))
    {rest : List Value} {kw : List (Str × Value)} {fI : Addr} {Q : Fin → Shared → Prop}
    (hC : h.get? C = some (excClassObj nm q C N bs bm hdct sn sub ab col dd k0 k1 k2 k3 k5 newId))
    (hi : W.Looks (model prog w) h (typeLookup (.ref C) "__init__") (some (.ref fI)))
    (hb : ∀ self, W.Looks (model prog w) h (bindSpecial (.ref fI) self) (.ref fI, [self])) (hz : rest.length ≤ sizeLine)
    (hq : codeAny (model prog w) A (.call (.ref fI) ⟨.ref (h.objs.size + 1) :: rest, kw⟩)
      (fun r s' => match r with
        | .ok (.ret v) => v = .none ∧ Q (.done (.ret (.ref (h.objs.size + 1)))) s'
        | .ok _ => False
        | .error e => E e s')
      ⟨(h.push (W.kdv_tup rest)).push (excO C h.objs.size), g, d, t, os⟩) :
    wpAny (model prog w) A (Builtin.«type.__call__» ⟨.ref C :: rest, kw⟩) Q E ⟨h, g, d, t, os⟩ := by
  repeat (first
    | with_reducible refine wpAny_loadPart_at hC ?_
    | with_reducible refine wpAny_madeBy_exc hC ?_
    | wp_step)
  refine codeAny_call_builtin_code (Code.quiet_builtin _ F.quiet) (chkNew F hT hC ?_)
  refine runNew F hT hC ?_ hz
  show wpAny _ _ _ _ _ _
  have k : ∀ b o, h.get? b = some o → ((h.push (W.kdv_tup rest)).push (excO C h.objs.size)).get? b = some o :=
    fun b o e => Heap.get?_push_of_some _ (Heap.get?_push_of_some _ e)
  have hC1 := k _ _ hC
  have got : ((h.push (W.kdv_tup rest)).push (excO C h.objs.size)).get? (h.objs.size + 1) = some (excO C h.objs.size) := by heap_get
  have cC : (Value.ref C :: bm).contains (.ref C) = true := by simp
  have i1 := hi.keeps k
  have b1 := (hb (.ref (h.objs.size + 1))).keeps k
  unfold isInstance
  repeat (first
    | with_reducible refine wpAny_loadPart_at got ?_
    | (with_reducible refine wpAny_isSubtype_exc hC1 ?_; rw [cC])
    | wp_step)
  show wpAny _ _ (typeLookup (.ref C) _) _ _ _
  refine i1.at ?_
  refine wpAny_holding (wpAny_bind (b1.at ?_))
  refine wpAny_bind (wpAny_call (codeAny_mono hq fun r s' z => ?_))
  rcases r with e | (v | _ | _ | _) <;> first | exact z | exact z.elim | skip
  obtain ⟨rfl, z⟩ := z
  first
    | exact wpAny_pure (wpAny_pure z)
    | (wp_walk; exact z)

theorem chkCall {M : Model} {rest : List Value} {kw : List (Str × Value)} {Q : Unit → Shared → Prop}
    (hC : h.get? C = some (excClassObj nm q C N bs bm hdct sn sub ab col dd k0 k1 k2 k3 k5 newId)) (hq : Q () ⟨h, g, d, t, os⟩) :
    wpAny M A (checkBuiltinCall "type.__call__" ⟨.ref C :: rest, kw⟩) Q E ⟨h, g, d, t, os⟩ := by
  have f3 := tc_sub
  have ty : (⟨h, g, d, t, os⟩ : Shared).TypeIs (.ref C) "type" := ⟨_, hC, rfl⟩
  have args : argsOk "type.__call__" ⟨.ref C :: rest, kw⟩ := PySem.W.tc_args _ _ _
  unfold argsOk at args
  simp only [checkBuiltinCall, tc_kind, tc_split]
  repeat (any_goals (first
    | assumption
    | with_reducible refine wpAny_loadPart_at hC ?_
    | with_reducible refine wpAny_onRaise ?_
    | with_reducible refine wpAny_map ?_
    | rw [args]
    | wp_step))

/-- C(.., k = v, ..): an exception is made, then its class's own __init__ is called upon it -/
theorem callOwn (F : ExcBaseFacts B newId initId bmB) (hT : ∀ X : String, bm.contains (.type X) = bmB.contains (.type X))
    {rest : List Value} {kw : List (Str × Value)} {fI : Addr}
    (hC : h.get? C = some (excClassObj nm q C N bs bm hdct sn sub ab col dd k0 k1 k2 k3 k5 newId))
    (hi : W.Looks (model prog w) h (typeLookup (.ref C) "__init__") (some (.ref fI)))
    (hb : ∀ self, W.Looks (model prog w) h (bindSpecial (.ref fI) self) (.ref fI, [self])) (hz : rest.length ≤ sizeLine)
    (hq : codeAny (model prog w) (A.under (.builtin "type.__call__" ⟨.ref C :: rest, kw⟩)) (.call (.ref fI) ⟨.ref (h.objs.size + 1) :: rest, kw⟩)
      (W.InitBack (h.objs.size + 1) R) ⟨(h.push (W.kdv_tup rest)).push (excO C h.objs.size), g, d, t, os⟩) :
    codeAny (model prog w) A (.call (.ref C) ⟨rest, kw⟩) R ⟨h, g, d, t, os⟩ := by
  have f1 := tc_lookup
  have f2 := tc_bind (.ref C)
  have ty : (⟨h, g, d, t, os⟩ : Shared).TypeIs (.ref C) "type" := ⟨_, hC, rfl⟩
  refine codeAny_of_tree ?_
  show wpAny _ _ (callAny (.ref C) _) _ _ _
  repeat (any_goals (first
    | assumption
    | with_reducible refine wpAny_loadPart_at hC ?_
    | wp_step))
  refine ⟨rfl, ?_⟩
  refine codeAny_call_builtin_at (Code.quiet_builtin _ (by decide +kernel)) entry_typeCall (chkCall hC (typeCall F hT hC hi hb hz ?_))
  refine codeAny_mono hq fun r s' z => ?_
  rcases r with e | (v | _ | _ | _) <;> exact z
end
end XV
set_option Elab.async false
set_option linter.all false
set_option maxRecDepth 100000
set_option maxHeartbeats 2000000
namespace XV
open PySem PySem.Spec PyProof.Rows L2

theorem upd_mid {H : Hp} {a d : Addr} {o p q : HO} : upd (upd (upd H a o) d p) a q = upd (upd H d p) a q := by
  funext b
  by_cases e : b = a
  · subst e
    rw [upd_same, upd_same]
  · rw [upd_ne e, upd_ne e]
    by_cases f : b = d
    · subst f
      rw [upd_same, upd_same]
    · rw [upd_ne f, upd_ne f, upd_ne e]

/-- what __init__ of an error with the one field fld does -/
def spI (C : Addr) (fld : Str) : Sp := fun vs H Q _ => ∃ (a : Addr) (v : V), vs = [.ref a, v] ∧ H a = some (exo a C none) ∧
  ∀ d, H d = none → d ≠ a → Q .non (upd (upd H d (exd d [(fld, v)])) a (exo a C (some d)))

/-- what is known of such a class and its __init__ -/
structure XCls (P : Program) (w : World) (K : PySem.W.Frag) (mg : Str → Option Value) (base : Heap) (nm fld : Str) (C fI : Addr) (fd : FuncData) : Prop where
  g : mg nm = some (.ref C)
  ox : OexC K C
  iC : PySem.W.findIn K (.ref C) "__init__" = some (some (.ref fI))
  tI : PySem.W.typeIn K (.ref fI) = some (.type "function")
  no : PySem.W.findIn K (.ref C) fld = some none
  ini : FnOk P w K mg base CX0 1 fI fd ["self", fld] (spI C fld)
  b1 : ∀ (s : Shared) (x u : Value), K.In s.heap → BindsTo s fd ⟨[x, u], []⟩ [("self", x), (fld, u)]
  b0 : ∀ (s : Shared) (x : Value), K.In s.heap → BindsTo s fd ⟨[x], []⟩ [("self", x), (fld, .none)]
  bk : ∀ (s : Shared) (x u : Value), K.In s.heap → BindsTo s fd ⟨[x], [(fld, u)]⟩ [("self", x), (fld, u)]

/-- C(v): a new exception at a, its dict at d -/
structure rMk (C : Addr) (fld : Str) (v : V) (H : Hp) (Q : VK) : Prop where
  go : ∀ a d, H a = none → H d = none → d ≠ a → Q (.ref a) (upd (upd H d (exd d [(fld, v)])) a (exo a C (some d)))

section
variable {X : Cx} {pins : List (Addr × Obj)} {σ : L2.St} {H : Hp} {s : Shared} {Q : VK} {nm fld : Str} {C fI : Addr} {fd : FuncData} {v : V} {u : Value}
theorem mk_run (T : XCls X.prog X.w X.K X.mg X.base nm fld C fI fd) (hr : Room 2 X.A) (I : Inv X pins σ H s) {us : List Value} {kw : List (Str × Value)} (hu : us.length ≤ 1)
    (hb : ∀ (s' : Shared) (x : Value), X.K.In s'.heap → BindsTo s' fd ⟨x :: us, kw⟩ [("self", x), (fld, u)]) (rv : RelV v u) (q : rMk C fld v H Q) :
    wpAny (model X.prog X.w) X.A (call (.ref C) us kw) (EP X pins σ Q) X.xe s := by
  obtain ⟨n0, q0, N, bs, bm, sn, sub, ab, col, dd, k0, k1, k2, k3, k5, hC, hbm⟩ := T.ox.cls
  obtain ⟨hp, g, dr, tk, os⟩ := s
  have le1 : hp.objs.size ≤ hp.objs.size + 1 := Nat.le_succ _
  have fr : H (hp.objs.size + 1) = none := I.hok.fresh le1
  have kk : ∀ b o, hp.get? b = some o → ((hp.push (PySem.W.kdv_tup us)).push (PySem.HandSPX.excO C hp.objs.size)).get? b = some o :=
    fun b o e => Heap.get?_push_of_some _ (Heap.get?_push_of_some _ e)
  have got : ((hp.push (PySem.W.kdv_tup us)).push (PySem.HandSPX.excO C hp.objs.size)).get? (hp.objs.size + 1) = some (PySem.HandSPX.excO C hp.objs.size) := by heap_get
  have I2 := I.laid (t' := tk) (a := hp.objs.size + 1) (o := exo (hp.objs.size + 1) C none) (h' := (hp.push (PySem.W.kdv_tup us)).push (PySem.HandSPX.excO C hp.objs.size)) kk le1 (exo_ok got)
  have hz : us.length ≤ sizeLine := by
    rw [sizeLine_eq]
    omega
  have sp : spI C fld [.ref (hp.objs.size + 1), v] (upd H (hp.objs.size + 1) (exo (hp.objs.size + 1) C none)) (fun z H2 => z = .non ∧ Q (.ref (hp.objs.size + 1)) H2) E0 := by
    refine ⟨_, v, rfl, upd_same, fun d nd ne => ⟨rfl, ?_⟩⟩
    rw [upd_mid]
    rw [upd_ne ne] at nd
    exact q.go _ d fr nd ne
  refine wpAny_call (callOwn PySem.F.excBase_ValueError (fun Y => PySem.HandSPX.refsVE_contains Y bm hbm) (I.kIn _ _ hC) (PySem.W.looks_findIn I.kIn T.iC)
    (fun self => PySem.W.bind_fn I.kIn self T.tI) hz
    (codeAny_mono (T.ini.run _ X.stack _ _ ⟨Value.ref (hp.objs.size + 1) :: us, kw⟩ [Value.ref (hp.objs.size + 1), u] [.ref (hp.objs.size + 1), v] _ E0
      (hr.make C us kw) (I2.env0.make C us kw) (hb _ _ I2.kIn) (.cons rfl (.cons rv .nil)) sp) fun r s' z => ?_))
  cases r with
  | error e => exact False.elim z
  | ok fl =>
    cases fl with
    | ret r0 =>
      obtain ⟨z0, H', J, rz, ez, qz⟩ := I2.after z
      subst ez
      exact ⟨rz, ⟨V.ref (hp.objs.size + 1), H', J, rfl, qz⟩⟩
    | next => exact False.elim z
    | brk => exact False.elim z
    | cont => exact False.elim z
end

/-- of a list with one value -/
def oneOf (q : V → Hp → Prop) : List V → Hp → Prop
  | [v], H => q v H
  | _, _ => False
theorem oneOf.elim {q : V → Hp → Prop} : ∀ {vs : List V} {H : Hp}, oneOf q vs H → ∃ v, vs = [v] ∧ q v H
  | [v], _, h => ⟨v, rfl, h⟩
  | [], _, h => h.elim
  | _ :: _ :: _, _, h => h.elim
section
variable {X : Cx} {nm fld : Str} {C fI : Addr} {fd : FuncData} {e : Expr} {te : TE} {p pos kpos : Pos}
/-- C(e) -/
theorem pe_mk1 (T : XCls X.prog X.w X.K X.mg X.base nm fld C fI fd) (hr : Room 2 X.A) (hg : Gl X nm) (he : PE X e te) (hdb : (nm == ("__debug__" : Str)) = false := by decide)
    (hs : starEach (e :: []) X.env = (false, eval e X.env) :: starEach [] X.env := by rfl) (hpl : (backTo pos (starEach [] X.env)).any (·.1) = false := by rfl) :
    PE X (.Call (.Name nm p) [e] [] pos) (fun σ H Q => te σ H fun v H1 => rMk C fld v H1 Q) := by
  refine ⟨fun pins s σ H Q I h => ?_⟩
  refine wpAny_Call_Name_kw (ld_glob I hg T.g ?_ hdb)
  have ha : PA X [e] (tCons te tNil) := pa_cons he pa_nil hs
  refine PySem.W.callWith_K (h₀ := X.base) I.ok.mod.kin T.ox.kC (thn (ha.run pos pins s σ H (oneOf fun v H1 => rMk C fld v H1 Q) I h) fun us s1 z => ?_) hs hpl
  obtain ⟨vs, H1, I1, r, q⟩ := z
  obtain ⟨v, ev, q⟩ := oneOf.elim q
  subst ev
  cases r with
  | cons rv rn =>
    cases rn
    exact ⟨I1.kIn, mk_run T hr I1 (by simp) (fun s' x X' => T.b1 s' x _ X') rv q⟩
/-- C() -/
theorem pe_mk0 (T : XCls X.prog X.w X.K X.mg X.base nm fld C fI fd) (hr : Room 2 X.A) (hg : Gl X nm) (hdb : (nm == ("__debug__" : Str)) = false := by decide) :
    PE X (.Call (.Name nm p) [] [] pos) (fun σ H Q => rMk C fld .non H Q) := by
  refine ⟨fun pins s σ H Q I h => ?_⟩
  refine wpAny_Call_Name_kw (ld_glob I hg T.g ?_ hdb)
  exact PySem.W.callWith_K0 I.kIn T.ox.kC (mk_run (us := []) T hr I (by simp) (fun s' x X' => T.b0 s' x X') (v := .non) rfl h)
/-- C(fld = e) -/
theorem pe_mkK (T : XCls X.prog X.w X.K X.mg X.base nm fld C fI fd) (hr : Room 2 X.A) (hg : Gl X nm) (he : PE X e te) (hdb : (nm == ("__debug__" : Str)) = false := by decide)
    (hall : (backToKw pos (keywordEach [⟨some fld, e, kpos⟩] X.env)).all (·.1.isSome) = true := by rfl) (hks : (backToKw pos (keywordEach [⟨some fld, e, kpos⟩] X.env)).filterMap (·.1) = [fld] := by rfl)
    (hpl : ((backTo pos (starEach [] X.env)).any (·.1) || (backToKw pos (keywordEach [⟨some fld, e, kpos⟩] X.env)).any (·.1.isNone)) = false := by rfl) :
    PE X (.Call (.Name nm p) [] [⟨some fld, e, kpos⟩] pos) (fun σ H Q => te σ H fun v H1 => rMk C fld v H1 Q) := by
  refine ⟨fun pins s σ H Q I h => ?_⟩
  refine wpAny_Call_Name_kw (ld_glob I hg T.g ?_ hdb)
  have hk : PK X [⟨some fld, e, kpos⟩] (tCons te tNil) := pk_cons he pk_nil
  refine PySem.W.callWith_KW0 (h₀ := X.base) I.ok.mod.kin T.ox.kC hall (thn (hk.run pos pins s σ H (oneOf fun v H1 => rMk C fld v H1 Q) I h) fun us s1 z => ?_) hpl
  obtain ⟨vs, H1, I1, r, q⟩ := z
  obtain ⟨v, ev, q⟩ := oneOf.elim q
  subst ev
  cases r with
  | cons rv rn =>
    cases rn
    refine ⟨I1.kIn, ?_⟩
    rw [hks]
    exact mk_run (us := []) T hr I1 (by simp) (fun s' x X' => T.bk s' x _ X') rv q
end
end XV
set_option Elab.async false
set_option linter.all false
set_option maxRecDepth 100000
set_option maxHeartbeats 4000000
namespace XV
open PySem PySem.Spec PyProof.Rows L2

/-! ### e.f -/
/-- x is an error of the class at C with the fields fs -/
def Err (H : Hp) (x : V) (C : Addr) (fs : List (Str × V)) : Prop := ∃ a d, x = .ref a ∧ H a = some (exo a C (some d)) ∧ H d = some (exd d fs)
/-- the facts that a read of the field n wants -/
structure XF (K : PySem.W.Frag) (C : Addr) (n : Str) : Prop where
  xf : XfC K C
  no : PySem.W.findIn K (.ref C) n = some none
section
variable {X : Cx}
theorem pe_xget {e : Expr} {te : TE} {pos : Pos} {n : Str} (he : PE X e te) (hb : attributeBase e n X.env (eval e X.env) = eval e X.env := by rfl) :
    PE X (.Attribute e n pos) (fun σ H Q => te σ H fun x H1 => ∃ C fs v, Err H1 x C fs ∧ XF X.K C n ∧ fs.lookup n = some v ∧ Q v H1) := by
  refine ⟨fun pins s σ H Q I h => ?_⟩
  refine attr_of hb (thn (he.run pins s σ H _ I h) fun u s1 hh => ?_)
  obtain ⟨x, H1, I1, rx, C, fs, v, ⟨a, d, ex, ea, ed⟩, T, l, q⟩ := hh
  subst ex
  obtain rfl : u = Value.ref a := rx
  obtain ⟨t1, ho⟩ := exo_at I1.hok ea
  obtain ⟨mA, hns, hrel⟩ := exd_at I1.hok ed
  obtain ⟨od, hod, hl⟩ := lookIn_ns hns
  obtain ⟨w1, hw, rw1⟩ := RelO.some_of (v := v) (o := mA n) (by rw [← l]; exact hrel n)
  have J : PySem.W.InstAt s1.heap a _ C (some od) := ⟨ho, rfl, rfl, hod⟩
  exact HandSPX.exc_get I1.kIn J T.xf.ga T.xf.gg T.xf.exC (PySem.W.findObj_own T.xf.hdC T.no rfl (by rw [hl, hw])) (handed_of rw1) ⟨v, H1, I1.tok _, rw1, q⟩
end
end XV

/-! ### isinstance of an error, with its dict or without -/
namespace XV
open PySem PySem.W PySem.Calls PyProof.Rows L2
theorem find_cls {K : Frag} {D : Addr} {od : Option Obj} (E : ExcC K D) : findObj K D od "__class__" = some (.bind (.builtin "getset_descriptor.__get__") (.builtin "object.__class__")) := by
  have hc : (clsIn K D).isSome = true := by
    obtain ⟨cd, hc, _⟩ := any_some E.hd
    rw [hc]
    rfl
  cases od with
  | none => exact findObj_dataN hc E.ha E.hn E.ht
  | some o => exact findObj_data hc E.ha E.hn E.ht
theorem getCls {prog : Program} {w : World} {A : Around} {E : Value → Shared → Prop} {s : Shared} {K : Frag} {x D : Addr} {ox : Obj} {od : Option Obj} {Q : Option Value → Shared → Prop}
    (C : ExcC K D) (X : K.In s.heap) (I : InstAt s.heap x ox D od) (q : Q (some (.ref D)) { s with toks := s.toks + 1 }) : wpAny (model prog w) A (getAttr? (.ref x) "__class__") Q E s := by
  have fnd := find_cls (od := od) C
  obtain ⟨hp, g, d, t, os⟩ := s
  have tyx := I.type (M := model prog w)
  have look1 := looks_findIn (M := model prog w) X C.hg
  have look2 := looks_findIn (M := model prog w) X C.hk
  have look3 := looks_find (M := model prog w) X I fnd
  have isB : Looks (model prog w) hp (isInstance (.ref x) (.type "BaseException")) true := tyx.andThen (looks_subIn X C.hs)
  have n0 : (false && onTheHeap (Value.builtin "BaseException.__getattribute__")) = false := rfl
  have n2 : (Value.builtin "BaseException.__getattribute__" == Value.builtin "object.__getattribute__") = false := by decide +kernel
  have n1 : (onTheHeap (Value.ref D) && Value.builtin "BaseException.__getattribute__" == Value.builtin "object.__getattribute__") = false := by
    rw [n2]
    rfl
  unfold getAttr? getAttrBy? getAttrBy
  refine wpAny_bind (wpAny_mkText (wpAny_bind (wpAny_attempt (wpAny_holding (wpAny_bind (tyx.at (wpAny_bind (look1.at ?_))))))))
  show wpAny _ _ (if (onTheHeap (Value.ref D) && Value.builtin "BaseException.__getattribute__" == Value.builtin "object.__getattribute__") = true then _ else _) _ _ _
  rw [n1, if_neg Bool.false_ne_true]
  unfold getAttrByItsOwn hookBefore
  refine wpAny_bind ?_
  rw [if_pos (show onTheHeap (Value.ref D) = true from rfl)]
  refine look2.at ?_
  refine wpAny_bind (wpAny_attempt (wpAny_holding ?_))
  unfold callGetattribute
  rw [n0, if_neg Bool.false_ne_true]
  unfold boundAndCalled
  rw [PySem.F.excAttr_ValueError.ga.bind (.ref x)]
  refine wpAny_bind (wpAny_pure ?_)
  show wpAny _ _ (call (.builtin "BaseException.__getattribute__") [.ref x, .str "__class__" t]) _ _ _
  refine wpAny_call (codeAny_call_builtin PySem.F.excAttr_ValueError.ga.plain PySem.F.entry_bexc_ga ?_)
  refine @check_slot (model prog w) _ _ ⟨hp, g, d, t + 1, os⟩ "BaseException.__getattribute__" "BaseException" "__getattribute__" (.ref x) [.str "__class__" t] [] _ (by decide +kernel) (by decide +kernel) isB (PySem.F.args_bexc_ga (.ref x) (.str "__class__" t)) ?_
  unfold Builtin.«object.__getattribute__»
  refine wpAny_bind (wpAny_of_eq (a := ((Value.ref x : Value), [Value.str "__class__" t])) (by first | rfl | (simp only [slotArgs]; rfl)) ?_)
  refine wpAny_bind (wpAny_pure (wpAny_bind (tyx.at (wpAny_bind (look3.at ?_)))))
  show wpAny _ _ (holding [Value.builtin "object.__class__"] (call (.builtin "getset_descriptor.__get__") [.builtin "object.__class__", .ref x, .ref D]) >>= ret) _ _ _
  refine wpAny_bind (wpAny_holding (wpAny_call (class_get (s := ⟨hp, g, d, t + 1, os⟩) (ox := ox) (od := od) X I C.hm ?_)))
  refine wpAny_pure ?_
  show wpAny _ _ (handedOut (.ref D)) _ _ _
  rw [handedOut_of (v := .ref D) rfl]
  first
    | exact wpAny_pure (wpAny_pure q)
    | exact wpAny_pure q
    | exact wpAny_pure (wpAny_bind (wpAny_pure (wpAny_pure q)))
theorem kitErr {K : Frag} {x D : Addr} {ox : Obj} {od : Option Obj} (C : ExcC K D) : KitX K (.ref x) (.ref D) (fun h => InstAt h x ox D od) where
  ty := fun _ _ _ I => I.type
  it := fun _ _ X _ => by
    obtain ⟨cdD, hcD, _⟩ := any_some C.hd
    unfold clsIn at hcD
    split at hcD
    · rename_i c' d' cd' sl' ho
      intro A' Q' E' s' k q
      unfold isType loadHead
      exact wpAny_bind (wpAny_loadPart (k _ _ (X _ _ ho)) (wpAny_pure q))
    · cases hcD
  ne := fun h tp dd its n sl X htp => by
    obtain ⟨cdD, hcD, _⟩ := any_some C.hd
    refine Bool.eq_false_iff.mpr fun q => ?_
    have e : D = tp := Value.ref.inj (beq_iff_eq.mp q)
    subst e
    unfold clsIn at hcD
    split at hcD
    · rename_i c' d' cd' sl' ho
      have z := (X _ _ ho).symm.trans htp
      cases z
    · cases hcD
  ca := fun X I k => getCls C X I k
end XV

namespace XV
open PySem PySem.Spec PyProof.Rows L2
/-- x is an error of the class at C, whatever else is known of it -/
def IsE (H : Hp) (x : V) (C : Addr) : Prop := ∃ a, x = .ref a ∧ (H a = some (exo a C none) ∨ ∃ d fs, H a = some (exo a C (some d)) ∧ H d = some (exd d fs))
theorem Err.isE {H : Hp} {x : V} {C : Addr} {fs : List (Str × V)} (h : Err H x C fs) : IsE H x C := by
  obtain ⟨a, d, e, e1, e2⟩ := h
  exact ⟨a, e, .inr ⟨d, fs, e1, e2⟩⟩
def rIsX (K : PySem.W.Frag) : List V → Hp → VK → Prop := fun xs H Q => ∃ (x c : V) (D : Addr) (cv : Value) (b : Bool), xs = [x, c] ∧ IsE H x D ∧ ExcC K D ∧ (∀ u, RelV c u → u = cv) ∧ PySem.W.kitOne K (.ref D) cv = some b ∧ Q (.bl b) H
theorem call_isX {X : Cx} : CallR X (.builtin "isinstance") (rIsX X.K) := by
  intro pins s σ H xs us Q I r h
  obtain ⟨x, c, D, cv, b, rfl, ⟨a, ex, hx⟩, C, hcv, e, q⟩ := h
  subst ex
  cases r with
  | cons rx rr =>
    cases rr with
    | cons rt rr =>
      cases rr
      cases rx
      have ec := hcv _ rt
      subst ec
      rcases hx with hx | ⟨d, fs, hx, hd⟩
      · obtain ⟨t1, ho⟩ := exo_at I.hok hx
        have J : PySem.W.InstAt s.heap a _ D none := ⟨ho, rfl, rfl, trivial⟩
        exact PySem.W.kia_one (kitErr C) I.kIn J e (fun z => nomatch z) fun tk => ⟨.bl b, H, I.kept (t' := tk) fun _ _ z => z, rfl, q⟩
      · obtain ⟨t1, ho⟩ := exo_at I.hok hx
        obtain ⟨mA, hns, _⟩ := exd_at I.hok hd
        obtain ⟨od, hod, _⟩ := lookIn_ns hns
        have J : PySem.W.InstAt s.heap a _ D (some od) := ⟨ho, rfl, rfl, hod⟩
        exact PySem.W.kia_one (kitErr C) I.kIn J e (fun z => nomatch z) fun tk => ⟨.bl b, H, I.kept (t' := tk) fun _ _ z => z, rfl, q⟩
end XV
set_option Elab.async false
set_option linter.all false
set_option maxRecDepth 100000
set_option maxHeartbeats 4000000
namespace XV
open PySem PySem.Spec PyProof.Rows L2

/-! ### an error class without an __init__ of its own: C() -/
theorem pe_mkE {X : Cx} {nm : Str} {C : Addr} {bmB : List Value} {B newId initId : String} {p pos : Pos} (F : ExcBaseFacts B newId initId bmB) (q : PySem.W.excIn X.K C bmB newId = true) (gC : X.mg nm = some (.ref C))
    (kC : PySem.W.keepIn X.K (.ref C) = true) (hg : Gl X nm) (hdb : (nm == ("__debug__" : Str)) = false := by decide) :
    PE X (.Call (.Name nm p) [] [] pos) (fun σ H Q => ∀ a, H a = none → Q (.ref a) (upd H a (exo a C none))) := by
  refine ⟨fun pins s σ H Q I h => ?_⟩
  refine wpAny_Call_Name_kw (ld_glob I hg gC ?_ hdb)
  refine PySem.W.callWith_K0 I.kIn kC ?_
  obtain ⟨bm, N, n0, qn, bs, hdct, sn, sub, ab, col, dd, k0, k1, k2, k3, k5, mN, hC, hN, hni, T⟩ := exc_obj I.kIn q
  obtain ⟨hp, g, d, t, os⟩ := s
  refine wpAny_call_exc_subT F T hC hN hni (fun h' e hm => ?_) (by show 0 ≤ sizeLine; exact Nat.zero_le _)
  obtain ⟨t1, he, _, _⟩ := hm.there
  have hn : H e = none := I.hok.gone hm.new
  exact ⟨.ref e, _, I.laidN (t' := t) (a := e) (o := exo e C none) hm.keeps hm.new hn (exo_ok he), rfl, h e hn⟩

/-! ### facts by Bools -/
def clsB (K : PySem.W.Frag) (C : Addr) : Bool := match K.lookup C with
  | some ⟨.type "type", _, .cls cd, sl⟩ => (match cd.mro, sl.toList with
    | .ref C' :: bm, [_, _, _, _, some (.builtin n), _] => (C' == C && n == "ValueError.__new__") && (cd.hasDict && (!cd.hasDel && PySem.HandSPX.refsVE bm))
    | _, _ => false)
  | _ => false
theorem clsB_ok {K : PySem.W.Frag} {C : Addr} (h : clsB K C = true) :
    ∃ nm q N bs bm sn sub ab col dd k0 k1 k2 k3 k5, K.lookup C = some (excClassObj nm q C N bs bm true sn sub ab col dd k0 k1 k2 k3 k5 "ValueError.__new__") ∧ PySem.HandSPX.refsVE bm = true := by
  unfold clsB at h
  split at h
  · rename_i dd cd sl ho
    split at h
    · rename_i C' bm k0 k1 k2 k3 n k5 hm hs
      obtain ⟨h1, h2⟩ := He.ba h
      obtain ⟨h3, h4⟩ := He.ba h1
      obtain ⟨h5, h6⟩ := He.ba h2
      obtain ⟨h7, h8⟩ := He.ba h6
      obtain ⟨n1, bs, mro, ns, qn, hd, sn, sub, ab, col, del⟩ := cd
      dsimp only at hm h5 h7
      have e1 : C' = C := eq_of_beq h3
      have e2 : n = "ValueError.__new__" := eq_of_beq h4
      have e3 : del = false := by
        cases del with
        | false => rfl
        | true => cases h7
      subst e1 e2 e3 hm h5
      have e4 : sl = #[k0, k1, k2, k3, some (.builtin "ValueError.__new__"), k5] := by
        obtain ⟨l⟩ := sl
        simp only at hs
        rw [hs]
      subst e4
      exact ⟨n1, qn, ns, bs, bm, sn, sub, ab, col, dd, k0, k1, k2, k3, k5, ho, h8⟩
    · cases h
  · cases h
def oexB (K : PySem.W.Frag) (C : Addr) : Bool := clsB K C && (He.eqO (PySem.W.findIn K (.ref C) "__setattr__") (some (some (.builtin "object.__setattr__"))) &&
  (decide (PySem.W.subIn K (.ref C) (.type "BaseException") = some true) && (decide (PySem.W.typeIn K (.ref C) = some (.type "type")) && PySem.W.keepIn K (.ref C))))
theorem oexB_ok {K : PySem.W.Frag} {C : Addr} (h : oexB K C = true) : OexC K C := by
  obtain ⟨h1, h⟩ := He.ba h
  obtain ⟨h2, h⟩ := He.ba h
  obtain ⟨h3, h⟩ := He.ba h
  obtain ⟨h4, h5⟩ := He.ba h
  exact ⟨clsB_ok h1, He.eqO_ok h2, of_decide_eq_true h3, of_decide_eq_true h4, h5⟩
def excB (K : PySem.W.Frag) (D : Addr) : Bool := xfB K D && (He.eqO (PySem.W.findIn K (.ref D) "__class__") (some (some (.builtin "object.__class__"))) &&
  (He.eqO (PySem.W.specialIn K (.builtin "object.__class__") "__get__") (some (some (.builtin "getset_descriptor.__get__"))) &&
  (decide (PySem.W.takesIn K (.builtin "object.__class__") = some true) && decide (PySem.W.mroIn K D (.type "object") = some true))))
theorem excB_ok {K : PySem.W.Frag} {D : Addr} (h : excB K D = true) : ExcC K D := by
  obtain ⟨h1, h⟩ := He.ba h
  obtain ⟨h2, h⟩ := He.ba h
  obtain ⟨h3, h⟩ := He.ba h
  obtain ⟨h4, h5⟩ := He.ba h
  have x := xfB_ok h1
  exact ⟨x.ga, x.gg, x.exC, x.hdC, He.eqO_ok h2, He.eqO_ok h3, of_decide_eq_true h4, of_decide_eq_true h5⟩
/-- an error class nm whose own __init__ sets the field fld -/
def xclsB (K : PySem.W.Frag) (nm fld : Str) : Bool := He.eqO (PySem.W.nsIn K mainGlobals nm) (some (some (.ref (He.ga K nm)))) && (oexB K (He.ga K nm) &&
  (He.eqO (PySem.W.findIn K (.ref (He.ga K nm)) "__init__") (some (some (.ref (He.fAd K (nm, some "__init__"))))) &&
  (decide (PySem.W.typeIn K (.ref (He.fAd K (nm, some "__init__"))) = some (.type "function")) && (He.eqO (PySem.W.findIn K (.ref (He.ga K nm)) fld) (some none) && excB K (He.ga K nm)))))
/-- one without -/
def ecls0B (K : PySem.W.Frag) (nm : Str) : Bool := He.eqO (PySem.W.nsIn K mainGlobals nm) (some (some (.ref (He.ga K nm)))) && (PySem.W.excIn K (He.ga K nm) He.veBase "ValueError.__new__" && (PySem.W.keepIn K (.ref (He.ga K nm)) && excB K (He.ga K nm)))

/-! ### __init__(self, fld=None): self.fld = fld -/
def initA (fld : Str) (p1 p2 p3 : Pos) : Arguments :=
  { posonlyargs := [], args := [{ arg := "self", annotation := none, pos := p1 }, { arg := fld, annotation := none, pos := p2 }], vararg := none, kwonlyargs := [], kw_defaults := [], kwarg := none, defaults := [.Constant .none 0 p3] }
def initB (fld : Str) (q1 q2 q3 q4 : Pos) : List Stmt := [.Assign [.Attribute (.Name "self" q1) fld q2] (.Name fld q3) q4]
def initS (fld : Str) : Scope := { kind := .function, names := [(PySem.Str.ofString "self", .local), (fld, .local)], isGenerator := false, isCoroutine := false, more := [] }

section
variable {P : Program} {w : World} {K : PySem.W.Frag} {mg : Str → Option Value} {base h : Heap} {nm qual fld : Str} {p1 p2 p3 q1 q2 q3 q4 : Pos} {C fI : Addr} {fd : FuncData}
theorem ok_initV (F : FunD K "__init__" qual (initA "value" p1 p2 p3) (initB "value" q1 q2 q3 q4) (initS "value") [.non] [] fI fd) (O : OexC K C) (no : PySem.W.findIn K (.ref C) "value" = some none) :
    FnOk P w K mg base CX0 1 fI fd ["self", "value"] (spI C "value") := by
  refine F.ok (N := ["self", "value"]) ⟨rfl, rfl, rfl, by decide +kernel, rfl, by decide +kernel, by decide +kernel⟩ (fun vs H Q E h => ?_) (fun cdv A outer s H vs Q E hr h => ?_)
  · obtain ⟨a, v, rfl, _⟩ := h
    rfl
  · obtain ⟨a, v, rfl, ha, q⟩ := h
    exact ⟨_, pss_one (ps_ost (pv 0) (pv 1)), ⟨_, rfl, _, rfl, a, C, rfl, O, no, .inl ⟨ha, fun d n ne => q d n ne⟩⟩⟩
theorem ok_initP (F : FunD K "__init__" qual (initA "place" p1 p2 p3) (initB "place" q1 q2 q3 q4) (initS "place") [.non] [] fI fd) (O : OexC K C) (no : PySem.W.findIn K (.ref C) "place" = some none) :
    FnOk P w K mg base CX0 1 fI fd ["self", "place"] (spI C "place") := by
  refine F.ok (N := ["self", "place"]) ⟨rfl, rfl, rfl, by decide +kernel, rfl, by decide +kernel, by decide +kernel⟩ (fun vs H Q E h => ?_) (fun cdv A outer s H vs Q E hr h => ?_)
  · obtain ⟨a, v, rfl, _⟩ := h
    rfl
  · obtain ⟨a, v, rfl, ha, q⟩ := h
    exact ⟨_, pss_one (ps_ost (pv 0) (pv 1)), ⟨_, rfl, _, rfl, a, C, rfl, O, no, .inl ⟨ha, fun d n ne => q d n ne⟩⟩⟩
theorem bind_ini {args : Args} {binds : List Value → List (Str × Value)} (F : FunD K "__init__" qual (initA fld p1 p2 p3) (initB fld q1 q2 q3 q4) (initS fld) [.non] [] fI fd)
    (hb : ∀ (T : Addr) (kV doc pm : Value) (an : Option Addr) (cdv ct : Value), ∃ k, bindArgs (PySem.W.fnOf "__init__" qual (initA fld p1 p2 p3) (initB fld q1 q2 q3 q4) (initS fld) (.ref T) kV doc pm an cdv ct) args = seqItems? (.ref T) >>= k ∧ k (some #[Value.none]) = pure (binds [.none]))
    (s : Shared) (X : K.In s.heap) : BindsTo s fd args (binds [.none]) := by
  obtain ⟨oc, od, dV, kV, doc, pm, an, cdv, ct, osl, rfl, lk, hcd, hD, hK⟩ := F.ex
  rcases hD with ⟨e, _⟩ | ⟨_, T, o, its, m, rfl, lT, oT, rT⟩
  · cases e
  · cases rT with
    | cons r0 r1 =>
      cases r1
      cases r0
      obtain ⟨k, e1, e2⟩ := hb T kV doc pm an cdv ct
      refine BindsTo.of_looks fun M => ?_
      rw [e1]
      exact looks_items X lT oT (.of_pure e2)
theorem xcls_V (X : K.In h) (G : h.Ns mainGlobals mg) (c : xclsB K nm "value" = true) (F : FunD K "__init__" qual (initA "value" p1 p2 p3) (initB "value" q1 q2 q3 q4) (initS "value") [.non] [] (He.fAd K (nm, some "__init__")) fd) :
    XCls P w K mg base nm "value" (He.ga K nm) (He.fAd K (nm, some "__init__")) fd := by
  obtain ⟨c1, c⟩ := He.ba c
  obtain ⟨c2, c⟩ := He.ba c
  obtain ⟨c3, c⟩ := He.ba c
  obtain ⟨c4, c⟩ := He.ba c
  obtain ⟨c5, c6⟩ := He.ba c
  have O := oexB_ok c2
  have no := He.eqO_ok c5
  exact ⟨PySem.W.mg_of X G (He.eqO_ok c1), O, He.eqO_ok c3, of_decide_eq_true c4, no, ok_initV F O no,
    fun s x u Y => bind_ini (binds := fun _ => [("self", x), ("value", u)]) F (fun _ _ _ _ _ _ _ => ⟨_, rfl, rfl⟩) s Y,
    fun s x Y => bind_ini (binds := fun _ => [("self", x), ("value", .none)]) F (fun _ _ _ _ _ _ _ => ⟨_, rfl, rfl⟩) s Y,
    fun s x u Y => bind_ini (binds := fun _ => [("self", x), ("value", u)]) F (fun _ _ _ _ _ _ _ => ⟨_, rfl, rfl⟩) s Y⟩
theorem xcls_P (X : K.In h) (G : h.Ns mainGlobals mg) (c : xclsB K nm "place" = true) (F : FunD K "__init__" qual (initA "place" p1 p2 p3) (initB "place" q1 q2 q3 q4) (initS "place") [.non] [] (He.fAd K (nm, some "__init__")) fd) :
    XCls P w K mg base nm "place" (He.ga K nm) (He.fAd K (nm, some "__init__")) fd := by
  obtain ⟨c1, c⟩ := He.ba c
  obtain ⟨c2, c⟩ := He.ba c
  obtain ⟨c3, c⟩ := He.ba c
  obtain ⟨c4, c⟩ := He.ba c
  obtain ⟨c5, c6⟩ := He.ba c
  have O := oexB_ok c2
  have no := He.eqO_ok c5
  exact ⟨PySem.W.mg_of X G (He.eqO_ok c1), O, He.eqO_ok c3, of_decide_eq_true c4, no, ok_initP F O no,
    fun s x u Y => bind_ini (binds := fun _ => [("self", x), ("place", u)]) F (fun _ _ _ _ _ _ _ => ⟨_, rfl, rfl⟩) s Y,
    fun s x Y => bind_ini (binds := fun _ => [("self", x), ("place", .none)]) F (fun _ _ _ _ _ _ _ => ⟨_, rfl, rfl⟩) s Y,
    fun s x u Y => bind_ini (binds := fun _ => [("self", x), ("place", u)]) F (fun _ _ _ _ _ _ _ => ⟨_, rfl, rfl⟩) s Y⟩
theorem xcls_E (c : xclsB K nm fld = true) : ExcC K (He.ga K nm) ∧ XF K (He.ga K nm) fld := by
  obtain ⟨c1, c⟩ := He.ba c
  obtain ⟨c2, c⟩ := He.ba c
  obtain ⟨c3, c⟩ := He.ba c
  obtain ⟨c4, c⟩ := He.ba c
  obtain ⟨c5, c6⟩ := He.ba c
  exact ⟨excB_ok c6, ⟨xfB_ok (He.ba c6).1, He.eqO_ok c5⟩⟩
end
/-! ### a Hook with one Bool more -/
def hookB (n : Nat) (fa : List He.Fa) (fn : List He.DefD) (bx : PySem.W.Frag → Bool) : PySem.W.Hook where
  α := He.AlD × Bool
  obs := fun s => (He.obsDG n fa fn s.heap.get?, bx (He.frG s.heap.get? (He.asD s.heap.get? n)))
  val := fun _ => (He.valD fn, true)
  says := fun _ h => ∃ K : PySem.W.Frag, K.In h ∧ He.SaysD fa fn K ∧ bx K = true
  of := fun _ _ e => ⟨_, He.frG_in, congrArg Prod.fst e, congrArg Prod.snd e⟩
  keeps := fun _ _ _ ⟨K, hK, c⟩ k => ⟨K, PySem.W.Frag.In.keeps hK k, c⟩
def obsB (n : Nat) (fa : List He.Fa) (fn : List He.DefD) (bx : PySem.W.Frag → Bool) (g : Addr → Option Obj) : He.AlD × Bool := (He.obsDG n fa fn g, bx (He.frG g (He.asD g n)))
theorem obsB_eq {n : Nat} {fa : List He.Fa} {fn : List He.DefD} {bx : PySem.W.Frag → Bool} {g : Addr → Option Obj} {s : Shared} (h : ∀ a, g a = s.heap.get? a) : obsB n fa fn bx g = (hookB n fa fn bx).obs s := by
  have e : g = s.heap.get? := funext h
  rw [e] <;> rfl
end XV
set_option Elab.async false
set_option linter.all false
set_option maxRecDepth 100000
set_option maxHeartbeats 4000000
/-! Words of our own for calls of the text's defs, and the drawing of numbers. -/
namespace XV
open PySem PySem.Spec PyProof.Rows L2

/-- the module's name x is a def that keeps sp -/
structure Ok (P : Program) (w : World) (K : PySem.W.Frag) (mg : Str → Option Value) (base : Heap) (x : Str) (k : Nat) (ps : List Str) (sp : Sp) : Prop where
  ex : ∃ f fd, FnOk P w K mg base CX0 k f fd ps sp ∧ mg x = some (.ref f) ∧ PySem.W.keepIn K (.ref f) = true ∧ Binds K fd ps []
section
variable {X : Cx} {k : Nat} {ps : List Str} {sp : Sp} {x : Str} {e : Expr} {es : List Expr} {t : TA} {p pos : Pos}
theorem pe_callO (o : Ok X.prog X.w X.K X.mg X.base x k ps sp) (hr : Room k X.A) (hg : Gl X x) (ha : PA X (e :: es) t) (hdb : (x == ("__debug__" : Str)) = false := by decide)
    (he : starEach (e :: es) X.env = (false, eval e X.env) :: starEach es X.env := by rfl) (hpl : (backTo pos (starEach es X.env)).any (·.1) = false := by rfl) :
    PE X (.Call (.Name x p) (e :: es) [] pos) (tCall sp [] E0 t) := by
  obtain ⟨f, fd, F, hm, hk, b⟩ := o.ex
  exact pe_call F hr hg hm hk b .nil pass0 ha hdb he hpl
theorem pe_callO0 (o : Ok X.prog X.w X.K X.mg X.base x k ps sp) (hr : Room k X.A) (hg : Gl X x) (hdb : (x == ("__debug__" : Str)) = false := by decide) :
    PE X (.Call (.Name x p) [] [] pos) (tCall sp [] E0 tNil) := by
  obtain ⟨f, fd, F, hm, hk, b⟩ := o.ex
  exact pe_call0 F hr hg hm hk b .nil pass0 hdb
end
theorem Ok.mk' {P : Program} {w : World} {K : PySem.W.Frag} {mg : Str → Option Value} {base : Heap} {x : Str} {k : Nat} {ps : List Str} {sp : Sp} {body : List Stmt} {params : Arguments} {scope : Scope} {f : Addr} {fd : FuncData}
    (F : FunD K x x params body scope [] [] f fd) (g : mg x = some (.ref f)) (b : ∀ (kV doc pm : Value) (an : Option Addr) (cdv ct : Value) (us : List Value), us.length = ps.length → bindArgs (PySem.W.fnOf x x params body scope .none kV doc pm an cdv ct) ⟨us, []⟩ = pure (ps.zip us))
    (ok : FnOk P w K mg base CX0 k f fd ps sp) : Ok P w K mg base x k ps sp := ⟨f, fd, ok, g, F.kp, F.bindsN b⟩

/-- i ** j, the answer of at most 2 ^ 27 bits -/
def CPowW (i j : Int) : Prop := 0 ≤ j ∧ (Builtin.Int.intBits i : Int) * j ≤ 2 ^ 27
theorem op_powW {X : Cx} : OpR X (binaryOp .Pow) (rI CPowW fun i j => .int (i ^ j.toNat)) := opI fun _ _ _ _ _ _ _ hc q => pow_int hc.1 hc.2 q

/-! ### the list of three numbers from which is drawn -/
/-- at g: a list [a, b, c], a below 10 ** 600, b below 2 ** 31, c at most n -/
def Dr (H : Hp) (g : Addr) (n : Nat) : Prop := ∃ a b c : Int, H g = some (.lst [.int a, .int b, .int c]) ∧ 0 ≤ a ∧ a < 10 ^ 600 ∧ 0 ≤ b ∧ b < 2147483647 ∧ 0 ≤ c ∧ c ≤ n
theorem Dr.mono {H : Hp} {g : Addr} {n m : Nat} (h : Dr H g n) (l : n ≤ m) : Dr H g m := by
  obtain ⟨a, b, c, e, h1, h2, h3, h4, h5, h6⟩ := h
  exact ⟨a, b, c, e, h1, h2, h3, h4, h5, by omega⟩
/-- all but g as it was -/
def But (H H' : Hp) (g : Addr) : Prop := ∀ b o, b ≠ g → H b = some o → H' b = some o
theorem But.refl (H : Hp) (g : Addr) : But H H g := fun _ _ _ e => e
theorem But.trans {H H1 H2 : Hp} {g : Addr} (a : But H H1 g) (b : But H1 H2 g) : But H H2 g := fun c o n e => b c o n (a c o n e)
theorem But.upd {H : Hp} {g : Addr} {o : HO} : But H (upd H g o) g := fun b u n e => by
  rw [upd_ne n]
  exact e
theorem Same.but {H H' : Hp} {g : Addr} (a : Same H H') : But H H' g := fun b o _ e => a b o e
theorem same_new {H : Hp} {p : Addr} {o : HO} (h : H p = none) : Same H (L2.upd H p o) := fun b x e => by
  rw [upd_ne (ne_of_none e h)]
  exact e
def spHash : Sp := fun vs H Q _ => ∃ s i : Int, vs = [.int s, .int i] ∧ 0 ≤ s ∧ s < 2147483647 ∧ 0 ≤ i ∧ i < 2 ^ 60 ∧ ∀ r : Int, 0 ≤ r → r < 2147483647 → Q (.int r) H
def spRand : Sp := fun vs H Q _ => ∃ (g : Addr) (n : Nat) (m : Int), vs = [.ref g, .int m] ∧ Dr H g n ∧ n ≤ 1000000 ∧ 0 < m ∧ m < 10 ^ 100 ∧
  ∀ (H' : Hp) (r : Int), 0 ≤ r → r < m → But H H' g → Dr H' g (n + 20) → Q (.int r) H'
end XV
set_option Elab.async false
set_option linter.all false
set_option maxRecDepth 100000
set_option maxHeartbeats 4000000
namespace KK
open PySem PySem.Spec PyProof.Rows L2 XV
def top (i : Nat) : Stmt := PySem.Challenge.pw_openloops_k29_whole_first_parting_inputs.main.body.getD i (.Pass ⟨0, 0, 0, 0⟩)
abbrev sHash : Stmt := top 33
abbrev sGen : Stmt := top 35
abbrev sRand : Stmt := top 34
abbrev FnP (K : PySem.W.Frag) (x : Str) (st : Stmt) (f : Addr) (fd : FuncData) : Prop := FunD K x x (defArgs st) (defBody st) (defScope st) [] [] f fd
theorem scHash : FnScope ["_law_seed", "_law_index", "_law_mixed"] ["_law_seed", "_law_index"] (defScope sHash) := ⟨rfl, rfl, rfl, by decide +kernel, rfl, by decide +kernel, by decide +kernel⟩
theorem scGen : FnScope ["_law_script", "_law_index", "_law_seed"] ["_law_script", "_law_index"] (defScope sGen) := ⟨rfl, rfl, rfl, by decide +kernel, rfl, by decide +kernel, by decide +kernel⟩
theorem scRand : FnScope ["_law_generator_here", "_law_bound", "_law_drawn", "_law_turn"] ["_law_generator_here", "_law_bound"] (defScope sRand) := ⟨rfl, rfl, rfl, by decide +kernel, rfl, by decide +kernel, by decide +kernel⟩
theorem mod_in (x : Int) {m : Int} (h : 0 < m) : 0 ≤ x % m ∧ x % m < m := ⟨Int.emod_nonneg x (by omega), Int.emod_lt_of_pos x h⟩
section
variable {P : Program} {w : World} {K : PySem.W.Frag} {mg : Str → Option Value} {base : Heap} {f : Addr} {fd : FuncData}
theorem ok_hash (F : FnP K "_law_hash" sHash f fd) (z_int : mg "int" = none) : FnOk P w K mg base CX0 1 f fd ["_law_seed", "_law_index"] spHash := by
  have nd := scHash.nd
  refine F.ok scHash (fun vs H Q E h => ?_) (fun cdv A outer s H vs Q E hr h => ?_)
  · obtain ⟨s, i, rfl, _⟩ := h
    rfl
  · obtain ⟨s, i, rfl, s0, s1, i0, i1, q⟩ := h
    refine ⟨_, PSs.nox (pss_cons (ps_set (i := 2) nd rfl (Or.inl rfl) (pe_op op_mod (pe_callTy call_int1 (by rfl) z_int (by decide +kernel) (pa_cons (pe_op op_add (pe_op op_add (pe_op op_add (pe_op op_mul (pv 0) pe_int) (pe_op op_mul (pe_op op_mul pe_int (pv 1)) (pv 1))) (pe_op op_mul pe_int (pv 1))) pe_int) pa_nil)) pe_int))
 (pss_cons (ps_set (i := 2) nd rfl (Or.inl rfl) (pe_op op_mod (pe_callTy call_int1 (by rfl) z_int (by decide +kernel) (pa_cons (pe_op op_add (pe_op op_add (pe_op op_mul (pv 2) (pv 2)) (pe_op op_mul pe_int (pv 1))) pe_int) pa_nil)) pe_int))
 (pss_one (ps_ret (pe_op op_mod (pe_callTy call_int1 (by rfl) z_int (by decide +kernel) (pa_cons (pe_op op_mul (pv 2) pe_int) pa_nil)) pe_int))))), ?_⟩
    have c1 : CMul s 1597334 := .inl ⟨by omega, by omega⟩
    have c2 : CMul 22695477 i := .inl ⟨by decide, by decide⟩
    have c3 : CMul (22695477 * i) i := .inr ⟨by omega, by omega⟩
    have c4 : CMul 977 i := .inl ⟨by decide, by decide⟩
    refine ⟨_, rfl, _, _, rfl, rfl, c1, _, rfl, _, _, rfl, rfl, c2, _, rfl, _, _, rfl, rfl, c3, _, _, rfl, rfl, _, rfl, _, _, rfl, rfl, c4, _, _, rfl, rfl, _, _, rfl, rfl, .inl ⟨_, rfl, _, _, rfl, rfl, (by show (0 : Int) < 2147483629; decide), ?_⟩⟩
    obtain ⟨m0, m1⟩ := mod_in (s * 1597334 + 22695477 * i * i + 977 * i + 41) (m := 2147483629) (by decide)
    have c5 : CMul ((s * 1597334 + 22695477 * i * i + 977 * i + 41) % 2147483629) ((s * 1597334 + 22695477 * i * i + 977 * i + 41) % 2147483629) := .inl ⟨by omega, by omega⟩
    refine ⟨_, rfl, _, rfl, _, _, rfl, rfl, c5, _, rfl, _, _, rfl, rfl, .inl ⟨by decide, by decide⟩, _, _, rfl, rfl, _, _, rfl, rfl, .inl ⟨_, rfl, _, _, rfl, rfl, (by show (0 : Int) < 2147483587; decide), ?_⟩⟩
    refine ⟨_, rfl, _, _, rfl, rfl, .inr ⟨by decide, by decide⟩, .inl ⟨_, rfl, _, _, rfl, rfl, (by show (0 : Int) < 2147483647; decide), ?_⟩⟩
    obtain ⟨n0, n1⟩ := mod_in ((((s * 1597334 + 22695477 * i * i + 977 * i + 41) % 2147483629 * ((s * 1597334 + 22695477 * i * i + 977 * i + 41) % 2147483629) + 40503 * i + 9973) % 2147483587) * 69621) (m := 2147483647) (by decide)
    exact q _ n0 n1

theorem bits_small {m : Int} (h0 : 0 < m) (h1 : m < 10 ^ 100) : Builtin.Int.intBits m ≤ 340 := by
  refine intBits_le (k := 340) ?_
  have e : (10 : Int) ^ 100 < 2 ^ 340 := by decide
  have e2 : m < 2 ^ 340 := Int.lt_trans h1 e
  have e3 : ((m.natAbs : Nat) : Int) = m := Int.natAbs_of_nonneg (by omega)
  have e4 : ((m.natAbs : Nat) : Int) < ((2 ^ 340 : Nat) : Int) := by
    rw [e3]
    exact e2
  exact Int.ofNat_lt.mp e4
theorem ok_rand (F : FnP K "_law_random" sRand f fd) (oHash : Ok P w K mg base "_law_hash" 1 ["_law_seed", "_law_index"] spHash) (z_int : mg "int" = none) (z_range : mg "range" = none) :
    FnOk P w K mg base CX0 2 f fd ["_law_generator_here", "_law_bound"] spRand := by
  have nd := scRand.nd
  refine F.ok scRand (fun vs H Q E h => ?_) (fun cdv A outer s H vs Q E hr h => ?_)
  · obtain ⟨g, n, m, rfl, _⟩ := h
    rfl
  · obtain ⟨g, n, m, rfl, ⟨a, b, c, hg, a0, a1, b0, b1, c0, c1⟩, hn, m0, m1, q⟩ := h
    refine ⟨_, PSs.nox (pss_cons (ps_if (pt_cmpR op_gt (pe_ix ix_list (pv 0) pe_int (fun _ _ => rfl)) pe_int (nomark _))
        (pss_cons (ps_set (i := 2) nd rfl (Or.inl rfl) (pe_op op_mod (pe_callTy call_int1 (by rfl) z_int (by decide +kernel) (pa_cons (pe_ix ix_list (pv 0) pe_int (fun _ _ => rfl)) pa_nil)) (pv 1)))
          (pss_cons (ps_asg (pe_op op_fdivW (pe_ix ix_list (pv 0) pe_int (fun _ _ => rfl)) (pv 1)) (pg_sub (pv 0) pe_int set_list))
            (pss_one (ps_ret (pv 2))))) pss_nil)
      (pss_cons (ps_set (i := 2) nd rfl (Or.inl rfl) pe_int)
      (pss_cons (ps_for PassesOwn.never rfl (pi_range1 (by rfl) z_range (pa_cons (pe_op op_add pe_int (pe_op op_fdiv (pe_bits (pv 1)) pe_int)) pa_nil)) (pg_name (i := 3) nd rfl (Or.inl rfl))
        (pss_cons (ps_asg (pe_op op_add (pe_ix ix_list (pv 0) pe_int (fun _ _ => rfl)) pe_int) (pg_sub (pv 0) pe_int set_list))
          (pss_one (ps_set (i := 2) nd rfl (Or.inl rfl) (pe_op op_add (pe_op op_mul (pv 2) pe_int)
            (pe_callO oHash (hr.mono (by decide)) (by rfl) (pa_cons (pe_ix ix_list (pv 0) pe_int (fun _ _ => rfl)) (pa_cons (pe_ix ix_list (pv 0) pe_int (fun _ _ => rfl)) pa_nil))))))))
      (pss_one (ps_ret (pe_op op_mod (pe_callTy call_int1 (by rfl) z_int (by decide +kernel) (pa_cons (pv 2) pa_nil)) (pv 1))))))), ?_⟩
    refine ⟨.ref g, rfl, g, _, 0, _, rfl, rfl, SqL.of hg, rfl, _, _, rfl, rfl, _, rfl, ite2 (fun e => ?_) (fun e => ?_)⟩
    · have ap : 0 < a := of_decide_eq_true e
      refine ⟨.ref g, rfl, g, _, 0, _, rfl, rfl, SqL.of hg, rfl, .inl ⟨_, rfl, _, rfl, _, _, rfl, rfl, m0, ?_⟩⟩
      have e1 : (10 : Int) ^ 100 < 2 ^ 340 := by decide
      have mb : m.natAbs < 2 ^ 340 := by
        have e3 : ((m.natAbs : Nat) : Int) = m := Int.natAbs_of_nonneg (by omega)
        have e4 : ((m.natAbs : Nat) : Int) < ((2 ^ 340 : Nat) : Int) := by
          rw [e3]
          exact Int.lt_trans m1 e1
        exact Int.ofNat_lt.mp e4
      refine ⟨.ref g, rfl, g, _, 0, _, rfl, rfl, SqL.of hg, rfl, _, rfl, _, _, rfl, rfl, wide_div m0 mb (by decide) (by decide), .ref g, rfl, g, _, 0, 0, rfl, rfl, hg, rfl, _, rfl, ?_⟩
      obtain ⟨r0, r1⟩ := mod_in a m0
      refine q _ _ r0 r1 But.upd ⟨a / m, b, c, upd_same, Int.ediv_nonneg a0 (by omega), ?_, b0, b1, c0, by omega⟩
      exact Int.lt_of_le_of_lt (Int.ediv_le_self m a0) a1
    · have hb := bits_small m0 m1
      refine ⟨_, rfl, m, rfl, _, _, rfl, rfl, ⟨by decide, by decide⟩, _, _, rfl, rfl, _, rfl, by omega, by omega, ?_⟩
      refine for_range (lo := 0) (n := (1 + ((Builtin.Int.intBits m : Nat) : Int) / 30).toNat)
        (fun i σ H' => ∃ (d : Int) (y : Option V), σ = [some (.ref g), some (.int m), some (.int d), y] ∧ But H H' g ∧ H' g = some (.lst [.int a, .int b, .int (c + i)]))
        ⟨0, none, rfl, But.refl H g, by rw [hg]; simp⟩ ?_ ?_
      · rintro i σ H' hi ⟨d, y, rfl, bt, eg⟩
        refine ⟨.ref g, rfl, g, _, 2, _, rfl, rfl, SqL.of eg, rfl, _, _, rfl, rfl, .ref g, rfl, g, _, 2, 2, rfl, rfl, eg, rfl, ?_⟩
        have e2 : (upd H' g (.lst ([V.int a, .int b, .int (c + i)].set 2 (.int (c + i + 1))))) g = some (.lst [.int a, .int b, .int (c + i + 1)]) := upd_same
        refine ⟨_, rfl, _, _, rfl, rfl, .inr ⟨by decide, by decide⟩, .ref g, rfl, g, _, 1, _, rfl, rfl, SqL.of e2, rfl, .ref g, rfl, g, _, 2, _, rfl, rfl, SqL.of e2, rfl, ?_⟩
        refine ⟨b, c + i + 1, rfl, b0, b1, by omega, ?_, fun r r0 r1 => ?_⟩
        · have : i < 13 := by omega
          omega
        · refine ⟨_, _, rfl, rfl, _, _, rfl, bt.trans But.upd, ?_⟩
          have ec : c + ((i : Nat) : Int) + 1 = c + ((i + 1 : Nat) : Int) := by omega
          rw [e2, ec]
      · rintro σ H' ⟨d, y, rfl, bt, eg⟩
        refine ⟨_, rfl, .inl ⟨_, rfl, _, rfl, _, _, rfl, rfl, m0, ?_⟩⟩
        obtain ⟨r0, r1⟩ := mod_in d m0
        refine q _ _ r0 r1 bt ⟨a, b, _, eg, a0, a1, b0, b1, by omega, ?_⟩
        have : (1 + ((Builtin.Int.intBits m : Nat) : Int) / 30).toNat ≤ 13 := by omega
        omega

theorem cut_first (ns : List Int) : cutV (ns.map V.int) none (some 1) = (ns.take 1).map V.int := by
  unfold cutV
  rw [HT.sIx_none, show HT.sIx (ns.map V.int).length (ns.map V.int).length (some 1) = min 1 (ns.map V.int).length from HT.sIx_nat _ _ 1]
  cases ns with
  | nil => rfl
  | cons x r =>
    rw [List.map_cons, List.length_cons, show min 1 ((r.map V.int).length + 1) = 1 by omega]
    rfl
def spGen (K : PySem.W.Frag) : Sp := fun vs H Q _ => ∃ (a : Addr) (ns : List Int) (k : Nat), vs = [.ref a, .int k] ∧ SqL K H a (ns.map V.int) ∧ k < 100 ∧
  ∀ (H' : Hp) (g : Addr), Same H H' → H g = none → Dr H' g (1000 * k) → Q (.ref g) H'
theorem ok_gen (F : FnP K "_law_generator" sGen f fd) (z_int : mg "int" = none) (z_len : mg "len" = none) (z_sum : mg "sum" = none) (z_max : mg "max" = none) :
    FnOk P w K mg base CX0 1 f fd ["_law_script", "_law_index"] (spGen K) := by
  have nd := scGen.nd
  refine F.ok scGen (fun vs H Q E h => ?_) (fun cdv A outer s H vs Q E hr h => ?_)
  · obtain ⟨a, ns, k, rfl, _⟩ := h
    rfl
  · obtain ⟨a, ns, k, rfl, hS, hk, q⟩ := h
    refine ⟨_, PSs.nox (pss_cons (ps_set (i := 2) nd rfl (Or.inl rfl) (pe_ifExp (pt_cmpR op_lt (pv 1) (pe_callB call_len (by rfl) z_len boot_len (pa_cons (pv 0) pa_nil)) (nomark _)) (pe_ix ix_list (pv 0) (pv 1) (fun _ _ => rfl)) (pe_op op_mod (pe_callB (cr_sum rfl) (by rfl) z_sum (by decide +kernel) (pa_cons (pe_slice sl_list (pv 0) po_none (po_some pe_int)) pa_nil)) pe_int)))
 (pss_one (ps_ret (pe_lst (pa_cons (pe_op op_mod (pe_callTy call_int1 (by rfl) z_int (by decide +kernel) (pa_cons (pe_callB (call_max2 rfl) (by rfl) z_max (by decide +kernel) (pa_cons (pe_op op_sub (pv 2) (pe_op op_pow pe_int pe_int)) (pa_cons pe_int pa_nil))) pa_nil)) (pe_op op_powW (pe_op op_pow pe_int pe_int) pe_int)) (pa_cons (pe_op op_mod (pe_callTy call_int1 (by rfl) z_int (by decide +kernel) (pa_cons (pv 2) pa_nil)) pe_int) (pa_cons (pe_op op_mul pe_int (pv 1)) pa_nil))))))), ?_⟩
    have last : ∀ (H' : Hp) (sd : Int), Same H H' → (∀ g, H' g = none → H g = none) → tRet (tLst (tCons (tOp (rI (fun _ j => 0 < j) fun i j => .int (i % j)) (tCB (fun xs H Q => (∃ i, xs = [.int i] ∧ Q (.int i) H) ∨ ∃ k, xs = [.bl k] ∧ Q (.int (if k then 1 else 0)) H) (tCons (tCB (fun xs H Q => ∃ i j, xs = [.int i, .int j] ∧ Q (.int (if j > i then j else i)) H) (tCons (tOp (rI0 fun i j => .int (i - j)) (tVar 2) (tOp (rI CPow fun i j => .int (i ^ j.toNat)) (tC (.int 10)) (tC (.int 18)))) (tCons (tC (.int 0)) tNil))) tNil)) (tOp (rI CPowW fun i j => .int (i ^ j.toNat)) (tOp (rI CPow fun i j => .int (i ^ j.toNat)) (tC (.int 10)) (tC (.int 60))) (tC (.int 10)))) (tCons (tOp (rI (fun _ j => 0 < j) fun i j => .int (i % j)) (tCB (fun xs H Q => (∃ i, xs = [.int i] ∧ Q (.int i) H) ∨ ∃ k, xs = [.bl k] ∧ Q (.int (if k then 1 else 0)) H) (tCons (tVar 2) tNil)) (tC (.int 2147483647))) (tCons (tOp (rI CMul fun i j => .int (i * j)) (tC (.int 1000)) (tVar 1)) tNil)))) { nx := fun _ H' => Q .non H', rt := Q } [some (.ref a), some (.int k), some (.int sd)] H' := by
      intro H' sd sm fr
      refine ⟨_, rfl, _, _, rfl, rfl, ⟨by decide, by decide, by decide⟩, _, _, rfl, rfl, _, _, rfl, .inl ⟨_, rfl, _, _, rfl, rfl, ⟨by decide, by decide, by decide⟩, _, _, rfl, rfl, ⟨by decide, by decide +kernel⟩, _, _, rfl, rfl, (by show (0 : Int) < ((10 : Int) ^ (60 : Int).toNat) ^ (10 : Int).toNat; decide +kernel), ?_⟩⟩
      refine ⟨_, rfl, .inl ⟨_, rfl, _, _, rfl, rfl, (by show (0 : Int) < 2147483647; decide), _, rfl, _, _, rfl, rfl, .inl ⟨by decide, by decide⟩, by show 3 ≤ sizeLine; decide, fun p np => ?_⟩⟩
      obtain ⟨m0, m1⟩ := mod_in sd (m := 2147483647) (by decide)
      have e600 : ((10 : Int) ^ (60 : Int).toNat) ^ (10 : Int).toNat = 10 ^ 600 := by decide +kernel
      have p600 : (0 : Int) < 10 ^ 600 := by decide +kernel
      refine q _ p (sm.trans (same_new np)) (fr p np) ⟨_, _, _, upd_same, ?_, ?_, m0, m1, by omega, by omega⟩
      · rw [e600]
        exact (mod_in _ p600).1
      · rw [e600]
        exact (mod_in _ p600).2
    refine ⟨_, rfl, .ref a, rfl, _, (ns.map V.int).length, rfl, Or.inl ⟨_, hS, rfl⟩, _, _, rfl, rfl, _, rfl, ite2 (fun e => ?_) (fun e => ?_)⟩
    · have lt : (k : Int) < ((ns.map V.int).length : Nat) := of_decide_eq_true e
      have lt2 : k < ns.length := by
        rw [List.length_map] at lt
        omega
      have g : (ns.map V.int)[k]? = some (.int ns[k]) := by
        rw [List.getElem?_map, List.getElem?_eq_getElem lt2]
        rfl
      exact ⟨.ref a, rfl, _, rfl, a, _, _, _, rfl, rfl, hS, atI_nat g, last H _ (Same.refl H) fun _ z => z⟩
    · refine ⟨.ref a, rfl, _, rfl, a, _, rfl, hS, fun p np => ?_⟩
      rw [cut_first]
      refine ⟨p, ns.take 1, rfl, SqL.of upd_same, _, _, rfl, rfl, (by show (0 : Int) < 1000003; decide), ?_⟩
      refine last _ _ (same_new np) fun g ng => ?_
      by_cases eg : g = p
      · rw [eg]
        exact np
      · rw [upd_ne eg] at ng
        exact ng
end
end KK
set_option Elab.async false
set_option linter.all false
set_option maxRecDepth 100000
set_option maxHeartbeats 4000000
namespace XV
open PySem PySem.Spec PyProof.Rows L2
/-- any(t), t a tuple of flat data -/
def rAnyT (K : PySem.W.Frag) : List V → Hp → VK → Prop := fun vs H Q => ∃ (a : Addr) (xs : List V) (ds : List PyData), vs = [V.ref a] ∧ SqT K H a xs ∧ DpAll K H xs ds ∧ PyData.plainAll ds = true ∧ (∀ d ∈ ds, d.fits63) ∧ Q (.bl (ds.any PyData.truthy)) H
theorem call_anyT {X : Cx} (hc : X.calm = true) : CallR X (.builtin "any") (rAnyT X.K) := by
  intro pins s σ H vs us Q I r h
  obtain ⟨a, xs, ds, rfl, hs, hd, hp, hf, q⟩ := h
  obtain ⟨its, rv, ht, _⟩ := I.tuple hs
  rw [Vals.ref1 r]
  obtain ⟨as, hr⟩ := Dp.readsAll I ds xs its hd rv
  refine PySem.W.any_tuple_data (as := as) (I.ok.hd hc) (vs := its.toArray) (l := a) ?_ (xs := ds) (by simpa using hr) hp hf fun h' tk k => ?_
  · exact ht
  · exact ⟨.bl _, H, I.kept (t' := tk) k, rfl, q⟩
/-- a text times a number -/
theorem op_mulS {X : Cx} : OpR X (binaryOp .Mult) (fun x y H Q => ∃ (z : Str) (i : Int), x = .str z ∧ y = .int i ∧ MulOk z i ∧ Q (.str (Txt.mul z i)) H) := by
  intro pins s σ H x y v u Q I rx ry h
  obtain ⟨z, i, rfl, rfl, hok, q⟩ := h
  obtain ⟨t, rfl⟩ := rx
  obtain ⟨t2, rfl⟩ := ry
  exact SB.mul hok fun t' k => ⟨.str _, H, I.tok k, ⟨t', rfl⟩, q⟩
theorem ip_addS {X : Cx} : PIp X .Add (fun x y H Q => ∃ i j : Str, x = .str i ∧ y = .str j ∧ i.length + j.length ≤ sizeLine ∧ Q (.str (i ++ j)) H) := by
  intro pins s σ H x y v u Q I rx ry h
  exact iop_add_str pins s σ H x y v u Q I rx ry h
end XV
set_option Elab.async false
set_option linter.all false
set_option maxRecDepth 100000
set_option maxHeartbeats 2000000
/-! zip of a tuple (first) and a list (second). -/
namespace XV
open PySem PySem.Spec PyProof.Rows L2
/-- the tuple at a and the list at b, as they are when a turn begins; each turn's two items come in a pair of their own -/
def ItzM (K : PySem.W.Frag) (a b : Addr) : It where
  go := fun i H => ∃ (xs ys : List V) (x y : V), SqT K H a xs ∧ SqL K H b ys ∧ xs[i]? = some x ∧ ys[i]? = some y
  yld := fun i H v H' => ∃ T x y, v = .ref T ∧ H T = none ∧ H' = upd H T (.tup [x, y]) ∧ (∀ xs, SqT K H a xs → xs[i]? = some x) ∧ ∀ ys, SqL K H b ys → ys[i]? = some y
  stop := fun i H => ∃ xs ys : List V, (SqT K H a xs ∧ SqL K H b ys) ∧ (xs.length = i ∨ ys.length = i) ∧ i ≤ xs.length ∧ i ≤ ys.length
/-- where such a zip's parts stand, ahead of turn i -/
def AtM (a b z tI tO j k : Addr) (i : Nat) (h : Heap) : Prop :=
  IsZip h z tI tO .none ∧ IsPair h tI (.ref j) (.ref k) ∧ (∃ p q, IsPair h tO p q) ∧ h.IsTupleIter j a i ∧ h.IsListIter k b i
theorem sep_of {z tI tO j k a b : Addr} (D : ZipApart z tI tO j k a b) : ZipSep2 z tI tO j k [j, a] [k, b] where
  TIz := D.TIz
  TOz := D.TOz
  TITO := D.TITO
  TIi1 := D.TIi1
  mem1 := List.mem_cons_self
  zf1 := by simp [D.i1z.symm, D.l1z.symm]
  Tf1 := by simp [D.TOi1, D.l1TO.symm]
  TIi2 := D.TIi2
  mem2 := List.mem_cons_self
  zf2 := by simp [D.i2z.symm, D.l2z.symm]
  Tf2 := by simp [D.TOi2, D.l2TO.symm]
  sep1_2 := by simp [D.i12, D.l2i1.symm]
  sep2_1 := by simp [D.i12.symm, D.l1i2.symm]
theorem turnM {P : Program} {w : World} {K : PySem.W.Frag} {es : List Expr} {kk : Nat} {tp : Pos} {a b z tI tO j k : Addr} (D : ZipApart z tI tO j k a b) :
    Turn P w K (.Tuple es kk tp) (ItzM K a b) [z, tI, tO, j, k] z (AtM a b z tI tO j k) where
  mem := List.mem_cons_self
  obj := fun i h ⟨s1, s2, ⟨p, q, s3⟩, ⟨o1, e1, _, d1⟩, ⟨o2, e2, _, d2⟩⟩ c hc => by
    simp only [List.mem_cons, List.not_mem_nil, or_false] at hc
    rcases hc with rfl | rfl | rfl | rfl | rfl
    · exact ⟨_, s1, fun _ x => nomatch x⟩
    · exact ⟨_, s2, fun _ x => nomatch x⟩
    · exact ⟨_, s3, fun _ x => nomatch x⟩
    · exact ⟨o1, e1, fun _ x => by rw [d1] at x; cases x⟩
    · exact ⟨o2, e2, fun _ x => by rw [d2] at x; cases x⟩
  keep := fun i h h' ⟨s1, s2, ⟨p, q, s3⟩, s4, s5⟩ kp =>
    ⟨kp z (by simp) _ s1, kp tI (by simp) _ s2, ⟨p, q, kp tO (by simp) _ s3⟩, s4.at (fun o e => kp j (by simp) o e), s5.at (fun o e => kp k (by simp) o e)⟩
  item := by
    intro X eP ew eK calm i pins s σ H E I fp st gg
    subst eP ew eK
    obtain ⟨s1, s2, ⟨p0, q0, s3⟩, s4, s5⟩ := st
    obtain ⟨xs, ys, x, y, tx, ly, ex, ey⟩ := gg
    obtain ⟨us, ru, pu, _⟩ := I.tuple tx
    obtain ⟨vs, rv, pw, _⟩ := I.list ly
    obtain ⟨u, eu, rux⟩ := ru.get ex
    obtain ⟨v, ev, rvy⟩ := rv.get ey
    have zlt : z < s.heap.objs.size := Heap.lt_size s1
    have hu : i < us.toArray.size := by
      have := (List.getElem?_eq_some_iff.mp eu).1
      simpa using this
    have hv : i < vs.toArray.size := by
      have := (List.getElem?_eq_some_iff.mp ev).1
      simpa using this
    have hh : X.A.in1.handled = none := I.ok.hd calm
    refine wpAny_pyNext_zipD2_item (sep_of D) (Draws.tuple hh j a D.l1i1 us.toArray) (Draws.list hh k b D.l2i2 vs.toArray) s1 s2 s3 ⟨s4, pu⟩ ⟨s5, pw.isList⟩ hu hv fun x1 x2 h' tk d1 d2 z1 t1 n1 n2 new sz kp => ?_
    have e1 : x1 = u := Option.some.inj (d1.symm.trans (by simpa using eu))
    have e2 : x2 = v := Option.some.inj (d2.symm.trans (by simpa using ev))
    subst e1 e2
    refine ⟨_, rfl, wpAny_letOwnedTupleGo_zip (s := { s with heap := h', toks := tk }) z1 fun g z2 sb => ?_⟩
    have far : ∀ c, c = z ∨ c = tI ∨ c = tO ∨ c = j ∨ c = k → c < s.heap.objs.size := fun c hc => by
      rcases hc with rfl | rfl | rfl | rfl | rfl
      · exact zlt
      · exact Heap.lt_size s2
      · exact Heap.lt_size s3
      · obtain ⟨_, q, _⟩ := s4
        exact Heap.lt_size q
      · obtain ⟨_, q, _⟩ := s5
        exact Heap.lt_size q
    have fresh : g.get? s.heap.objs.size = some { cls := .type "tuple", data := .seq #[x1, x2] } := (sb.2 _ (Nat.ne_of_gt zlt)).trans new
    have ok2 : ObjOk X.prog X.w (upd H s.heap.objs.size (.tup [x, y])) g s.heap.objs.size (.tup [x, y]) := ⟨(by show 2 ≤ sizeLine; decide), [x1, x2], .cons rux (.cons rvy .nil), ⟨_, fresh, rfl, _, rfl⟩⟩
    have J := I.turnedNew (t' := tk) (h' := g) (ch := [z, tI, tO, j, k]) (fun c o out q => (sb.2 c (fun e => out (by simp [e]))).trans (kp c o (fun e => out (by simp [e])) (fun e => out (by simp [e])) (fun e => out (by simp [e])) (fun e => out (by simp [e])) q)) fp (Nat.le_refl _) ok2
    refine ⟨.ref s.heap.objs.size, _, J, rfl, ⟨_, x, y, rfl, I.hok.fresh (Nat.le_refl _), rfl, fun l hl => (I.tuple_inj hl tx) ▸ ex, fun l hl => (I.list_inj hl ly) ▸ ey⟩, ⟨z2, (sb.2 _ D.TIz).trans (kp _ _ D.TIz D.TITO D.TIi1 D.TIi2 s2), ⟨x1, x2, (sb.2 _ D.TOz).trans t1⟩, n1.1.at (fun o q => (sb.2 _ D.i1z).trans q), n2.1.at (fun o q => (sb.2 _ D.i2z).trans q)⟩, fun c hc => ?_⟩
    simp only [List.mem_cons, List.not_mem_nil, or_false] at hc
    rw [upd_ne (Nat.ne_of_lt (far c hc))]
    exact (fp c (by simpa using hc)).1
  done := by
    intro X eP ew eK calm i pins s σ H E I fp st gg
    subst eP ew eK
    obtain ⟨s1, s2, ⟨p0, q0, s3⟩, s4, s5⟩ := st
    obtain ⟨xs, ys, ⟨tx, ly⟩, stop, l1, l2⟩ := gg
    obtain ⟨us, ru, pu, _⟩ := I.tuple tx
    obtain ⟨vs, rv, pw, _⟩ := I.list ly
    have n1 := ru.length
    have n2 := rv.length
    have hh : X.A.in1.handled = none := I.ok.hd calm
    refine wpAny_pyNext_zipD2_end (sep_of D) (Draws.tuple hh j a D.l1i1 us.toArray) (Draws.list hh k b D.l2i2 vs.toArray) s1 s2 s3 ⟨s4, pu⟩ ⟨s5, pw.isList⟩ (by simp; omega) (by simp; omega) (by simp; omega) fun h' tk kp => ⟨rfl, ?_⟩
    exact I.turnedL (t' := tk) (ch := [z, tI, tO, j, k]) (fun c o out q => kp c o (fun e => out (by simp [e])) (fun e => out (by simp [e])) (fun e => out (by simp [e])) (fun e => out (by simp [e])) q) fp
  self := fun A i s Q E st q => wpAny_pyIter_zip st.1 q
/-- .. in zip(e, e2) -/
def iZipM (K : PySem.W.Frag) (ta : TA) : TI := fun σ H R => ta σ H fun vs H1 => ∃ a b xs ys, vs = [.ref a, .ref b] ∧ (SqT K H1 a xs ∧ SqL K H1 b ys) ∧ R (ItzM K a b) H1
theorem pi_zipM {X : Cx} {e e2 : Expr} {ta : TA} {p pos tp : Pos} {es : List Expr} {kk : Nat} (gl : Gl X "zip") (z_zip : X.mg "zip" = none) (ha : PA X [e, e2] ta)
    (hs : starEach [e, e2] X.env = (false, eval e X.env) :: starEach [e2] X.env := by rfl) (np : (backTo pos (starEach [e2] X.env)).any (·.1) = false := by rfl) :
    PI X (.Tuple es kk tp) (.Call (.Name "zip" p) [e, e2] [] pos) (iZipM X.K ta) := by
  refine ⟨fun pins s σ H R I h => Call_ (ld_blt I gl z_zip PyProof.Rows.boot_zip (PyProof.Rows.callWith_type1 (thn (ha.run pos pins s σ H _ I h) fun us s1 ⟨vs, H1, J, rv, q⟩ => ?_) hs np))⟩
  obtain ⟨a, b, xs, ys, rfl, ⟨tx, ly⟩, q⟩ := q
  obtain ⟨u1, u2, rfl, r1, r2⟩ := vals2 rv
  cases r1
  cases r2
  obtain ⟨ps, _, pu, _⟩ := J.tuple tx
  obtain ⟨qs, _, pw, _⟩ := J.list ly
  have lt1 : a < s1.heap.objs.size := by
    obtain ⟨o, ho, _⟩ := id pu
    exact Heap.lt_size ho
  have lt2 : b < s1.heap.objs.size := pw.lt
  refine zip_begins2 (begins_tuple a ps.toArray) (begins_list b qs.toArray) pu pw.isList fun h' z1 t1 t2 g1 g2 sz kp => wpAny_pyIter_zip z1 ?_
  have J2 : Inv X pins σ H1 { s1 with heap := h' } := J.kept (t' := s1.toks) kp
  refine ⟨s1.heap.objs.size + 4, [s1.heap.objs.size + 4, s1.heap.objs.size + 2, s1.heap.objs.size + 3, s1.heap.objs.size, s1.heap.objs.size + 1], _, _, H1, rfl, J2, turnM (PySem.W.ktu_apart s1.heap.objs.size a b lt1 lt2), ⟨z1, t1, ⟨_, _, t2⟩, ⟨_, g1, rfl, rfl⟩, ⟨_, g2, rfl, rfl⟩⟩, fun c hc => ?_, q⟩
  have le : s1.heap.objs.size ≤ c := by
    simp only [List.mem_cons, List.not_mem_nil, or_false] at hc
    rcases hc with rfl | rfl | rfl | rfl | rfl
    · exact Nat.le_add_right _ 4
    · exact Nat.le_add_right _ 2
    · exact Nat.le_add_right _ 3
    · exact Nat.le_refl _
    · exact Nat.le_add_right _ 1
  exact J.fpOk le (J.hok.fresh le)
end XV
set_option Elab.async false
set_option linter.all false
set_option maxRecDepth 100000
set_option maxHeartbeats 2000000
namespace XV
open PySem PySem.Spec PyProof.Rows L2
/-- a comprehension over zip of a tuple and a list of one length -/
theorem lc_zipM {K : PySem.W.Frag} {a b : Addr} {xs ys : List V} {g : TG} {tt : TT} {te : TE} {vs : List Nat} {σ : L2.St} {H1 : Hp} {D : Addr} {Qd : Hp → Prop} (hl : xs.length = ys.length) (Pv : Nat → Hp → Prop) (h0 : Pv 0 (upd H1 D (.lst [])))
    (hq : ∀ i H, Pv i H → SqT K H a xs ∧ SqL K H b ys)
    (hs : ∀ (i : Nat) (x y : V) (T : Addr) (H : Hp), xs[i]? = some x → ys[i]? = some y → Pv i H → H T = none → g (.ref T) (wipe σ vs) (upd H T (.tup [x, y])) fun σ2 H2 => wipe σ2 vs = wipe σ vs ∧ tt σ2 H2 fun c H3 =>
      if c = true then te σ2 H3 fun r H4 => ∃ acc, H4 D = some (.lst acc) ∧ acc.length < sizeLine ∧ Pv (i + 1) (upd H4 D (.lst (acc ++ [r]))) else Pv (i + 1) H3)
    (hd : ∀ H, Pv xs.length H → Qd H) :
    ∃ W : Nat → Nat → Hp → Prop, (∃ m, W 0 m (upd H1 D (.lst []))) ∧ ∀ i m H, W i m H →
      ((ItzM K a b).stop i H ∧ Qd H) ∨ ((ItzM K a b).go i H ∧ ∃ Nx : Hp → Prop, (∀ H', Nx H' → ∃ m', m' < m ∧ W (i + 1) m' H') ∧ ∀ x H', (ItzM K a b).yld i H x H' → g x (wipe σ vs) H' fun σ2 H2 => wipe σ2 vs = wipe σ vs ∧ tt σ2 H2 fun c H3 =>
        if c = true then te σ2 H3 fun r H4 => ∃ acc, H4 D = some (.lst acc) ∧ acc.length < sizeLine ∧ Nx (upd H4 D (.lst (acc ++ [r]))) else Nx H3) := by
  refine ⟨fun i m H => m + i = xs.length ∧ Pv i H, ⟨xs.length, rfl, h0⟩, ?_⟩
  rintro i m H ⟨em, p⟩
  obtain ⟨q1, q2⟩ := hq i H p
  cases m with
  | zero =>
    have e : i = xs.length := by omega
    subst e
    exact .inl ⟨⟨xs, ys, ⟨q1, q2⟩, .inl rfl, Nat.le_refl _, by omega⟩, hd H p⟩
  | succ m =>
    have l1 : i < xs.length := by omega
    have l2 : i < ys.length := by omega
    have g1 := List.getElem?_eq_getElem l1
    have g2 := List.getElem?_eq_getElem l2
    refine .inr ⟨⟨xs, ys, _, _, q1, q2, g1, g2⟩, Pv (i + 1), fun H' p' => ⟨m, Nat.lt_succ_self m, by omega, p'⟩, ?_⟩
    rintro v H' ⟨T, x, y, rfl, nT, rfl, f1, f2⟩
    exact hs i x y T H (f1 xs q1) (f2 ys q2) p nT
/-- ix of a tuple, len of a text: where the part of the heap must be told -/
theorem ix_tupK {X : Cx} {K : PySem.W.Frag} (e : X.K = K) : IxR X (rIxT K) := by
  subst e
  exact ix_tup
theorem ix_listK {X : Cx} {K : PySem.W.Frag} (e : X.K = K) : IxR X (rIxL K) := by
  subst e
  exact ix_list
theorem cr_sumK {X : Cx} {K : PySem.W.Frag} (e : X.K = K) (hc : X.calm = true) : CallR X (.builtin "sum") (rSum K) := by
  subst e
  exact cr_sum hc
theorem pi_listK {X : Cx} {K : PySem.W.Frag} {tg l : Expr} {tl : TE} (e : X.K = K) (hl : PE X l tl) : PI X tg l (iList K tl) := by
  subst e
  exact pi_list hl
end XV
set_option Elab.async false
set_option linter.all false
set_option maxRecDepth 100000
set_option maxHeartbeats 4000000
/-! Defs that are called where no repr is under way: what is around them has no guards. -/
namespace XV
open PySem PySem.Spec PyProof.Rows L2
structure FnG (P : Program) (w : World) (K : PySem.W.Frag) (mg : Str → Option Value) (base : Heap) (Z : CXT) (k : Nat) (f : Addr) (fd : FuncData) (ps : List Str) (sp : Sp) : Prop where
  gl : ∀ l H Q E, sp l H Q E → l.length = ps.length
  go : ∀ (A : Around) (o : List Env) (s : Shared) (H : Hp) (ar : Args) (us : List Value) (l : List V) (Q : VK) (E : XK), A.guards = some [] → Room k A → Env0 P w K mg base A o s H → BindsTo s fd ar (ps.zip us) → Vals l us → sp l H Q E →
    codeAny (model P w) A (.call (.ref f) ar) (CR Z o P w H s Q E) s
theorem FnG.of {P : Program} {w : World} {K : PySem.W.Frag} {mg : Str → Option Value} {base : Heap} {Z : CXT} {k : Nat} {f : Addr} {fd : FuncData} {ps : List Str} {sp : Sp} (F : FnOk P w K mg base Z k f fd ps sp) : FnG P w K mg base Z k f fd ps sp :=
  ⟨F.len, fun A o s H ar us l Q E _ => F.run A o s H ar us l Q E⟩
section
variable {P : Program} {w : World} {K : PySem.W.Frag} {mg : Str → Option Value} {base : Heap} {x qual : Str} {params : Arguments} {body : List Stmt} {scope : Scope} {dvs : List V} {kws : List (Str × V)} {f : Addr} {fd : FuncData}
/-- a def by its body, where nothing guards -/
theorem okG {Z : CXT} {N ps : List Str} {k : Nat} {sp : Sp} (F : FunD K x qual params body scope dvs kws f fd) (S : FnScope N ps scope) (gl : ∀ l H Q E, sp l H Q E → l.length = ps.length)
    (bd : ∀ (cdv : Value) (A : Around) (o : List Env) (s : Shared) (H : Hp) (l : List V) (Q : VK) (E : XK), (A.deeper (envOfC qual scope s.heap.objs.size f cdv)).guards = some [] → Room k (A.deeper (envOfC qual scope s.heap.objs.size f cdv)) → sp l H Q E →
      ∃ t, PSs (cxOf Z P w K mg base N qual scope f cdv A o s H E) body t ∧ t { nx := fun _ H' => Q .non H', rt := Q } (start N l) H) : FnG P w K mg base Z (k + 1) f fd ps sp := by
  obtain ⟨oc, od, dV, kV, doc, pm, an, cdv, ct, osl, rfl, lk, hcd, _, _⟩ := F.ex
  refine ⟨gl, fun A o s H ar us l Q E ag hr e0 hb r hs => ?_⟩
  have hlen := gl _ _ _ _ hs
  have inK : K.In s.heap := e0.mod.kin.keeps fun b ob e => (e0.bs b ob e).1
  have nol : s.heap.NoLimit := e0.mod.nolimit.keeps fun b ob e => (e0.bs b ob e).1
  have kinds : ∀ y ∈ ps.zip us, scope.names.lookup y.1 = some .local ∨ (scope.names.lookup y.1 = some .cell ∧ ((cellsFrom (s.heap.objs.size + 1) scope.names []).lookup y.1).isSome = true) := by
    rintro ⟨n, v⟩ hy
    exact (S.par n (List.of_mem_zip hy).1).imp id fun q => ⟨q, PySem.W.cellsFrom_some _ _ _ (.inl q)⟩
  refine codeAny_call_function hr.depth (inK _ _ lk) rfl S.co S.gen rfl (PySem.W.codeRec_of inK hcd) (hb _ _ _ _ ?_)
  refine wpAny_newFunctionEnv_cells S.kind kinds fun env he s1 xx => ?_
  subst he
  refine ⟨nol.keeps xx.toInCall.keep, codeAny_func ?_⟩
  obtain ⟨t, ht, hq⟩ := bd cdv A o s H l Q E (show A.guards = some [] from ag) (hr.deeper _) hs
  have J0 := inv_start (CX := Z) (E := E) S hr.hd e0 hlen r xx
  refine wpAny_mono (ht.run [] s1 (start N l) H _ J0 hq) (fun fl s' z => ?_) fun e s' z => z
  have done : ∀ {τ : L2.St} {H' : Hp} {v : V} {u : Value}, Inv (cxOf Z P w K mg base N qual scope f cdv A o s H E) [] τ H' s' → RelV v u → Q v H' → CE o P w H s Q u s' := fun J rv q => ⟨_, _, J.os, J.bare, J.base, J.hok, rv, q⟩
  cases fl with
  | next =>
    obtain ⟨τ, H', J, q⟩ := z
    exact done (v := V.non) (u := Value.none) J rfl q
  | ret u =>
    obtain ⟨v, τ, H', J, rv, q⟩ := z
    exact done J rv q
  | brk =>
    obtain ⟨_, _, _, q⟩ := z
    exact q.elim
  | cont =>
    obtain ⟨_, _, _, q⟩ := z
    exact q.elim
end
/-- the module's name x is a def that keeps sp where nothing guards -/
structure OkG (P : Program) (w : World) (K : PySem.W.Frag) (mg : Str → Option Value) (base : Heap) (x : Str) (k : Nat) (ps : List Str) (sp : Sp) : Prop where
  ex : ∃ f fd, FnG P w K mg base CX0 k f fd ps sp ∧ mg x = some (.ref f) ∧ PySem.W.keepIn K (.ref f) = true ∧ Binds K fd ps []
section
variable {X : Cx} {k : Nat} {f : Addr} {fd : FuncData} {ps : List Str} {sp : Sp} {x : Str} {e : Expr} {es : List Expr} {t : TA} {p pos : Pos}
theorem run_g {pins : List (Addr × Obj)} {σ : L2.St} {H : Hp} {s : Shared} {Q : VK} {us : List Value} {l : List V} (F : FnG X.prog X.w X.K X.mg X.base CX0 k f fd ps sp) (ag : X.A.guards = some []) (hr : Room k X.A) (hb : Binds X.K fd ps [])
    (I : Inv X pins σ H s) (r : Vals l us) (h : sp l H Q E0) : wpAny (model X.prog X.w) X.A (call (.ref f) us) (EP X pins σ Q) X.xe s := by
  have hl : us.length = ps.length := r.length ▸ F.gl _ _ _ _ h
  have b := hb s us I.kIn (by rw [List.append_nil]; exact hl)
  rw [List.append_nil] at b
  refine wpAny_call (codeAny_mono (F.go X.A X.stack s H ⟨us, []⟩ us l Q E0 ag hr I.env0 b r h) fun r' s' hq => ?_)
  cases r' with
  | error er => exact hq.elim
  | ok fl => cases fl with
    | ret u => exact I.after hq
    | next => exact hq.elim
    | brk => exact hq.elim
    | cont => exact hq.elim
theorem pe_callG (o : OkG X.prog X.w X.K X.mg X.base x k ps sp) (ag : X.A.guards = some []) (hr : Room k X.A) (hg : Gl X x) (ha : PA X (e :: es) t) (hdb : (x == ("__debug__" : Str)) = false := by decide)
    (he : starEach (e :: es) X.env = (false, eval e X.env) :: starEach es X.env := by rfl) (hpl : (backTo pos (starEach es X.env)).any (·.1) = false := by rfl) :
    PE X (.Call (.Name x p) (e :: es) [] pos) (fun σ H Q => t σ H fun l H1 => sp l H1 Q E0) := by
  obtain ⟨f, fd, F, hm, hk, b⟩ := o.ex
  refine ⟨fun pins s σ H Q I h => ?_⟩
  refine wpAny_Call_Name_kw (ld_glob I hg hm ?_ hdb)
  refine PySem.W.callWith_K (h₀ := X.base) I.ok.mod.kin hk (thn (ha.run pos pins s σ H _ I h) fun us s1 z => ?_) he hpl
  obtain ⟨l, H1, I1, r, q⟩ := z
  exact ⟨I1.kIn, run_g F ag hr b I1 r q⟩
theorem pe_callG0 (o : OkG X.prog X.w X.K X.mg X.base x k ps sp) (ag : X.A.guards = some []) (hr : Room k X.A) (hg : Gl X x) (hdb : (x == ("__debug__" : Str)) = false := by decide) :
    PE X (.Call (.Name x p) [] [] pos) (fun σ H Q => sp [] H Q E0) := by
  obtain ⟨f, fd, F, hm, hk, b⟩ := o.ex
  refine ⟨fun pins s σ H Q I h => ?_⟩
  refine wpAny_Call_Name_kw (ld_glob I hg hm ?_ hdb)
  exact PySem.W.callWith_K0 I.kIn hk (run_g (us := []) F ag hr b I .nil h)
end
theorem OkG.mk' {P : Program} {w : World} {K : PySem.W.Frag} {mg : Str → Option Value} {base : Heap} {x : Str} {k : Nat} {ps : List Str} {sp : Sp} {body : List Stmt} {params : Arguments} {scope : Scope} {f : Addr} {fd : FuncData}
    (F : FunD K x x params body scope [] [] f fd) (g : mg x = some (.ref f)) (b : ∀ (kV doc pm : Value) (an : Option Addr) (cdv ct : Value) (us : List Value), us.length = ps.length → bindArgs (PySem.W.fnOf x x params body scope .none kV doc pm an cdv ct) ⟨us, []⟩ = pure (ps.zip us))
    (ok : FnG P w K mg base CX0 k f fd ps sp) : OkG P w K mg base x k ps sp := ⟨f, fd, ok, g, F.kp, F.bindsN b⟩
end XV
set_option Elab.async false
set_option linter.all false
set_option maxRecDepth 100000
set_option maxHeartbeats 4000000
/-! The end of a law whose def is told of where nothing guards. -/
namespace XV
open PySem PySem.Spec PyProof.Rows L2
theorem law_g {P : Program} {w : World} {K : PySem.W.Frag} {mg mb : Str → Option Value} {k : Nat} {fa a : Addr} {fd : FuncData} {x : Str} {sp : Sp} {s : Shared} {us : List Value} {ns : List Int}
    (KX : K.In s.heap) (gn : s.heap.Ns mainGlobals mg) (bn : s.heap.Ns builtinsNs mb) (bb : ∀ y : Str, y ≠ "__name__" → mb y = bootBuiltins y) (nl : s.heap.NoLimit) (g0 : s.gens = #[])
    (ha : s.heap.get? a = some { cls := .type "list", data := .seq us.toArray }) (hi : IntsAre us ns) (hl : ns.length ≤ sizeLine) (hr : Room k callerA)
    (F : ∀ base : Heap, K.In base → base.Ns mainGlobals mg → FnG P w K mg base CX0 k fa fd [x] sp) (hb : ∀ (s' : Shared) (u : Value), BindsTo s' fd ⟨[u], []⟩ [(x, u)])
    (hsp : ∀ H : Hp, Only H → SqL K H a (ns.map V.int) → sp [.ref a] H (fun v _ => v = .bl true) fun _ _ _ => False) :
    codeAny (model P w) callerA (.call (.ref fa) ⟨[.ref a], []⟩) (fun r s' => r = .ok (.ret (.bool true)) ∧ OldK s.heap s'.heap ∧ s'.os = s.os ∧ AllBare s'.gens) s := by
  have rv := vals_ints hi
  have len := hi.length
  -- H tells of the script alone, or of nothing
  have main : ∀ H : Hp, Only H → SqL K H a (ns.map V.int) → HOk P w H s.heap → (∀ b, H b ≠ none → b = a) → (H a ≠ none → K.lookup a = none) →
      codeAny (model P w) callerA (.call (.ref fa) ⟨[.ref a], []⟩) (fun r s' => r = .ok (.ret (.bool true)) ∧ OldK s.heap s'.heap ∧ s'.os = s.os ∧ AllBare s'.gens) s := by
    intro H only told ok alone notK
    have part : ∀ {b : Addr} {o : Obj}, s.heap.get? b = some o → H b = none → (hidT s.heap H).get? b = some o := fun e n => hidT_get e n
    have dictN : ∀ {b : Addr} {o : Obj} {es : Array DictEntry} {ep : Nat}, s.heap.get? b = some o → o.data = .dict es ep → H b = none := by
      intro b o es ep e d
      by_cases q : H b = none
      · exact q
      · obtain rfl := alone b q
        rw [ha] at e
        cases e
        exact nomatch (show Data.seq us.toArray _ = Data.dict es ep from d)
    have nsP : ∀ {b : Addr} {m : Str → Option Value}, s.heap.Ns b m → (hidT s.heap H).Ns b m := by
      rintro b m ⟨o, es, ep, e, d, r⟩
      exact ⟨o, es, ep, part e (dictN e d), d, r⟩
    have KP : K.In (hidT s.heap H) := fun b o e => part (KX b o e) (by
      by_cases q : H b = none
      · exact q
      · obtain rfl := alone b q
        rw [notK q] at e
        cases e)
    have md : Mod K mg (hidT s.heap H) := ⟨KP, nsP gn, ⟨mb, nsP bn, bb⟩, nl.imp fun _ z => ⟨nsP z.1, z.2⟩⟩
    have st : Env0 P w K mg (hidT s.heap H) callerA [] s H := { frames := rfl, mod := md, bs := fun b o e => of_hidT e, bsz := Nat.le_of_eq (hidT_size _ _), funs := trivial, frf := fun b z => absurd (show b ∈ ([] : List Addr) from z) (by simp), hok := ok, bare := .of_eq g0 }
    refine codeAny_mono ((F _ KP (nsP gn)).go callerA [] s H ⟨[.ref a], []⟩ [.ref a] [.ref a] _ _ rfl hr st (hb s (.ref a)) (.cons rfl .nil) (hsp H only told)) fun r s' h => ?_
    cases r with
    | error er => exact h.elim
    | ok fl => cases fl with
      | next => exact h.elim
      | brk => exact h.elim
      | cont => exact h.elim
      | ret u =>
        obtain ⟨v, H', os, bare, un, ok', r', q⟩ := h
        obtain rfl : v = .bl true := q
        obtain rfl : u = Value.bool true := r'
        refine ⟨rfl, OldK.of_keep fun b o e => ?_, os, bare⟩
        by_cases q : H b = none
        · exact un.keep b o e q (fun z => nomatch (show b ∈ ([] : List Addr) from z)) (by simp)
        · rcases only b with z | ⟨ob, xs, z⟩
          · exact absurd z q
          · obtain ⟨e1, _⟩ := ok b _ z
            obtain ⟨e2, _⟩ := ok' b _ (un.frzs b ob _ z)
            rw [e] at e1
            cases e1
            exact e2
  cases hk : K.lookup a with
  | some o =>
    obtain rfl := Option.some.inj (ha.symm.trans (KX a o hk))
    exact main (fun _ => none) (fun _ => .inl rfl) (.inr ⟨_, us.toArray, _, hk, rfl, rfl, rfl, by rw [List.size_toArray, len]; exact hl, by simpa using rv⟩) (fun b u z => nomatch (show (none : Option HO) = some u from z)) (fun b z => absurd rfl z) fun z => absurd rfl z
  | none =>
    let o1 : Obj := { cls := .type "list", data := .seq us.toArray }
    have at_ : ∀ b : Addr, b = a → (fun b : Addr => if b = a then some (HO.frz o1 (.lst (ns.map V.int))) else none) b = some (.frz o1 (.lst (ns.map V.int))) := fun b e => if_pos e
    have off : ∀ b : Addr, b ≠ a → (fun b : Addr => if b = a then some (HO.frz o1 (.lst (ns.map V.int))) else none) b = none := fun b e => if_neg e
    refine main (fun b => if b = a then some (.frz o1 (.lst (ns.map V.int))) else none) (fun b => ?_) (.inl (.inr ⟨o1, if_pos rfl⟩)) (fun b u z => ?_) (fun b z => ?_) fun _ => hk
    · by_cases e : b = a
      · exact .inr ⟨_, _, at_ b e⟩
      · exact .inl (off b e)
    · by_cases e : b = a
      · cases (at_ b e).symm.trans z
        subst e
        exact ⟨ha, by rw [List.length_map]; exact hl, us, _, rv, ha⟩
      · cases (off b e).symm.trans z
    · by_cases e : b = a
      · exact e
      · exact absurd (off b e) z
theorem walk_ofG {l : PySem.W.OpenLaw} {n k : Nat} {q : Program} {loose : List Str} {XP : (Str → Option Value) → Heap → Prop} {YP : World → Heap → Prop} {d : DefRec} {x : Str}
    (hn : l.most = some n) (hz : n ≤ sizeLine) (hd : d.params.defaults = []) (hr : Room k callerA)
    (F : ∀ (w : World) (mg : Str → Option Value) (fa : Addr) (h : Heap), YP w h → h.Ns mainGlobals mg → mg d.name = some (.ref fa) →
      ∃ (K : PySem.W.Frag) (fd : FuncData) (sp : Sp), K.In h ∧ (∀ (s : Shared) (u : Value), BindsTo s fd ⟨[u], []⟩ [(x, u)]) ∧
        (∀ (H : Hp) (a : Addr) (ns : List Int), ns.length ≤ n → Only H → SqL K H a (ns.map V.int) → sp [.ref a] H (fun v _ => v = .bl true) fun _ _ _ => False) ∧
        ∀ base : Heap, K.In base → base.Ns mainGlobals mg → FnG l.prog w K mg base CX0 k fa fd [x] sp) :
    PySem.W.WalkO q loose XP YP l.row.toRowW d [] (fun f vs => PySem.call f vs) := by
  refine Att.attach_call hn hd fun w s₀ s₁ mg mb fa o pm cd doc a us ns G Y ho hd' hcd hmg hobj hints hlen hg => ?_
  obtain ⟨K, fd, sp, KX, hb, hsp, hF⟩ := F w mg fa _ Y G.T.g hmg
  exact law_g KX G.T.g G.T.b G.T.builtins G.T.nolimit hg hobj hints (Nat.le_trans hlen hz) hr hF hb fun H hO hS => hsp H a ns hlen hO hS
end XV
set_option Elab.async false
set_option linter.all false
set_option maxRecDepth 100000
set_option maxHeartbeats 4000000
/-! An error that an except suite has caught, held in a name behind the suite. -/
namespace XV
open PySem PySem.Spec PyProof.Rows L2
/-- at a: an error of the class cls that was raised and caught, its dict at d -/
def exz (a : Addr) (cls : Value) (d : Option Addr) : HO := .ext fun h => ∃ (oe : Obj) (vs : Array Value), h.get? a = some oe ∧ Zc cls d oe ∧ oe.data = .fields vs
theorem exz_ok {P : Program} {w : World} {H : Hp} {h : Heap} {a : Addr} {cls : Value} {d : Option Addr} {oe : Obj} {vs : Array Value} (e : h.get? a = some oe) (z : Zc cls d oe) (f : oe.data = .fields vs) : ObjOk P w H h a (exz a cls d) :=
  ⟨⟨oe, vs, e, z, f⟩, ⟨oe, e⟩, fun _ _ y k => y.elim fun o y => y.elim fun v y => ⟨o, v, k o y.1, y.2⟩⟩
theorem exz_at {P : Program} {w : World} {H : Hp} {h : Heap} {a : Addr} {cls : Value} {d : Option Addr} (hok : HOk P w H h) (e : H a = some (exz a cls d)) : ∃ (oe : Obj) (vs : Array Value), h.get? a = some oe ∧ Zc cls d oe ∧ oe.data = .fields vs := by
  have x : ObjOk P w H h a (.ext fun h => ∃ (oe : Obj) (vs : Array Value), h.get? a = some oe ∧ Zc cls d oe ∧ oe.data = .fields vs) := hok a _ e
  exact x.1
/-- what is there, new since the entry and not told of, is told of -/
theorem tell {X : Cx} {pins : List (Addr × Obj)} {σ : L2.St} {H : Hp} {s : Shared} {a : Addr} {cls : Value} {d : Option Addr} {oe : Obj} {vs : Array Value} (I : Inv X pins σ H s) (e : s.heap.get? a = some oe) (z : Zc cls d oe) (f : oe.data = .fields vs)
    (na : H a = none) (n0 : X.s_0.heap.get? a = none) (nL : a ≠ X.env.locals) (np : ∀ p ∈ X.pn ++ pins, p.1 ≠ a) : Inv X pins σ (upd H a (exz a cls d)) s := by
  have nc : ∀ x c, X.env.cells.lookup x = some c → c ≠ a := fun x c l q => by
    obtain ⟨v, o, ho, hd⟩ := I.cell x c l
    rw [q, e] at ho
    cases ho
    rw [f] at hd
    cases hd
  refine { ok := I.ok, os := I.os, bare := I.bare, base := ?_, loc := I.loc, cell := I.cell, free := ?_, freeC := fun x c l => ?_, pin := fun p hp => ?_, hok := fun b o q => ?_, len := I.len }
  · refine { keep := I.base.keep, slot := I.base.slot, free := fun b o q n hx => ?_, there := I.base.there, tups := fun b xs q => ?_, frzs := fun b o u q => ?_, tbls := fun b ps q => ?_ }
    · rw [upd_ne (fun y => by rw [y, n0] at q; cases q)]
      exact I.base.free b o q n hx
    · have y := I.base.tups b xs q
      rw [upd_ne (ne_of_none y na)]
      exact y
    · have y := I.base.frzs b o u q
      rw [upd_ne (ne_of_none y na)]
      exact y
    · obtain ⟨m, y⟩ := I.base.tbls b ps q
      exact ⟨m, by rw [upd_ne (ne_of_none y na)]; exact y⟩
  · rw [upd_ne (Ne.symm nL)]
    exact I.free
  · rw [upd_ne (nc x c l)]
    exact I.freeC x c l
  · obtain ⟨p1, p2, p3⟩ := I.pin p hp
    exact ⟨p1, by rw [upd_ne (np p hp)]; exact p2, p3⟩
  · by_cases hb : b = a
    · subst hb
      rw [upd_same] at q
      cases q
      exact exz_ok e z f
    · rw [upd_ne hb] at q
      exact (I.hok b o q).stay (fun c w' _ y => y) (fun c y => by rw [upd_ne (ne_of_none y na)]; exact y) fun c xs y => by
        rw [upd_ne (ne_of_none y na)]
        exact y
/-- the clause's wish: behind its suite the error is told of -/
def wKeep (K : PySem.W.Frag) (c : Value) (i : Nat) (ts : Addr → Value → Option Addr → TS) (Wout : WX) (D : Ends) : WX := fun cls d σ H => ∃ b, PySem.W.exmOne K cls c = some b ∧
  (b = true → ∀ a, H a = none → ts a cls d { nx := fun σ' H' => H' a = none → D.nx (σ'.set i none) (upd H' a (exz a cls d)), rt := fun _ _ => False, bk := fun _ _ => False, ct := fun _ _ => False } (σ.set i (some (.ref a))) H) ∧ (b = false → Wout cls d σ H)
section
variable {X : Cx} {x n : Str} {c : Value} {i : Nat} {body suite : List Stmt} {b₀ : Stmt} {np pos pos' : Pos} {tb : WX → TS} {ts : Addr → Value → Option Addr → TS} {Wout : WX}
theorem ps_try_keep (hs : X.stack = X.env :: X.outer) (hf : X.env.frame = some X.env.locals) (hex : X.ex = []) (nd : X.N.Nodup) (hi : X.N[i]? = some n) (hln : X.env.kindOf n = some .local) (hc : Names X x c) (tk : Takes X Wout)
    (hb : ∀ (W : WX) (pn : List (Addr × Obj)) (xe : Value → Shared → Prop), Takes (X.tr pn xe) W → PassesOwn (model X.prog X.w) X.A X.env xe → PSs (X.tr pn xe) body (tb W))
    (hsu : ∀ (a : Addr) (oe : Obj) (cls : Value) (d : Option Addr) (pn : List (Addr × Obj)), Zc cls d oe → (∃ vs, oe.data = .fields vs) → PSs (X.suite a ((a, oe) :: pn)) (b₀ :: suite) (ts a cls d)) :
    PS X (.Try body [.ExceptHandler (some (.Name x np)) (some n) (b₀ :: suite) pos'] [] [] pos) (fun D σ H => tb (wKeep X.K c i ts Wout D) D σ H) := by
  refine ⟨fun pins s σ H D I h => ?_⟩
  have ok := I.ok
  have fr : X.A.frames = some (X.env :: X.outer) := ok.frames.trans (congrArg some hs)
  have lc : Loc X.env.scope n := .inl hln
  let catch_ : Value → Shared → Prop := fun e s₁ => wpAny (model X.prog X.w) X.A (noteFrame e X.env) (fun _ s₂ => wpAny (model X.prog X.w) X.A (setFlight e none) (fun _ s₃ =>
    wpAny (model X.prog X.w) X.A (handleBy e X.env [.ExceptHandler (some (.Name x np)) (some n) (b₀ :: suite) pos']) (SP X pins D) X.xe s₃) X.xe s₂) X.xe s₁
  refine wpAny_Try_except ?_
  refine wpAny_mono ((hb (wKeep X.K c i ts Wout D) (X.pn ++ pins) catch_ (fun u s' air => ?_) PassesOwn.looking).run [] s σ H D (I.toTry _) h) (fun fl s1 out => ?_) (fun e s1 z => z)
  · obtain ⟨a, B, sI, pins1, σ1, H1, cls, d, rfl, J1, nb, up, sky, na, os, ag, b, known, yes, no⟩ := air
    have J : Inv X pins σ1 H1 sI := J1.ofTry ok
    have skyE : Sky B (X.env :: X.outer) a (Zc cls d) X.env.locals s'.heap := hs ▸ sky
    -- the error is new since the entry
    have nB : B.get? a = none := by
      rcases skyE with q | q | q
      · exact q.2.1
      · exact q.2.1
      · exact q.2.1
    show wpAny (model X.prog X.w) X.A (noteFrame (.ref a) X.env) _ _ _
    refine Sky.land Zc.steady fr hf skyE fun h3 fly3 up3 => ?_
    have J3 : Inv X pins σ1 H1 { s' with heap := h3 } := J.landed nb fly3.1 (up.trans up3) os ag
    obtain ⟨oe3, vs3, e3, z3, f3⟩ := fly3.there
    have nfr : a ∉ frs (X.env :: X.outer) := fun m => by
      obtain ⟨_, o, e, nf⟩ := fly3.2.2.1.mem m
      rw [e3] at e
      cases e
      exact nf _ f3
    have nL : a ≠ X.env.locals := fun q => nfr (List.mem_filterMap.mpr ⟨X.env, List.mem_cons_self, q ▸ hf⟩)
    have nF : a ∉ X.fs := fun m => (List.mem_filterMap.mp m).elim fun y q => nfr (List.mem_filterMap.mpr ⟨y, List.mem_cons_of_mem _ q.1, q.2⟩)
    have nI : sI.heap.get? a = none := by
      cases q : sI.heap.get? a with
      | none => rfl
      | some o =>
        have y := nb a o q (by rw [hs]; exact nfr)
        rw [nB] at y
        cases y
    have n0 : X.s_0.heap.get? a = none := by
      cases q : X.s_0.heap.get? a with
      | none => rfl
      | some o =>
        obtain ⟨o', y⟩ := J.base.there a o q (by rw [hex]; exact fun z => nomatch z)
        rw [nI] at y
        cases y
    have npin : ∀ p ∈ X.pn ++ pins, p.1 ≠ a := fun p hp q => by
      have y := (J.pin p hp).1
      rw [q, nI] at y
      cases y
    have S3 := J3.suite e3 f3 na nL nF
    refine wpAny_handleBy_cons (codeAny_handlers_test ?_) (by intro q; cases q)
    have tyLook : PySem.W.Looks (model X.prog X.w) h3 (typeOf (.ref a)) cls := fun A Q E s k q => wpAny_typeOf_ref (k _ _ e3) (by rw [z3.1]; exact q)
    have match_ := PySem.W.exm_one (M := model X.prog X.w) J3.kIn tyLook known
    have clause : ∀ {Q : Value → Shared → Prop} {E : Value → Shared → Prop}, Q c { s' with heap := h3 } → wpAny (model X.prog X.w) (X.A.mark (some (.ref a))) (eval (.Name x np) X.env) Q E { s' with heap := h3 } := by
      intro Q E q
      obtain ⟨hg, hdb, hm | ⟨hm, hv, hnn⟩⟩ := hc
      · exact ld_glob (X := X.suite a ((a, oe3) :: (X.pn ++ pins))) S3 hg hm q hdb
      · exact ld_blt (X := X.suite a ((a, oe3) :: (X.pn ++ pins))) S3 hg hm hv q hnn hdb
    refine clause (match_.here ?_)
    cases b with
    | false =>
      show wpAny _ X.A (handleBy (.ref a) X.env []) _ _ _
      refine wpAny_handleBy_nil ?_
      obtain ⟨k1, k2, k3, oe, vs, T, oT, ts', he, hz, hd, h1, hr⟩ := id fly3
      unfold PySem.passOn
      refine wpAny_bind (wpAny_field he hd h1 ?_)
      rw [if_neg (show ¬ ((Value.ref T == Value.none) = true) from by simp)]
      have fin : wpAny (model X.prog X.w) X.A (setFlight (.ref a) X.env.frame) (fun _ s4 => wpAny (model X.prog X.w) X.A (throw (.ref a) : Sem Flow) (SP X pins D) X.xe s4) X.xe { s' with heap := h3 } := by
        rw [hf]
        exact HandSPX.setFlight_upZ fly3 fun h4 held4 up4 => wpAny_throw (tk _ _ ⟨a, B, sI, pins, σ1, H1, cls, d, rfl, J, nb, (up.trans up3).trans up4, .inr (.inr (by rw [hs]; exact held4)), na, os, ag, no rfl⟩)
      first
        | exact wpAny_bind (wpAny_pure (wpAny_bind fin))
        | exact wpAny_bind fin
    | true =>
      refine codeAny_handlers_suite_as ?_
      refine HandSPX.lands_againZ fly3 fun h4 fly4 up4 => ?_
      have J4 : Inv X pins σ1 H1 { s' with heap := h4 } := J.landed nb fly4.1 ((up.trans up3).trans up4) os ag
      obtain ⟨oe4, vs4, e4, z4, f4⟩ := fly4.there
      refine store_ok (X := X.suite a ((a, oe4) :: (X.pn ++ pins))) (v := .ref a) (J4.suite e4 f4 na nL nF) nd hi lc rfl (fun s5 S5 => ?_) (.inr hln)
      refine wpAny_mono ((hsu a oe4 cls d (X.pn ++ pins) z4 ⟨_, f4⟩).run [] s5 _ H1 _ S5 (yes rfl a na)) (fun fl s6 out => ?_) (fun _ _ z => z.elim)
      cases fl with
      | next =>
        obtain ⟨σ6, H6, S6, q6⟩ := out
        obtain ⟨p1, p2, _⟩ := S6.pin (a, oe4) (List.mem_append_left _ List.mem_cons_self)
        have T6 := tell (S6.unsuite ok) p1 z4 f4 p2 n0 nL npin
        exact gone_ok T6 nd hi hln fun s7 J7 => ⟨_, _, J7, q6 p2⟩
      | brk =>
        obtain ⟨_, _, _, q6⟩ := out
        exact q6.elim
      | cont =>
        obtain ⟨_, _, _, q6⟩ := out
        exact q6.elim
      | ret u =>
        obtain ⟨_, _, _, _, _, q6⟩ := out
        exact q6.elim
  · cases fl with
    | next => exact out.elim fun σ' z => z.elim fun H' z => wpAny_execs_nil ⟨σ', H', z.1.ofTry ok, z.2⟩
    | brk => exact out.elim fun σ' z => z.elim fun H' z => ⟨σ', H', z.1.ofTry ok, z.2⟩
    | cont => exact out.elim fun σ' z => z.elim fun H' z => ⟨σ', H', z.1.ofTry ok, z.2⟩
    | ret u =>
      obtain ⟨v, σ', H', J', r, q⟩ := out
      exact ⟨v, σ', H', J'.ofTry ok, r, q⟩
end
/-! ### e.f and isinstance(e, C) of such an error -/
section
variable {X : Cx}
theorem pe_zget {e : Expr} {te : TE} {pos : Pos} {n : Str} (he : PE X e te) (hb : attributeBase e n X.env (eval e X.env) = eval e X.env := by rfl) :
    PE X (.Attribute e n pos) (fun σ H Q => te σ H fun x H1 => ∃ a C d fs v, x = .ref a ∧ H1 a = some (exz a (.ref C) (some d)) ∧ H1 d = some (.xd fs) ∧ XF X.K C n ∧ fs.lookup n = some v ∧ Q v H1) := by
  refine ⟨fun pins s σ H Q I h => ?_⟩
  refine attr_of hb (thn (he.run pins s σ H _ I h) fun u s1 hh => ?_)
  obtain ⟨x, H1, I1, rx, a, C, d, fs, v, ex, ea, ed, T, l, q⟩ := hh
  subst ex
  obtain rfl : u = Value.ref a := rx
  obtain ⟨oe, vs, ho, hz, hf⟩ := exz_at I1.hok ea
  have hx : ObjOk X.prog X.w H1 s1.heap d (.xd fs) := I1.hok d _ ed
  obtain ⟨mA, hns, hrel⟩ := hx
  obtain ⟨od, hod, hl⟩ := lookIn_ns hns
  obtain ⟨w1, hw, rw1⟩ := RelO.some_of (v := v) (o := mA n) (by rw [← l]; exact hrel n)
  have J : PySem.W.InstAt s1.heap a oe C (some od) := ⟨ho, hz.1, by unfold PySem.W.notCls; rw [hf] <;> rfl, by rw [hz.2]; exact hod⟩
  exact HandSPX.exc_get I1.kIn J T.xf.ga T.xf.gg T.xf.exC (PySem.W.findObj_own T.xf.hdC T.no rfl (by rw [hl, hw])) (handed_of rw1) ⟨v, H1, I1.tok _, rw1, q⟩
def rIsZ (K : PySem.W.Frag) : List V → Hp → VK → Prop := fun xs H Q => ∃ (a : Addr) (c : V) (D d : Addr) (fs : List (Str × V)) (cv : Value) (b : Bool), xs = [.ref a, c] ∧ H a = some (exz a (.ref D) (some d)) ∧ H d = some (.xd fs) ∧ ExcC K D ∧ (∀ u, RelV c u → u = cv) ∧ PySem.W.kitOne K (.ref D) cv = some b ∧ Q (.bl b) H
theorem call_isZ : CallR X (.builtin "isinstance") (rIsZ X.K) := by
  intro pins s σ H xs us Q I r h
  obtain ⟨a, c, D, d, fs, cv, b, rfl, ea, ed, C, hcv, e, q⟩ := h
  cases r with
  | cons rx rr =>
    cases rr with
    | cons rt rr =>
      cases rr
      cases rx
      obtain rfl := hcv _ rt
      obtain ⟨oe, vs, ho, hz, hf⟩ := exz_at I.hok ea
      have hx : ObjOk X.prog X.w H s.heap d (.xd fs) := I.hok d _ ed
      obtain ⟨mA, hns, _⟩ := hx
      obtain ⟨od, hod, _⟩ := lookIn_ns hns
      have J : PySem.W.InstAt s.heap a oe D (some od) := ⟨ho, hz.1, by unfold PySem.W.notCls; rw [hf] <;> rfl, by rw [hz.2]; exact hod⟩
      exact PySem.W.kia_one (kitErr C) I.kIn J e (fun z => nomatch z) fun tk => ⟨.bl b, H, I.kept (t' := tk) fun _ _ z => z, rfl, q⟩
end
end XV
set_option Elab.async false
set_option linter.all false
set_option maxRecDepth 100000
set_option maxHeartbeats 4000000
/-! repr of data, where nothing guards; written data. -/
namespace XV
open PySem PySem.Spec PyProof.Rows L2
section
variable {X : Cx}
def rRepr (K : PySem.W.Frag) : List V → Hp → VK → Prop := fun xs H Q => ∃ (v : V) (d : PyData), xs = [v] ∧ Dp K H v d ∧ d.showable = true ∧ d.hasDict = false ∧ d.depth ≤ 60 ∧ d.shown.length ≤ sizeLine ∧ Q (.str d.shown) H
theorem call_reprD (ag : X.A.guards = some []) (hu : X.A.units + 64 < cLine) : CallR X (.builtin "repr") (rRepr X.K) := by
  intro pins s σ H xs us Q I r h
  obtain ⟨v, d, rfl, hd, sh, nd, dp, sz, q⟩ := h
  have deep : ∀ a : Addr, ∀ as, Reads s.heap (.ref a) d as → wpAny (model X.prog X.w) X.A (call (.builtin "repr") [.ref a]) (EP X pins σ Q) X.xe s := fun a as rd =>
    repr_of_reads' rd sh (fun z => by rw [nd] at z; cases z) ag (by omega) (fun _ _ e => e) (fun h' u tk k => ⟨.str d.shown, H, I.kept (t' := tk) k, ⟨u, rfl⟩, q⟩) sz
  cases r with
  | cons rv rr =>
    cases rr
    cases hd with
    | non =>
      cases rv
      exact PySem.P.repr_of_none ⟨.str _, H, I.tok _, ⟨_, rfl⟩, q⟩
    | bl b =>
      cases rv
      exact PySem.P.repr_of_bool ⟨.str _, H, I.tok _, ⟨_, rfl⟩, q⟩
    | int i =>
      obtain ⟨t, rfl⟩ := rv
      exact PySem.P.repr_of_int (of_decide_eq_true (by simpa [PyData.showable] using sh)) ⟨.str _, H, I.tok _, ⟨_, rfl⟩, q⟩
    | str x =>
      obtain ⟨t, rfl⟩ := rv
      exact PySem.P.repr_of_str ⟨.str _, H, I.tok _, ⟨_, rfl⟩, q⟩ sz
    | lst hs ha =>
      cases rv
      obtain ⟨as, rd⟩ := Dp.reads I _ _ _ (Dp.lst hs ha) rfl
      exact deep _ as rd
    | tup hs ha =>
      cases rv
      obtain ⟨as, rd⟩ := Dp.reads I _ _ _ (Dp.tup hs ha) rfl
      exact deep _ as rd
end
/-! ### data that is tracked throughout -/
mutual
inductive Da (H : Hp) : V → PyData → Prop
  | non : Da H .non .none
  | bl (b : Bool) : Da H (.bl b) (.bool b)
  | int (i : Int) : Da H (.int i) (.int i)
  | str (x : Str) : Da H (.str x) (.str x)
  | lst {a : Addr} {xs : List V} {ds : List PyData} : H a = some (.lst xs) → DaAll H xs ds → Da H (.ref a) (.list ds)
  | tup {a : Addr} {xs : List V} {ds : List PyData} : H a = some (.tup xs) → DaAll H xs ds → Da H (.ref a) (.tuple ds)
inductive DaAll (H : Hp) : List V → List PyData → Prop
  | nil : DaAll H [] []
  | cons {v : V} {vs : List V} {d : PyData} {ds : List PyData} : Da H v d → DaAll H vs ds → DaAll H (v :: vs) (d :: ds)
end
mutual
theorem Da.keep {H H' : Hp} (s : Same H H') : ∀ {d : PyData} {v : V}, Da H v d → Da H' v d
  | _, _, .non => .non
  | _, _, .bl b => .bl b
  | _, _, .int i => .int i
  | _, _, .str x => .str x
  | _, _, .lst h a => .lst (s _ _ h) (DaAll.keep s a)
  | _, _, .tup h a => .tup (s _ _ h) (DaAll.keep s a)
theorem DaAll.keep {H H' : Hp} (s : Same H H') : ∀ {ds : List PyData} {vs : List V}, DaAll H vs ds → DaAll H' vs ds
  | _, _, .nil => .nil
  | _, _, .cons h r => .cons (Da.keep s h) (DaAll.keep s r)
end
mutual
theorem Da.dp {K : PySem.W.Frag} {H : Hp} : ∀ {d : PyData} {v : V}, Da H v d → Dp K H v d
  | _, _, .non => .non
  | _, _, .bl b => .bl b
  | _, _, .int i => .int i
  | _, _, .str x => .str x
  | _, _, .lst h a => .lst (SqL.of h) (DaAll.dp a)
  | _, _, .tup h a => .tup (SqT.of h) (DaAll.dp a)
theorem DaAll.dp {K : PySem.W.Frag} {H : Hp} : ∀ {ds : List PyData} {vs : List V}, DaAll H vs ds → DpAll K H vs ds
  | _, _, .nil => .nil
  | _, _, .cons h r => .cons (Da.dp h) (DaAll.dp r)
end
theorem DaAll.length {H : Hp} : ∀ {ds : List PyData} {vs : List V}, DaAll H vs ds → vs.length = ds.length
  | _, _, .nil => rfl
  | _, _, .cons _ r => congrArg (· + 1) (DaAll.length r)
theorem DaAll.get {H : Hp} : ∀ {ds : List PyData} {vs : List V} {i : Nat} {v : V}, DaAll H vs ds → vs[i]? = some v → ∃ d, ds[i]? = some d ∧ Da H v d
  | _, _, i, v, .nil, h => by simp at h
  | _, _, 0, v, .cons a r, h => by
    cases h
    exact ⟨_, rfl, a⟩
  | _, _, i + 1, v, .cons a r, h => by
    obtain ⟨d, e, x⟩ := DaAll.get (i := i) r (by simpa using h)
    exact ⟨d, by simpa using e, x⟩
/-! ### written data -/
def litsN (f : Expr → Option PyData) : List Expr → Option (List PyData)
  | [] => some []
  | e :: es => match f e, litsN f es with
    | some d, some ds => some (d :: ds)
    | _, _ => none
def litN : Nat → Expr → Option PyData
  | 0, _ => none
  | n + 1, e => match e with
    | .Constant .none _ _ => some .none
    | .Constant (.bool b) _ _ => some (.bool b)
    | .Constant (.int i) _ _ => some (.int i)
    | .Constant (.str x) _ _ => some (.str x)
    | .UnaryOp .USub (.Constant (.int i) _ _) _ => some (.int (-i))
    | .List es _ => if es.length ≤ 1000 then (litsN (litN n) es).map .list else none
    | .Tuple es _ _ => if es.length ≤ 1000 then (litsN (litN n) es).map .tuple else none
    | _ => none
/-- the reading of written data -/
def tLit (d : PyData) : TE := fun _ H Q => ∀ (v : V) (H' : Hp), Same H H' → Da H' v d → Q v H'
def tLits (ds : List PyData) : TA := fun _ H Q => ∀ (vs : List V) (H' : Hp), Same H H' → DaAll H' vs ds → vs.length = ds.length → Q vs H'
theorem PE.le {X : Cx} {e : Expr} {t t' : TE} (h : PE X e t) (i : ∀ σ H Q, t' σ H Q → t σ H Q) : PE X e t' := ⟨fun pins s σ H Q I z => h.run pins s σ H Q I (i _ _ _ z)⟩
theorem PA.le {X : Cx} {es : List Expr} {t t' : TA} (h : PA X es t) (i : ∀ σ H Q, t' σ H Q → t σ H Q) : PA X es t' := ⟨fun p pins s σ H Q I z => h.run p pins s σ H Q I (i _ _ _ z)⟩
theorem litsN_len {f : Expr → Option PyData} : ∀ (es : List Expr) (ds : List PyData), litsN f es = some ds → ds.length = es.length
  | [], ds, h => by
    cases h
    rfl
  | e :: es, ds, h => by
    unfold litsN at h
    split at h
    · rename_i d ds' h1 h2
      cases h
      rw [List.length_cons, List.length_cons, litsN_len es ds' h2]
    · cases h
theorem lits_ok {X : Cx} {f : Expr → Option PyData} (hf : ∀ e d, f e = some d → PE X e (tLit d)) (hs : ∀ e d es, f e = some d → starEach (e :: es) X.env = (false, eval e X.env) :: starEach es X.env) :
    ∀ (es : List Expr) (ds : List PyData), litsN f es = some ds → PA X es (tLits ds)
  | [], ds, h => by
    cases h
    exact PA.le pa_nil fun σ H Q z => z [] H (fun _ _ e => e) .nil rfl
  | e :: es, ds, h => by
    unfold litsN at h
    split at h
    · rename_i d ds' h1 h2
      cases h
      exact PA.le (pa_cons (hf e d h1) (lits_ok hf hs es ds' h2) (hs e d es h1)) fun σ H Q z v H1 s1 p1 vs H2 s2 p2 l2 => z (v :: vs) H2 (s1.trans s2) (.cons (p1.keep s2) p2) (by rw [List.length_cons, List.length_cons, l2])
    · cases h
theorem lit_star {n : Nat} {e : Expr} {d : PyData} {es : List Expr} {env : Env} (h : litN n e = some d) : starEach (e :: es) env = (false, eval e env) :: starEach es env := by
  cases n with
  | zero => cases h
  | succ n => cases e <;> first | rfl | cases h
theorem lit_ok {X : Cx} : ∀ (n : Nat) (e : Expr) (d : PyData), litN n e = some d → PE X e (tLit d)
  | 0, _, _, h => by cases h
  | n + 1, e, d, h => by
    have small : ∀ m : Nat, m ≤ 1000 → m ≤ sizeLine := fun m hm => by
      rw [sizeLine_eq]
      omega
    unfold litN at h
    split at h
    · cases h
      exact PE.le pe_non fun σ H Q z => z _ H (fun _ _ e => e) .non
    · cases h
      exact PE.le pe_bl fun σ H Q z => z _ H (fun _ _ e => e) (.bl _)
    · cases h
      exact PE.le pe_int fun σ H Q z => z _ H (fun _ _ e => e) (.int _)
    · cases h
      exact PE.le pe_str fun σ H Q z => z _ H (fun _ _ e => e) (.str _)
    · cases h
      exact PE.le (pe_un un_neg pe_int) fun σ H Q z => ⟨_, rfl, z _ H (fun _ _ e => e) (.int _)⟩
    · rename_i es p
      split at h
      · rename_i hl
        cases q : litsN (litN n) es with
        | none =>
          rw [q] at h
          cases h
        | some ds =>
          rw [q] at h
          cases h
          exact PE.le (pe_lst (lits_ok (lit_ok n) (fun _ _ _ => lit_star) es ds q)) fun σ H Q z vs H1 s1 p1 l1 => ⟨by rw [l1, litsN_len _ _ q]; exact small _ hl, fun p np =>
            z _ _ (s1.trans (same_new np)) (.lst (upd_same) (p1.keep (same_new np)))⟩
      · cases h
    · rename_i es k p
      split at h
      · rename_i hl
        cases q : litsN (litN n) es with
        | none =>
          rw [q] at h
          cases h
        | some ds =>
          rw [q] at h
          cases h
          exact PE.le (pe_tup (lits_ok (lit_ok n) (fun _ _ _ => lit_star) es ds q)) fun σ H Q z vs H1 s1 p1 l1 => ⟨by rw [l1, litsN_len _ _ q]; exact small _ hl, fun p np =>
            z _ _ (s1.trans (same_new np)) (.tup (upd_same) (p1.keep (same_new np)))⟩
      · cases h
    · cases h
theorem pe_lit {X : Cx} (n : Nat) {e : Expr} {d : PyData} (h : litN n e = some d) : PE X e (tLit d) := lit_ok n e d h
end XV
set_option Elab.async false
set_option linter.all false
set_option maxRecDepth 100000
set_option maxHeartbeats 4000000
/-! raise C(e), C an error class with one field. -/
namespace XV
open PySem PySem.Spec PyProof.Rows L2
theorem XCls.binds {P : Program} {w : World} {K : PySem.W.Frag} {mg : Str → Option Value} {base : Heap} {nm fld : Str} {C fI : Addr} {fd : FuncData} (T : XCls P w K mg base nm fld C fI fd) : Binds K fd ["self", fld] [] := fun s us X hl => by
  rw [List.append_nil] at hl ⊢
  match us, hl with
  | [x, u], _ => exact T.b1 s x u X
/-- a reading that may be weakened -/
def tMono (te : TE) : TE := fun σ H Q => ∃ q : VK, te σ H q ∧ ∀ v H', q v H' → Q v H'
theorem pe_mono {X : Cx} {e : Expr} {te : TE} (he : PE X e te) : PE X e (tMono te) := ⟨fun pins s σ H Q I h => by
  obtain ⟨q, h, i⟩ := h
  exact thn (he.run pins s σ H q I h) fun u s1 ⟨v, H1, I1, r, z⟩ => ⟨v, H1, I1, r, i v H1 z⟩⟩
section
variable {X : Cx} {nm fld : Str} {C fI : Addr} {fd : FuncData} {e : Expr} {te : TE} {p pos pos2 : Pos}
theorem pmk_x (T : XCls X.prog X.w X.K X.mg X.base nm fld C fI fd) (hr : Room 2 X.A) (hg : Gl X nm) (he : PE X e te) (hdb : (nm == ("__debug__" : Str)) = false := by decide)
    (hs : starEach (e :: []) X.env = (false, eval e X.env) :: starEach [] X.env := by rfl) (hpl : (backTo pos (starEach [] X.env)).any (·.1) = false := by rfl) :
    PMk X (.Call (.Name nm p) [e] [] pos) (fun σ H Q => te σ H fun v H1 => ∀ d, H1 d = none → Q (.ref C) (some d) (upd H1 d (.xd [(fld, v)]))) := by
  have low := pmk_oex (X := X) (p := p) (pos := pos) T.ox T.iC T.tI T.ini hr T.binds .nil pass0 hg T.g (pa_cons (pe_mono he) pa_nil hs) hdb hs hpl
  intro pins s σ H Q I h
  refine low pins s σ H Q I ⟨_, h, fun v H1 q => ⟨(by show 1 ≤ 1000; decide), fun a na => ⟨a, v, rfl, upd_same, fun d nd ne => ⟨rfl, d, [(fld, v)], upd_same, ?_, ?_, ?_⟩⟩⟩⟩
  · rw [upd_ne ne, upd_same]
  · rw [upd_ne ne] at nd
    exact nd
  · rw [upd_ne ne] at nd
    have e1 : upd (del (upd (upd (upd H1 a (exo a C none)) d (exd d [(fld, v)])) a (exo a C (some d))) a) d (.xd [(fld, v)]) = upd H1 d (.xd [(fld, v)]) := by
      funext b
      by_cases q1 : b = d
      · rw [q1, upd_same, upd_same]
      · rw [upd_ne q1, upd_ne q1]
        by_cases q2 : b = a
        · rw [q2, del_same, na]
        · rw [del_ne q2, upd_ne q2, upd_ne q1, upd_ne q2]
    rw [e1]
    exact q d nd
theorem ps_raiseX {W : WX} (hc : X.calm = true) (T : XCls X.prog X.w X.K X.mg X.base nm fld C fI fd) (hr : Room 2 X.A) (tk : Takes X W) (hg : Gl X nm) (he : PE X e te) (hdb : (nm == ("__debug__" : Str)) = false := by decide)
    (hs : starEach (e :: []) X.env = (false, eval e X.env) :: starEach [] X.env := by rfl) (hpl : (backTo pos (starEach [] X.env)).any (·.1) = false := by rfl) :
    PS X (.Raise (some (.Call (.Name nm p) [e] [] pos)) none pos2) (fun _ σ H => te σ H fun v H1 => ∀ d, H1 d = none → W (.ref C) (some d) σ (upd H1 d (.xd [(fld, v)]))) :=
  ps_raise hc tk (pmk_x T hr hg he hdb hs hpl)
end
/-- the module's name x is a def that keeps sp and may raise -/
structure OkX (P : Program) (w : World) (K : PySem.W.Frag) (mg : Str → Option Value) (base : Heap) (x : Str) (k : Nat) (ps : List Str) (sp : Sp) : Prop where
  ex : ∃ f fd, FnOk P w K mg base (L2.CX P w) k f fd ps sp ∧ mg x = some (.ref f) ∧ PySem.W.keepIn K (.ref f) = true ∧ Binds K fd ps []
theorem OkX.mk' {P : Program} {w : World} {K : PySem.W.Frag} {mg : Str → Option Value} {base : Heap} {x : Str} {k : Nat} {ps : List Str} {sp : Sp} {body : List Stmt} {params : Arguments} {scope : Scope} {f : Addr} {fd : FuncData}
    (F : FunD K x x params body scope [] [] f fd) (g : mg x = some (.ref f)) (b : ∀ (kV doc pm : Value) (an : Option Addr) (cdv ct : Value) (us : List Value), us.length = ps.length → bindArgs (PySem.W.fnOf x x params body scope .none kV doc pm an cdv ct) ⟨us, []⟩ = pure (ps.zip us))
    (ok : FnOk P w K mg base (L2.CX P w) k f fd ps sp) : OkX P w K mg base x k ps sp := ⟨f, fd, ok, g, F.kp, F.bindsN b⟩
section
variable {X : Cx} {k : Nat} {ps : List Str} {sp : Sp} {x : Str} {e : Expr} {es : List Expr} {t : TA} {p pos : Pos} {E : XK} {W : WX}
/-- a call within a def that lets out what the callee lets out -/
theorem pe_callX (o : OkX X.prog X.w X.K X.mg X.base x k ps sp) (tk : Takes X fun cls d _ H => E cls d H) (hr : Room k X.A) (hg : Gl X x) (ha : PA X (e :: es) t) (hdb : (x == ("__debug__" : Str)) = false := by decide)
    (he : starEach (e :: es) X.env = (false, eval e X.env) :: starEach es X.env := by rfl) (hpl : (backTo pos (starEach es X.env)).any (·.1) = false := by rfl) :
    PE X (.Call (.Name x p) (e :: es) [] pos) (tCall sp [] E t) := by
  obtain ⟨f, fd, F, hm, hk, b⟩ := o.ex
  exact pe_call F hr hg hm hk b .nil (passes_call tk fun _ _ _ _ h => h) ha hdb he hpl
/-- a call within a try -/
theorem pe_callT (o : OkX X.prog X.w X.K X.mg X.base x k ps sp) (tk : Takes X W) (hr : Room k X.A) (hg : Gl X x) (ha : PA X (e :: es) t) (hdb : (x == ("__debug__" : Str)) = false := by decide)
    (he : starEach (e :: es) X.env = (false, eval e X.env) :: starEach es X.env := by rfl) (hpl : (backTo pos (starEach es X.env)).any (·.1) = false := by rfl) :
    PE X (.Call (.Name x p) (e :: es) [] pos) (tCallS sp (WE W) t) := by
  obtain ⟨f, fd, F, hm, hk, b⟩ := o.ex
  exact pe_callS F hr hg hm hk b (fun σ => passAt tk σ) ha hdb he hpl
end
end XV
set_option Elab.async false
set_option linter.all false
set_option maxRecDepth 100000
set_option maxHeartbeats 4000000
/-! f(k = v, ..), all by keywords, the names in the parameters' order turned round. -/
namespace XV
open PySem PySem.Spec PyProof.Rows L2
theorem vals_rev : ∀ {vs : List V} {us : List Value}, Vals vs us → Vals vs.reverse us.reverse
  | _, _, .nil => .nil
  | _, _, .cons r rr => by
    rw [List.reverse_cons, List.reverse_cons]
    exact (vals_rev rr).append (.cons r .nil)
structure OkK (P : Program) (w : World) (K : PySem.W.Frag) (mg : Str → Option Value) (base : Heap) (x : Str) (k : Nat) (ps : List Str) (sp : Sp) : Prop where
  ex : ∃ f fd, FnOk P w K mg base CX0 k f fd ps sp ∧ mg x = some (.ref f) ∧ PySem.W.keepIn K (.ref f) = true ∧ KBn K fd ps 0 ps.reverse (fun _ ws => ws.reverse) (fun _ zs => zs.reverse)
theorem OkK.mk' {P : Program} {w : World} {K : PySem.W.Frag} {mg : Str → Option Value} {base : Heap} {x : Str} {k : Nat} {ps : List Str} {sp : Sp} {body : List Stmt} {params : Arguments} {scope : Scope} {f : Addr} {fd : FuncData}
    (F : FunD K x x params body scope [] [] f fd) (g : mg x = some (.ref f)) (b : ∀ (kV doc pm : Value) (an : Option Addr) (cdv ct : Value) (ws : List Value), ws.length = ps.length → bindArgs (PySem.W.fnOf x x params body scope .none kV doc pm an cdv ct) ⟨[], ps.reverse.zip ws⟩ = pure (ps.zip ws.reverse))
    (ok : FnOk P w K mg base CX0 k f fd ps sp) : OkK P w K mg base x k ps sp := by
  refine ⟨f, fd, ok, g, F.kp, ⟨fun s us ws _ l1 l2 => ?_, fun _ r => vals_rev r⟩⟩
  obtain ⟨oc, od, dV, kV, doc, pm, an, cdv, ct, osl, rfl, lk, hcd, hD, hK⟩ := F.ex
  rcases hD with ⟨_, rfl⟩ | ⟨e, _⟩
  · obtain rfl := List.length_eq_zero_iff.mp l1
    exact .of_eq (b kV doc pm an cdv ct ws (by rw [l2, List.length_reverse]))
  · exact absurd rfl e
section
variable {X : Cx} {k : Nat} {ps : List Str} {sp : Sp} {x : Str} {kws : List Keyword} {tk : TA} {p pos : Pos}
theorem pe_callK (o : OkK X.prog X.w X.K X.mg X.base x k ps sp) (hr : Room k X.A) (hg : Gl X x) (hk : PK X kws tk) (hdb : (x == ("__debug__" : Str)) = false := by decide)
    (hall : (backToKw pos (keywordEach kws X.env)).all (·.1.isSome) = true := by rfl) (hks : (backToKw pos (keywordEach kws X.env)).filterMap (·.1) = ps.reverse := by rfl)
    (hpl : ((backTo pos (starEach [] X.env)).any (·.1) || (backToKw pos (keywordEach kws X.env)).any (·.1.isNone)) = false := by rfl) :
    PE X (.Call (.Name x p) [] kws pos) (fun σ H Q => tk σ H fun zs H1 => zs.length = ps.reverse.length ∧ sp zs.reverse H1 Q E0) := by
  obtain ⟨f, fd, F, hm, kp, B⟩ := o.ex
  refine ⟨fun pins s σ H Q I h => ?_⟩
  refine wpAny_Call_Name_kw (ld_glob I hg hm ?_ hdb)
  refine PySem.W.callWith_KW0 (h₀ := X.base) I.ok.mod.kin kp hall (thn (hk.run pos pins s σ H _ I h) fun ws s1 z => ?_) hpl
  obtain ⟨zs, H1, I1, r, l, q⟩ := z
  refine ⟨I1.kIn, ?_⟩
  rw [hks]
  exact run_fnN (us := []) (vs := []) F hr B pass0 I1 .nil r rfl l q
end
end XV
set_option Elab.async false
set_option linter.all false
set_option maxRecDepth 100000
set_option maxHeartbeats 4000000
/-! lcm; == by an own __eq__ of an instance with a dict, whatever stands on the right; defs that may raise where they don't; keywords in order; != of lists that end in the same object. -/
namespace XV
open PySem PySem.Spec PyProof.Rows L2
section
variable {X : Cx}
def rLcm : List V → Hp → VK → Prop := fun vs H Q => ∃ a b : Int, vs = [.int a, .int b] ∧ a.natAbs < 2 ^ 64 ∧ b.natAbs < 2 ^ 64 ∧ Q (.int ((Nat.lcm a.natAbs b.natAbs : Nat) : Int)) H
theorem cr_lcm : CallR X (.builtin "math.lcm") rLcm := by
  intro pins s σ H vs us Q I r h
  obtain ⟨a, b, rfl, ha, hb, q⟩ := h
  obtain ⟨t, u, rfl⟩ := Vals.int2 r
  exact PySem.W.mc_lcm ha hb fun _ => ⟨.int _, H, I.tok _, ⟨_, rfl⟩, q⟩
end
section
variable {X : Cx} {CX : CXT} {C g : Addr} {n : Nat} {fd : FuncData} {ps : List Str} {sp : Sp} {E : XK}
/-- x == y, x an instance of the class at C whose __eq__ is at g -/
def rOwnE (K : PySem.W.Frag) (C : Addr) (sp : Sp) (E : XK) : R2 := fun x y H Q => ∃ a dx fs t, x = .ref a ∧ H a = some (.ins C dx fs) ∧ TyX K H y t ∧ PySem.W.notFirst K C t = true ∧ sp [x, y] H Q E
theorem op_ownE (hs : PySem.W.findIn X.K (.ref C) "__eq__" = some (some (.ref g))) (hf : PySem.W.isFn X.K (.ref g) = true) (F : FnOk X.prog X.w X.K X.mg X.base CX n g fd ps sp) (hr : Room n X.A) (hb : Binds X.K fd ps []) (hx : Passes CX X E) :
    OpR X (compareOp .Eq) (rOwnE X.K C sp E) := by
  intro pins s σ H x y v u Q I rx ry h
  obtain ⟨a, dx, fs, t, rfl, ha, hy, hn, q⟩ := h
  cases (show v = Value.ref a from rx)
  obtain ⟨mA, J, _⟩ := ins_get I.hok ha
  obtain ⟨od, J, _⟩ := J.look
  obtain ⟨P, Z, p, _⟩ := kit_of I ry hy
  obtain ⟨m, hF⟩ := I.fr
  show wpAny (model X.prog X.w) X.A (richCompare .Eq (.ref a) u) (EP X pins σ Q) X.xe s
  refine PySem.W.cmp_K (op := .Eq) (tb := t) hr.units0 hF I.ok.mod.kin J (Z.ty _ _ I.kIn p) hn hs hf ?_
  refine wpAny_mono (run_fn (us := [.ref a, u]) (vs := [.ref a, y]) F hr hb .nil hx I (.cons rfl (.cons ry .nil)) (by rw [List.append_nil]; exact q)) (fun w s' z => ?_) fun _ _ x => x
  obtain ⟨z', H', I', rz, qz⟩ := z
  exact SlX.cmpback rz ⟨z', H', I', rz, qz⟩
end
/-- a def that may raise, where it doesn't -/
theorem FnOk.calm {P : Program} {w : World} {K : PySem.W.Frag} {mg : Str → Option Value} {base : Heap} {k : Nat} {f : Addr} {fd : FuncData} {ps : List Str} {sp : Sp} (F : FnOk P w K mg base (L2.CX P w) k f fd ps sp) :
    FnOk P w K mg base CX0 k f fd ps (fun vs H Q _ => sp vs H Q fun _ _ _ => False) :=
  ⟨fun vs H Q _ h => F.len vs H Q _ h, fun A outer s H args us vs Q E hr he hb hv hs => codeAny_mono (F.run A outer s H args us vs Q (fun _ _ _ => False) hr he hb hv hs) fun r s' h => by
    cases r with
    | error e =>
      obtain ⟨_, _, _, _, _, _, _, _, _, _, _, _, z⟩ := (show L2.CX P w outer H s (fun _ _ _ => False) e s' from h)
      exact z.elim
    | ok fl => cases fl <;> exact h⟩
abbrev cm (sp : Sp) : Sp := fun vs H Q _ => sp vs H Q fun _ _ _ => False
theorem OkX.calm {P : Program} {w : World} {K : PySem.W.Frag} {mg : Str → Option Value} {base : Heap} {x : Str} {k : Nat} {ps : List Str} {sp : Sp} (o : OkX P w K mg base x k ps sp) : Ok P w K mg base x k ps (cm sp) := by
  obtain ⟨f, fd, F, h1, h2, h3⟩ := o.ex
  exact ⟨f, fd, FnOk.calm F, h1, h2, h3⟩
/-! keywords in the parameters' order -/
structure OkF (P : Program) (w : World) (K : PySem.W.Frag) (mg : Str → Option Value) (base : Heap) (x : Str) (k : Nat) (ps : List Str) (sp : Sp) : Prop where
  ex : ∃ f fd, FnOk P w K mg base CX0 k f fd ps sp ∧ mg x = some (.ref f) ∧ PySem.W.keepIn K (.ref f) = true ∧ KBn K fd ps 0 ps (fun _ ws => ws) (fun _ zs => zs)
theorem OkF.mk' {P : Program} {w : World} {K : PySem.W.Frag} {mg : Str → Option Value} {base : Heap} {x : Str} {k : Nat} {ps : List Str} {sp : Sp} {body : List Stmt} {params : Arguments} {scope : Scope} {f : Addr} {fd : FuncData}
    (F : FunD K x x params body scope [] [] f fd) (g : mg x = some (.ref f)) (b : ∀ (kV doc pm : Value) (an : Option Addr) (cdv ct : Value) (ws : List Value), ws.length = ps.length → bindArgs (PySem.W.fnOf x x params body scope .none kV doc pm an cdv ct) ⟨[], ps.zip ws⟩ = pure (ps.zip ws))
    (ok : FnOk P w K mg base CX0 k f fd ps sp) : OkF P w K mg base x k ps sp := by
  refine ⟨f, fd, ok, g, F.kp, ⟨fun s us ws _ l1 l2 => ?_, fun _ r => r⟩⟩
  obtain ⟨oc, od, dV, kV, doc, pm, an, cdv, ct, osl, rfl, lk, hcd, hD, hK⟩ := F.ex
  rcases hD with ⟨_, rfl⟩ | ⟨e, _⟩
  · obtain rfl := List.length_eq_zero_iff.mp l1
    exact .of_eq (b kV doc pm an cdv ct ws l2)
  · exact absurd rfl e
section
variable {X : Cx} {k : Nat} {ps : List Str} {sp : Sp} {x : Str} {kws : List Keyword} {tk : TA} {p pos : Pos}
theorem pe_callF (o : OkF X.prog X.w X.K X.mg X.base x k ps sp) (hr : Room k X.A) (hg : Gl X x) (hk : PK X kws tk) (hdb : (x == ("__debug__" : Str)) = false := by decide)
    (hall : (backToKw pos (keywordEach kws X.env)).all (·.1.isSome) = true := by rfl) (hks : (backToKw pos (keywordEach kws X.env)).filterMap (·.1) = ps := by rfl)
    (hpl : ((backTo pos (starEach [] X.env)).any (·.1) || (backToKw pos (keywordEach kws X.env)).any (·.1.isNone)) = false := by rfl) :
    PE X (.Call (.Name x p) [] kws pos) (fun σ H Q => tk σ H fun zs H1 => zs.length = ps.length ∧ sp zs H1 Q E0) := by
  obtain ⟨f, fd, F, hm, kp, B⟩ := o.ex
  refine ⟨fun pins s σ H Q I h => ?_⟩
  refine wpAny_Call_Name_kw (ld_glob I hg hm ?_ hdb)
  refine PySem.W.callWith_KW0 (h₀ := X.base) I.ok.mod.kin kp hall (thn (hk.run pos pins s σ H _ I h) fun ws s1 z => ?_) hpl
  obtain ⟨zs, H1, I1, r, l, q⟩ := z
  refine ⟨I1.kIn, ?_⟩
  rw [hks]
  exact run_fnN (us := []) (vs := []) F hr B pass0 I1 .nil r rfl l q
end
section
variable {X : Cx}
/-- [v, g] != [w, g], g the same object -/
def rNeI (K : PySem.W.Frag) : R2 := fun x y H Q => ∃ (a b : Addr) (v w z : V) (d e : PyData), x = .ref a ∧ y = .ref b ∧ H a = some (.lst [v, z]) ∧ H b = some (.lst [w, z]) ∧ (∃ g, z = .ref g) ∧ Dp K H v d ∧ Dp K H w e ∧ SeqAt.shaped d = true ∧ SeqAt.shaped e = true ∧ Q (.bl (!(PyData.eqv d e))) H
theorem op_neI (hu : X.A.units + 66 < cLine) : OpR X (compareOp .NotEq) (rNeI X.K) := by
  intro pins s σ H x y v u Q I rx ry h
  obtain ⟨a, b, v1, w1, z, d, e, rfl, rfl, ha, hb, ⟨g, rfl⟩, hd, he, sd, se, q⟩ := h
  cases (show v = Value.ref a from rx)
  cases (show u = Value.ref b from ry)
  obtain ⟨_, its, n, r, h1⟩ := (show ObjOk X.prog X.w H s.heap a (.lst [v1, .ref g]) from I.hok a _ ha)
  obtain ⟨_, its2, n2, r2, h2⟩ := (show ObjOk X.prog X.w H s.heap b (.lst [w1, .ref g]) from I.hok b _ hb)
  obtain ⟨u1, u2, rfl, rv, rg⟩ := vals2 r
  obtain ⟨u3, u4, rfl, rw1, rg2⟩ := vals2 r2
  cases (show u2 = Value.ref g from rg)
  cases (show u4 = Value.ref g from rg2)
  obtain ⟨as, r3⟩ := Dp.reads I d v1 u1 hd rv
  obtain ⟨bs, r4⟩ := Dp.reads I e w1 u3 he rw1
  have hl : s.heap.IsList a ([u1, Value.ref g].toArray) := ⟨_, h1, rfl, _, rfl⟩
  have hl2 : s.heap.IsList b ([u3, Value.ref g].toArray) := ⟨_, h2, rfl, _, rfl⟩
  have key := SeqAt.RcNeAt.lists (A := X.A) (e := fun j => if j = 0 then PyData.eqv d e else true) hl hl2 rfl (by omega) (fun j j1 j2 => by
    match j, j1, j2 with
    | 0, _, _ =>
      refine SeqAt.eqAt_reads d e X.A.in1 s u1 u3 as bs r3 r4 (SeqAt.canLay_of_shaped sd) (SeqAt.canLay_of_shaped se) (SeqAt.room_of_shaped sd ?_)
      show X.A.units + 1 + 64 < cLine
      omega
    | 1, _, _ => exact SeqAt.EqAt.same _
    | j + 2, j1, _ => exact absurd j1 (by show ¬ (j + 2 < 2); omega))
  show wpAny (model X.prog X.w) X.A (richCompare .NotEq (.ref a) (.ref b)) (EP X pins σ Q) X.xe s
  have e1 : (!(List.range ([u1, Value.ref g].toArray).size).all fun j => if j = 0 then PyData.eqv d e else true) = !(PyData.eqv d e) := by
    show (!((if (0 : Nat) = 0 then PyData.eqv d e else true) && ((if (1 : Nat) = 0 then PyData.eqv d e else true) && true))) = _
    rw [if_pos rfl, if_neg (by decide)]
    cases PyData.eqv d e <;> rfl
  rw [e1] at key
  exact key X.prog X.w _ _ ⟨.bl _, H, I, rfl, q⟩
end
end XV
set_option Elab.async false
set_option linter.all false
set_option maxRecDepth 100000
set_option maxHeartbeats 4000000
/-! f(k = v, ..) in a try, the names in the parameters' order turned round; f may raise. -/
namespace XV
open PySem PySem.Spec PyProof.Rows L2
structure OkKX (P : Program) (w : World) (K : PySem.W.Frag) (mg : Str → Option Value) (base : Heap) (x : Str) (k : Nat) (ps : List Str) (sp : Sp) : Prop where
  ex : ∃ f fd, FnOk P w K mg base (L2.CX P w) k f fd ps sp ∧ mg x = some (.ref f) ∧ PySem.W.keepIn K (.ref f) = true ∧ KBn K fd ps 0 ps.reverse (fun _ ws => ws.reverse) (fun _ zs => zs.reverse)
theorem OkKX.mk' {P : Program} {w : World} {K : PySem.W.Frag} {mg : Str → Option Value} {base : Heap} {x : Str} {k : Nat} {ps : List Str} {sp : Sp} {body : List Stmt} {params : Arguments} {scope : Scope} {f : Addr} {fd : FuncData}
    (F : FunD K x x params body scope [] [] f fd) (g : mg x = some (.ref f)) (b : ∀ (kV doc pm : Value) (an : Option Addr) (cdv ct : Value) (ws : List Value), ws.length = ps.length → bindArgs (PySem.W.fnOf x x params body scope .none kV doc pm an cdv ct) ⟨[], ps.reverse.zip ws⟩ = pure (ps.zip ws.reverse))
    (ok : FnOk P w K mg base (L2.CX P w) k f fd ps sp) : OkKX P w K mg base x k ps sp := by
  refine ⟨f, fd, ok, g, F.kp, ⟨fun s us ws _ l1 l2 => ?_, fun _ r => vals_rev r⟩⟩
  obtain ⟨oc, od, dV, kV, doc, pm, an, cdv, ct, osl, rfl, lk, hcd, hD, hK⟩ := F.ex
  rcases hD with ⟨_, rfl⟩ | ⟨e, _⟩
  · obtain rfl := List.length_eq_zero_iff.mp l1
    exact .of_eq (b kV doc pm an cdv ct ws (by rw [l2, List.length_reverse]))
  · exact absurd rfl e
theorem OkKX.calm {P : Program} {w : World} {K : PySem.W.Frag} {mg : Str → Option Value} {base : Heap} {x : Str} {k : Nat} {ps : List Str} {sp : Sp} (o : OkKX P w K mg base x k ps sp) : OkK P w K mg base x k ps (cm sp) := by
  obtain ⟨f, fd, F, h1, h2, h3⟩ := o.ex
  exact ⟨f, fd, FnOk.calm F, h1, h2, h3⟩
section
variable {X : Cx} {CX : CXT} {k n : Nat} {f : Addr} {fd : FuncData} {ps ks : List Str} {sp : Sp} {E : L2.St → XK} {x : Str} {p pos : Pos} {kws : List Keyword} {tk : TA} {g : List Value → List Value → List Value} {gV : List V → List V → List V} {W : WX}
theorem run_fnNS {pins : List (Addr × Obj)} {σ : L2.St} {H : Hp} {s : Shared} {Q : VK} {us ws : List Value} {vs zs : List V} (F : FnOk X.prog X.w X.K X.mg X.base CX k f fd ps sp) (hr : Room k X.A) (hb : KBn X.K fd ps n ks g gV) (hx : PassesAt CX X σ (E σ))
    (I : Inv X pins σ H s) (r : Vals vs us) (rz : Vals zs ws) (l1 : vs.length = n) (l2 : zs.length = ks.length) (h : sp (gV vs zs) H Q (E σ)) : wpAny (model X.prog X.w) X.A (call (.ref f) us (ks.zip ws)) (EP X pins σ Q) X.xe s := by
  have r2 := hb.rel r rz
  refine wpAny_call (codeAny_mono (F.run X.A X.stack s H ⟨us, ks.zip ws⟩ (g us ws) (gV vs zs) Q (E σ) hr I.env0 (hb.to s us ws I.kIn (r.length.symm.trans l1) (rz.length.symm.trans l2)) r2 h) fun r s' hq => ?_)
  cases r with
  | error e => exact hx pins H s e s' I hq
  | ok fl =>
    cases fl with
    | ret u => exact I.after hq
    | next => exact False.elim hq
    | brk => exact False.elim hq
    | cont => exact False.elim hq
theorem pe_callKT (o : OkKX X.prog X.w X.K X.mg X.base x k ps sp) (tk_ : Takes X W) (hr : Room k X.A) (hg : Gl X x) (hk : PK X kws tk) (hdb : (x == ("__debug__" : Str)) = false := by decide)
    (hall : (backToKw pos (keywordEach kws X.env)).all (·.1.isSome) = true := by rfl) (hks : (backToKw pos (keywordEach kws X.env)).filterMap (·.1) = ps.reverse := by rfl)
    (hpl : ((backTo pos (starEach [] X.env)).any (·.1) || (backToKw pos (keywordEach kws X.env)).any (·.1.isNone)) = false := by rfl) :
    PE X (.Call (.Name x p) [] kws pos) (fun σ H Q => tk σ H fun zs H1 => zs.length = ps.reverse.length ∧ sp zs.reverse H1 Q (WE W σ)) := by
  obtain ⟨f, fd, F, hm, kp, B⟩ := o.ex
  refine ⟨fun pins s σ H Q I h => ?_⟩
  refine wpAny_Call_Name_kw (ld_glob I hg hm ?_ hdb)
  refine PySem.W.callWith_KW0 (h₀ := X.base) I.ok.mod.kin kp hall (thn (hk.run pos pins s σ H _ I h) fun ws s1 z => ?_) hpl
  obtain ⟨zs, H1, I1, r, l, q⟩ := z
  refine ⟨I1.kIn, ?_⟩
  rw [hks]
  exact run_fnNS (E := WE W) (us := []) (vs := []) F hr B (passAt tk_ σ) I1 .nil r rfl l q
end
end XV
set_option Elab.async false
set_option linter.all false
set_option maxRecDepth 100000
set_option maxHeartbeats 4000000
namespace KK
open PySem PySem.Spec PyProof.Rows L2 XV
abbrev sWhole : Stmt := top 10
abbrev sCount : Stmt := top 11
abbrev sBelow : Stmt := top 12
abbrev sLetters : Stmt := top 13
abbrev sIsWord : Stmt := top 14
theorem scWhole : FnScope ["value"] ["value"] (defScope sWhole) := ⟨rfl, rfl, rfl, by decide +kernel, rfl, by decide +kernel, by decide +kernel⟩
theorem scCount : FnScope ["value"] ["value"] (defScope sCount) := ⟨rfl, rfl, rfl, by decide +kernel, rfl, by decide +kernel, by decide +kernel⟩
theorem scBelow : FnScope ["bound", "value"] ["bound", "value"] (defScope sBelow) := ⟨rfl, rfl, rfl, by decide +kernel, rfl, by decide +kernel, by decide +kernel⟩
theorem scLetters : FnScope ["value"] ["value"] (defScope sLetters) := ⟨rfl, rfl, rfl, by decide +kernel, rfl, by decide +kernel, by decide +kernel⟩
theorem scIsWord : FnScope ["value"] ["value"] (defScope sIsWord) := ⟨rfl, rfl, rfl, by decide +kernel, rfl, by decide +kernel, by decide +kernel⟩
/-- a value whose kind is known -/
inductive Kn (H : Hp) : V → Prop
  | int (i : Int) : Kn H (.int i)
  | non : Kn H .non
  | bl (b : Bool) : Kn H (.bl b)
  | str (z : Str) : Kn H (.str z)
  | lst {a : Addr} {xs : List V} (h : H a = some (.lst xs)) : Kn H (.ref a)
  | tup {a : Addr} {xs : List V} (h : H a = some (.tup xs)) : Kn H (.ref a)
theorem Kn.keep {H H' : Hp} (s : Same H H') {v : V} (h : Kn H v) : Kn H' v := by
  cases h with
  | int i => exact .int i
  | non => exact .non
  | bl b => exact .bl b
  | str z => exact .str z
  | lst h => exact .lst (s _ _ h)
  | tup h => exact .tup (s _ _ h)
/-- a whole number, a count -/
def whV : V → Bool
  | .int _ => true
  | _ => false
def cntV : V → Bool
  | .int i => decide (0 ≤ i)
  | _ => false
def belV (b : Int) : V → Bool
  | .int i => decide (0 ≤ i) && decide (i < b)
  | _ => false
def spWhole : Sp := fun vs H Q _ => ∃ v, vs = [v] ∧ Kn H v ∧ Q (.bl (whV v)) H
def spCount : Sp := fun vs H Q _ => ∃ v, vs = [v] ∧ Kn H v ∧ Q (.bl (cntV v)) H
def spBelow : Sp := fun vs H Q _ => ∃ b v, vs = [.int b, v] ∧ Kn H v ∧ Q (.bl (belV b v)) H
def lowS (z : Str) : Bool := decide (z = "") || (Txt.isascii z && (Txt.isalpha z && Txt.islower z))
def lowV : L2.V → Bool
  | .str z => lowS z
  | _ => false
def spLow : Sp := fun vs H Q _ => ∃ v, vs = [v] ∧ Kn H v ∧ Q (.bl (lowV v)) H
/-- a word of the program: letters, at most 20000 -/
def wordV : L2.V → Bool
  | .str z => lowS z && decide (z.length ≤ 20000)
  | _ => false
def spIsWord : Sp := fun vs H Q _ => ∃ v, vs = [v] ∧ Kn H v ∧ (∀ z, v = .str z → z.length ≤ 100000) ∧ Q (.bl (wordV v)) H
section
variable {P : Program} {w : World} {K : PySem.W.Frag} {mg : Str → Option Value} {base : Heap} {f : Addr} {fd : FuncData}
theorem ok_whole (F : FnP K "is_whole" sWhole f fd) (z_isinstance : mg "isinstance" = none) (z_int : mg "int" = none) (z_bool : mg "bool" = none) : FnOk P w K mg base CX0 1 f fd ["value"] spWhole := by
  refine F.ok scWhole (fun vs H Q E h => ?_) (fun cdv A outer s H vs Q E hr h => ?_)
  · obtain ⟨v, rfl, _⟩ := h
    rfl
  · obtain ⟨v, rfl, kv, q⟩ := h
    refine ⟨_, PSs.nox (pss_one (ps_ret (pe_and (pe_callB call_isi (by rfl) z_isinstance (by decide +kernel) (pa_cons (pv 0) (pa_cons (pe_bltn (v := .ty "int") (by rfl) z_int (by decide +kernel) rfl) pa_nil))) (pe_one (pe_not (pe_callB call_isi (by rfl) z_isinstance (by decide +kernel) (pa_cons (pv 0) (pa_cons (pe_bltn (v := .ty "bool") (by rfl) z_bool (by decide +kernel) rfl) pa_nil)))))))), ?_⟩
    cases kv with
    | int i => exact ⟨_, rfl, _, _, _, _, true, rfl, .ty "int", .base (.int i), kit_ty (by decide +kernel), true, rfl, _, rfl, _, _, _, _, false, rfl, .ty "bool", .base (.int i), kit_ty (by decide +kernel), false, rfl, q⟩
    | bl b => exact ⟨_, rfl, _, _, _, _, true, rfl, .ty "int", .base (.bl b), kit_ty (by decide +kernel), true, rfl, _, rfl, _, _, _, _, true, rfl, .ty "bool", .base (.bl b), kit_ty (by decide +kernel), true, rfl, q⟩
    | non => exact ⟨_, rfl, _, _, _, _, false, rfl, .ty "int", .base .non, kit_ty (by decide +kernel), false, rfl, iteF q⟩
    | str z => exact ⟨_, rfl, _, _, _, _, false, rfl, .ty "int", .base (.str z), kit_ty (by decide +kernel), false, rfl, iteF q⟩
    | lst h => exact ⟨_, rfl, _, _, _, _, false, rfl, .ty "int", .base (.lst h), kit_ty (by decide +kernel), false, rfl, iteF q⟩
    | tup h => exact ⟨_, rfl, _, _, _, _, false, rfl, .ty "int", .base (.tup h), kit_ty (by decide +kernel), false, rfl, iteF q⟩
theorem ok_count (F : FnP K "is_count" sCount f fd) (o_is_whole : Ok P w K mg base "is_whole" 1 ["value"] spWhole) : FnOk P w K mg base CX0 2 f fd ["value"] spCount := by
  refine F.ok scCount (fun vs H Q E h => ?_) (fun cdv A outer s H vs Q E hr h => ?_)
  · obtain ⟨v, rfl, _⟩ := h
    rfl
  · obtain ⟨v, rfl, kv, q⟩ := h
    refine ⟨_, PSs.nox (pss_one (ps_ret (pe_and (pe_callO o_is_whole (hr.mono (by decide)) (by rfl) (pa_cons (pv 0) pa_nil)) (pe_one (pe_cmpR op_ge (pv 0) pe_int (nomark _)))))), ?_⟩
    have k2 := kv
    cases kv with
    | int i => exact ⟨_, rfl, _, rfl, k2, true, rfl, _, rfl, _, _, rfl, rfl, q⟩
    | bl b => exact ⟨_, rfl, _, rfl, k2, false, rfl, iteF q⟩
    | non => exact ⟨_, rfl, _, rfl, k2, false, rfl, iteF q⟩
    | str z => exact ⟨_, rfl, _, rfl, k2, false, rfl, iteF q⟩
    | lst h => exact ⟨_, rfl, _, rfl, k2, false, rfl, iteF q⟩
    | tup h => exact ⟨_, rfl, _, rfl, k2, false, rfl, iteF q⟩
theorem ok_below (F : FnP K "is_count_below" sBelow f fd) (o_is_count : Ok P w K mg base "is_count" 2 ["value"] spCount) : FnOk P w K mg base CX0 3 f fd ["bound", "value"] spBelow := by
  refine F.ok scBelow (fun vs H Q E h => ?_) (fun cdv A outer s H vs Q E hr h => ?_)
  · obtain ⟨b, v, rfl, _⟩ := h
    rfl
  · obtain ⟨b, v, rfl, kv, q⟩ := h
    refine ⟨_, PSs.nox (pss_one (ps_ret (pe_and (pe_callO o_is_count (hr.mono (by decide)) (by rfl) (pa_cons (pv 1) pa_nil)) (pe_one (pe_cmpR op_lt (pv 1) (pv 0) (nomark _)))))), ?_⟩
    have k2 := kv
    cases kv with
    | int i =>
      refine ⟨_, rfl, _, rfl, k2, _, rfl, ?_⟩
      by_cases c : 0 ≤ i
      · have e : cntV (.int i) = true := decide_eq_true c
        rw [e]
        have e2 : belV b (.int i) = decide (i < b) := by
          show (decide (0 ≤ i) && decide (i < b)) = _
          rw [decide_eq_true c]
          rfl
        rw [e2] at q
        exact iteT ⟨_, rfl, _, rfl, _, _, rfl, rfl, q⟩
      · have e : cntV (.int i) = false := decide_eq_false c
        rw [e]
        have e2 : belV b (.int i) = false := by
          show (decide (0 ≤ i) && decide (i < b)) = _
          rw [decide_eq_false c]
          rfl
        rw [e2] at q
        exact iteF q
    | bl z => exact ⟨_, rfl, _, rfl, k2, false, rfl, iteF q⟩
    | non => exact ⟨_, rfl, _, rfl, k2, false, rfl, iteF q⟩
    | str z => exact ⟨_, rfl, _, rfl, k2, false, rfl, iteF q⟩
    | lst h => exact ⟨_, rfl, _, rfl, k2, false, rfl, iteF q⟩
    | tup h => exact ⟨_, rfl, _, rfl, k2, false, rfl, iteF q⟩
theorem ok_low (F : FnP K "is_string_of_letters" sLetters f fd) (z_isinstance : mg "isinstance" = none) (z_str : mg "str" = none) : FnOk P w K mg base CX0 1 f fd ["value"] spLow := by
  refine F.ok scLetters (fun vs H Q E h => ?_) (fun cdv A outer s H vs Q E hr h => ?_)
  · obtain ⟨v, rfl, _⟩ := h
    rfl
  · obtain ⟨v, rfl, kv, q⟩ := h
    refine ⟨_, PSs.nox (pss_cons (ps_if (pt_not (pt_val (pe_callB call_isi (by rfl) z_isinstance (by decide +kernel) (pa_cons (pv 0) (pa_cons (pe_bltn (v := .ty "str") (by rfl) z_str (by decide +kernel) rfl) pa_nil))))) (pss_one (ps_ret pe_bl)) pss_nil)
 (pss_one (ps_ret (pe_or (pe_cmpR op_eq (pv 0) pe_str (nomark _)) (pe_one (pe_and (pe_m0 PySem.F.slot_str_isascii PySem.F.type_str_isascii mt_isascii (pv 0)) (pe_and (pe_m0 PySem.F.slot_str_isalpha PySem.F.type_str_isalpha mt_isalpha (pv 0)) (pe_one (pe_m0 PySem.F.slot_str_islower PySem.F.type_str_islower mt_islower (pv 0)))))))))), ?_⟩
    cases kv with
    | int i => exact ⟨_, rfl, _, _, _, _, false, rfl, .ty "str", .base (.int i), kit_ty (by decide +kernel), false, rfl, iteT q⟩
    | bl b => exact ⟨_, rfl, _, _, _, _, false, rfl, .ty "str", .base (.bl b), kit_ty (by decide +kernel), false, rfl, iteT q⟩
    | non => exact ⟨_, rfl, _, _, _, _, false, rfl, .ty "str", .base .non, kit_ty (by decide +kernel), false, rfl, iteT q⟩
    | lst h => exact ⟨_, rfl, _, _, _, _, false, rfl, .ty "str", .base (.lst h), kit_ty (by decide +kernel), false, rfl, iteT q⟩
    | tup h => exact ⟨_, rfl, _, _, _, _, false, rfl, .ty "str", .base (.tup h), kit_ty (by decide +kernel), false, rfl, iteT q⟩
    | str z =>
      refine ⟨_, rfl, _, _, _, _, true, rfl, .ty "str", .base (.str z), kit_ty (by decide +kernel), true, rfl, iteF ⟨_, rfl, rfl, decide (V.str z = V.str ""), rfl, ?_⟩⟩
      by_cases e : z = ""
      · subst e
        rw [decide_eq_true rfl]
        exact iteT q
      · have ne : ¬ V.str z = V.str "" := fun x => e (V.str.inj x)
        have el : lowV (.str z) = (Txt.isascii z && (Txt.isalpha z && Txt.islower z)) := by
          show (decide (z = "") || _) = _
          rw [decide_eq_false e, Bool.false_or]
        rw [el] at q
        rw [decide_eq_false ne]
        refine iteF ⟨_, rfl, ⟨_, rfl⟩, _, rfl, rfl, trivial, Txt.isascii z, rfl, ?_⟩
        cases ea : Txt.isascii z with
        | false =>
          rw [ea] at q
          exact iteF q
        | true =>
          rw [ea, Bool.true_and] at q
          refine iteT ⟨_, rfl, ⟨_, rfl⟩, _, rfl, rfl, trivial, Txt.isalpha z, rfl, ?_⟩
          cases eb : Txt.isalpha z with
          | false =>
            rw [eb] at q
            exact iteF q
          | true =>
            rw [eb, Bool.true_and] at q
            exact iteT ⟨_, rfl, ⟨_, rfl⟩, _, rfl, rfl, trivial, q⟩
theorem ok_isWord (F : FnP K "is_word" sIsWord f fd) (o_low : Ok P w K mg base "is_string_of_letters" 1 ["value"] spLow) (z_len : mg "len" = none) {tM : Tok} (h_LW : mg "LONGEST_WORD" = some (.int 20000 tM)) : FnOk P w K mg base CX0 2 f fd ["value"] spIsWord := by
  refine F.ok scIsWord (fun vs H Q E h => ?_) (fun cdv A outer s H vs Q E hr h => ?_)
  · obtain ⟨v, rfl, _⟩ := h
    rfl
  · obtain ⟨v, rfl, kv, lv, q⟩ := h
    have r1 : Room 1 (A.deeper (envOfC "is_word" (defScope sIsWord) s.heap.objs.size f cdv)) := hr
    have szl := sizeLine_eq
    refine ⟨_, PSs.nox (pss_one (ps_ret (pe_and (pe_callO o_low r1 (by rfl) (pa_cons (pv 0) pa_nil)) (pe_one (pe_cmpR op_le (pe_callB call_len_str (by rfl) z_len boot_len (pa_cons (pv 0) pa_nil)) (pe_glob (v := .int 20000) (by rfl) h_LW ⟨_, rfl⟩) (nomark _)))))), ?_⟩
    refine ⟨_, rfl, v, rfl, kv, ?_⟩
    cases v with
    | str z =>
      have lz := lv z rfl
      have e : wordV (.str z) = (lowS z && decide (z.length ≤ 20000)) := rfl
      rw [e] at q
      show ∃ b, V.bl (lowS z) = .bl b ∧ _
      cases c : lowS z with
      | false =>
        rw [c] at q
        exact ⟨false, rfl, iteF q⟩
      | true =>
        rw [c, Bool.true_and] at q
        refine ⟨true, rfl, iteT ⟨_, rfl, z, rfl, by omega, _, _, rfl, rfl, ?_⟩⟩
        have e2 : decide ((z.length : Int) ≤ 20000) = decide (z.length ≤ 20000) := decide_eq_decide.mpr ⟨fun h => by omega, fun h => by omega⟩
        show Q (.bl (decide ((z.length : Int) ≤ 20000))) H
        rw [e2]
        exact q
    | _ => exact ⟨false, rfl, iteF q⟩
end
end KK
set_option Elab.async false
set_option linter.all false
set_option maxRecDepth 100000
set_option maxHeartbeats 4000000
/-! Least thresholds and periods of a sequence that repeats: of lists and numbers, no program. -/
namespace NQ
section
variable {β : Type} [DecidableEq β]
/-- the steps that lead a cycle to itself -/
def isPer (cy : List β) (k : Nat) : Bool := decide (cy.length % k = 0) && decide (cy.drop k = cy.take (cy.length - k))
def pers (cy : List β) : List Nat := (List.range' 1 cy.length).filter (isPer cy)
def per1 (cy : List β) : Nat := (pers cy).headD 0
/-- s repeats by d from t on -/
def Rep (s : Nat → β) (t d : Nat) : Prop := ∀ c, t ≤ c → s (c + d) = s c
theorem Rep.mul {s : Nat → β} {t d : Nat} (h : Rep s t d) : ∀ n c, t ≤ c → s (c + d * n) = s c
  | 0, c, _ => by rw [Nat.mul_zero, Nat.add_zero]
  | n + 1, c, hc => by
    rw [Nat.mul_succ, ← Nat.add_assoc, h (c + d * n) (by omega), Rep.mul h n c hc]
theorem Rep.later {s : Nat → β} {t t' d : Nat} (h : Rep s t d) (l : t ≤ t') : Rep s t' d := fun c hc => h c (by omega)
/-- a repeat from somewhere on holds from where another one begins -/
theorem Rep.back {s : Nat → β} {t p T d : Nat} (hp : 1 ≤ p) (h : Rep s t p) (k : Rep s T d) : Rep s t d := fun c hc => by
  have a : T ≤ c + p * T := by
    have := Nat.mul_le_mul_right T hp
    omega
  have e1 := h.mul T c hc
  have e2 := h.mul T (c + d) (by omega)
  have e3 := k (c + p * T) a
  rw [← e2, ← e1, ← e3]
  congr 1
  omega
/-- what is left of one repeat behind another -/
theorem Rep.mod {s : Nat → β} {t p d : Nat} (h : Rep s t p) (k : Rep s t d) : Rep s t (p % d) := fun c hc => by
  have e1 := k.mul (p / d) (c + p % d) (by omega)
  have e2 := h c hc
  rw [← e1, ← e2]
  congr 1
  have := Nat.mod_add_div p d
  omega
/-- the table of one cycle -/
def cyc (s : Nat → β) (t p : Nat) : List β := (List.range p).map fun i => s (t + i)
theorem cyc_len (s : Nat → β) (t p : Nat) : (cyc s t p).length = p := by simp [cyc]
theorem cyc_get (s : Nat → β) (t p i : Nat) (h : i < p) : (cyc s t p)[i]? = some (s (t + i)) := by simp [cyc, h]
theorem isPer_iff {s : Nat → β} {t p k : Nat} (hk : 1 ≤ k) (hkp : k ≤ p) (h : Rep s t p) : isPer (cyc s t p) k = true ↔ p % k = 0 ∧ Rep s t k := by
  unfold isPer
  rw [Bool.and_eq_true, decide_eq_true_eq, decide_eq_true_eq, cyc_len]
  constructor
  · rintro ⟨e, hl⟩
    refine ⟨e, ?_⟩
    have base : ∀ i, i + k < p → s (t + i + k) = s (t + i) := fun i hi => by
      have := congrArg (fun l => l[i]?) hl
      simp only [List.getElem?_drop, List.getElem?_take] at this
      rw [cyc_get _ _ _ _ (by omega), if_pos (by omega), cyc_get _ _ _ _ (by omega)] at this
      have := Option.some.inj this
      rw [← this]
      congr 1
      omega
    -- within the cycle by steps of k
    have up : ∀ n i, i + k * n < p → s (t + i + k * n) = s (t + i) := by
      intro n
      induction n with
      | zero => intro i _; rw [Nat.mul_zero, Nat.add_zero]
      | succ n ih =>
        intro i hi
        rw [Nat.mul_succ] at hi ⊢
        have e1 := base (i + k * n) (by omega)
        have e2 := ih i (by omega)
        have e3 : t + i + (k * n + k) = t + (i + k * n) + k := by omega
        rw [← e2, e3, e1, ← Nat.add_assoc]
    have one : ∀ i, i < p → s (t + i + k) = s (t + i) := fun i hi => by
      by_cases c : i + k < p
      · exact base i c
      · have hj : i + k - p < k := by omega
        have e3 := h (t + (i + k - p)) (by omega)
        have e4 : t + i + k = t + (i + k - p) + p := by omega
        rw [e4, e3]
        -- i = (i + k - p) + k * n
        obtain ⟨n, hn⟩ : ∃ n, p = k * n := ⟨p / k, by have := Nat.mod_add_div p k; omega⟩
        have n1 : 1 ≤ n := by
          rcases n with _ | n
          · rw [Nat.mul_zero] at hn; omega
          · omega
        have e5 : k * (n - 1) + k = p := by
          rw [hn, ← Nat.mul_succ]
          congr 1
          omega
        have e6 := up (n - 1) (i + k - p) (by omega)
        rw [← e6]
        congr 1
        omega
    intro c hc
    have e7 : c = t + (c - t) % p + p * ((c - t) / p) := by
      have := Nat.mod_add_div (c - t) p
      omega
    have lt : (c - t) % p < p := Nat.mod_lt _ (by omega)
    have e8 := h.mul ((c - t) / p) (t + (c - t) % p) (by omega)
    have e9 := h.mul ((c - t) / p) (t + (c - t) % p + k) (by omega)
    rw [e7, e8, ← one _ lt, ← e9]
    congr 1
    omega
  · rintro ⟨e, hr⟩
    refine ⟨e, ?_⟩
    apply List.ext_getElem?
    intro i
    rw [List.getElem?_drop, List.getElem?_take]
    by_cases c : i < p - k
    · rw [if_pos c, cyc_get _ _ _ _ (by omega), cyc_get _ _ _ _ (by omega)]
      have := hr (t + i) (by omega)
      rw [← this]
      congr 2
      omega
    · rw [if_neg c]
      exact List.getElem?_eq_none (by rw [cyc_len]; omega)
theorem mem_pers {s : Nat → β} {t p k : Nat} (h : Rep s t p) : k ∈ pers (cyc s t p) ↔ 1 ≤ k ∧ k ≤ p ∧ p % k = 0 ∧ Rep s t k := by
  unfold pers
  rw [List.mem_filter, List.mem_range'_1, cyc_len]
  constructor
  · rintro ⟨⟨a, b⟩, c⟩
    exact ⟨a, by omega, (isPer_iff a (by omega) h).mp c⟩
  · rintro ⟨a, b, c⟩
    exact ⟨⟨a, by omega⟩, (isPer_iff a b h).mpr c⟩
theorem head_least : ∀ {l : List Nat}, l.Pairwise (· < ·) → ∀ x ∈ l, l.headD 0 ∈ l ∧ l.headD 0 ≤ x
  | [], _, _, h => by cases h
  | a :: l, h, x, hx => by
    refine ⟨List.mem_cons_self, ?_⟩
    rcases List.mem_cons.mp hx with rfl | hx
    · exact Nat.le_refl _
    · exact Nat.le_of_lt ((List.pairwise_cons.mp h).1 x hx)
theorem pers_lt (cy : List β) : (pers cy).Pairwise (· < ·) := List.Pairwise.filter _ List.pairwise_lt_range'
/-- the least period is one, and the least of all -/
theorem per1_ok {s : Nat → β} {t p : Nat} (hp : 1 ≤ p) (h : Rep s t p) : 1 ≤ per1 (cyc s t p) ∧ per1 (cyc s t p) ≤ p ∧ p % per1 (cyc s t p) = 0 ∧ Rep s t (per1 (cyc s t p)) := by
  have hm : p ∈ pers (cyc s t p) := (mem_pers h).mpr ⟨hp, Nat.le_refl _, Nat.mod_self p, h⟩
  exact (mem_pers h).mp (head_least (pers_lt _) p hm).1
theorem per1_le0 {s : Nat → β} {t p : Nat} (hp : 1 ≤ p) (h : Rep s t p) : ∀ d, 1 ≤ d → Rep s t d → per1 (cyc s t p) ≤ d := by
  intro d
  induction d using Nat.strongRecOn with
  | _ d ih =>
    intro hd k
    by_cases c : p % d = 0
    · by_cases l : d ≤ p
      · exact (head_least (pers_lt _) d ((mem_pers h).mpr ⟨hd, l, c, k⟩)).2
      · exact Nat.le_trans (per1_ok hp h).2.1 (by omega)
    · have lt : p % d < d := Nat.mod_lt _ (by omega)
      exact Nat.le_trans (ih (p % d) lt (by omega) (h.mod k)) (by omega)
theorem per1_le {s : Nat → β} {t p T d : Nat} (hp : 1 ≤ p) (h : Rep s t p) (hd : 1 ≤ d) (k : Rep s T d) : per1 (cyc s t p) ≤ d := per1_le0 hp h d hd (Rep.back hp h k)
/-- where the repeat begins -/
def thr (s : Nat → β) (q : Nat) : Nat → Nat
  | 0 => 0
  | t + 1 => if s t = s (t + q) then thr s q t else t + 1
theorem thr_le (s : Nat → β) (q : Nat) : ∀ t, thr s q t ≤ t
  | 0 => Nat.le_refl 0
  | t + 1 => by
    unfold thr
    split
    · exact Nat.le_succ_of_le (thr_le s q t)
    · exact Nat.le_refl _
theorem thr_rep (s : Nat → β) (q : Nat) : ∀ t, Rep s t q → Rep s (thr s q t) q
  | 0, h => h
  | t + 1, h => by
    unfold thr
    split
    · rename_i e
      refine thr_rep s q t fun c hc => ?_
      by_cases l : t = c
      · rw [← l, e]
      · exact h c (by omega)
    · exact h
theorem thr_least (s : Nat → β) (q : Nat) : ∀ t T, Rep s T q → thr s q t ≤ T
  | 0, _, _ => Nat.zero_le _
  | t + 1, T, k => by
    unfold thr
    split
    · exact thr_least s q t T k
    · rename_i e
      apply Nat.le_of_not_lt
      intro l
      exact e (k t (by omega)).symm
/-- the least limit of a sequence: its threshold and its period -/
def lim1 (s : Nat → β) (t p : Nat) : Nat × Nat := (thr s (per1 (cyc s t p)) t, per1 (cyc s t p))
theorem lim1_ok {s : Nat → β} {t p : Nat} (hp : 1 ≤ p) (h : Rep s t p) : (lim1 s t p).1 ≤ t ∧ 1 ≤ (lim1 s t p).2 ∧ p % (lim1 s t p).2 = 0 ∧ Rep s (lim1 s t p).1 (lim1 s t p).2 := by
  obtain ⟨h1, _, h3, h4⟩ := per1_ok hp h
  exact ⟨thr_le _ _ _, h1, h3, thr_rep _ _ _ h4⟩
end
/-- two sequences that tell the same places apart have the same least limit -/
theorem lim1_eq {β γ : Type} [DecidableEq β] [DecidableEq γ] {s : Nat → β} {u : Nat → γ} {t p t2 p2 : Nat} (hp : 1 ≤ p) (h : Rep s t p) (hp2 : 1 ≤ p2) (h2 : Rep u t2 p2) (e : ∀ c d, s c = s d ↔ u c = u d) : lim1 s t p = lim1 u t2 p2 := by
  have su : ∀ {T d}, Rep s T d ↔ Rep u T d := fun {T d} => ⟨fun k c hc => (e _ _).mp (k c hc), fun k c hc => (e _ _).mpr (k c hc)⟩
  obtain ⟨a1, _, _, a4⟩ := per1_ok hp h
  obtain ⟨b1, _, _, b4⟩ := per1_ok hp2 h2
  have ep : per1 (cyc s t p) = per1 (cyc u t2 p2) := Nat.le_antisymm (per1_le hp h b1 (su.mpr b4)) (per1_le hp2 h2 a1 (su.mp a4))
  have r1 := thr_rep s _ t a4
  have r2 := thr_rep u _ t2 b4
  have et : thr s (per1 (cyc s t p)) t = thr u (per1 (cyc u t2 p2)) t2 := Nat.le_antisymm (thr_least _ _ _ _ (su.mpr (by rw [ep]; exact r2))) (thr_least _ _ _ _ (su.mp (by rw [← ep]; exact r1)))
  exact Prod.ext et ep
end NQ
set_option Elab.async false
set_option linter.all false
set_option maxRecDepth 100000
set_option maxHeartbeats 4000000
/-! A map of at most 12 states, taken often: when it first repeats, and that its period is at most 60: of numbers, no program. -/
namespace NM
open NQ
/-- f, k times -/
def it (f : Nat → Nat) : Nat → Nat → Nat
  | 0, s => s
  | k + 1, s => f (it f k s)
theorem it_add (f : Nat → Nat) (a : Nat) : ∀ b s, it f (a + b) s = it f b (it f a s)
  | 0, _ => rfl
  | b + 1, s => congrArg f (it_add f a b s)
theorem it_comm (f : Nat → Nat) (a b s : Nat) : it f a (it f b s) = it f b (it f a s) := by
  rw [← it_add, ← it_add, Nat.add_comm]
theorem it_mul {f : Nat → Nat} {d u : Nat} (h : it f d u = u) : ∀ k, it f (d * k) u = u
  | 0 => rfl
  | k + 1 => by rw [Nat.mul_succ, it_add, it_mul h k, h]
theorem nodup_len : ∀ (l D : List Nat), l.Nodup → (∀ x ∈ l, x ∈ D) → l.length ≤ D.length
  | [], _, _, _ => Nat.zero_le _
  | a :: l, D, h, k => by
    obtain ⟨h1, h2⟩ := List.nodup_cons.mp h
    have ha := k a List.mem_cons_self
    have := nodup_len l (D.erase a) h2 fun x hx => by
      have hx' := k x (List.mem_cons_of_mem _ hx)
      exact (List.mem_erase_of_ne (fun e => h1 (by rw [← e]; exact hx))).mpr hx'
    rw [List.length_erase_of_mem ha] at this
    have := List.length_pos_of_mem ha
    rw [List.length_cons]
    omega
section
variable {f : Nat → Nat} {n : Nat} (hf : ∀ s, s < n → f s < n)
include hf
theorem it_lt : ∀ (k : Nat) {s : Nat}, s < n → it f k s < n
  | 0, _, h => h
  | k + 1, _, h => hf _ (it_lt k h)
/-- two of the first n + 1 states are the same -/
theorem pigeon {s : Nat} (hs : s < n) : ∃ i j, i < j ∧ j ≤ n ∧ it f i s = it f j s := by
  apply Classical.byContradiction
  intro h
  have nd : ((List.range (n + 1)).map fun k => it f k s).Nodup := by
    rw [List.Nodup, List.pairwise_map]
    refine List.Pairwise.imp_of_mem (fun {a b} ha hb hab e => ?_) List.pairwise_lt_range
    exact h ⟨a, b, hab, by have := List.mem_range.mp hb; omega, e⟩
  have := nodup_len _ (List.range n) nd fun x hx => by
    obtain ⟨k, _, rfl⟩ := List.mem_map.mp hx
    exact List.mem_range.mpr (it_lt hf k hs)
  rw [List.length_map, List.length_range, List.length_range] at this
  omega
end
/-- the length of the cycle that a state is on, 0 if it is on none -/
def per (f : Nat → Nat) (n u : Nat) : Nat := ((List.range' 1 n).find? fun d => decide (it f d u = u)).getD 0
theorem find_least {P : Nat → Bool} : ∀ (k lo p : Nat), (List.range' lo k).find? P = some p → lo ≤ p ∧ p < lo + k ∧ P p = true ∧ ∀ q, lo ≤ q → q < p → P q = false
  | 0, lo, p, h => by simp at h
  | k + 1, lo, p, h => by
    rw [List.range'_succ, List.find?_cons] at h
    cases e : P lo with
    | true =>
      rw [e] at h
      cases h
      exact ⟨Nat.le_refl _, by omega, e, fun q h1 h2 => by omega⟩
    | false =>
      rw [e] at h
      obtain ⟨h1, h2, h3, h4⟩ := find_least k (lo + 1) p h
      refine ⟨by omega, by omega, h3, fun q q1 q2 => ?_⟩
      by_cases c : q = lo
      · rw [c, e]
      · exact h4 q (by omega) q2
theorem per_some {f : Nat → Nat} {n u d : Nat} (h1 : 1 ≤ d) (h2 : d ≤ n) (h : it f d u = u) : 1 ≤ per f n u ∧ per f n u ≤ d ∧ it f (per f n u) u = u ∧ ∀ q, 1 ≤ q → q < per f n u → it f q u ≠ u := by
  unfold per
  cases e : (List.range' 1 n).find? fun d => decide (it f d u = u) with
  | none =>
    have := List.find?_eq_none.mp e d (List.mem_range'_1.mpr ⟨h1, by omega⟩)
    exact absurd (decide_eq_true h) this
  | some p =>
    obtain ⟨a, b, c, l⟩ := find_least _ _ _ e
    refine ⟨a, ?_, of_decide_eq_true c, fun q q1 q2 => of_decide_eq_false (l q q1 q2)⟩
    apply Nat.le_of_not_lt
    intro lt
    exact of_decide_eq_false (l d h1 lt) h
/-- sums of the lengths of different cycles -/
theorem count_sum {g : Nat → Nat} : ∀ (xs : List Nat) (l : List Nat), l.Nodup → (l.map fun d => xs.countP fun x => decide (g x = d)).sum ≤ xs.length
  | [], l, _ => by
    have : ∀ l : List Nat, (l.map fun d => ([] : List Nat).countP fun x => decide (g x = d)).sum = 0 := fun l => by
      induction l with
      | nil => rfl
      | cons a l ih => rw [List.map_cons, List.sum_cons, ih]; rfl
    rw [this]
    exact Nat.zero_le _
  | x :: xs, l, h => by
    have ih := count_sum (g := g) xs l h
    have e : ∀ l : List Nat, (l.map fun d => (x :: xs).countP fun x => decide (g x = d)).sum = (l.map fun d => xs.countP fun x => decide (g x = d)).sum + l.countP fun d => decide (g x = d) := fun l => by
      induction l with
      | nil => rfl
      | cons a l ih =>
        rw [List.map_cons, List.sum_cons, ih, List.map_cons, List.sum_cons, List.countP_cons, List.countP_cons]
        omega
    have one : l.countP (fun d => decide (g x = d)) ≤ 1 := by
      have := nodup_len (l.filter fun d => decide (g x = d)) [g x] (h.filter _) fun y hy => by
        have := of_decide_eq_true (List.mem_filter.mp hy).2
        rw [this]
        exact List.mem_singleton.mpr rfl
      rw [List.countP_eq_length_filter]
      exact this
    rw [e, List.length_cons]
    omega
/-- all lists of different lengths with a small sum have a small common multiple -/
def chk : List Nat → Nat → Nat → Bool
  | [], s, m => decide (12 < s) || decide (m ≤ 60)
  | x :: r, s, m => decide (12 < s) || (chk r s m && chk r (s + x) (Nat.lcm m x))
theorem chk_ok (b : Nat → Bool) : ∀ (l : List Nat) (s m : Nat), chk l s m = true → s + (l.filter b).sum ≤ 12 → (l.filter b).foldl Nat.lcm m ≤ 60
  | [], s, m, h, k => by
    simp only [chk, Bool.or_eq_true, decide_eq_true_eq] at h
    simp only [List.filter_nil, List.sum_nil, Nat.add_zero, List.foldl_nil] at k ⊢
    omega
  | x :: r, s, m, h, k => by
    simp only [chk, Bool.or_eq_true, Bool.and_eq_true, decide_eq_true_eq] at h
    cases e : b x with
    | true =>
      rw [List.filter_cons_of_pos e] at k ⊢
      rw [List.sum_cons] at k
      rw [List.foldl_cons]
      rcases h with h | h
      · omega
      · exact chk_ok b r (s + x) (Nat.lcm m x) h.2 (by omega)
    | false =>
      rw [List.filter_cons_of_neg (by rw [e]; exact Bool.false_ne_true)] at k ⊢
      rcases h with h | h
      · omega
      · exact chk_ok b r s m h.1 k
theorem chk12 : chk (List.range' 1 12) 0 1 = true := by decide +kernel
theorem foldl_dvd : ∀ (l : List Nat) (m : Nat), m ∣ l.foldl Nat.lcm m ∧ ∀ d ∈ l, d ∣ l.foldl Nat.lcm m
  | [], m => ⟨Nat.dvd_refl m, fun d hd => by cases hd⟩
  | x :: l, m => by
    rw [List.foldl_cons]
    obtain ⟨h1, h2⟩ := foldl_dvd l (Nat.lcm m x)
    refine ⟨Nat.dvd_trans (Nat.dvd_lcm_left m x) h1, fun d hd => ?_⟩
    rcases List.mem_cons.mp hd with rfl | hd
    · exact Nat.dvd_trans (Nat.dvd_lcm_right m d) h1
    · exact h2 d hd
theorem foldl_pos : ∀ (l : List Nat) (m : Nat), 0 < m → (∀ d ∈ l, 0 < d) → 0 < l.foldl Nat.lcm m
  | [], _, h, _ => h
  | x :: l, m, h, k => by
    rw [List.foldl_cons]
    exact foldl_pos l _ (Nat.lcm_pos h (k x List.mem_cons_self)) fun d hd => k d (List.mem_cons_of_mem _ hd)
section
variable {f : Nat → Nat} {n : Nat} (hf : ∀ s, s < n → f s < n) (hn : n ≤ 12)
include hf hn
/-- the lengths that occur -/
def lens (f : Nat → Nat) (n : Nat) : List Nat := (List.range' 1 12).filter fun d => (List.range n).any fun u => decide (per f n u = d)
omit hf hn in
theorem mem_lens {d : Nat} : d ∈ lens f n ↔ 1 ≤ d ∧ d ≤ 12 ∧ ∃ u, u < n ∧ per f n u = d := by
  unfold lens
  rw [List.mem_filter, List.mem_range'_1, List.any_eq_true]
  constructor
  · rintro ⟨⟨a, b⟩, u, hu, e⟩
    exact ⟨a, by omega, u, List.mem_range.mp hu, of_decide_eq_true e⟩
  · rintro ⟨a, b, u, hu, e⟩
    exact ⟨⟨a, by omega⟩, u, List.mem_range.mpr hu, decide_eq_true e⟩
/-- on a cycle of length d there are d states of that length -/
theorem cycle_len {u d : Nat} (hu : u < n) (h1 : 1 ≤ d) (e : per f n u = d) : d ≤ (List.range n).countP fun x => decide (per f n x = d) := by
  have ex : ∃ q, (List.range' 1 n).find? (fun d => decide (it f d u = u)) = some q := by
    cases z : (List.range' 1 n).find? fun d => decide (it f d u = u) with
    | none =>
      unfold per at e
      rw [z] at e
      have e : (0 : Nat) = d := e
      omega
    | some q => exact ⟨q, rfl⟩
  obtain ⟨q, hq⟩ := ex
  obtain ⟨a1, a2, a3, _⟩ := find_least _ _ _ hq
  obtain ⟨b1, b2, b3, b4⟩ := per_some (n := n) (d := q) a1 (by omega) (of_decide_eq_true a3)
  have dn : d ≤ n := by omega
  rw [e] at b3 b4
  -- back to u
  have up : ∀ i, i ≤ d → it f (d - i) (it f i u) = u := fun i hi => by
    rw [← it_add, show i + (d - i) = d by omega, b3]
  have nd : ((List.range d).map fun i => it f i u).Nodup := by
    rw [List.Nodup, List.pairwise_map]
    refine List.Pairwise.imp_of_mem (fun {i j} hi hj hij ee => ?_) List.pairwise_lt_range
    have hj := List.mem_range.mp hj
    refine b4 (j - i) (by omega) (by omega) ?_
    have e1 := up i (by omega)
    rw [ee, ← it_add, show j + (d - i) = d + (j - i) by omega, it_add, b3] at e1
    exact e1
  have key := nodup_len _ ((List.range n).filter fun x => decide (per f n x = d)) nd fun x hx => by
    obtain ⟨i, hi, rfl⟩ := List.mem_map.mp hx
    have hi := List.mem_range.mp hi
    refine List.mem_filter.mpr ⟨List.mem_range.mpr (it_lt hf i hu), decide_eq_true ?_⟩
    have back : it f d (it f i u) = it f i u := by rw [it_comm, b3]
    obtain ⟨c1, c2, c3, c4⟩ := per_some h1 dn back
    apply Nat.le_antisymm c2
    apply Nat.le_of_not_lt
    intro lt
    refine b4 _ c1 lt ?_
    have e1 := up i (by omega)
    rw [← c3, it_comm f (d - i), up i (by omega)] at e1
    exact e1
  rw [List.length_map, List.length_range] at key
  rw [List.countP_eq_length_filter]
  exact key
theorem lens_sum : (lens f n).sum ≤ 12 := by
  have nd : (lens f n).Nodup := List.Pairwise.filter _ (List.nodup_range' ..)
  have a := count_sum (g := per f n) (List.range n) (lens f n) nd
  rw [List.length_range] at a
  have b : ∀ l : List Nat, (∀ d ∈ l, d ≤ (List.range n).countP fun x => decide (per f n x = d)) → l.sum ≤ (l.map fun d => (List.range n).countP fun x => decide (per f n x = d)).sum := fun l => by
    induction l with
    | nil => intro _; exact Nat.le_refl _
    | cons x l ih =>
      intro h
      rw [List.map_cons, List.sum_cons, List.sum_cons]
      have := h x List.mem_cons_self
      have := ih fun d hd => h d (List.mem_cons_of_mem _ hd)
      omega
  have := b (lens f n) fun d hd => by
    obtain ⟨h1, _, u, hu, e⟩ := mem_lens.mp hd
    exact cycle_len hf hn hu h1 e
  omega
/-- a common period of all states -/
def big (f : Nat → Nat) (n : Nat) : Nat := (lens f n).foldl Nat.lcm 1
theorem big_le : big f n ≤ 60 := chk_ok _ _ 0 1 chk12 (by rw [Nat.zero_add]; exact lens_sum hf hn)
omit hf hn in
theorem big_pos : 1 ≤ big f n := foldl_pos _ _ (by decide) fun d hd => (mem_lens.mp hd).1
theorem big_rep {s : Nat} (hs : s < n) : ∀ c, n - 1 ≤ c → it f (c + big f n) s = it f c s := by
  obtain ⟨i, j, hij, hj, e⟩ := pigeon hf hs
  -- the state on the cycle
  have hu : it f (n - 1) s < n := it_lt hf _ hs
  have on : it f (j - i) (it f (n - 1) s) = it f (n - 1) s := by
    rw [← it_add, show n - 1 + (j - i) = j + (n - 1 - i) by omega, it_add, ← e, ← it_add, show i + (n - 1 - i) = n - 1 by omega]
  obtain ⟨b1, b2, b3, _⟩ := per_some (n := n) (by omega) (by omega) on
  have hm : per f n (it f (n - 1) s) ∈ lens f n := mem_lens.mpr ⟨b1, by omega, _, hu, rfl⟩
  obtain ⟨k, hk⟩ := (foldl_dvd (lens f n) 1).2 _ hm
  have hk : big f n = per f n (it f (n - 1) s) * k := hk
  intro c hc
  rw [show c + big f n = (n - 1) + (big f n + (c - (n - 1))) by omega, it_add, it_add, hk, it_mul b3, ← it_add, show n - 1 + (c - (n - 1)) = c by omega]
end
end NM
set_option Elab.async false
set_option linter.all false
set_option maxRecDepth 100000
set_option maxHeartbeats 4000000
/-! Where the powers of a map first repeat: of lists, no program. -/
namespace NM
open NQ
/-- a map of states, written as the list of its values -/
def MapOk (st : List Nat) : Prop := 1 ≤ st.length ∧ st.length ≤ 12 ∧ ∀ x ∈ st, x < st.length
def fn (st : List Nat) (s : Nat) : Nat := st.getD s 0
/-- the states that all states are led to by k times -/
def pwS (st : List Nat) (k : Nat) : List Nat := (List.range st.length).map (it (fn st) k)
theorem fn_lt {st : List Nat} (h : MapOk st) : ∀ s, s < st.length → fn st s < st.length := fun s hs => by
  unfold fn
  rw [List.getD_eq_getElem?_getD, List.getElem?_eq_getElem hs]
  exact h.2.2 _ (List.getElem_mem hs)
theorem pwS_len (st : List Nat) (k : Nat) : (pwS st k).length = st.length := by simp [pwS]
theorem pwS_zero (st : List Nat) : pwS st 0 = List.range st.length := by
  unfold pwS
  exact (List.map_congr_left fun s _ => rfl).trans (List.map_id _)
theorem pwS_succ (st : List Nat) (k : Nat) : pwS st (k + 1) = (pwS st k).map (fn st) := by
  unfold pwS
  rw [List.map_map]
  rfl
theorem pwS_lt {st : List Nat} (h : MapOk st) (k : Nat) : ∀ x ∈ pwS st k, x < st.length := fun x hx => by
  obtain ⟨s, hs, rfl⟩ := List.mem_map.mp hx
  exact it_lt (fn_lt h) k (List.mem_range.mp hs)
theorem pwS_go {st : List Nat} {a b : Nat} (h : pwS st a = pwS st b) : ∀ c, pwS st (a + c) = pwS st (b + c)
  | 0 => h
  | c + 1 => by rw [← Nat.add_assoc, ← Nat.add_assoc, pwS_succ, pwS_succ, pwS_go h c]
/-- all powers below k are different -/
def Diff (st : List Nat) (k : Nat) : Prop := ∀ a b, a < b → b < k → pwS st a ≠ pwS st b
theorem big_powers {st : List Nat} (h : MapOk st) : Rep (pwS st) (st.length - 1) (big (fn st) st.length) := fun c hc => by
  unfold pwS
  exact List.map_congr_left fun s hs => big_rep (fn_lt h) h.2.1 (List.mem_range.mp hs) c hc
theorem diff_le {st : List Nat} (h : MapOk st) {k : Nat} (d : Diff st k) : k ≤ 71 := by
  have b := big_powers h (st.length - 1) (Nat.le_refl _)
  have b1 := big_le (fn_lt h) h.2.1
  have b0 := big_pos (f := fn st) (n := st.length)
  have h2 := h.2.1
  apply Nat.le_of_not_lt
  intro lt
  exact d (st.length - 1) (st.length - 1 + big (fn st) st.length) (by omega) (by omega) b.symm
/-- the threshold and the period of the first repeat -/
theorem first_ok {st : List Nat} (h : MapOk st) {j k : Nat} (d : Diff st k) (hj : j < k) (e : pwS st j = pwS st k) : j ≤ st.length - 1 ∧ 1 ≤ k - j ∧ k - j ≤ 60 := by
  have b1 := big_le (fn_lt h) h.2.1
  have b0 := big_pos (f := fn st) (n := st.length)
  have rp : Rep (pwS st) j (k - j) := fun c hc => by
    have := pwS_go e (c - j)
    rw [show j + (c - j) = c by omega] at this
    rw [this]
    congr 1
    omega
  have rb := big_powers h
  refine ⟨?_, by omega, Nat.le_trans ?_ b1⟩
  · apply Nat.le_of_not_lt
    intro lt
    have r := Rep.back b0 rb rp (j - 1) (by omega)
    exact d (j - 1) (k - 1) (by omega) (by omega) (by rw [← r]; congr 1; omega)
  · apply Nat.le_of_not_lt
    intro lt
    have r := Rep.back (show 1 ≤ k - j by omega) rp rb j (Nat.le_refl _)
    exact d j (j + big (fn st) st.length) (by omega) (by omega) r.symm
end NM
set_option Elab.async false
set_option linter.all false
set_option maxRecDepth 100000
set_option maxHeartbeats 4000000
namespace KK
open PySem PySem.Spec PyProof.Rows L2 XV
def IsPt (H : Hp) (x : V) (p : List Int) : Prop := ∃ a, x = .ref a ∧ H a = some (.lst (p.map V.int))
inductive Pts (H : Hp) : List V → List (List Int) → Prop
  | nil : Pts H [] []
  | cons {x : V} {xs : List V} {p : List Int} {P : List (List Int)} : IsPt H x p → Pts H xs P → Pts H (x :: xs) (p :: P)
theorem Pts.keep {H H' : Hp} (s : Same H H') : ∀ {xs : List V} {P : List (List Int)}, Pts H xs P → Pts H' xs P
  | _, _, .nil => .nil
  | _, _, .cons h r => .cons (by
      obtain ⟨a, e, t⟩ := h
      exact ⟨a, e, s _ _ t⟩) (Pts.keep s r)
theorem Pts.len {H : Hp} : ∀ {xs : List V} {P : List (List Int)}, Pts H xs P → xs.length = P.length
  | _, _, .nil => rfl
  | _, _, .cons _ r => congrArg (· + 1) (Pts.len r)
theorem Pts.get {H : Hp} : ∀ {xs : List V} {P : List (List Int)} {i : Nat} {x : V}, Pts H xs P → xs[i]? = some x → ∃ p, P[i]? = some p ∧ IsPt H x p
  | _, _, i, x, .nil, h => by simp at h
  | _, _, 0, x, .cons a r, h => by
    cases h
    exact ⟨_, rfl, a⟩
  | _, _, i + 1, x, .cons a r, h => by
    obtain ⟨l, e, z⟩ := Pts.get (i := i) r (by simpa using h)
    exact ⟨l, by simpa using e, z⟩
theorem Pts.snoc {H : Hp} {y : V} {m : List Int} (hy : IsPt H y m) : ∀ {xs : List V} {P : List (List Int)}, Pts H xs P → Pts H (xs ++ [y]) (P ++ [m])
  | _, _, .nil => .cons hy .nil
  | _, _, .cons h r => .cons h (Pts.snoc hy r)
theorem Pts.updL {H : Hp} {D : Addr} {o : HO} : ∀ {xs : List V} {P : List (List Int)}, (∀ x ∈ xs, x ≠ .ref D) → Pts H xs P → Pts (upd H D o) xs P
  | _, _, _, .nil => .nil
  | _, _, n, .cons h r => .cons (by
      obtain ⟨a, e, t⟩ := h
      refine ⟨a, e, ?_⟩
      rw [upd_ne (fun z => n _ List.mem_cons_self (by rw [e, z]))]
      exact t) (Pts.updL (fun x hx => n x (List.mem_cons_of_mem _ hx)) r)
theorem dp_ints {K : PySem.W.Frag} {H : Hp} : ∀ l : List Int, DpAll K H (l.map V.int) (l.map PyData.int)
  | [] => .nil
  | x :: l => .cons (.int x) (dp_ints l)
theorem lay_ints : ∀ l : List Int, PyData.canLayAll0 (l.map PyData.int) = true
  | [] => by simp [PyData.canLayAll0]
  | x :: l => by simp [PyData.canLayAll0, PyData.canLay0, lay_ints l]
theorem depth_ints : ∀ l : List Int, PyData.depthAll (l.map PyData.int) = 0
  | [] => by simp [PyData.depthAll]
  | x :: l => by simp [PyData.depthAll, PyData.depth, depth_ints l]
theorem eqv_intsA : ∀ p q : List Int, PyData.eqvAll (p.map PyData.int) (q.map PyData.int) = decide (p = q)
  | [], [] => by simp [PyData.eqvAll]
  | [], m :: M => by simp [PyData.eqvAll]
  | l :: L, [] => by simp [PyData.eqvAll]
  | l :: L, m :: M => by
    have ih := eqv_intsA L M
    simp only [List.map_cons, PyData.eqvAll, PyData.eqv, ih, List.cons.injEq]
    by_cases h1 : l = m <;> by_cases h2 : L = M <;> simp [h1, h2]
theorem eqv_ints (p q : List Int) : PyData.eqv (.list (p.map PyData.int)) (.list (q.map PyData.int)) = decide (p = q) := by
  simp only [PyData.eqv]
  exact eqv_intsA p q
def ptD (p : List Int) : PyData := .list (p.map PyData.int)
def PD (F : List (List Int)) : PyData := .list (F.map ptD)
theorem lay_P : ∀ F : List (List Int), PyData.canLayAll0 (F.map ptD) = true
  | [] => by simp [PyData.canLayAll0]
  | l :: F => by
    have ih := lay_P F
    simp [PyData.canLayAll0, PyData.canLay0, ptD, ih, lay_ints]
theorem depth_P : ∀ F : List (List Int), PyData.depthAll (F.map ptD) ≤ 1
  | [] => by simp [PyData.depthAll]
  | l :: F => by
    have ih := depth_P F
    simp only [List.map_cons, PyData.depthAll, ptD, PyData.depth, depth_ints]
    omega
theorem shaped_P (F : List (List Int)) : SeqAt.shaped (PD F) = true := by
  have h := depth_P F
  have e : (PD F).depth ≤ 64 := by
    simp only [PD, PyData.depth]
    omega
  have e2 : (PD F).canLay0 = true := by
    simp only [PD, PyData.canLay0]
    exact lay_P F
  unfold SeqAt.shaped
  rw [e2, decide_eq_true e]
  rfl
theorem eqv_PA : ∀ F G : List (List Int), PyData.eqvAll (F.map ptD) (G.map ptD) = decide (F = G)
  | [], [] => by simp [PyData.eqvAll]
  | [], m :: M => by simp [PyData.eqvAll]
  | l :: L, [] => by simp [PyData.eqvAll]
  | l :: L, m :: M => by
    have ih := eqv_PA L M
    simp only [List.map_cons, PyData.eqvAll, ptD, PyData.eqv, eqv_intsA, List.cons.injEq]
    rw [show (List.map ptD L) = L.map ptD from rfl, ih]
    by_cases h1 : l = m <;> by_cases h2 : L = M <;> simp [h1, h2]
theorem eqv_P (F G : List (List Int)) : PyData.eqv (PD F) (PD G) = decide (F = G) := by
  show PyData.eqv (.list _) (.list _) = _
  simp only [PyData.eqv]
  exact eqv_PA F G
theorem Pts.dp {K : PySem.W.Frag} {H : Hp} : ∀ {xs : List V} {F : List (List Int)}, Pts H xs F → DpAll K H xs (F.map ptD)
  | _, _, .nil => .nil
  | _, _, .cons h r => .cons (by
      obtain ⟨a, rfl, t⟩ := h
      exact .lst (SqL.of t) (dp_ints _)) (Pts.dp r)
def natI (st : List Nat) : List Int := st.map fun n : Nat => ((n : Nat) : Int)
theorem natI_inj {a b : List Nat} : natI a = natI b ↔ a = b := by
  constructor
  · intro h
    have := congrArg (List.map Int.toNat) h
    unfold natI at this
    rw [List.map_map, List.map_map] at this
    have e : ∀ l : List Nat, l.map (Int.toNat ∘ fun n : Nat => ((n : Nat) : Int)) = l := fun l => by
      rw [show (Int.toNat ∘ fun n : Nat => ((n : Nat) : Int)) = id from funext fun n => Int.toNat_natCast n, List.map_id]
    rw [e, e] at this
    exact this
  · intro h
    rw [h]
theorem natI_len (st : List Nat) : (natI st).length = st.length := by simp [natI]
theorem natI_get (st : List Nat) (i : Nat) : (natI st)[i]? = st[i]?.map fun n : Nat => ((n : Nat) : Int) := by simp only [natI, List.getElem?_map]
theorem pt_shaped (p : List Int) : SeqAt.shaped (ptD p) = true := by
  have e : (ptD p).depth ≤ 64 := by
    simp only [ptD, PyData.depth, depth_ints]
    omega
  have e2 : (ptD p).canLay0 = true := by simp [ptD, PyData.canLay0, lay_ints]
  unfold SeqAt.shaped
  rw [e2, decide_eq_true e]
  rfl
theorem IsPt.dp {K : PySem.W.Frag} {H : Hp} {x : V} {p : List Int} (h : IsPt H x p) : Dp K H x (ptD p) := by
  obtain ⟨a, rfl, t⟩ := h
  exact .lst (SqL.of t) (dp_ints _)
theorem any_pts (P : List (List Int)) (q : List Int) : ((P.map ptD).any fun z => PyData.eqv z (ptD q)) = decide (q ∈ P) := by
  induction P with
  | nil => simp
  | cons p P ih =>
    rw [List.map_cons, List.any_cons, ih, show PyData.eqv (ptD p) (ptD q) = decide (p = q) from eqv_ints p q]
    by_cases h : p = q
    · subst h
      simp
    · have h3 : ¬ q = p := fun e => h e.symm
      by_cases h2 : q ∈ P <;> simp [h, h3, h2]
end KK
set_option Elab.async false
set_option linter.all false
set_option maxRecDepth 100000
set_option maxHeartbeats 400000
/-! next of a zip of two or three lists, whatever became of the tuple that it handed out last. -/
namespace XV
open PySem
open PySem.Sem (wp)
theorem ad {a b : Nat} (h : a ≠ b) : @Ne Addr a b := h
/-- a zip's cell: what it keeps of the tuple that it handed out last, whether it was seen to be held -/
abbrev ZS (h : Heap) (q a b : Addr) (f0 : Value) (f1 : Bool) : Prop := h.get? q = some { cls := .type "zip", dict := none, data := .fields #[f0, .bool f1, .bool false, .ref a, .ref b], slots := #[] }
def OwnV (f0 : Value) : Prop := f0 = .none ∨ ∃ a : Nat, f0 = rawInt a
section
variable {prog : Program} {w : World} {A : Around} {E : Value → Shared → Prop} {s : Shared}
theorem alive_any {a : Addr} {Q : Option Obj → Shared → Prop} (h : Q (s.heap.get? a) s) : wpAny (model prog w) A (loadIfAlive a) Q E s := fun _ _ _ => h
theorem own_free {q a b : Addr} {f0 : Value} {f1 : Bool} {Q : Bool → Shared → Prop} (hz : ZS s.heap q a b f0 f1) (hf : OwnV f0) (h1 : Q true s)
    (h2 : ∀ h, ZS h q a b f0 true → Heap.SameBut q s.heap h → Q false { s with heap := h }) : wpAny (model prog w) A (Builtin.SmallTypes.ownedTupleIsFree (.ref q)) Q E s := by
  unfold Builtin.SmallTypes.ownedTupleIsFree
  refine wpAny_bind (wpAny_field (x := f0) hz rfl rfl ?_)
  rcases hf with rfl | ⟨t, rfl⟩
  · exact wpAny_pure h1
  · show wpAny _ _ (loadIfAlive _ >>= _) _ _ _
    refine wpAny_bind (alive_any ?_)
    cases s.heap.get? ((t : Int).toNat) with
    | none => exact wpAny_pure h1
    | some o =>
      refine wpAny_bind (wpAny_field (x := .bool f1) hz rfl rfl ?_)
      cases f1 with
      | true => exact wpAny_pure (h2 s.heap hz (Heap.SameBut.refl _ _))
      | false => exact wpAny_bind (wpAny_setField_rec hz (by simp) fun h hh hs => wpAny_pure (h2 h hh hs))
theorem zip2_item {N l1 l2 i : Nat} {f0 : Value} {f1 : Bool} {q1 q2 x1 x2 : Value} {us1 us2 : Array Value} {Q : Value → Shared → Prop} (b1 : l1 < N) (b2 : l2 < N)
    (hz : ZS s.heap (N + 4) (N + 2) (N + 3) f0 f1) (hf : OwnV f0) (hI : s.heap.get? (N + 2) = some { cls := .type "tuple", data := .seq #[.ref (N + 0), .ref (N + 1)] }) (hO : s.heap.get? (N + 3) = some { cls := .type "tuple", data := .seq #[q1, q2] })
    (t1 : s.heap.IsListIter (N + 0) l1 i) (L1 : s.heap.IsList l1 us1) (t2 : s.heap.IsListIter (N + 1) l2 i) (L2 : s.heap.IsList l2 us2) (e1 : us1[i]? = some x1) (e2 : us2[i]? = some x2)
    (hQ : ∀ h, (∃ g0 g1, OwnV g0 ∧ ZS h (N + 4) (N + 2) (N + 3) g0 g1) → (∃ q1 q2, h.get? (N + 3) = some { cls := .type "tuple", data := .seq #[q1, q2] }) → h.IsListIter (N + 0) l1 (i + 1) → h.IsListIter (N + 1) l2 (i + 1) → h.get? s.heap.objs.size = some { cls := .type "tuple", data := .seq #[x1, x2] } → h.objs.size = s.heap.objs.size + 1 →
      (∀ c o, c ≠ (N + 4) → c ≠ (N + 3) → c ≠ (N + 0) → c ≠ (N + 1) → s.heap.get? c = some o → h.get? c = some o) → Q (.ref s.heap.objs.size) { s with heap := h }) :
    wpAny (model prog w) A (Builtin.«zip.__next__» ⟨[.ref (N + 4)], []⟩) (fun fin s' => ∃ v, fin = .done (.ret v) ∧ Q v s') E s := by
  obtain ⟨hp, g, d, tk, os⟩ := s
  have zlt : (N + 4) < hp.objs.size := Heap.lt_size hz
  show wpAny _ _ (field (.ref (N + 4)) 2 >>= _) _ _ _
  refine wpAny_bind (wpAny_field hz rfl (x := .bool false) rfl ?_)
  show wpAny _ _ (field (.ref (N + 4)) 3 >>= _) _ _ _
  refine wpAny_bind (wpAny_field hz rfl (x := .ref (N + 2)) rfl (wpAny_bind (wpAny_seqItems hI rfl ?_)))
  show wpAny _ _ (Builtin.SmallTypes.ownedTupleIsFree (.ref (N + 4)) >>= _) _ _ _
  refine wpAny_bind (own_free hz hf ?_ fun g0 hz0 hs0 => ?_)
  · rw [if_pos rfl]
    refine wpAny_bind (wpAny_rule (wpAny_bind (wpAny_field hz rfl (x := .ref (N + 3)) rfl ?_)))
    refine wpAny_bind (wpAny_setField_rec hz (by simp) fun g0 hz0 hs0 => ?_)
    replace hz0 : ZS g0 (N + 4) (N + 2) (N + 3) .ellipsis f1 := hz0
    replace hs0 : Heap.SameBut (N + 4) hp g0 := hs0
    simp only [List.forIn_cons, List.forIn_nil, List.zipIdx_cons, List.zipIdx_nil]
    refine wpAny_bind (wpAny_bind (wpAny_bind (wpAny_onRaise ?_)))
    show wpAny _ _ (Builtin.SmallTypes.nextOf (.ref (N + 0)) >>= _) _ _ (Shared.mk g0 g d tk os)
    refine wpAny_bind (wpAny_nextOf_list_item (t1.at fun o e => (hs0.2 (N + 0) (ad (by omega))).trans (e)) (L1.at fun o e => (hs0.2 l1 (ad (by omega))).trans (e)) e1 fun p1 r1 hp1 => wpAny_pure ?_)
    replace hp1 : Heap.SameBut (N + 0) g0 p1 := hp1
    have hU1 : p1.get? (N + 3) = some { cls := .type "tuple", data := .seq #[q1, q2] } := (hp1.2 (N + 3) (ad (by omega))).trans ((hs0.2 (N + 3) (ad (by omega))).trans (hO))
    refine wpAny_bind (wpAny_seqItems (s := ⟨p1, g, d, tk, os⟩) hU1 rfl ?_)
    refine wpAny_bind (wpAny_updateSeq (s := ⟨p1, g, d, tk, os⟩) (f := fun a => a.setIfInBounds 0 x1) hU1 rfl ?_)
    have hT1 : (p1.update (N + 3) (Obj.mapSeq fun a => a.setIfInBounds 0 x1)).get? (N + 3) = some { cls := .type "tuple", data := .seq #[x1, q2] } := by
      rw [Heap.get?_update_self _ hU1 rfl]
      simp [Obj.mapSeq]
    have hs1 : Heap.SameBut (N + 3) p1 (p1.update (N + 3) (Obj.mapSeq fun a => a.setIfInBounds 0 x1)) := Heap.SameBut.update ..
    generalize p1.update (N + 3) (Obj.mapSeq fun a => a.setIfInBounds 0 x1) = g1 at hT1 hs1
    refine wpAny_bind (wpAny_letGo (wpAny_pure ?_))
    refine wpAny_bind (wpAny_bind (wpAny_onRaise ?_))
    show wpAny _ _ (Builtin.SmallTypes.nextOf (.ref (N + 1)) >>= _) _ _ (Shared.mk g1 g d tk os)
    refine wpAny_bind (wpAny_nextOf_list_item (t2.at fun o e => (hs1.2 (N + 1) (ad (by omega))).trans ((hp1.2 (N + 1) (ad (by omega))).trans ((hs0.2 (N + 1) (ad (by omega))).trans (e)))) (L2.at fun o e => (hs1.2 l2 (ad (by omega))).trans ((hp1.2 l2 (ad (by omega))).trans ((hs0.2 l2 (ad (by omega))).trans (e)))) e2 fun p2 r2 hp2 => wpAny_pure ?_)
    replace hp2 : Heap.SameBut (N + 1) g1 p2 := hp2
    have hU2 : p2.get? (N + 3) = some { cls := .type "tuple", data := .seq #[x1, q2] } := (hp2.2 (N + 3) (ad (by omega))).trans (hT1)
    refine wpAny_bind (wpAny_seqItems (s := ⟨p2, g, d, tk, os⟩) hU2 rfl ?_)
    refine wpAny_bind (wpAny_updateSeq (s := ⟨p2, g, d, tk, os⟩) (f := fun a => a.setIfInBounds 1 x2) hU2 rfl ?_)
    have hT2 : (p2.update (N + 3) (Obj.mapSeq fun a => a.setIfInBounds 1 x2)).get? (N + 3) = some { cls := .type "tuple", data := .seq #[x1, x2] } := by
      rw [Heap.get?_update_self _ hU2 rfl]
      simp [Obj.mapSeq]
    have hs2 : Heap.SameBut (N + 3) p2 (p2.update (N + 3) (Obj.mapSeq fun a => a.setIfInBounds 1 x2)) := Heap.SameBut.update ..
    generalize p2.update (N + 3) (Obj.mapSeq fun a => a.setIfInBounds 1 x2) = g2 at hT2 hs2
    refine wpAny_bind (wpAny_letGo (wpAny_pure ?_))
    have hsz : g2.objs.size = hp.objs.size := by rw [hs2.1, hp2.1, hs1.1, hp1.1, hs0.1]
    have hzz : ZS g2 (N + 4) (N + 2) (N + 3) .ellipsis f1 := (hs2.2 (N + 4) (ad (by omega))).trans ((hp2.2 (N + 4) (ad (by omega))).trans ((hs1.2 (N + 4) (ad (by omega))).trans ((hp1.2 (N + 4) (ad (by omega))).trans (hz0))))
    refine wpAny_bind (wpAny_pure ?_)
    refine wpAny_pure ?_
    show wpAny _ _ (seqItems? (.ref (N + 3)) >>= _) _ _ (Shared.mk g2 g d tk os)
    refine wpAny_bind (wpAny_seqItems (s := ⟨g2, g, d, tk, os⟩) hT2 rfl ?_)
    refine wpAny_bind (wpAny_newTuple ?_)
    show wpAny _ _ (Builtin.SmallTypes.ownedTupleHandOut (.ref (N + 4)) (.ref g2.objs.size) >>= _) _ _ (Shared.mk (g2.push { cls := .type "tuple", data := .seq #[x1, x2] }) g d tk os)
    unfold Builtin.SmallTypes.ownedTupleHandOut
    refine wpAny_bind (wpAny_bind (wpAny_setField_rec (Heap.get?_push_of_some _ hzz) (by simp) fun m1 hm1 hn1 => ?_))
    replace hm1 : ZS m1 (N + 4) (N + 2) (N + 3) (rawInt g2.objs.size) f1 := hm1
    refine wpAny_setField_rec hm1 (by simp) fun m2 hm2 hn2 => wpAny_pure ⟨_, rfl, ?_⟩
    replace hm2 : ZS m2 (N + 4) (N + 2) (N + 3) (rawInt g2.objs.size) false := hm2
    replace hn1 : Heap.SameBut (N + 4) (g2.push { cls := .type "tuple", data := .seq #[x1, x2] }) m1 := hn1
    replace hn2 : Heap.SameBut (N + 4) m1 m2 := hn2
    have up : ∀ c o, c ≠ (N + 4) → g2.get? c = some o → m2.get? c = some o := fun c o c1 e => (hn2.2 c c1).trans ((hn1.2 c c1).trans (Heap.get?_push_of_some _ e))
    show Q (.ref g2.objs.size) ⟨m2, g, d, tk, os⟩
    have hnew : m2.get? g2.objs.size = some { cls := .type "tuple", data := .seq #[x1, x2] } := (hn2.2 _ (by rw [hsz]; exact Nat.ne_of_gt zlt)).trans ((hn1.2 _ (by rw [hsz]; exact Nat.ne_of_gt zlt)).trans (Heap.get?_push_size _ rfl))
    have hms : m2.objs.size = g2.objs.size + 1 := by rw [hn2.1, hn1.1, Heap.size_push]
    rw [hsz] at hnew hms ⊢
    refine hQ m2 ⟨_, _, .inr ⟨_, rfl⟩, hm2⟩ ⟨_, _, up _ _ (ad (by omega)) hT2⟩ (r1.at fun o e => up _ _ (ad (by omega)) ((hs2.2 (N + 0) (ad (by omega))).trans ((hp2.2 (N + 0) (ad (by omega))).trans ((hs1.2 (N + 0) (ad (by omega))).trans (e))))) (r2.at fun o e => up _ _ (ad (by omega)) ((hs2.2 (N + 1) (ad (by omega))).trans (e))) hnew hms fun c o cz cO c1 c2 e => up c o cz ((hs2.2 c cO).trans ((hp2.2 c c2).trans ((hs1.2 c cO).trans ((hp1.2 c c1).trans ((hs0.2 c cz).trans (e))))))
  · rw [if_neg (by decide)]
    replace hz0 : ZS g0 (N + 4) (N + 2) (N + 3) f0 true := hz0
    replace hs0 : Heap.SameBut (N + 4) hp g0 := hs0
    simp only [← Array.forIn_toList, List.forIn_cons, List.forIn_nil]
    refine wpAny_bind (wpAny_bind (wpAny_bind (wpAny_holding ?_)))
    show wpAny _ _ (Builtin.SmallTypes.nextOf (.ref (N + 0)) >>= _) _ _ (Shared.mk g0 g d tk os)
    refine wpAny_bind (wpAny_nextOf_list_item (t1.at fun o e => (hs0.2 (N + 0) (ad (by omega))).trans (e)) (L1.at fun o e => (hs0.2 l1 (ad (by omega))).trans (e)) e1 fun p1 r1 hp1 => wpAny_pure (wpAny_pure ?_))
    replace hp1 : Heap.SameBut (N + 0) g0 p1 := hp1
    refine wpAny_bind (wpAny_bind (wpAny_holding ?_))
    show wpAny _ _ (Builtin.SmallTypes.nextOf (.ref (N + 1)) >>= _) _ _ (Shared.mk p1 g d tk os)
    refine wpAny_bind (wpAny_nextOf_list_item (t2.at fun o e => (hp1.2 (N + 1) (ad (by omega))).trans ((hs0.2 (N + 1) (ad (by omega))).trans (e))) (L2.at fun o e => (hp1.2 l2 (ad (by omega))).trans ((hs0.2 l2 (ad (by omega))).trans (e))) e2 fun p2 r2 hp2 => wpAny_pure (wpAny_pure ?_))
    replace hp2 : Heap.SameBut (N + 1) p1 p2 := hp2
    have hsz : p2.objs.size = hp.objs.size := by rw [hp2.1, hp1.1, hs0.1]
    refine wpAny_bind (wpAny_pure ?_)
    refine wpAny_pure ?_
    show wpAny _ _ (newTuple [x1, x2] >>= _) _ _ (Shared.mk p2 g d tk os)
    refine wpAny_bind (wpAny_newTuple ?_)
    refine wpAny_pure ⟨_, rfl, ?_⟩
    show Q (.ref p2.objs.size) ⟨p2.push { cls := .type "tuple", data := .seq #[x1, x2] }, g, d, tk, os⟩
    have hnew : (p2.push { cls := .type "tuple", data := .seq #[x1, x2] }).get? p2.objs.size = some { cls := .type "tuple", data := .seq #[x1, x2] } := Heap.get?_push_size _ rfl
    have hms : (p2.push { cls := .type "tuple", data := .seq #[x1, x2] }).objs.size = p2.objs.size + 1 := Heap.size_push ..
    have up : ∀ c o, p2.get? c = some o → (p2.push { cls := .type "tuple", data := .seq #[x1, x2] }).get? c = some o := fun c o e => Heap.get?_push_of_some _ e
    rw [hsz] at hnew hms ⊢
    refine hQ _ ⟨_, _, hf, up _ _ ((hp2.2 (N + 4) (ad (by omega))).trans ((hp1.2 (N + 4) (ad (by omega))).trans (hz0)))⟩ ⟨_, _, up _ _ ((hp2.2 (N + 3) (ad (by omega))).trans ((hp1.2 (N + 3) (ad (by omega))).trans ((hs0.2 (N + 3) (ad (by omega))).trans (hO))))⟩ (r1.at fun o e => up _ _ ((hp2.2 (N + 0) (ad (by omega))).trans (e))) (r2.at fun o e => up _ _ (e)) hnew hms fun c o cz cO c1 c2 e => up c o ((hp2.2 c c2).trans ((hp1.2 c c1).trans ((hs0.2 c cz).trans (e))))
theorem zip2_end {N l1 l2 i : Nat} {f0 : Value} {f1 : Bool} {us1 : Array Value} {Q : Fin → Shared → Prop} (b1 : l1 < N) (hh : A.handled = none)
    (hz : ZS s.heap (N + 4) (N + 2) (N + 3) f0 f1) (hf : OwnV f0) (hI : s.heap.get? (N + 2) = some { cls := .type "tuple", data := .seq #[.ref (N + 0), .ref (N + 1)] }) (t1 : s.heap.IsListIter (N + 0) l1 i) (L1 : s.heap.IsList l1 us1) (e1 : us1[i]? = none)
    (hE : ∀ h x, (∀ c o, c ≠ (N + 4) → c ≠ (N + 3) → c ≠ (N + 0) → c ≠ (N + 1) → s.heap.get? c = some o → h.get? c = some o) → (∃ o, h.get? x = some o ∧ o.cls = .type "StopIteration") → E (.ref x) { s with heap := h }) :
    wpAny (model prog w) A (Builtin.«zip.__next__» ⟨[.ref (N + 4)], []⟩) Q E s := by
  obtain ⟨hp, g, d, tk, os⟩ := s
  show wpAny _ _ (field (.ref (N + 4)) 2 >>= _) _ _ _
  refine wpAny_bind (wpAny_field hz rfl (x := .bool false) rfl ?_)
  show wpAny _ _ (field (.ref (N + 4)) 3 >>= _) _ _ _
  refine wpAny_bind (wpAny_field hz rfl (x := .ref (N + 2)) rfl (wpAny_bind (wpAny_seqItems hI rfl ?_)))
  show wpAny _ _ (Builtin.SmallTypes.ownedTupleIsFree (.ref (N + 4)) >>= _) _ _ _
  refine wpAny_bind (own_free hz hf ?_ fun g0 hz0 hs0 => ?_)
  · rw [if_pos rfl]
    refine wpAny_bind (wpAny_rule (wpAny_bind (wpAny_field hz rfl (x := .ref (N + 3)) rfl ?_)))
    refine wpAny_bind (wpAny_setField_rec hz (by simp) fun g0 hz0 hs0 => ?_)
    replace hz0 : ZS g0 (N + 4) (N + 2) (N + 3) .ellipsis f1 := hz0
    replace hs0 : Heap.SameBut (N + 4) hp g0 := hs0
    simp only [List.forIn_cons, List.forIn_nil, List.zipIdx_cons, List.zipIdx_nil]
    refine wpAny_bind (wpAny_bind (wpAny_bind (wpAny_onRaise ?_)))
    show wpAny _ _ (Builtin.SmallTypes.nextOf (.ref (N + 0)) >>= _) _ _ (Shared.mk g0 g d tk os)
    refine wpAny_bind (wpAny_nextOf_list_end hh (t1.at fun o e => (hs0.2 (N + 0) (ad (by omega))).trans (e)) (L1.at fun o e => (hs0.2 l1 (ad (by omega))).trans (e)) e1 fun p x hp1 hx => ?_)
    replace hp1 : Heap.ExtBut (N + 0) g0 p := hp1
    obtain ⟨ox, hox, hcx⟩ := hx
    replace hox : p.get? x = some ox := hox
    have hzp : ZS p (N + 4) (N + 2) (N + 3) .ellipsis f1 := hp1 _ _ (ad (by omega)) hz0
    have xz : x ≠ (N + 4) := fun y => by
      rw [y, hzp] at hox
      cases hox
      simp at hcx
    refine wpAny_setField_rec (s := ⟨p, g, d, tk, os⟩) hzp (by simp) fun m _ hm => ?_
    replace hm : Heap.SameBut (N + 4) p m := hm
    exact hE m x (fun c o cz cO c1 c2 e => (hm.2 c cz).trans (hp1 c o c1 ((hs0.2 c cz).trans e))) ⟨ox, (hm.2 x xz).trans hox, hcx⟩
  · rw [if_neg (by decide)]
    replace hs0 : Heap.SameBut (N + 4) hp g0 := hs0
    simp only [← Array.forIn_toList, List.forIn_cons, List.forIn_nil]
    refine wpAny_bind (wpAny_bind (wpAny_bind (wpAny_holding ?_)))
    show wpAny _ _ (Builtin.SmallTypes.nextOf (.ref (N + 0)) >>= _) _ _ (Shared.mk g0 g d tk os)
    refine wpAny_bind (wpAny_nextOf_list_end hh (t1.at fun o e => (hs0.2 (N + 0) (ad (by omega))).trans (e)) (L1.at fun o e => (hs0.2 l1 (ad (by omega))).trans (e)) e1 fun p x hp1 hx => ?_)
    exact hE p x (fun c o cz cO c1 c2 e => hp1 c o c1 ((hs0.2 c cz).trans e)) hx
theorem zip3_item {N l1 l2 l3 i : Nat} {f0 : Value} {f1 : Bool} {q1 q2 q3 x1 x2 x3 : Value} {us1 us2 us3 : Array Value} {Q : Value → Shared → Prop} (b1 : l1 < N) (b2 : l2 < N) (b3 : l3 < N)
    (hz : ZS s.heap (N + 5) (N + 3) (N + 4) f0 f1) (hf : OwnV f0) (hI : s.heap.get? (N + 3) = some { cls := .type "tuple", data := .seq #[.ref (N + 0), .ref (N + 1), .ref (N + 2)] }) (hO : s.heap.get? (N + 4) = some { cls := .type "tuple", data := .seq #[q1, q2, q3] })
    (t1 : s.heap.IsListIter (N + 0) l1 i) (L1 : s.heap.IsList l1 us1) (t2 : s.heap.IsListIter (N + 1) l2 i) (L2 : s.heap.IsList l2 us2) (t3 : s.heap.IsListIter (N + 2) l3 i) (L3 : s.heap.IsList l3 us3) (e1 : us1[i]? = some x1) (e2 : us2[i]? = some x2) (e3 : us3[i]? = some x3)
    (hQ : ∀ h, (∃ g0 g1, OwnV g0 ∧ ZS h (N + 5) (N + 3) (N + 4) g0 g1) → (∃ q1 q2 q3, h.get? (N + 4) = some { cls := .type "tuple", data := .seq #[q1, q2, q3] }) → h.IsListIter (N + 0) l1 (i + 1) → h.IsListIter (N + 1) l2 (i + 1) → h.IsListIter (N + 2) l3 (i + 1) → h.get? s.heap.objs.size = some { cls := .type "tuple", data := .seq #[x1, x2, x3] } → h.objs.size = s.heap.objs.size + 1 →
      (∀ c o, c ≠ (N + 5) → c ≠ (N + 4) → c ≠ (N + 0) → c ≠ (N + 1) → c ≠ (N + 2) → s.heap.get? c = some o → h.get? c = some o) → Q (.ref s.heap.objs.size) { s with heap := h }) :
    wpAny (model prog w) A (Builtin.«zip.__next__» ⟨[.ref (N + 5)], []⟩) (fun fin s' => ∃ v, fin = .done (.ret v) ∧ Q v s') E s := by
  obtain ⟨hp, g, d, tk, os⟩ := s
  have zlt : (N + 5) < hp.objs.size := Heap.lt_size hz
  show wpAny _ _ (field (.ref (N + 5)) 2 >>= _) _ _ _
  refine wpAny_bind (wpAny_field hz rfl (x := .bool false) rfl ?_)
  show wpAny _ _ (field (.ref (N + 5)) 3 >>= _) _ _ _
  refine wpAny_bind (wpAny_field hz rfl (x := .ref (N + 3)) rfl (wpAny_bind (wpAny_seqItems hI rfl ?_)))
  show wpAny _ _ (Builtin.SmallTypes.ownedTupleIsFree (.ref (N + 5)) >>= _) _ _ _
  refine wpAny_bind (own_free hz hf ?_ fun g0 hz0 hs0 => ?_)
  · rw [if_pos rfl]
    refine wpAny_bind (wpAny_rule (wpAny_bind (wpAny_field hz rfl (x := .ref (N + 4)) rfl ?_)))
    refine wpAny_bind (wpAny_setField_rec hz (by simp) fun g0 hz0 hs0 => ?_)
    replace hz0 : ZS g0 (N + 5) (N + 3) (N + 4) .ellipsis f1 := hz0
    replace hs0 : Heap.SameBut (N + 5) hp g0 := hs0
    simp only [List.forIn_cons, List.forIn_nil, List.zipIdx_cons, List.zipIdx_nil]
    refine wpAny_bind (wpAny_bind (wpAny_bind (wpAny_onRaise ?_)))
    show wpAny _ _ (Builtin.SmallTypes.nextOf (.ref (N + 0)) >>= _) _ _ (Shared.mk g0 g d tk os)
    refine wpAny_bind (wpAny_nextOf_list_item (t1.at fun o e => (hs0.2 (N + 0) (ad (by omega))).trans (e)) (L1.at fun o e => (hs0.2 l1 (ad (by omega))).trans (e)) e1 fun p1 r1 hp1 => wpAny_pure ?_)
    replace hp1 : Heap.SameBut (N + 0) g0 p1 := hp1
    have hU1 : p1.get? (N + 4) = some { cls := .type "tuple", data := .seq #[q1, q2, q3] } := (hp1.2 (N + 4) (ad (by omega))).trans ((hs0.2 (N + 4) (ad (by omega))).trans (hO))
    refine wpAny_bind (wpAny_seqItems (s := ⟨p1, g, d, tk, os⟩) hU1 rfl ?_)
    refine wpAny_bind (wpAny_updateSeq (s := ⟨p1, g, d, tk, os⟩) (f := fun a => a.setIfInBounds 0 x1) hU1 rfl ?_)
    have hT1 : (p1.update (N + 4) (Obj.mapSeq fun a => a.setIfInBounds 0 x1)).get? (N + 4) = some { cls := .type "tuple", data := .seq #[x1, q2, q3] } := by
      rw [Heap.get?_update_self _ hU1 rfl]
      simp [Obj.mapSeq]
    have hs1 : Heap.SameBut (N + 4) p1 (p1.update (N + 4) (Obj.mapSeq fun a => a.setIfInBounds 0 x1)) := Heap.SameBut.update ..
    generalize p1.update (N + 4) (Obj.mapSeq fun a => a.setIfInBounds 0 x1) = g1 at hT1 hs1
    refine wpAny_bind (wpAny_letGo (wpAny_pure ?_))
    refine wpAny_bind (wpAny_bind (wpAny_onRaise ?_))
    show wpAny _ _ (Builtin.SmallTypes.nextOf (.ref (N + 1)) >>= _) _ _ (Shared.mk g1 g d tk os)
    refine wpAny_bind (wpAny_nextOf_list_item (t2.at fun o e => (hs1.2 (N + 1) (ad (by omega))).trans ((hp1.2 (N + 1) (ad (by omega))).trans ((hs0.2 (N + 1) (ad (by omega))).trans (e)))) (L2.at fun o e => (hs1.2 l2 (ad (by omega))).trans ((hp1.2 l2 (ad (by omega))).trans ((hs0.2 l2 (ad (by omega))).trans (e)))) e2 fun p2 r2 hp2 => wpAny_pure ?_)
    replace hp2 : Heap.SameBut (N + 1) g1 p2 := hp2
    have hU2 : p2.get? (N + 4) = some { cls := .type "tuple", data := .seq #[x1, q2, q3] } := (hp2.2 (N + 4) (ad (by omega))).trans (hT1)
    refine wpAny_bind (wpAny_seqItems (s := ⟨p2, g, d, tk, os⟩) hU2 rfl ?_)
    refine wpAny_bind (wpAny_updateSeq (s := ⟨p2, g, d, tk, os⟩) (f := fun a => a.setIfInBounds 1 x2) hU2 rfl ?_)
    have hT2 : (p2.update (N + 4) (Obj.mapSeq fun a => a.setIfInBounds 1 x2)).get? (N + 4) = some { cls := .type "tuple", data := .seq #[x1, x2, q3] } := by
      rw [Heap.get?_update_self _ hU2 rfl]
      simp [Obj.mapSeq]
    have hs2 : Heap.SameBut (N + 4) p2 (p2.update (N + 4) (Obj.mapSeq fun a => a.setIfInBounds 1 x2)) := Heap.SameBut.update ..
    generalize p2.update (N + 4) (Obj.mapSeq fun a => a.setIfInBounds 1 x2) = g2 at hT2 hs2
    refine wpAny_bind (wpAny_letGo (wpAny_pure ?_))
    refine wpAny_bind (wpAny_bind (wpAny_onRaise ?_))
    show wpAny _ _ (Builtin.SmallTypes.nextOf (.ref (N + 2)) >>= _) _ _ (Shared.mk g2 g d tk os)
    refine wpAny_bind (wpAny_nextOf_list_item (t3.at fun o e => (hs2.2 (N + 2) (ad (by omega))).trans ((hp2.2 (N + 2) (ad (by omega))).trans ((hs1.2 (N + 2) (ad (by omega))).trans ((hp1.2 (N + 2) (ad (by omega))).trans ((hs0.2 (N + 2) (ad (by omega))).trans (e)))))) (L3.at fun o e => (hs2.2 l3 (ad (by omega))).trans ((hp2.2 l3 (ad (by omega))).trans ((hs1.2 l3 (ad (by omega))).trans ((hp1.2 l3 (ad (by omega))).trans ((hs0.2 l3 (ad (by omega))).trans (e)))))) e3 fun p3 r3 hp3 => wpAny_pure ?_)
    replace hp3 : Heap.SameBut (N + 2) g2 p3 := hp3
    have hU3 : p3.get? (N + 4) = some { cls := .type "tuple", data := .seq #[x1, x2, q3] } := (hp3.2 (N + 4) (ad (by omega))).trans (hT2)
    refine wpAny_bind (wpAny_seqItems (s := ⟨p3, g, d, tk, os⟩) hU3 rfl ?_)
    refine wpAny_bind (wpAny_updateSeq (s := ⟨p3, g, d, tk, os⟩) (f := fun a => a.setIfInBounds 2 x3) hU3 rfl ?_)
    have hT3 : (p3.update (N + 4) (Obj.mapSeq fun a => a.setIfInBounds 2 x3)).get? (N + 4) = some { cls := .type "tuple", data := .seq #[x1, x2, x3] } := by
      rw [Heap.get?_update_self _ hU3 rfl]
      simp [Obj.mapSeq]
    have hs3 : Heap.SameBut (N + 4) p3 (p3.update (N + 4) (Obj.mapSeq fun a => a.setIfInBounds 2 x3)) := Heap.SameBut.update ..
    generalize p3.update (N + 4) (Obj.mapSeq fun a => a.setIfInBounds 2 x3) = g3 at hT3 hs3
    refine wpAny_bind (wpAny_letGo (wpAny_pure ?_))
    have hsz : g3.objs.size = hp.objs.size := by rw [hs3.1, hp3.1, hs2.1, hp2.1, hs1.1, hp1.1, hs0.1]
    have hzz : ZS g3 (N + 5) (N + 3) (N + 4) .ellipsis f1 := (hs3.2 (N + 5) (ad (by omega))).trans ((hp3.2 (N + 5) (ad (by omega))).trans ((hs2.2 (N + 5) (ad (by omega))).trans ((hp2.2 (N + 5) (ad (by omega))).trans ((hs1.2 (N + 5) (ad (by omega))).trans ((hp1.2 (N + 5) (ad (by omega))).trans (hz0))))))
    refine wpAny_bind (wpAny_pure ?_)
    refine wpAny_pure ?_
    show wpAny _ _ (seqItems? (.ref (N + 4)) >>= _) _ _ (Shared.mk g3 g d tk os)
    refine wpAny_bind (wpAny_seqItems (s := ⟨g3, g, d, tk, os⟩) hT3 rfl ?_)
    refine wpAny_bind (wpAny_newTuple ?_)
    show wpAny _ _ (Builtin.SmallTypes.ownedTupleHandOut (.ref (N + 5)) (.ref g3.objs.size) >>= _) _ _ (Shared.mk (g3.push { cls := .type "tuple", data := .seq #[x1, x2, x3] }) g d tk os)
    unfold Builtin.SmallTypes.ownedTupleHandOut
    refine wpAny_bind (wpAny_bind (wpAny_setField_rec (Heap.get?_push_of_some _ hzz) (by simp) fun m1 hm1 hn1 => ?_))
    replace hm1 : ZS m1 (N + 5) (N + 3) (N + 4) (rawInt g3.objs.size) f1 := hm1
    refine wpAny_setField_rec hm1 (by simp) fun m2 hm2 hn2 => wpAny_pure ⟨_, rfl, ?_⟩
    replace hm2 : ZS m2 (N + 5) (N + 3) (N + 4) (rawInt g3.objs.size) false := hm2
    replace hn1 : Heap.SameBut (N + 5) (g3.push { cls := .type "tuple", data := .seq #[x1, x2, x3] }) m1 := hn1
    replace hn2 : Heap.SameBut (N + 5) m1 m2 := hn2
    have up : ∀ c o, c ≠ (N + 5) → g3.get? c = some o → m2.get? c = some o := fun c o c1 e => (hn2.2 c c1).trans ((hn1.2 c c1).trans (Heap.get?_push_of_some _ e))
    show Q (.ref g3.objs.size) ⟨m2, g, d, tk, os⟩
    have hnew : m2.get? g3.objs.size = some { cls := .type "tuple", data := .seq #[x1, x2, x3] } := (hn2.2 _ (by rw [hsz]; exact Nat.ne_of_gt zlt)).trans ((hn1.2 _ (by rw [hsz]; exact Nat.ne_of_gt zlt)).trans (Heap.get?_push_size _ rfl))
    have hms : m2.objs.size = g3.objs.size + 1 := by rw [hn2.1, hn1.1, Heap.size_push]
    rw [hsz] at hnew hms ⊢
    refine hQ m2 ⟨_, _, .inr ⟨_, rfl⟩, hm2⟩ ⟨_, _, _, up _ _ (ad (by omega)) hT3⟩ (r1.at fun o e => up _ _ (ad (by omega)) ((hs3.2 (N + 0) (ad (by omega))).trans ((hp3.2 (N + 0) (ad (by omega))).trans ((hs2.2 (N + 0) (ad (by omega))).trans ((hp2.2 (N + 0) (ad (by omega))).trans ((hs1.2 (N + 0) (ad (by omega))).trans (e))))))) (r2.at fun o e => up _ _ (ad (by omega)) ((hs3.2 (N + 1) (ad (by omega))).trans ((hp3.2 (N + 1) (ad (by omega))).trans ((hs2.2 (N + 1) (ad (by omega))).trans (e))))) (r3.at fun o e => up _ _ (ad (by omega)) ((hs3.2 (N + 2) (ad (by omega))).trans (e))) hnew hms fun c o cz cO c1 c2 c3 e => up c o cz ((hs3.2 c cO).trans ((hp3.2 c c3).trans ((hs2.2 c cO).trans ((hp2.2 c c2).trans ((hs1.2 c cO).trans ((hp1.2 c c1).trans ((hs0.2 c cz).trans (e))))))))
  · rw [if_neg (by decide)]
    replace hz0 : ZS g0 (N + 5) (N + 3) (N + 4) f0 true := hz0
    replace hs0 : Heap.SameBut (N + 5) hp g0 := hs0
    simp only [← Array.forIn_toList, List.forIn_cons, List.forIn_nil]
    refine wpAny_bind (wpAny_bind (wpAny_bind (wpAny_holding ?_)))
    show wpAny _ _ (Builtin.SmallTypes.nextOf (.ref (N + 0)) >>= _) _ _ (Shared.mk g0 g d tk os)
    refine wpAny_bind (wpAny_nextOf_list_item (t1.at fun o e => (hs0.2 (N + 0) (ad (by omega))).trans (e)) (L1.at fun o e => (hs0.2 l1 (ad (by omega))).trans (e)) e1 fun p1 r1 hp1 => wpAny_pure (wpAny_pure ?_))
    replace hp1 : Heap.SameBut (N + 0) g0 p1 := hp1
    refine wpAny_bind (wpAny_bind (wpAny_holding ?_))
    show wpAny _ _ (Builtin.SmallTypes.nextOf (.ref (N + 1)) >>= _) _ _ (Shared.mk p1 g d tk os)
    refine wpAny_bind (wpAny_nextOf_list_item (t2.at fun o e => (hp1.2 (N + 1) (ad (by omega))).trans ((hs0.2 (N + 1) (ad (by omega))).trans (e))) (L2.at fun o e => (hp1.2 l2 (ad (by omega))).trans ((hs0.2 l2 (ad (by omega))).trans (e))) e2 fun p2 r2 hp2 => wpAny_pure (wpAny_pure ?_))
    replace hp2 : Heap.SameBut (N + 1) p1 p2 := hp2
    refine wpAny_bind (wpAny_bind (wpAny_holding ?_))
    show wpAny _ _ (Builtin.SmallTypes.nextOf (.ref (N + 2)) >>= _) _ _ (Shared.mk p2 g d tk os)
    refine wpAny_bind (wpAny_nextOf_list_item (t3.at fun o e => (hp2.2 (N + 2) (ad (by omega))).trans ((hp1.2 (N + 2) (ad (by omega))).trans ((hs0.2 (N + 2) (ad (by omega))).trans (e)))) (L3.at fun o e => (hp2.2 l3 (ad (by omega))).trans ((hp1.2 l3 (ad (by omega))).trans ((hs0.2 l3 (ad (by omega))).trans (e)))) e3 fun p3 r3 hp3 => wpAny_pure (wpAny_pure ?_))
    replace hp3 : Heap.SameBut (N + 2) p2 p3 := hp3
    have hsz : p3.objs.size = hp.objs.size := by rw [hp3.1, hp2.1, hp1.1, hs0.1]
    refine wpAny_bind (wpAny_pure ?_)
    refine wpAny_pure ?_
    show wpAny _ _ (newTuple [x1, x2, x3] >>= _) _ _ (Shared.mk p3 g d tk os)
    refine wpAny_bind (wpAny_newTuple ?_)
    refine wpAny_pure ⟨_, rfl, ?_⟩
    show Q (.ref p3.objs.size) ⟨p3.push { cls := .type "tuple", data := .seq #[x1, x2, x3] }, g, d, tk, os⟩
    have hnew : (p3.push { cls := .type "tuple", data := .seq #[x1, x2, x3] }).get? p3.objs.size = some { cls := .type "tuple", data := .seq #[x1, x2, x3] } := Heap.get?_push_size _ rfl
    have hms : (p3.push { cls := .type "tuple", data := .seq #[x1, x2, x3] }).objs.size = p3.objs.size + 1 := Heap.size_push ..
    have up : ∀ c o, p3.get? c = some o → (p3.push { cls := .type "tuple", data := .seq #[x1, x2, x3] }).get? c = some o := fun c o e => Heap.get?_push_of_some _ e
    rw [hsz] at hnew hms ⊢
    refine hQ _ ⟨_, _, hf, up _ _ ((hp3.2 (N + 5) (ad (by omega))).trans ((hp2.2 (N + 5) (ad (by omega))).trans ((hp1.2 (N + 5) (ad (by omega))).trans (hz0))))⟩ ⟨_, _, _, up _ _ ((hp3.2 (N + 4) (ad (by omega))).trans ((hp2.2 (N + 4) (ad (by omega))).trans ((hp1.2 (N + 4) (ad (by omega))).trans ((hs0.2 (N + 4) (ad (by omega))).trans (hO)))))⟩ (r1.at fun o e => up _ _ ((hp3.2 (N + 0) (ad (by omega))).trans ((hp2.2 (N + 0) (ad (by omega))).trans (e)))) (r2.at fun o e => up _ _ ((hp3.2 (N + 1) (ad (by omega))).trans (e))) (r3.at fun o e => up _ _ (e)) hnew hms fun c o cz cO c1 c2 c3 e => up c o ((hp3.2 c c3).trans ((hp2.2 c c2).trans ((hp1.2 c c1).trans ((hs0.2 c cz).trans (e)))))
theorem zip3_end {N l1 l2 l3 i : Nat} {f0 : Value} {f1 : Bool} {us1 : Array Value} {Q : Fin → Shared → Prop} (b1 : l1 < N) (hh : A.handled = none)
    (hz : ZS s.heap (N + 5) (N + 3) (N + 4) f0 f1) (hf : OwnV f0) (hI : s.heap.get? (N + 3) = some { cls := .type "tuple", data := .seq #[.ref (N + 0), .ref (N + 1), .ref (N + 2)] }) (t1 : s.heap.IsListIter (N + 0) l1 i) (L1 : s.heap.IsList l1 us1) (e1 : us1[i]? = none)
    (hE : ∀ h x, (∀ c o, c ≠ (N + 5) → c ≠ (N + 4) → c ≠ (N + 0) → c ≠ (N + 1) → c ≠ (N + 2) → s.heap.get? c = some o → h.get? c = some o) → (∃ o, h.get? x = some o ∧ o.cls = .type "StopIteration") → E (.ref x) { s with heap := h }) :
    wpAny (model prog w) A (Builtin.«zip.__next__» ⟨[.ref (N + 5)], []⟩) Q E s := by
  obtain ⟨hp, g, d, tk, os⟩ := s
  show wpAny _ _ (field (.ref (N + 5)) 2 >>= _) _ _ _
  refine wpAny_bind (wpAny_field hz rfl (x := .bool false) rfl ?_)
  show wpAny _ _ (field (.ref (N + 5)) 3 >>= _) _ _ _
  refine wpAny_bind (wpAny_field hz rfl (x := .ref (N + 3)) rfl (wpAny_bind (wpAny_seqItems hI rfl ?_)))
  show wpAny _ _ (Builtin.SmallTypes.ownedTupleIsFree (.ref (N + 5)) >>= _) _ _ _
  refine wpAny_bind (own_free hz hf ?_ fun g0 hz0 hs0 => ?_)
  · rw [if_pos rfl]
    refine wpAny_bind (wpAny_rule (wpAny_bind (wpAny_field hz rfl (x := .ref (N + 4)) rfl ?_)))
    refine wpAny_bind (wpAny_setField_rec hz (by simp) fun g0 hz0 hs0 => ?_)
    replace hz0 : ZS g0 (N + 5) (N + 3) (N + 4) .ellipsis f1 := hz0
    replace hs0 : Heap.SameBut (N + 5) hp g0 := hs0
    simp only [List.forIn_cons, List.forIn_nil, List.zipIdx_cons, List.zipIdx_nil]
    refine wpAny_bind (wpAny_bind (wpAny_bind (wpAny_onRaise ?_)))
    show wpAny _ _ (Builtin.SmallTypes.nextOf (.ref (N + 0)) >>= _) _ _ (Shared.mk g0 g d tk os)
    refine wpAny_bind (wpAny_nextOf_list_end hh (t1.at fun o e => (hs0.2 (N + 0) (ad (by omega))).trans (e)) (L1.at fun o e => (hs0.2 l1 (ad (by omega))).trans (e)) e1 fun p x hp1 hx => ?_)
    replace hp1 : Heap.ExtBut (N + 0) g0 p := hp1
    obtain ⟨ox, hox, hcx⟩ := hx
    replace hox : p.get? x = some ox := hox
    have hzp : ZS p (N + 5) (N + 3) (N + 4) .ellipsis f1 := hp1 _ _ (ad (by omega)) hz0
    have xz : x ≠ (N + 5) := fun y => by
      rw [y, hzp] at hox
      cases hox
      simp at hcx
    refine wpAny_setField_rec (s := ⟨p, g, d, tk, os⟩) hzp (by simp) fun m _ hm => ?_
    replace hm : Heap.SameBut (N + 5) p m := hm
    exact hE m x (fun c o cz cO c1 c2 c3 e => (hm.2 c cz).trans (hp1 c o c1 ((hs0.2 c cz).trans e))) ⟨ox, (hm.2 x xz).trans hox, hcx⟩
  · rw [if_neg (by decide)]
    replace hs0 : Heap.SameBut (N + 5) hp g0 := hs0
    simp only [← Array.forIn_toList, List.forIn_cons, List.forIn_nil]
    refine wpAny_bind (wpAny_bind (wpAny_bind (wpAny_holding ?_)))
    show wpAny _ _ (Builtin.SmallTypes.nextOf (.ref (N + 0)) >>= _) _ _ (Shared.mk g0 g d tk os)
    refine wpAny_bind (wpAny_nextOf_list_end hh (t1.at fun o e => (hs0.2 (N + 0) (ad (by omega))).trans (e)) (L1.at fun o e => (hs0.2 l1 (ad (by omega))).trans (e)) e1 fun p x hp1 hx => ?_)
    exact hE p x (fun c o cz cO c1 c2 c3 e => hp1 c o c1 ((hs0.2 c cz).trans e)) hx
end
end XV
set_option Elab.async false
set_option linter.all false
set_option maxRecDepth 100000
set_option maxHeartbeats 400000
/-! next of an enumerate over any iterator whose own next is told. -/
namespace XV
open PySem
open PySem.Sem (wp)
section
variable {prog : Program} {w : World} {A : Around} {E : Value → Shared → Prop} {s : Shared}
theorem enum_over {e q : Addr} {c : Int} {old x : Value} {NX : Heap → Prop} {Q : Value → Shared → Prop} (he : IsEnum s.heap e q c old)
    (hn : ∀ Q' : Value → Shared → Prop, (∀ h, NX h → Q' x { s with heap := h }) → wpAny (model prog w) A (Builtin.SmallTypes.nextOf (.ref q)) Q' E s) (hk : ∀ h, NX h → IsEnum h e q c old)
    (hQ : ∀ h1 h2, NX h1 → IsEnumOut h2 e q (c + 1) x h1.objs.size → h2.get? h1.objs.size = some { cls := .type "tuple", data := .seq #[.int c s.toks, x] } → h2.objs.size = h1.objs.size + 1 →
      (∀ b o, b ≠ e → h1.get? b = some o → h2.get? b = some o) → Q (.ref h1.objs.size) { s with heap := h2, toks := s.toks + 1 }) :
    wpAny (model prog w) A (Builtin.«enumerate.__next__» ⟨[.ref e], []⟩) (fun fin s' => ∃ v, fin = .done (.ret v) ∧ Q v s') E s := by
  obtain ⟨hp, gs, dr, tk, os⟩ := s
  show wpAny _ _ (field (.ref e) 2 >>= _) _ _ _
  refine wpAny_bind (wpAny_field he rfl (x := .ref q) rfl (wpAny_bind (hn _ fun h1 n1 => ?_)))
  have u1 := hk h1 n1
  show wpAny _ _ (field (.ref e) 3 >>= _) _ _ (Shared.mk h1 gs dr tk os)
  refine wpAny_bind (wpAny_field u1 rfl (x := rawInt c) rfl ?_)
  show wpAny _ _ (field (.ref e) 4 >>= _) _ _ (Shared.mk h1 gs dr tk os)
  refine wpAny_bind (wpAny_field u1 rfl (x := .none) rfl ?_)
  show wpAny _ _ (mkInt c >>= _) _ _ (Shared.mk h1 gs dr tk os)
  refine wpAny_bind (wpAny_mkInt ?_)
  show wpAny _ _ (setField (.ref e) 3 (rawInt (c + 1)) >>= _) _ _ (Shared.mk h1 gs dr (tk + 1) os)
  refine wpAny_bind (wpAny_setField_rec u1 (by simp) fun h2 u2 s2 => ?_)
  replace s2 : Heap.SameBut e h1 h2 := s2
  replace u2 : IsEnum h2 e q (c + 1) old := u2
  show wpAny _ _ (setField (.ref e) 4 .none >>= _) _ _ (Shared.mk h2 gs dr (tk + 1) os)
  refine wpAny_bind (wpAny_setField_rec u2 (by simp) fun h3 u3 s3 => ?_)
  replace s3 : Heap.SameBut e h2 h3 := s3
  replace u3 : IsEnum h3 e q (c + 1) old := u3
  show wpAny _ _ (newTuple [.int c tk, x] >>= _) _ _ (Shared.mk h3 gs dr (tk + 1) os)
  refine wpAny_bind (wpAny_newTuple ?_)
  have sz : h3.objs.size = h1.objs.size := by rw [s3.1, s2.1]
  have el : e < h1.objs.size := Heap.lt_size u1
  have u4 : IsEnum (h3.push { cls := .type "tuple", data := .seq #[.int c tk, x] }) e q (c + 1) old := Heap.get?_push_of_some _ u3
  have t4 : (h3.push { cls := .type "tuple", data := .seq #[.int c tk, x] }).get? h1.objs.size = some { cls := .type "tuple", data := .seq #[.int c tk, x] } := by
    rw [← sz]
    exact Heap.get?_push_size _ rfl
  have z4 : (h3.push { cls := .type "tuple", data := .seq #[.int c tk, x] }).objs.size = h1.objs.size + 1 := by rw [Heap.size_push, sz]
  have k4 : ∀ b o, b ≠ e → h1.get? b = some o → (h3.push { cls := .type "tuple", data := .seq #[.int c tk, x] }).get? b = some o := fun b o n y => Heap.get?_push_of_some _ ((s3.2 b n).trans ((s2.2 b n).trans y))
  show wpAny _ _ (Builtin.SmallTypes.ownedTupleIsFree (.ref e) >>= _) _ _ (Shared.mk (h3.push { cls := .type "tuple", data := .seq #[.int c tk, x] }) gs dr (tk + 1) os)
  rw [sz]
  generalize h3.push { cls := .type "tuple", data := .seq #[.int c tk, x] } = h4 at u4 t4 z4 k4
  refine wpAny_bind ?_
  unfold Builtin.SmallTypes.ownedTupleIsFree
  refine wpAny_bind (wpAny_field u4 rfl (x := .none) rfl (wpAny_pure ?_))
  rw [if_pos rfl]
  refine wpAny_bind (wpAny_rule (wpAny_bind (wpAny_field u4 rfl (x := old) rfl ?_)))
  refine wpAny_bind (wpAny_setField_rec u4 (by simp) fun h5 u5 s5 => ?_)
  replace s5 : Heap.SameBut e h4 h5 := s5
  replace u5 : IsEnum h5 e q (c + 1) x := u5
  show wpAny _ _ (Builtin.SmallTypes.ownedTupleHandOut (.ref e) (.ref h1.objs.size) >>= _) _ _ (Shared.mk h5 gs dr (tk + 1) os)
  refine wpAny_bind ?_
  unfold Builtin.SmallTypes.ownedTupleHandOut
  refine wpAny_bind (wpAny_setField_rec u5 (by simp) fun h6 u6 s6 => ?_)
  replace s6 : Heap.SameBut e h5 h6 := s6
  replace u6 : IsEnumOut h6 e q (c + 1) x h1.objs.size := u6
  refine wpAny_setField_rec u6 (by simp) fun h7 u7 s7 => ?_
  replace s7 : Heap.SameBut e h6 h7 := s7
  replace u7 : IsEnumOut h7 e q (c + 1) x h1.objs.size := u7
  have up : ∀ b, b ≠ e → h7.get? b = h4.get? b := fun b n => (s7.2 b n).trans ((s6.2 b n).trans (s5.2 b n))
  exact wpAny_bind (wpAny_letGo (wpAny_pure ⟨_, rfl, hQ h1 h7 n1 u7 ((up _ (Nat.ne_of_gt el)).trans t4) (by rw [s7.1, s6.1, s5.1, z4]) fun b o n y => (up b n).trans (k4 b o n y)⟩))
theorem pyNext_enum_over {e q : Addr} {c : Int} {old x : Value} {NX : Heap → Prop} {Q : Option Value → Shared → Prop} (he : IsEnum s.heap e q c old)
    (hn : ∀ (E' : Value → Shared → Prop) (Q' : Value → Shared → Prop), (∀ h, NX h → Q' x { s with heap := h }) → wpAny (model prog w) A.in1 (Builtin.SmallTypes.nextOf (.ref q)) Q' E' s) (hk : ∀ h, NX h → IsEnum h e q c old)
    (hQ : ∀ h1 h2, NX h1 → IsEnumOut h2 e q (c + 1) x h1.objs.size → h2.get? h1.objs.size = some { cls := .type "tuple", data := .seq #[.int c s.toks, x] } → h2.objs.size = h1.objs.size + 1 →
      (∀ b o, b ≠ e → h1.get? b = some o → h2.get? b = some o) → Q (some (.ref h1.objs.size)) { s with heap := h2, toks := s.toks + 1 }) :
    wpAny (model prog w) A (pyNext (.ref e)) Q E s := by
  have ty : s.TypeIs (.ref e) "enumerate" := ⟨_, he, rfl⟩
  unfold pyNext
  exact wpAny_bind (wpAny_attempt (wpAny_callSpecial?_slot (name := Str.ofString "__next__") ty F.slot_enumerate_next (wpAny_call_entry F.slot_enumerate_next ty F.entry_enumerate_next
    (enum_over he (hn _) hk fun h1 h2 n1 a b c d => wpAny_pure (hQ h1 h2 n1 a b c d)) (F.args_enumerate_next_1 _))))
theorem pyNext_enum_stop {e q : Addr} {c : Int} {old : Value} {Q : Option Value → Shared → Prop} {ST : Heap → Prop} (he : IsEnum s.heap e q c old)
    (hn : ∀ (E' : Value → Shared → Prop) (Q' : Value → Shared → Prop), (∀ h x, ST h → (∃ o, h.get? x = some o ∧ o.cls = .type "StopIteration") → E' (.ref x) { s with heap := h }) → wpAny (model prog w) A.in1 (Builtin.SmallTypes.nextOf (.ref q)) Q' E' s)
    (hQ : ∀ h, ST h → Q none { s with heap := h }) : wpAny (model prog w) A (pyNext (.ref e)) Q E s := by
  have ty : s.TypeIs (.ref e) "enumerate" := ⟨_, he, rfl⟩
  unfold pyNext
  refine wpAny_bind (wpAny_attempt (wpAny_callSpecial?_slot (name := Str.ofString "__next__") ty F.slot_enumerate_next (wpAny_call_entry F.slot_enumerate_next ty F.entry_enumerate_next ?_ (F.args_enumerate_next_1 _))))
  show wpAny _ _ (field (.ref e) 2 >>= _) _ _ _
  refine wpAny_bind (wpAny_field he rfl (x := .ref q) rfl (wpAny_bind (hn _ _ fun h x st y => ?_)))
  obtain ⟨o, ho, hc⟩ := y
  exact wpAny_bind (wpAny_isInstance (T := "StopIteration") (b := true) ⟨o, ho, hc⟩ isSubtype_stop (wpAny_pure (hQ h st)))
end
end XV
set_option Elab.async false
set_option linter.all false
set_option maxRecDepth 100000
set_option maxHeartbeats 4000000
/-! enumerate over a text: for at, letter in enumerate(letters), in comprehensions of dicts. -/
namespace XV
open PySem
open PySem.Sem (wp)
section
variable {prog : Program} {w : World} {A : Around} {E : Value → Shared → Prop} {s : Shared}
theorem enum_overT {e q : Addr} {c : Int} {old x : Value} {NX : Heap → Nat → Prop} {Q : Value → Shared → Prop} (he : IsEnum s.heap e q c old)
    (hn : ∀ Q' : Value → Shared → Prop, (∀ h k, NX h k → Q' x { s with heap := h, toks := k }) → wpAny (model prog w) A (Builtin.SmallTypes.nextOf (.ref q)) Q' E s) (hk : ∀ h k, NX h k → IsEnum h e q c old)
    (hQ : ∀ h1 k h2, NX h1 k → IsEnumOut h2 e q (c + 1) x h1.objs.size → h2.get? h1.objs.size = some { cls := .type "tuple", data := .seq #[.int c k, x] } → h2.objs.size = h1.objs.size + 1 →
      (∀ b o, b ≠ e → h1.get? b = some o → h2.get? b = some o) → Q (.ref h1.objs.size) { s with heap := h2, toks := k + 1 }) :
    wpAny (model prog w) A (Builtin.«enumerate.__next__» ⟨[.ref e], []⟩) (fun fin s' => ∃ v, fin = .done (.ret v) ∧ Q v s') E s := by
  obtain ⟨hp, gs, dr, tk0, os⟩ := s
  show wpAny _ _ (field (.ref e) 2 >>= _) _ _ _
  refine wpAny_bind (wpAny_field he rfl (x := .ref q) rfl (wpAny_bind (hn _ fun h1 tk n1 => ?_)))
  have u1 := hk h1 tk n1
  show wpAny _ _ (field (.ref e) 3 >>= _) _ _ (Shared.mk h1 gs dr tk os)
  refine wpAny_bind (wpAny_field u1 rfl (x := rawInt c) rfl ?_)
  show wpAny _ _ (field (.ref e) 4 >>= _) _ _ (Shared.mk h1 gs dr tk os)
  refine wpAny_bind (wpAny_field u1 rfl (x := .none) rfl ?_)
  show wpAny _ _ (mkInt c >>= _) _ _ (Shared.mk h1 gs dr tk os)
  refine wpAny_bind (wpAny_mkInt ?_)
  show wpAny _ _ (setField (.ref e) 3 (rawInt (c + 1)) >>= _) _ _ (Shared.mk h1 gs dr (tk + 1) os)
  refine wpAny_bind (wpAny_setField_rec u1 (by simp) fun h2 u2 s2 => ?_)
  replace s2 : Heap.SameBut e h1 h2 := s2
  replace u2 : IsEnum h2 e q (c + 1) old := u2
  show wpAny _ _ (setField (.ref e) 4 .none >>= _) _ _ (Shared.mk h2 gs dr (tk + 1) os)
  refine wpAny_bind (wpAny_setField_rec u2 (by simp) fun h3 u3 s3 => ?_)
  replace s3 : Heap.SameBut e h2 h3 := s3
  replace u3 : IsEnum h3 e q (c + 1) old := u3
  show wpAny _ _ (newTuple [.int c tk, x] >>= _) _ _ (Shared.mk h3 gs dr (tk + 1) os)
  refine wpAny_bind (wpAny_newTuple ?_)
  have sz : h3.objs.size = h1.objs.size := by rw [s3.1, s2.1]
  have el : e < h1.objs.size := Heap.lt_size u1
  have u4 : IsEnum (h3.push { cls := .type "tuple", data := .seq #[.int c tk, x] }) e q (c + 1) old := Heap.get?_push_of_some _ u3
  have t4 : (h3.push { cls := .type "tuple", data := .seq #[.int c tk, x] }).get? h1.objs.size = some { cls := .type "tuple", data := .seq #[.int c tk, x] } := by
    rw [← sz]
    exact Heap.get?_push_size _ rfl
  have z4 : (h3.push { cls := .type "tuple", data := .seq #[.int c tk, x] }).objs.size = h1.objs.size + 1 := by rw [Heap.size_push, sz]
  have k4 : ∀ b o, b ≠ e → h1.get? b = some o → (h3.push { cls := .type "tuple", data := .seq #[.int c tk, x] }).get? b = some o := fun b o n y => Heap.get?_push_of_some _ ((s3.2 b n).trans ((s2.2 b n).trans y))
  show wpAny _ _ (Builtin.SmallTypes.ownedTupleIsFree (.ref e) >>= _) _ _ (Shared.mk (h3.push { cls := .type "tuple", data := .seq #[.int c tk, x] }) gs dr (tk + 1) os)
  rw [sz]
  generalize h3.push { cls := .type "tuple", data := .seq #[.int c tk, x] } = h4 at u4 t4 z4 k4
  refine wpAny_bind ?_
  unfold Builtin.SmallTypes.ownedTupleIsFree
  refine wpAny_bind (wpAny_field u4 rfl (x := .none) rfl (wpAny_pure ?_))
  rw [if_pos rfl]
  refine wpAny_bind (wpAny_rule (wpAny_bind (wpAny_field u4 rfl (x := old) rfl ?_)))
  refine wpAny_bind (wpAny_setField_rec u4 (by simp) fun h5 u5 s5 => ?_)
  replace s5 : Heap.SameBut e h4 h5 := s5
  replace u5 : IsEnum h5 e q (c + 1) x := u5
  show wpAny _ _ (Builtin.SmallTypes.ownedTupleHandOut (.ref e) (.ref h1.objs.size) >>= _) _ _ (Shared.mk h5 gs dr (tk + 1) os)
  refine wpAny_bind ?_
  unfold Builtin.SmallTypes.ownedTupleHandOut
  refine wpAny_bind (wpAny_setField_rec u5 (by simp) fun h6 u6 s6 => ?_)
  replace s6 : Heap.SameBut e h5 h6 := s6
  replace u6 : IsEnumOut h6 e q (c + 1) x h1.objs.size := u6
  refine wpAny_setField_rec u6 (by simp) fun h7 u7 s7 => ?_
  replace s7 : Heap.SameBut e h6 h7 := s7
  replace u7 : IsEnumOut h7 e q (c + 1) x h1.objs.size := u7
  have up : ∀ b, b ≠ e → h7.get? b = h4.get? b := fun b n => (s7.2 b n).trans ((s6.2 b n).trans (s5.2 b n))
  exact wpAny_bind (wpAny_letGo (wpAny_pure ⟨_, rfl, hQ h1 tk h7 n1 u7 ((up _ (Nat.ne_of_gt el)).trans t4) (by rw [s7.1, s6.1, s5.1, z4]) fun b o n y => (up b n).trans (k4 b o n y)⟩))
theorem pyNext_enum_overT {e q : Addr} {c : Int} {old x : Value} {NX : Heap → Nat → Prop} {Q : Option Value → Shared → Prop} (he : IsEnum s.heap e q c old)
    (hn : ∀ (E' : Value → Shared → Prop) (Q' : Value → Shared → Prop), (∀ h k, NX h k → Q' x { s with heap := h, toks := k }) → wpAny (model prog w) A.in1 (Builtin.SmallTypes.nextOf (.ref q)) Q' E' s) (hk : ∀ h k, NX h k → IsEnum h e q c old)
    (hQ : ∀ h1 k h2, NX h1 k → IsEnumOut h2 e q (c + 1) x h1.objs.size → h2.get? h1.objs.size = some { cls := .type "tuple", data := .seq #[.int c k, x] } → h2.objs.size = h1.objs.size + 1 →
      (∀ b o, b ≠ e → h1.get? b = some o → h2.get? b = some o) → Q (some (.ref h1.objs.size)) { s with heap := h2, toks := k + 1 }) :
    wpAny (model prog w) A (pyNext (.ref e)) Q E s := by
  have ty : s.TypeIs (.ref e) "enumerate" := ⟨_, he, rfl⟩
  unfold pyNext
  exact wpAny_bind (wpAny_attempt (wpAny_callSpecial?_slot (name := Str.ofString "__next__") ty F.slot_enumerate_next (wpAny_call_entry F.slot_enumerate_next ty F.entry_enumerate_next
    (enum_overT he (hn _) hk fun h1 k h2 n1 a b c d => wpAny_pure (hQ h1 k h2 n1 a b c d)) (F.args_enumerate_next_1 _))))
end
end XV
namespace XV
open PySem PySem.Spec PyProof.Rows L2
/-- the letters of a text, each in a new pair with its place -/
def ItEs (x : Str) : It := ⟨fun i _ => i < x.cps.size, fun i H v H' => ∃ T c, v = .ref T ∧ H T = none ∧ H' = upd H T (.tup [.int (i : Nat), .str ⟨#[c]⟩]) ∧ x.cps[i]? = some c, fun i _ => x.cps.size ≤ i⟩
theorem turn_enumS {P : Program} {w : World} {K : PySem.W.Frag} {elts : List Expr} {kk : Nat} {tpos : Pos} (e it : Addr) (x : Str) (t : Tok) :
    Turn P w K (.Tuple elts kk tpos) (ItEs x) [e, it] e (fun i h => (∃ old, IsEnum h e it ((i : Nat) : Int) old) ∧ h.IsStrIter it "str_ascii_iterator" x t i ∧ e ≠ it) where
  mem := by simp
  obj := fun i h st b hb => by
    obtain ⟨⟨old, he⟩, ⟨o, ho, hc, hd⟩, _⟩ := st
    have e' : b = e ∨ b = it := by simpa using hb
    rcases e' with z | z
    · rw [z]; exact ⟨_, he, fun v q => nomatch q⟩
    · rw [z]; exact ⟨o, ho, fun v q => by rw [hd] at q; cases q⟩
  keep := fun i h h' st k => let ⟨⟨old, he⟩, ⟨o, ho, r⟩, hne⟩ := st; ⟨⟨old, k e (by simp) _ he⟩, ⟨o, k it (by simp) o ho, r⟩, hne⟩
  item := by
    intro X hP hw hK hc i pins s σ H E I hf st hg
    subst hP hw hK
    obtain ⟨⟨old, he⟩, hit, hne⟩ := st
    have hg : i < x.cps.size := hg
    have hx : x.cps[i]? = some x.cps[i] := Array.getElem?_eq_getElem hg
    generalize x.cps[i] = c at hx
    have hel : e < s.heap.objs.size := Heap.lt_size he
    have hil : it < s.heap.objs.size := by obtain ⟨_, q, _⟩ := hit; exact Heap.lt_size q
    refine pyNext_enum_overT (c := (i : Int)) (x := .str ⟨#[c]⟩ s.toks) (NX := fun h k => h.IsStrIter it "str_ascii_iterator" x t (i + 1) ∧ Heap.SameBut it s.heap h ∧ k = s.toks + 1) he
      (fun E' Q' q => wpAny_nextOf_ascii_item hit hx fun h' a b => q h' _ ⟨a, b, rfl⟩) (fun h k n => (n.2.1.2 e hne).trans he) fun h1 k h2 n1 o2 t2 z2 k2 => ?_
    obtain ⟨n1, n2, rfl⟩ := n1
    have sz : h1.objs.size = s.heap.objs.size := n2.1
    refine ⟨_, rfl, wpAny_letOwnedTupleGo_enum (s := { s with heap := h2, toks := s.toks + 1 + 1 }) o2 fun h'' he' sb => ?_⟩
    rw [sz] at t2 z2 o2 ⊢
    have hT2 : h''.get? s.heap.objs.size = some { cls := .type "tuple", data := .seq #[.int i (s.toks + 1), .str ⟨#[c]⟩ s.toks] } := (sb.2 _ (Nat.ne_of_gt hel)).trans t2
    have new : ObjOk X.prog X.w (upd H s.heap.objs.size (.tup [.int (i : Nat), .str ⟨#[c]⟩])) h'' s.heap.objs.size (.tup [.int (i : Nat), .str ⟨#[c]⟩]) :=
      ⟨by show 2 ≤ sizeLine; decide, [.int i (s.toks + 1), .str ⟨#[c]⟩ s.toks], .cons ⟨_, rfl⟩ (.cons ⟨_, rfl⟩ .nil), ⟨_, hT2, rfl, _, rfl⟩⟩
    have I1 : Inv X pins σ (upd H s.heap.objs.size (.tup [.int (i : Nat), .str ⟨#[c]⟩])) { s with heap := h'', toks := s.toks + 1 + 1 } :=
      I.turnedNew (ch := [e, it]) (fun b ob hb q => (sb.2 b (fun z => hb (by simp [z]))).trans (k2 b ob (fun z => hb (by simp [z])) ((n2.2 b (fun z => hb (by simp [z]))).trans q))) hf (Nat.le_refl _) new
    refine ⟨.ref s.heap.objs.size, _, I1, rfl, ⟨_, c, rfl, I.hok.fresh (Nat.le_refl _), rfl, hx⟩, ⟨⟨.str ⟨#[c]⟩ s.toks, ?_⟩, ?_, hne⟩, fun b hb => ?_⟩
    · have e1 : ((i + 1 : Nat) : Int) = (i : Int) + 1 := by omega
      rw [e1]; exact he'
    · obtain ⟨o, ho, r⟩ := n1
      exact ⟨o, (sb.2 it (Ne.symm hne)).trans (k2 it o (Ne.symm hne) ho), r⟩
    · have hb' : b < s.heap.objs.size := by
        have e' : b = e ∨ b = it := by simpa using hb
        rcases e' with z | z
        · rw [z]; exact hel
        · rw [z]; exact hil
      rw [upd_ne (Nat.ne_of_lt hb')]
      exact (hf b hb).1
  done := by
    intro X hP hw hK hc i pins s σ H E I hf st hg
    subst hP hw hK
    obtain ⟨⟨old, he⟩, hit, hne⟩ := st
    obtain ⟨f0, f1, f2, f3, f4, f5⟩ := hf it (by simp)
    have hx : x.cps[i]? = none := Array.getElem?_eq_none hg
    exact pyNext_enum_stop (ST := fun h => Heap.ExtBut it s.heap h) he (fun E' Q' q => wpAny_nextOf_ascii_end (I.ok.hd hc) hit hx fun h' y a b => q h' y a b) fun h a => ⟨rfl, I.turned (t' := s.toks) (fun b o hb q => a b o hb q) f0 f1 f3 f4 f5⟩
  self := fun A i s Q E st h => let ⟨⟨_, he⟩, _⟩ := st; wpAny_pyIter_enum he h
def iEnumS (te : TE) : TI := fun σ H R => te σ H fun v H1 => ∃ x, v = .str x ∧ x.cps.all (· < 128) = true ∧ R (ItEs x) H1
theorem pi_enumS {X : Cx} {e : Expr} {te : TE} {p pos tpos : Pos} {elts : List Expr} {kk : Nat} (hg : Gl X "enumerate") (hm : X.mg "enumerate" = none) (ha : PE X e te) (hs : starEach [e] X.env = (false, eval e X.env) :: starEach [] X.env := by rfl) :
    PI X (.Tuple elts kk tpos) (.Call (.Name "enumerate" p) [e] [] pos) (iEnumS te) := by
  refine ⟨fun pins s σ H R I h => ?_⟩
  refine Call_ (ld_blt I hg hm boot_enumerate (PyProof.Rows.callWith_type1 (one_arg ha I h (fun v s1 y H1 I1 r q => ?_) hs) hs))
  obtain ⟨x, rfl, ax, q⟩ := q
  obtain ⟨t, rfl⟩ := r
  refine call_enumerate_str fun h' he hit hsz hk => wpAny_pyIter_enum he ?_
  rw [show strIterType x = "str_ascii_iterator" from if_pos ax] at hit
  have I2 : Inv X pins σ H1 { s1 with heap := h' } := I1.kept (t' := s1.toks) hk
  refine ⟨s1.heap.objs.size + 1, [s1.heap.objs.size + 1, s1.heap.objs.size], _, _, H1, rfl, I2, turn_enumS (s1.heap.objs.size + 1) s1.heap.objs.size x t, ⟨⟨.none, he⟩, hit, Nat.succ_ne_self _⟩, fun b hb => ?_, q⟩
  have e' : b = s1.heap.objs.size + 1 ∨ b = s1.heap.objs.size := by simpa using hb
  have hle : s1.heap.objs.size ≤ b := by
    rcases e' with z | z
    · rw [z]; exact Nat.le_add_right _ _
    · rw [z]; exact Nat.le_refl _
  exact I1.fpOk hle (I1.hok.fresh hle)
end XV
set_option Elab.async false
set_option linter.all false
set_option maxRecDepth 100000
set_option maxHeartbeats 4000000
/-! comprehensions of dicts over anything that walks; enumerate over a text walks. -/
namespace XV
open PySem PySem.Spec PyProof.Rows L2
theorem walk_enumS {x : Str} : Walk (ItEs x) x.cps.size (fun _ => True) (YPair (fun i => some (.int (i : Nat))) (fun i => (x.cps[i]?).map fun c => .str ⟨#[c]⟩)) :=
  ⟨fun _ _ hi _ => hi, fun _ _ => Nat.le_refl _, fun i H v H' _ _ y => by
    obtain ⟨T, c, h1, h2, h3, h4⟩ := y
    exact ⟨T, .int (i : Nat), .str ⟨#[c]⟩, h1, h2, h3, rfl, by show (x.cps[i]?).map _ = _; rw [h4]; rfl⟩⟩
section
variable {J : It} {n : Nat} {G : Hp → Prop} {Y : Nat → Hp → V → Hp → Prop}
/-- a comprehension of a dict over it -/
theorem dc_it (w : Walk J n G Y) {g : TG} {tt : TT} {tk tv : TE} {vs : List Nat} {σ : L2.St} {H1 : Hp} {D : Addr} {Qd : Hp → Prop} (Pv : Nat → Hp → Prop) (h0 : Pv 0 (upd H1 D (.dK []))) (hG : ∀ i H, i ≤ n → Pv i H → G H)
    (hs : ∀ i x H H', i < n → Pv i H → Y i H x H' → g x (wipe σ vs) H' fun σ2 H2 => wipe σ2 vs = wipe σ vs ∧ tt σ2 H2 fun b H3 =>
      if b = true then tk σ2 H3 fun y H4 => tv σ2 H4 fun z H5 => ∃ kvs k, y = kV k ∧ H5 D = some (.dK kvs) ∧ kvs.length < sizeLine ∧ Pv (i + 1) (upd H5 D (.dK (putK kvs k z))) else Pv (i + 1) H3) (hd : ∀ H, Pv n H → Qd H) :
    ∃ W : Nat → Nat → Hp → Prop, (∃ m, W 0 m (upd H1 D (.dK []))) ∧ ∀ i m H, W i m H →
      (J.stop i H ∧ Qd H) ∨ (J.go i H ∧ ∃ Nx : Hp → Prop, (∀ H', Nx H' → ∃ m', m' < m ∧ W (i + 1) m' H') ∧ ∀ x H', J.yld i H x H' → g x (wipe σ vs) H' fun σ2 H2 => wipe σ2 vs = wipe σ vs ∧ tt σ2 H2 fun b H3 =>
        if b = true then tk σ2 H3 fun y H4 => tv σ2 H4 fun z H5 => ∃ kvs k, y = kV k ∧ H5 D = some (.dK kvs) ∧ kvs.length < sizeLine ∧ Nx (upd H5 D (.dK (putK kvs k z))) else Nx H3) := by
  refine ⟨fun i m H => m = n - i ∧ i ≤ n ∧ Pv i H, ⟨n, by simp, Nat.zero_le _, h0⟩, ?_⟩
  rintro i m H ⟨rfl, hi, p⟩
  have q := hG i H hi p
  by_cases hlt : i < n
  · exact .inr ⟨w.goes i H hlt q, Pv (i + 1), fun H' p' => ⟨n - (i + 1), by omega, rfl, hlt, p'⟩, fun x H' y => hs i x H H' hlt p (w.yields i H x H' hlt q y)⟩
  · have e : i = n := by omega
    subst e
    exact .inl ⟨w.stops H q, hd H p⟩
end
end XV
set_option Elab.async false
set_option linter.all false
set_option maxRecDepth 100000
set_option maxHeartbeats 400000
namespace XT
open PySem PySem.Spec PyProof.Rows L2
/-! ### sets of texts: made, added to, their members in order -/
def kS (v : Value) : Str := match v with
  | .str k _ => k
  | _ => Str.empty
def kE (e : Int × Value) : Str := kS e.2
def GdE (w : World) (e : Int × Value) : Prop := ∃ k u, e.2 = Value.str k u ∧ e.1 = hashStr w k
/-- the texts S, n of them, are the set at a; its table can be walked -/
def SetS (w : World) (h : Heap) (a : Addr) (S : Str → Bool) (n : Nat) : Prop :=
  ∃ o es ep t, h.get? a = some o ∧ o.ExactSet ∧ o.data = .set es ep t ∧ (∀ e ∈ es.toList, GdE w e) ∧ (es.toList.map kE).Nodup ∧ (∀ k, S k = true ↔ k ∈ es.toList.map kE) ∧
    es.size < scanBound ∧ t.fits es.size = true ∧ es.size = n ∧ Ris t.place.toList ∧ (w.params.followText "set-order" = true ∨ t.led = true)
section
variable {P : Program} {w : World} {h h' : Heap} {a : Addr} {S : Str → Bool} {n : Nat}
theorem SetS.at (R : SetS w h a S n) (k : ∀ o, h.get? a = some o → h'.get? a = some o) : SetS w h' a S n := by
  obtain ⟨o, es, ep, t, ho, rest⟩ := R
  exact ⟨o, es, ep, t, k o ho, rest⟩
theorem SetS.congr {S2 : Str → Bool} (R : SetS w h a S n) (e : ∀ k, S2 k = S k) : SetS w h a S2 n := by
  rw [show S2 = S from funext e]
  exact R
theorem gd_elems {l : List (Int × Value)} (g : ∀ e ∈ l, GdE w e) : ElemsOf (PySem.strKind P w) l := fun e he => by
  obtain ⟨k, u, h1, h2⟩ := g e he
  exact ⟨⟨k, by rw [h1]; exact strKind_is P w k u, h2⟩, by rw [h1] <;> rfl⟩
theorem gd_is {e : Int × Value} (g : GdE w e) (k : Str) : (PySem.strKind P w).is k e.2 = true ↔ kE e = k := by
  obtain ⟨k0, u, h1, _⟩ := g
  unfold kE
  rw [h1]
  show Value.isStrOf k (.str k0 u) = true ↔ k0 = k
  simp only [Value.isStrOf, beq_iff_eq]
theorem gd_mem {l : List (Int × Value)} (g : ∀ e ∈ l, GdE w e) (k : Str) : k ∈ l.map kE ↔ ∃ e ∈ l, (PySem.strKind P w).is k e.2 = true := by
  rw [List.mem_map]
  exact ⟨fun ⟨e, he, q⟩ => ⟨e, he, (gd_is (g e he) k).2 q⟩, fun ⟨e, he, q⟩ => ⟨e, he, (gd_is (g e he) k).1 q⟩⟩
end
section
variable {P : Program} {w : World} {A : Around} {E : Value → Shared → Prop} {s : Shared} {a : Addr} {S : Str → Bool} {n : Nat}
theorem setS_tail {g : Bool → Sem Unit} (hg : ∀ (b : Bool) (s1 : Shared) (Q1 : Unit → Shared → Prop), Q1 () s1 → wpAny (model P w) A (g b) Q1 E s1)
    {o : Obj} {es : Array (Int × Value)} {ep : Nat} {t : SetTable} (ho : s.heap.get? a = some o) (hex : o.ExactSet) (hd : o.data = .set es ep t)
    {es1 : Array (Int × Value)} {t2 : SetTable} {S2 : Str → Bool} (g1 : ∀ e ∈ es1.toList, GdE w e) (nd1 : (es1.toList.map kE).Nodup) (m1 : ∀ k, S2 k = true ↔ k ∈ es1.toList.map kE)
    (hb1 : es1.size < scanBound) (hf2 : t2.fits es1.size = true) (hr : Ris t2.place.toList) (hl : w.params.followText "set-order" = true ∨ t2.led = true) {wasDummy : Bool} {R : Option Bool → Shared → Prop}
    (hR : ∀ h', Heap.SameBut a s.heap h' → SetS w h' a S2 es1.size → R (some true) { s with heap := h' }) :
    wpAny (model P w) A (do
        storeSet a es1 t2
        if (!wasDummy && t2.tooFull) = true then do
            g (relayAll t2 es1 (SetTable.grown es1.size)).2.2
            storeSet a (relayAll t2 es1 (SetTable.grown es1.size)).1 (relayAll t2 es1 (SetTable.grown es1.size)).2.1
            pure (some true)
          else pure (some true)) R E s := by
  have ho1 := store_at (es' := es1) (t' := t2) ho hd
  have sb1 := Heap.SameBut.update s.heap a (Obj.putSet es1 t2)
  refine wpAny_bind (wpAny_storeSet_of ho hd ?_ (fits_of_scanBound hb1))
  split
  · have pm := relayAll_perm t2 es1 (SetTable.grown es1.size)
    have f3 := relayAll_fits t2 es1 (SetTable.grown es1.size)
    have r3 := relayAll_ris t2 es1 (SetTable.grown es1.size)
    have l3 := relayAll_led t2 es1 (SetTable.grown es1.size)
    generalize relayAll t2 es1 (SetTable.grown es1.size) = Z at pm f3 r3 l3 ⊢
    obtain ⟨es2, t3, gv⟩ := Z
    dsimp only at pm f3 r3 l3 ⊢
    have z2 : es2.size = es1.size := by rw [← Array.length_toList, pm.length_eq, Array.length_toList]
    have hb2 : es2.size < scanBound := z2 ▸ hb1
    refine wpAny_bind (hg _ _ _ (wpAny_bind (wpAny_storeSet_of ho1 rfl ?_ (fits_of_scanBound hb2))))
    have ho2 := store_at (es' := es2) (t' := t3) ho1 rfl
    refine wpAny_pure (hR _ (sb1.trans (Heap.SameBut.update _ a _)) ?_)
    exact ⟨_, es2, _, t3, ho2, hex, rfl, fun e he => g1 e (pm.mem_iff.mp he), (pm.map kE).nodup_iff.mpr nd1, fun k => (m1 k).trans (pm.map kE).mem_iff.symm, hb2, f3, z2, r3,
      hl.imp id fun z => by rw [l3]; exact z⟩
  · exact wpAny_pure (hR _ sb1 ⟨_, es1, _, t2, ho1, hex, rfl, g1, nd1, m1, hb1, hf2, rfl, hr, hl⟩)
theorem setS_add {k : Str} {u : Tok} {Q : Bool → Shared → Prop} (R : SetS w s.heap a S n) (room : n + 1 < scanBound)
    (hQ : ∀ h', Heap.SameBut a s.heap h' → SetS w h' a (fun j => S j || decide (j = k)) (if S k = true then n else n + 1) → Q (!S k) { s with heap := h' }) :
    wpAny (model P w) A (setAddHashed a (.str k u) ((PySem.strKind P w).hash k)) Q E s := by
  obtain ⟨o, es, ep, t, ho, hex, hd, g, nd, hm, hb, hf, hn, hr, hl⟩ := R
  have key : (PySem.strKind P w).is k (.str k u) = true := strKind_is P w k u
  have sc : (Value.str k u).scannable = true := rfl
  have el : ElemsOf (PySem.strKind P w) es.toList := gd_elems g
  unfold setAddHashed setAddHashedIn
  refine wpAny_holding (wpAny_bind (wpAny_setState_of ho hd hf ?_))
  dsimp only
  rw [byScan_of sc hb el]
  simp only [↓reduceIte]
  unfold setAddByScan
  refine wpAny_bind (wpAny_bind (wpAny_rule (wpAny_bind (wpAny_setScan_of key ho hd hf el ?_))))
  cases hfi : List.findIdx? (fun e => (PySem.strKind P w).is k e.2) es.toList with
  | some j =>
    dsimp only
    obtain ⟨hj, pj, _⟩ := List.findIdx?_eq_some_iff_getElem.mp hfi
    have hSk : S k = true := (hm k).2 ((gd_mem (P := P) (w := w) g k).2 ⟨es.toList[j], List.getElem_mem hj, pj⟩)
    refine wpAny_pure (wpAny_pure ?_)
    have q := hQ s.heap (Heap.SameBut.refl a s.heap) ⟨o, es, ep, t, ho, hex, hd, g, nd, fun i => by
      rw [Bool.or_eq_true, decide_eq_true_eq, ← hm i]
      exact ⟨fun z => z.elim id (fun e => e ▸ hSk), .inl⟩, hb, hf, by rw [if_pos hSk]; exact hn, hr, hl⟩
    rw [hSk] at q
    exact q
  | none =>
    dsimp only
    have nk : k ∉ es.toList.map kE := fun z => by
      obtain ⟨e, he, q⟩ := (gd_mem (P := P) (w := w) g k).1 z
      have c := List.findIdx?_eq_none_iff.mp hfi e he
      rw [q] at c
      cases c
    have hSk : S k = false := Bool.eq_false_iff.mpr fun q => nk ((hm k).1 q)
    have gw : ∀ (b : Bool) {s1 : Shared} {Q1 : Unit → Shared → Prop}, Q1 () s1 → wpAny (model P w) A (match b with | true => rule "set.scan.the-table-gave-way" | false => pure ()) Q1 E s1 :=
      fun b s1 Q1 q => by cases b <;> first | exact wpAny_pure q | exact wpAny_rule q
    have pm := layNew_perm t es ((PySem.strKind P w).hash k) (.str k u)
    have f1 := layNew_fits t es ((PySem.strKind P w).hash k) (.str k u)
    have r1 := layNew_ris t es ((PySem.strKind P w).hash k) (.str k u) hr
    have l1 := layNew_led t es ((PySem.strKind P w).hash k) (.str k u)
    generalize layNew t es ((PySem.strKind P w).hash k) (.str k u) = Z at pm f1 r1 l1 ⊢
    obtain ⟨es1, t1, wd, gv⟩ := Z
    dsimp only at pm f1 r1 l1 ⊢
    rw [Array.toList_push] at pm
    have pc : es1.toList.Perm (((PySem.strKind P w).hash k, Value.str k u) :: es.toList) := pm.trans (List.perm_append_singleton _ _)
    have pk : (es1.toList.map kE).Perm (k :: es.toList.map kE) := pc.map kE
    have g1 : ∀ e ∈ es1.toList, GdE w e := fun e he => by
      rcases List.mem_cons.mp (pc.mem_iff.mp he) with z | z
      · rw [z]; exact ⟨k, u, rfl, rfl⟩
      · exact g e z
    have nd1 : (es1.toList.map kE).Nodup := pk.nodup_iff.mpr (List.nodup_cons.mpr ⟨nk, nd⟩)
    have m1 : ∀ i, (S i || decide (i = k)) = true ↔ i ∈ es1.toList.map kE := fun i => by
      rw [Bool.or_eq_true, decide_eq_true_eq, hm i, pk.mem_iff, List.mem_cons]
      exact Or.comm
    have sz1 : es1.size = n + 1 := by rw [← Array.length_toList, pc.length_eq, List.length_cons, Array.length_toList, hn]
    have hb1 : es1.size < scanBound := by rw [sz1]; exact room
    have led1 : w.params.followText "set-order" = true ∨ t1.led = true := hl.imp id fun z => by rw [l1]; exact z
    have fin : ∀ h', Heap.SameBut a s.heap h' → SetS w h' a (fun j => S j || decide (j = k)) es1.size → Q true { s with heap := h' } := fun h' sb r => by
      have q := hQ h' sb
      rw [hSk] at q
      rw [sz1] at r
      exact q r
    refine wpAny_bind (gw _ ?_)
    split
    · refine wpAny_bind ?_
      rw [hashByValue_scannable 8 sc]
      refine wpAny_pure (setS_tail ?_ ho hex hd g1 nd1 m1 hb1 ?_ ?_ ?_ ?_)
      · intro b s1 Q1 q; cases b <;> first | exact wpAny_pure q | exact wpAny_rule q
      · first | (split <;> first | exact f1 | exact SetTable.fits_plain_off f1) | exact f1
      · first | (split <;> exact r1) | exact r1
      · first | (split <;> exact led1) | exact led1
      · intro h' sb r; dsimp only; exact wpAny_pure (fin h' sb r)
    · refine wpAny_bind (wpAny_pure ?_)
      simp only [↓reduceIte]
      refine setS_tail ?_ ho hex hd g1 nd1 m1 hb1 f1 r1 led1 ?_
      · intro b s1 Q1 q; cases b <;> first | exact wpAny_pure q | exact wpAny_rule q
      · intro h' sb r; dsimp only; exact wpAny_pure (fin h' sb r)
theorem nd_len : ∀ (l m : List Str), l.Nodup → (∀ x ∈ l, x ∈ m) → l.length ≤ m.length
  | [], m, _, _ => Nat.zero_le _
  | x :: l, m, nd, h => by
    obtain ⟨h1, h2⟩ := List.nodup_cons.mp nd
    have hx := h x List.mem_cons_self
    have e := List.length_erase_of_mem hx
    have ih := nd_len l (m.erase x) h2 fun y hy => (List.mem_erase_of_ne (fun z : y = x => h1 (by rw [← z]; exact hy))).mpr (h y (List.mem_cons_of_mem _ hy))
    have := List.length_pos_of_mem hx
    rw [List.length_cons]
    omega
abbrev frs (w : World) : Obj := { cls := .type "set", dict := none, data := .set #[] 0 (.fresh 0 0 (!w.params.followText "set-order")) }
theorem setS_at0 {h : Heap} (ho : h.get? a = some (frs w)) : SetS w h a (fun _ => false) 0 :=
  ⟨_, #[], 0, _, ho, ⟨rfl, rfl, rfl⟩, rfl, (fun e he => by simp at he), (by simp), (fun k => by simp), (by decide), (by rfl), rfl, List.Pairwise.nil, by
    show _ ∨ (!w.params.followText "set-order") = true
    cases w.params.followText "set-order"
    · exact .inr rfl
    · exact .inl rfl⟩
/-- set.update's loop over texts -/
theorem upd_texts {I : Addr} {fp wr : List Addr} {G : Array GenState → Array GenState → Prop} {n : Nat} {Pv : Nat → Value → Prop} {St : Nat → Shared → Prop} {R : Result → Shared → Prop}
    (W : WalksS P w A.in1 I fp wr G n Pv St) (D : Addr) (nf : D ∉ fp) (xs : List Str) (hn : n = xs.length) (Ws : List Str) (hF : ∀ x ∈ xs, x ∈ Ws) (hb : Ws.length + 1 < scanBound) (hval : ∀ i v, Pv i v → ∃ k t, xs[i]? = some k ∧ v = .str k t) :
    ∀ (k i : Nat) (s : Shared), n - i = k → i ≤ n → St i s → (∃ c, c ≤ Ws.length ∧ SetS w s.heap D (fun j => decide (j ∈ xs.take i)) c) →
      (∀ s' c, Moved (D :: wr) G s s' → c ≤ Ws.length → SetS w s'.heap D (fun j => decide (j ∈ xs)) c → R (.ok (.ret .none)) s') →
      codeAny (model P w) A (.builtin "set.update.loop" ⟨[.ref D, .ref I], []⟩) R s := by
  have nw : D ∉ wr := fun h => nf (W.sub _ h)
  have sub : ∀ b ∈ wr, b ∈ D :: wr := fun b hb => List.mem_cons_of_mem _ hb
  intro k
  induction k with
  | zero =>
    intro i s hk hi hst ⟨c, hc, hS⟩ hR
    obtain rfl : i = n := by omega
    refine codeAny_builtin F.entry_set_update_loop ?_
    rw [Around.under_plainId F.plain_set_update_loop _]
    show wpAny _ A.in1 (pyNext (.ref I) >>= _) _ _ s
    refine wpAny_bind (W.done s _ _ hst fun s' hm => ?_)
    show wpAny _ A.in1 (ret Value.none) _ _ s'
    have e : xs.take i = xs := List.take_of_length_le (by omega)
    rw [e] at hS
    exact wpAny_pure (hR s' c (hm.mono sub) hc (hS.at fun o e => hm.heap D o nw e))
  | succ k ih =>
    intro i s hk hi hst ⟨c, hc, hS⟩ hR
    have lt : i < n := by omega
    refine codeAny_builtin F.entry_set_update_loop ?_
    rw [Around.under_plainId F.plain_set_update_loop _]
    show wpAny _ A.in1 (pyNext (.ref I) >>= _) _ _ s
    refine wpAny_bind (W.item i s _ _ lt hst fun v s' hP hst2 hm => ?_)
    obtain ⟨z, t, hz, rfl⟩ := hval i v hP
    have hS2 : SetS w s'.heap D (fun j => decide (j ∈ xs.take i)) c := hS.at fun o e => hm.heap D o nw e
    show wpAny _ A.in1 (holding [Value.str z t] (setAdd D (.str z t)) >>= _) _ _ s'
    unfold setAdd
    refine wpAny_bind (wpAny_holding (wpAny_holding (wpAny_bind ((PySem.strKind P w).pyHash (k := z) (strKind_is _ _ _ _) ?_))))
    refine setS_add (s := { s' with toks := s'.toks + 1 }) hS2 (by omega) fun h' hsb hS3 => ?_
    have hS4 : SetS w h' D (fun j => decide (j ∈ xs.take (i + 1))) (if decide (z ∈ xs.take i) = true then c else c + 1) := hS3.congr fun j => by
      rw [List.take_add_one, hz]
      simp [List.mem_append]
    have hc4 : (if decide (z ∈ xs.take i) = true then c else c + 1) ≤ Ws.length := by
      obtain ⟨o, es, ep, t4, _, _, _, _, nd4, m4, _, _, n4, _⟩ := hS4
      rw [← n4, ← Array.length_toList, ← List.length_map (f := kE)]
      exact nd_len _ Ws nd4 fun x hx => hF x (List.mem_of_mem_take (of_decide_eq_true ((m4 x).2 hx)))
    refine wpAny_pure ⟨plainId_quiet F.plain_set_update_loop _, ih (i + 1) _ (by omega) lt (W.frame _ s' _ _ hst2 (Nat.le_succ _) fun b hb o e => ?_) ⟨_, hc4, hS4⟩ fun s3 c2 hm3 hc3 hS5 => ?_⟩
    · rw [hsb.2 b (fun h : b = D => nf (by rw [← h]; exact hb))]; exact e
    · refine hR s3 c2 (Moved.trans W.gtrans ((hm.mono sub).then_heap (Nat.le_succ _) fun b o hb e => ?_) hm3) hc3 hS5
      rw [hsb.2 b (fun h : b = D => hb (by rw [h]; exact List.mem_cons_self))]; exact e
end
end XT
set_option Elab.async false
set_option linter.all false
set_option maxRecDepth 100000
set_option maxHeartbeats 400000
namespace XT
open PySem PySem.Spec PyProof.Rows L2
/-! ### set(x): the call up to its update -/
section
variable {P : Program} {w : World} {A : Around} {E : Value → Shared → Prop} {s : Shared}
set_option maxHeartbeats 3200000 in
theorem call_set_by {x : Value} {Q : Value → Shared → Prop}
    (core : ∀ (A1 : Around) (E1 : Value → Shared → Prop) (Q1 : Unit → Shared → Prop), A1.handled = A.handled → (∀ s2, Q (.ref s.heap.objs.size) s2 → Q1 () s2) →
      wpAny (model P w) A1 (Builtin.Frozenset.updateFrom "set.__init__" s.heap.objs.size x) Q1 E1 { s with heap := s.heap.push (frs w) }) :
    wpAny (model P w) A (call (.type "set") [x]) Q E s := by
  obtain ⟨c, tl, hmro⟩ := F.called_set.mro
  have mk := F.called_set.made
  have sb := F.called_set.sub
  refine wpAny_call (codeAny_of_tree ?_)
  show wpAny _ _ (callAny (.type "set") _) _ _ _
  refine wpAny_pure ⟨Code.quiet_builtin _ (by decide +kernel), codeAny_builtin F.entry_type_call ?_⟩
  rw [Around.under_plain (weight_type_call_type "set" [x] []) rfl]
  have n1 := F.called_set.notType
  have n2 := F.called_set.canCreate
  have ct := F.typeCall_set_1 x
  repeat (any_goals (first | assumption | wp_step))
  refine codeAny_mono (code_set_led1 x (E := E) (Q₁ := fun obj s1 => obj = .ref s.heap.objs.size ∧ s1 = { s with heap := s.heap.push (frs w) }) ⟨rfl, rfl⟩) fun r s1 hr => ?_
  cases r with
  | error e => exact hr
  | ok fl =>
    cases fl with
    | ret obj =>
      obtain ⟨rfl, rfl⟩ := hr
      have hS : (s.heap.push (frs w)).get? s.heap.objs.size = some (frs w) := Heap.get?_push_size _ rfl
      have hT : Shared.TypeIs { s with heap := s.heap.push (frs w) } (.ref s.heap.objs.size) "set" := ⟨_, hS, rfl⟩
      have li := F.called_set.init.lookup
      have bi := F.called_set.init.bind (.ref s.heap.objs.size)
      repeat (any_goals (first | assumption | wp_step))
      refine codeAny_mono (codeAny_call_builtin (R := wants (fun r s2 => r = .none ∧ Q (.ref s.heap.objs.size) s2) E) F.called_set.init.plain F.entry_set_init (check_set_init_1 hT ?_)) fun r2 s2 hr2 => ?_
      · unfold Builtin.«set.__init__» noKeywords
        generalize hU : Builtin.Frozenset.updateFrom "set.__init__" = U
        wp_walk
        subst hU
        refine core _ _ _ (by simp) fun s2 q => ?_
        show wpAny _ _ (ret Value.none) _ _ _
        exact wpAny_pure ⟨rfl, q⟩
      · cases r2 with
        | error e => exact hr2
        | ok fl2 =>
          cases fl2 with
          | ret r =>
            obtain ⟨rfl, q⟩ := hr2
            repeat (any_goals (first | assumption | wp_step))
          | _ => exact hr2.elim
    | _ => exact hr.elim
end
end XT
set_option Elab.async false
set_option linter.all false
set_option maxRecDepth 100000
set_option maxHeartbeats 800000
namespace XT
open PySem PySem.Spec PyProof.Rows L2
/-- the signs of a text, each a text -/
def sgs (x : Str) : List Str := x.cps.toList.map fun c => ⟨#[c]⟩
theorem sgs_at {x : Str} {i c : Nat} (h : x.cps[i]? = some c) : (sgs x)[i]? = some ⟨#[c]⟩ := by
  unfold sgs
  rw [List.getElem?_map, Array.getElem?_toList, h]
  rfl
theorem sgs_len (x : Str) : x.cps.size = (sgs x).length := by simp [sgs]
section
variable {P : Program} {w : World} {A : Around} {E : Value → Shared → Prop} {s : Shared}
/-- set(text) -/
theorem call_set_str {x : Str} {u : Tok} (Ws : List Str) {Q : Value → Shared → Prop} (hh : A.handled = none) (hW : ∀ y ∈ sgs x, y ∈ Ws) (hb : Ws.length + 1 < scanBound)
    (h : ∀ (h' : Heap) (tk c : Nat), SetS w h' s.heap.objs.size (fun j => decide (j ∈ sgs x)) c → c ≤ Ws.length → (∀ b o, s.heap.get? b = some o → h'.get? b = some o) → Q (.ref s.heap.objs.size) { s with heap := h', toks := tk }) :
    wpAny (model P w) A (call (.type "set") [.str x u]) Q E s := by
  refine call_set_by fun A1 E1 Q1 h1 hq => ?_
  have hh1 : A1.handled = none := h1.trans hh
  have hS : (s.heap.push (frs w)).get? s.heap.objs.size = some (frs w) := Heap.get?_push_size _ rfl
  unfold Builtin.Frozenset.updateFrom
  refine wpAny_bind (Fz.anySet ?_)
  simp only [Bool.false_eq_true, if_false]
  refine wpAny_bind (wpAny_typeOf (typeIs_str _ _ _) ?_)
  rw [show (Value.type "str" == Value.type "dict") = false by decide]
  simp only [Bool.false_eq_true, if_false]
  refine wpAny_bind (wpAny_pyIter_strU ?_)
  have z1 : (s.heap.push (frs w)).objs.size = s.heap.objs.size + 1 := Heap.size_push ..
  have go : ∀ {St : Nat → Heap → Prop}, Walks P w A1.in1 (s.heap.push (frs w)).objs.size [(s.heap.push (frs w)).objs.size] [(s.heap.push (frs w)).objs.size] x.cps.size (SignAt x) St →
      St 0 ((s.heap.push (frs w)).push { cls := .type (strIterType x), data := .fields #[.str x u, .int 0 0] }) →
      wpAny (model P w) A1 (runValue (.builtin "set.update.loop" ⟨[.ref s.heap.objs.size, .ref (s.heap.push (frs w)).objs.size], []⟩) >>= fun _ => pure ()) Q1 E1
        { s with heap := (s.heap.push (frs w)).push { cls := .type (strIterType x), data := .fields #[.str x u, .int 0 0] } } := by
    intro St W h0
    refine wpAny_bind (wpAny_runValue ?_)
    have ns : s.heap.objs.size ∉ [(s.heap.push (frs w)).objs.size] := by
      rw [z1, List.mem_singleton]
      omega
    refine upd_texts W.toS s.heap.objs.size ns (sgs x) (sgs_len x) Ws hW hb (fun i v hv => ?_) (x.cps.size - 0) 0 _ (by omega) (Nat.zero_le _) h0 ⟨0, Nat.zero_le _, ?_⟩ fun s' c' hm hc' hS' => ?_
    · obtain ⟨c, t, hc, rfl⟩ := hv
      exact ⟨_, t, sgs_at hc, rfl⟩
    · exact (setS_at0 (Heap.get?_push_of_some _ hS)).congr fun k => by simp
    · obtain ⟨h', g2, d', tk', os'⟩ := s'
      obtain rfl : g2 = s.gens := hm.gens
      obtain rfl : d' = s.drawn := hm.drawn
      obtain rfl : os' = s.os := hm.os
      refine wpAny_pure (hq _ (h h' tk' c' hS' hc' fun b o e => ?_))
      have b0 : b < s.heap.objs.size := Heap.lt_size e
      refine hm.heap b o (fun hb2 => ?_) (Heap.get?_push_of_some _ (Heap.get?_push_of_some _ e))
      rcases List.mem_cons.mp hb2 with z | z
      · exact Nat.ne_of_lt b0 z
      · rw [z1, List.mem_singleton] at z
        exact Nat.ne_of_lt (Nat.lt_succ_of_lt b0) z
  unfold strIterType at *
  cases ha : x.cps.all (· < 128)
  · rw [ha] at go
    exact go (Walks.strWide (A := A1.in1) hh1 _ x u) ⟨_, Heap.get?_push_size _ rfl, rfl, rfl⟩
  · rw [ha] at go
    exact go (Walks.strAscii (A := A1.in1) hh1 _ x u) ⟨_, Heap.get?_push_size _ rfl, rfl, rfl⟩
/-- set(list of ints) -/
theorem call_set_ints {l : Addr} {its : Array Value} (ns : List Int) {Q : Value → Shared → Prop} (hh : A.handled = none) (hl : s.heap.IsList l its) (hi : IntsAre its.toList ns) (hb : ns.length + 1 < scanBound)
    (h : ∀ (h' : Heap) (tk c : Nat), SetR w h' s.heap.objs.size (fun j => decide (j ∈ ns)) c → c ≤ ns.length → (∀ b o, s.heap.get? b = some o → h'.get? b = some o) → Q (.ref s.heap.objs.size) { s with heap := h', toks := tk }) :
    wpAny (model P w) A (call (.type "set") [.ref l]) Q E s := by
  have zi : its.size = ns.length := by
    have q := IntsAre.length hi
    rw [Array.length_toList] at q
    exact q
  refine call_set_by fun A1 E1 Q1 h1 hq => ?_
  have hh1 : A1.handled = none := h1.trans hh
  have hS : (s.heap.push (frs w)).get? s.heap.objs.size = some (frs w) := Heap.get?_push_size _ rfl
  have z1 : (s.heap.push (frs w)).objs.size = s.heap.objs.size + 1 := Heap.size_push ..
  have hl1 : (s.heap.push (frs w)).IsList l its := hl.push _
  have lS : l < s.heap.objs.size := by
    obtain ⟨o, ho, _⟩ := hl
    exact Heap.lt_size ho
  unfold Builtin.Frozenset.updateFrom Builtin.Frozenset.isAnySet orM
  refine wpAny_bind (wpAny_bind (wpAny_isInstance hl1.typeIs F.sub_list_set ?_))
  refine wpAny_isInstance hl1.typeIs F.sub_list_frozenset ?_
  simp only [Bool.false_eq_true, if_false]
  refine wpAny_bind (wpAny_typeOf hl1.typeIs ?_)
  rw [show (Value.type "list" == Value.type "dict") = false by decide]
  simp only [Bool.false_eq_true, if_false]
  refine wpAny_bind (wpAny_pyIter_list hl1 (wpAny_bind (wpAny_runValue ?_)))
  have ne : l ≠ (s.heap.push (frs w)).objs.size := by
    rw [z1]
    exact Nat.ne_of_lt (Nat.lt_succ_of_lt lS)
  have nS : s.heap.objs.size ∉ [(s.heap.push (frs w)).objs.size, l] := by
    rw [z1]
    intro z
    rcases List.mem_cons.mp z with z | z
    · exact Nat.ne_of_lt (Nat.lt_succ_self _) z
    · rw [List.mem_singleton] at z
      exact Nat.ne_of_gt lS z
  have hval : ∀ (i : Nat) (v : Value), its[i]? = some v → ∃ k t, ns[i]? = some k ∧ v = .int k t := fun i v hv => by
    have li : i < ns.length := by rw [← zi]; exact (Array.getElem?_eq_some_iff.mp hv).1
    obtain ⟨t, e⟩ := PyProof.Rows.IntsAre.int_at hi i v (by rw [Array.getElem?_toList]; exact hv)
    refine ⟨ns[i], t, List.getElem?_eq_getElem li, ?_⟩
    rw [e, List.getD_eq_getElem?_getD, List.getElem?_eq_getElem li] <;> rfl
  refine set_update_ints ((Walks.list (A := A1.in1) hh1 _ l ne its).toS) s.heap.objs.size nS ns zi hb hval (its.size - 0) 0 _ (by omega) (Nat.zero_le _) ⟨⟨_, Heap.get?_push_size _ rfl, rfl, rfl⟩, hl1.push _⟩ ⟨0, Nat.le_refl 0, setR_new_at (Heap.get?_push_of_some _ hS)⟩ fun s' c' hm hc' hS' => ?_
  obtain ⟨h', g2, d', tk', os'⟩ := s'
  obtain rfl : g2 = s.gens := hm.gens
  obtain rfl : d' = s.drawn := hm.drawn
  obtain rfl : os' = s.os := hm.os
  refine wpAny_pure (hq _ (h h' tk' c' hS' (by omega) fun b o e => ?_))
  have b0 : b < s.heap.objs.size := Heap.lt_size e
  refine hm.heap b o (fun hb2 => ?_) (Heap.get?_push_of_some _ (Heap.get?_push_of_some _ e))
  rcases List.mem_cons.mp hb2 with z | z
  · exact Nat.ne_of_lt b0 z
  · rw [z1, List.mem_singleton] at z
    exact Nat.ne_of_lt (Nat.lt_succ_of_lt b0) z
end
/-! ### in the hand layer -/
def SetSO (w : World) (a : Addr) (S : Str → Bool) (n : Nat) : HO := .ext fun h => SetS w h a S n
section
variable {X : Cx}
theorem setSO_new {w : World} {P : Program} {H : Hp} {h : Heap} {a : Addr} {S : Str → Bool} {n : Nat} (R : SetS w h a S n) : ObjOk P w H h a (SetSO w a S n) := by
  have ⟨o, _, _, _, ho, _⟩ := R
  exact ⟨R, ⟨o, ho⟩, fun h1 h2 p k => SetS.at p k⟩
/-- set(text), set(list of ints) -/
def rSetStr (w : World) : List L2.V → Hp → VK → Prop := fun vs H Q => ∃ (x : Str) (Ws : List Str), vs = [.str x] ∧ (∀ y ∈ sgs x, y ∈ Ws) ∧ Ws.length < 1000 ∧ ∀ (p : Addr) (c : Nat), H p = none → c ≤ Ws.length → Q (.ref p) (upd H p (SetSO w p (fun j => decide (j ∈ sgs x)) c))
def rSetLI (K : PySem.W.Frag) (w : World) : List L2.V → Hp → VK → Prop := fun vs H Q => ∃ (a : Addr) (ns : List Int), vs = [.ref a] ∧ SqL K H a (ns.map V.int) ∧ ns.length < 1000 ∧ ∀ (p : Addr) (c : Nat), H p = none → c ≤ ns.length → Q (.ref p) (upd H p (SetO w p (fun j => decide (j ∈ ns)) c))
theorem scan1000 {n : Nat} (h : n < 1000) : n + 1 < scanBound := by
  unfold scanBound
  omega
theorem cr_setStr (hc : X.calm = true) : CallR X (.type "set") (rSetStr X.w) := by
  intro pins s σ H vs us Q I r h
  obtain ⟨x, Ws, rfl, hW, hb, q⟩ := h
  cases r with
  | cons r t =>
    cases t
    obtain ⟨tk, rfl⟩ := r
    refine call_set_str Ws (I.ok.hd hc) hW (scan1000 hb) fun h' tk c R hc k => ?_
    exact ⟨.ref _, upd H s.heap.objs.size (SetSO X.w s.heap.objs.size (fun j => decide (j ∈ sgs x)) c), I.laid (t' := tk) k (Nat.le_refl _) (setSO_new R), rfl, q _ c (I.hok.fresh (Nat.le_refl _)) hc⟩
theorem cr_setLI (hc : X.calm = true) : CallR X (.type "set") (rSetLI X.K X.w) := by
  intro pins s σ H vs us Q I r h
  obtain ⟨a, ns, rfl, hs, hb, q⟩ := h
  obtain ⟨its, rv, hl, _⟩ := I.list hs
  rw [Vals.ref1 r]
  refine call_set_ints ns (I.ok.hd hc) hl.isList (by simpa using rv.ints) (scan1000 hb) fun h' tk c R hc k => ?_
  exact ⟨.ref _, upd H s.heap.objs.size (SetO X.w s.heap.objs.size (fun j => decide (j ∈ ns)) c), I.laid (t' := tk) k (Nat.le_refl _) (setO_new R), rfl, q _ c (I.hok.fresh (Nat.le_refl _)) hc⟩
end
end XT
set_option Elab.async false
set_option linter.all false
set_option maxRecDepth 100000
set_option maxHeartbeats 800000
namespace XT
open PySem PySem.Spec PyProof.Rows L2
theorem strs_kS : ∀ (l : List Value), (∀ v ∈ l, ∃ k u, v = Value.str k u) → StrsAre l (l.map kS)
  | [], _ => .nil
  | v :: l, h => by
    obtain ⟨k, u, rfl⟩ := h v List.mem_cons_self
    exact .cons k u (strs_kS l fun y hy => h y (List.mem_cons_of_mem _ hy))
section
variable {P : Program} {w : World} {A : Around} {E : Value → Shared → Prop} {s : Shared} {a : Addr}
/-- sorted(set of texts) -/
theorem sorted_setS {S : Str → Bool} {n : Nat} {Q : Value → Shared → Prop} (R : SetS w s.heap a S n) (hh : A.handled = none) (h64 : n < 64)
    (hQ : ∀ s' p (out : Array Value) (c : Nat) (ks : List Str), (∀ b o, s.heap.get? b = some o → s'.heap.get? b = some o) → s'.gens = s.gens → s'.os = s.os → s.heap.objs.size ≤ p →
      s'.heap.get? p = some (seqObj "list" out c) → StrsAre out.toList ks → ks.Nodup → sortedS ks = true → (∀ k, k ∈ ks ↔ S k = true) → ks.length = n → Q (.ref p) s') :
    wpAny (model P w) A (call (.builtin "sorted") [.ref a]) Q E s := by
  obtain ⟨o, es, ep, t, ho, hex, hd, g, nd, hm, hb, hf, hn, hr, hl⟩ := R
  refine Calls.call_function_entry kind_sorted plain_sorted entry_sorted (args_sorted1 _) ?_
  unfold Builtin.«sorted»
  refine wpAny_bind (m := checkCount "sorted" 1 1 _) (wpAny_pure (wpAny_bind (collect_set (A := A.in1) hh ⟨o, ho, hex.1, hd⟩ hf hb hr hl fun s1 vs k1 hz g1 o1 pm => ?_)))
  have vl : vs.length = n := by rw [pm.length_eq, List.length_map, Array.length_toList]; exact hn
  have hI : StrsAre vs (vs.map kS) := strs_kS vs fun v hv => by
    obtain ⟨e, he, q⟩ := List.mem_map.mp (pm.mem_iff.mp hv)
    obtain ⟨k, u, h1, _⟩ := g e he
    exact ⟨k, u, by rw [← q]; exact h1⟩
  have pk : (vs.map kS).Perm (es.toList.map kE) := by
    have q := pm.map kS
    rw [List.map_map] at q
    exact q
  refine wpAny_bind (wpAny_newList ?_ (by rw [vl, sizeLine_eq]; omega))
  have hoL : (s1.heap.push (seqObj "list" vs.toArray 0)).get? s1.heap.objs.size = some (seqObj "list" vs.toArray 0) := Heap.get?_push_size _ rfl
  refine wpAny_bind (wpAny_holding (wpAny_call_entry slot_list_sort ⟨_, hoL, rfl⟩ entry_list_sort (list_sort_treeK strKind_oneLt hoL hI.keysOf (fun v1 v2 rest e => keyKind_strs (by rw [← e]; exact hI)) (by rw [vl]; exact h64) fun st2 a1 a2 => ⟨_, rfl, ?_⟩) (args_list_sort _)))
  obtain ⟨ks, b1, b2, b3⟩ := sorted_out_str hI a1 a2
  obtain ⟨c, hc⟩ := sortedHeap_at (vs := vs) (out := (arrOf st2).map (·.2)) hoL
  have pn : ks.Perm (es.toList.map kE) := b2.trans pk
  refine wpAny_pure ⟨_, rfl, hQ _ s1.heap.objs.size ((arrOf st2).map (·.2)) c ks (fun b u e => ?_) g1 o1 hz hc b1 (pn.nodup_iff.mpr nd) b3 (fun k => by rw [pn.mem_iff, ← hm k]) ?_⟩
  · have q := k1 b u e
    have lt := Heap.lt_size q
    show (sortedHeap (s1.heap.push (seqObj "list" vs.toArray 0)) s1.heap.objs.size vs ((arrOf st2).map (·.2))).get? b = some u
    rw [sortedHeap_old (Nat.ne_of_lt lt) (by rw [size_push']; exact Nat.lt_succ_of_lt lt)]
    exact Heap.get?_push_of_some _ q
  · rw [pn.length_eq, List.length_map, Array.length_toList]; exact hn
end
section
variable {X : Cx}
def rSortedSS (w : World) : List L2.V → Hp → VK → Prop := fun vs H Q => ∃ (a : Addr) (S : Str → Bool) (n : Nat), vs = [V.ref a] ∧ H a = some (SetSO w a S n) ∧ n < 64 ∧
  ∀ (ks : List Str) (p : Addr), ks.Nodup → sortedS ks = true → (∀ k : Str, k ∈ ks ↔ S k = true) → ks.length = n → H p = none → Q (.ref p) (upd H p (.lst (ks.map V.str)))
theorem cr_sortedSS (hc : X.calm = true) : CallR X (.builtin "sorted") (rSortedSS X.w) := by
  intro pins s σ H vs us Q I r h
  obtain ⟨a, S, n, rfl, ha, h64, q⟩ := h
  have R : SetS X.w s.heap a S n := (I.hok a _ ha).1
  rw [Vals.ref1 r]
  refine sorted_setS R (I.ok.hd hc) h64 fun s' p out c ks k g o hp hg hi hd hs hm hl => ?_
  have le : (ks.map V.str).length ≤ sizeLine := by rw [List.length_map, hl, sizeLine_eq]; omega
  have hn : H p = none := I.hok.fresh hp
  have J : Inv X pins σ (upd H p (.lst (ks.map V.str))) { s with heap := s'.heap, gens := s'.gens, drawn := s'.drawn, toks := s'.toks } :=
    I.call (ch := []) (Un.laid k hp hn) (I.hok.laid k hp ⟨le, out.toList, c, vals_of_strs hi, hg⟩) (by rw [g]; exact I.bare) (fun _ z => nomatch z)
  have e : s' = { s with heap := s'.heap, gens := s'.gens, drawn := s'.drawn, toks := s'.toks } := by
    cases s'
    cases s
    cases o
    rfl
  rw [e]
  exact ⟨.ref p, _, J, rfl, q ks p hd hs hm hl hn⟩
end
/-! ### the texts of one sign each, in order -/
theorem ltc1 (a b : Nat) : ltCps [a] [b] = decide (a < b) := by
  rw [ltCps_eq]
  apply decide_eq_decide.mpr
  constructor
  · intro h
    cases h with
    | rel h => exact h
    | cons h => cases h
  · exact fun h => List.Lex.rel h
/-- rising, strictly -/
def riseN : List Nat → Bool
  | [] => true
  | a :: r => (match r with
    | [] => true
    | b :: _ => decide (a < b)) && riseN r
theorem riseN_iff : ∀ l : List Nat, riseN l = true ↔ l.Pairwise (· < ·)
  | [] => by simp [riseN]
  | [a] => by simp [riseN]
  | a :: b :: r => by
    have ih := riseN_iff (b :: r)
    show (decide (a < b) && riseN (b :: r)) = true ↔ _
    rw [Bool.and_eq_true, decide_eq_true_eq, ih, List.pairwise_cons (a := a)]
    constructor
    · rintro ⟨h1, h2⟩
      refine ⟨fun x hx => ?_, h2⟩
      rcases List.mem_cons.mp hx with rfl | hx
      · exact h1
      · exact Nat.lt_trans h1 ((List.pairwise_cons.mp h2).1 x hx)
    · exact fun h => ⟨h.1 b List.mem_cons_self, h.2⟩
def sg (c : Nat) : Str := ⟨#[c]⟩
theorem sg_inj {a b : Nat} (h : sg a = sg b) : a = b := by
  have q : [a] = [b] := congrArg (fun y : Str => y.cps.toList) h
  exact (List.cons.inj q).1
theorem risingS_sg : ∀ (p : Nat) (ds : List Nat), risingS (sg p) (ds.map sg) = true → (p :: ds).Nodup → (p :: ds).Pairwise (· < ·)
  | _, [], _, _ => List.pairwise_singleton _ _
  | p, d :: ds, h, nd => by
    have h : (!ltCps [d] [p] && risingS (sg d) (ds.map sg)) = true := h
    rw [Bool.and_eq_true, ltc1] at h
    obtain ⟨h1, h2⟩ := h
    have h1 : ¬ d < p := fun z => by
      rw [decide_eq_true z] at h1
      cases h1
    obtain ⟨n1, n2⟩ := List.nodup_cons.mp nd
    have ih := risingS_sg d ds h2 n2
    have ne : p ≠ d := fun z => n1 (z ▸ List.mem_cons_self)
    refine List.pairwise_cons.mpr ⟨fun x hx => ?_, ih⟩
    rcases List.mem_cons.mp hx with rfl | hx
    · omega
    · have := (List.pairwise_cons.mp ih).1 x hx
      omega
theorem sortedS_sg (ds : List Nat) (h : sortedS (ds.map sg) = true) (nd : ds.Nodup) : ds.Pairwise (· < ·) := by
  cases ds with
  | nil => exact List.Pairwise.nil
  | cons d ds => exact risingS_sg d ds h nd
theorem of_sgs : ∀ (ks : List Str), (∀ k ∈ ks, ∃ c, k = sg c) → ∃ ds : List Nat, ks = ds.map sg
  | [], _ => ⟨[], rfl⟩
  | k :: ks, h => by
    obtain ⟨c, rfl⟩ := h k List.mem_cons_self
    obtain ⟨ds, rfl⟩ := of_sgs ks fun x hx => h x (List.mem_cons_of_mem _ hx)
    exact ⟨c :: ds, rfl⟩
theorem same_of_rise {a b : List Nat} (ha : a.Pairwise (· < ·)) (hb : b.Pairwise (· < ·)) (m : ∀ x, x ∈ a ↔ x ∈ b) : a = b := by
  have na : a.Nodup := ha.imp fun h => Nat.ne_of_lt h
  have nb : b.Nodup := hb.imp fun h => Nat.ne_of_lt h
  have p : a.Perm b := (List.perm_ext_iff_of_nodup na nb).mpr m
  exact List.Perm.eq_of_pairwise (fun x y _ _ h1 h2 => absurd h1 (Nat.lt_asymm h2)) ha hb p
/-- the members of a text, in order: as the text itself just if it rises -/
theorem sorted_sgs {x : Str} {ks : List Str} (nd : ks.Nodup) (hs : sortedS ks = true) (hm : ∀ k : Str, k ∈ ks ↔ decide (k ∈ sgs x) = true) :
    ∃ ds : List Nat, ks = ds.map sg ∧ ds.Pairwise (· < ·) ∧ decide (ds = x.cps.toList) = riseN x.cps.toList := by
  obtain ⟨ds, rfl⟩ := of_sgs ks fun k hk => by
    obtain ⟨c, _, e⟩ := List.mem_map.mp (of_decide_eq_true ((hm k).1 hk))
    exact ⟨c, e.symm⟩
  have nd2 : ds.Nodup := by
    rw [List.Nodup, List.pairwise_map] at nd
    exact nd.imp fun h z => h (congrArg sg z)
  have pw := sortedS_sg ds hs nd2
  refine ⟨ds, rfl, pw, ?_⟩
  apply Bool.eq_iff_iff.mpr
  rw [decide_eq_true_eq, riseN_iff]
  refine ⟨fun e => e ▸ pw, fun h => same_of_rise pw h fun c => ?_⟩
  constructor
  · intro hc
    obtain ⟨c2, h2, e⟩ := List.mem_map.mp (of_decide_eq_true ((hm (sg c)).1 (List.mem_map_of_mem hc)))
    rw [← sg_inj e]
    exact h2
  · intro hc
    have : sg c ∈ ds.map sg := (hm (sg c)).2 (decide_eq_true (List.mem_map_of_mem (f := sg) hc))
    obtain ⟨c2, h2, e⟩ := List.mem_map.mp this
    rw [← sg_inj e]
    exact h2
end XT
set_option Elab.async false
set_option linter.all false
set_option maxRecDepth 100000
set_option maxHeartbeats 4000000
/-! What pieces write, and that the normal ones write the same: of lists, no program. -/
namespace NP
section
variable {α : Type}
/-- w, n times -/
def pw (w : List α) (n : Nat) : List α := (List.replicate n w).flatten
theorem pw_zero (w : List α) : pw w 0 = [] := rfl
theorem pw_succ (w : List α) (n : Nat) : pw w (n + 1) = w ++ pw w n := by
  unfold pw
  rw [List.replicate_succ, List.flatten_cons]
theorem pw_one (w : List α) : pw w 1 = w := by rw [pw_succ, pw_zero, List.append_nil]
theorem pw_nil (n : Nat) : pw ([] : List α) n = [] := by
  induction n with
  | zero => rfl
  | succ n ih => rw [pw_succ, ih]; rfl
theorem pw_len (w : List α) (n : Nat) : (pw w n).length = n * w.length := by
  induction n with
  | zero => simp [pw_zero]
  | succ n ih => rw [pw_succ, List.length_append, ih, Nat.succ_mul, Nat.add_comm]
theorem pw_add (w : List α) (m n : Nat) : pw w (m + n) = pw w m ++ pw w n := by
  induction m with
  | zero => rw [Nat.zero_add, pw_zero, List.nil_append]
  | succ m ih => rw [Nat.succ_add, pw_succ, pw_succ, ih, List.append_assoc]
theorem pw_mul (w : List α) (m n : Nat) : pw (pw w m) n = pw w (m * n) := by
  induction n with
  | zero => rfl
  | succ n ih => rw [pw_succ, ih, ← pw_add, Nat.mul_succ, Nat.add_comm]
theorem pw_snoc (w : List α) (n : Nat) : pw w (n + 1) = pw w n ++ w := by rw [pw_add, pw_one]
/-- a letter moved over a power -/
theorem pw_swap (a b : List α) (v : Nat) : pw (a ++ b) v ++ a = a ++ pw (b ++ a) v := by
  induction v with
  | zero => simp [pw_zero]
  | succ v ih => rw [pw_succ, List.append_assoc, ih, pw_succ]; simp [List.append_assoc]
theorem pw_rev (w : List α) (n : Nat) : (pw w n).reverse = pw w.reverse n := by
  induction n with
  | zero => rfl
  | succ n ih => rw [pw_snoc, List.reverse_append, ih, pw_succ]
theorem pw_get (w : List α) : ∀ (n i : Nat), i < n * w.length → (pw w n)[i]? = w[i % w.length]? := by
  intro n
  induction n with
  | zero => intro i h; simp at h
  | succ n ih =>
    intro i h
    rw [pw_succ]
    by_cases c : i < w.length
    · rw [List.getElem?_append_left c, Nat.mod_eq_of_lt c]
    · rw [List.getElem?_append_right (by omega), ih _ (by rw [Nat.succ_mul] at h; omega)]
      congr 1
      rw [Nat.mod_eq_sub_mod (by omega : w.length ≤ i)]
/-! ### the root of a word -/
/-- w stands in w ++ w at p -/
def At (w : List α) (p : Nat) : Prop := ((w ++ w).drop p).take w.length = w
/-- turning w by p changes nothing -/
def Turn (w : List α) (p : Nat) : Prop := ∀ i, i < w.length → w[(i + p) % w.length]? = w[i]?
theorem turn_of_at {w : List α} {p : Nat} (hp : p ≤ w.length) (h : At w p) : Turn w p := by
  intro i hi
  have e := congrArg (fun l => l[i]?) h
  simp only [List.getElem?_take, List.getElem?_drop, hi, if_true] at e
  rw [← e]
  by_cases c : p + i < w.length
  · rw [List.getElem?_append_left c, Nat.add_comm i p, Nat.mod_eq_of_lt c]
  · rw [List.getElem?_append_right (by omega), Nat.add_comm i p, Nat.mod_eq_sub_mod (by omega), Nat.mod_eq_of_lt (by omega)]
theorem at_of_turn {w : List α} {p : Nat} (hp : p ≤ w.length) (h : Turn w p) : At w p := by
  unfold At
  apply List.ext_getElem?
  intro i
  by_cases hi : i < w.length
  · simp only [List.getElem?_take, List.getElem?_drop, hi, if_true]
    rw [← h i hi]
    by_cases c : p + i < w.length
    · rw [List.getElem?_append_left c, Nat.add_comm i p, Nat.mod_eq_of_lt c]
    · rw [List.getElem?_append_right (by omega), Nat.add_comm i p, Nat.mod_eq_sub_mod (by omega), Nat.mod_eq_of_lt (by omega)]
  · rw [List.getElem?_eq_none (by rw [List.length_take]; omega), List.getElem?_eq_none (by omega)]
theorem turn_all (w : List α) : Turn w w.length := by
  intro i hi
  rw [Nat.add_mod_right, Nat.mod_eq_of_lt hi]
theorem turn_add {w : List α} {p q : Nat} (h1 : Turn w p) (h2 : Turn w q) : Turn w (p + q) := by
  intro i hi
  have pos : 0 < w.length := by omega
  have z := h2 ((i + p) % w.length) (Nat.mod_lt _ pos)
  rw [Nat.mod_add_mod, Nat.add_assoc] at z
  rw [z]
  exact h1 i hi
theorem turn_mul {w : List α} {p : Nat} (h : Turn w p) : ∀ k, Turn w (k * p)
  | 0 => by
    intro i hi
    rw [Nat.zero_mul, Nat.add_zero, Nat.mod_eq_of_lt hi]
  | k + 1 => by
    rw [Nat.succ_mul]
    exact turn_add (turn_mul h k) h
theorem turn_rest {w : List α} {p r k : Nat} (h : Turn w p) (e : w.length = k * p + r) : Turn w r := by
  intro i hi
  have pos : 0 < w.length := by omega
  rw [← turn_mul h k _ (Nat.mod_lt (i + r) pos), Nat.mod_add_mod]
  rw [show i + r + k * p = i + w.length by omega]
  exact turn_all w i hi
/-- the least place p at which w stands in w ++ w: w is a power of its first p letters -/
theorem root_power {w : List α} {p : Nat} (h0 : 1 ≤ p) (hp : p ≤ w.length) (h : At w p) (least : ∀ q, 1 ≤ q → q < p → ¬ At w q) : w.length = (w.length / p) * p ∧ w = pw (w.take p) (w.length / p) := by
  have t := turn_of_at hp h
  have e : w.length = (w.length / p) * p + w.length % p := by
    have := Nat.div_add_mod w.length p
    rw [Nat.mul_comm] at this
    omega
  have r0 : w.length % p = 0 := by
    by_cases c : w.length % p = 0
    · exact c
    · have lt := Nat.mod_lt w.length (by omega : p > 0)
      exact absurd (at_of_turn (by omega) (turn_rest t e)) (least _ (by omega) lt)
  have e1 : w.length = (w.length / p) * p := by omega
  refine ⟨e1, ?_⟩
  have lt : (w.take p).length = p := by rw [List.length_take]; omega
  apply List.ext_getElem?
  intro i
  by_cases hi : i < w.length
  · rw [pw_get _ _ _ (by rw [lt]; omega), lt, List.getElem?_take, if_pos (Nat.mod_lt _ (by omega))]
    have m := Nat.mod_lt i (by omega : p > 0)
    have z := turn_mul t (i / p) (i % p) (by omega)
    have d := Nat.div_add_mod i p
    rw [Nat.mul_comm] at d
    rw [show i % p + i / p * p = i by omega, Nat.mod_eq_of_lt hi] at z
    exact z
  · rw [List.getElem?_eq_none (by omega), List.getElem?_eq_none (by rw [pw_len, lt]; omega)]
/-! ### the common end -/
/-- the last letters of u, so many as same, go on as w again and again, read from behind -/
theorem common_tail {u w : List α} {same : Nat} (hw : 0 < w.length) (hs : same ≤ u.length) (h : ∀ i, i < same → u[u.length - 1 - i]? = w[w.length - 1 - i % w.length]?) : u.drop (u.length - same) = w.drop (w.length - same % w.length) ++ pw w (same / w.length) := by
  have hm := Nat.mod_lt same hw
  have hd := Nat.div_add_mod same w.length
  rw [Nat.mul_comm] at hd
  have l1 : (u.drop (u.length - same)).length = same := by rw [List.length_drop]; omega
  have l2 : (w.drop (w.length - same % w.length)).length = same % w.length := by rw [List.length_drop]; omega
  apply List.ext_getElem?
  intro j
  by_cases hj : j < same
  · rw [List.getElem?_drop]
    have e := h (same - 1 - j) (by omega)
    rw [show u.length - 1 - (same - 1 - j) = u.length - same + j by omega] at e
    rw [e]
    by_cases c : j < same % w.length
    · rw [List.getElem?_append_left (by omega), List.getElem?_drop]
      congr 1
      have x : (same - 1 - j) % w.length = same % w.length - 1 - j := by
        rw [show same - 1 - j = (same % w.length - 1 - j) + same / w.length * w.length by omega, Nat.add_mul_mod_self_right, Nat.mod_eq_of_lt (by omega)]
      omega
    · rw [List.getElem?_append_right (by omega), l2, pw_get _ _ _ (by omega)]
      congr 1
      have y : same - 1 - j < same / w.length * w.length := by omega
      have x : (same - 1 - j) % w.length = w.length - 1 - (j - same % w.length) % w.length := by
        have dj := Nat.div_add_mod (j - same % w.length) w.length
        have mj := Nat.mod_lt (j - same % w.length) hw
        rw [Nat.mul_comm] at dj
        have q : (j - same % w.length) / w.length < same / w.length := Nat.div_lt_of_lt_mul (by rw [Nat.mul_comm]; omega)
        have f : same / w.length * w.length = (same / w.length - 1 - (j - same % w.length) / w.length) * w.length + ((j - same % w.length) / w.length) * w.length + w.length := by
          rw [← Nat.add_mul]
          have : same / w.length = (same / w.length - 1 - (j - same % w.length) / w.length + (j - same % w.length) / w.length) + 1 := by omega
          rw [← Nat.succ_mul]
          congr 1
        rw [show same - 1 - j = (w.length - 1 - (j - same % w.length) % w.length) + (same / w.length - 1 - (j - same % w.length) / w.length) * w.length by omega, Nat.add_mul_mod_self_right, Nat.mod_eq_of_lt (by omega)]
      have mj := Nat.mod_lt (j - same % w.length) hw
      omega
  · rw [List.getElem?_eq_none (by omega), List.getElem?_eq_none (by rw [List.length_append, l2, pw_len]; omega)]
/-- w turned by so many letters -/
def turnW (w : List α) (e : Nat) : List α := w.drop (w.length - e) ++ w.take (w.length - e)
/-- such an end is moved behind the power -/
theorem move_end {u w : List α} {same : Nat} (hw : 0 < w.length) (hs : same ≤ u.length) (h : ∀ i, i < same → u[u.length - 1 - i]? = w[w.length - 1 - i % w.length]?) (v : Nat) :
    u ++ pw w v = u.take (u.length - same) ++ (pw (turnW w (same % w.length)) v ++ u.drop (u.length - same)) := by
  have e := common_tail hw hs h
  have e2 : u = u.take (u.length - same) ++ u.drop (u.length - same) := (List.take_append_drop _ _).symm
  have sw := pw_swap (w.drop (w.length - same % w.length)) (w.take (w.length - same % w.length)) v
  rw [List.take_append_drop] at sw
  have k : u.drop (u.length - same) ++ pw w v = pw (turnW w (same % w.length)) v ++ u.drop (u.length - same) := by
    rw [e, List.append_assoc, ← pw_add, Nat.add_comm, pw_add, ← List.append_assoc, ← List.append_assoc]
    unfold turnW
    rw [sw]
  calc u ++ pw w v = u.take (u.length - same) ++ (u.drop (u.length - same) ++ pw w v) := by rw [← List.append_assoc, ← e2]
    _ = _ := by rw [k]
/-! ### what runs write, letter by letter -/
def wr (rs : List (List α × Nat)) : List α := rs.flatMap fun r => pw r.1 r.2
theorem wr_cons (r : List α × Nat) (rs : List (List α × Nat)) : wr (r :: rs) = pw r.1 r.2 ++ wr rs := List.flatMap_cons
theorem wr_append (rs ss : List (List α × Nat)) : wr (rs ++ ss) = wr rs ++ wr ss := List.flatMap_append
def lettersR (rs : List (List α × Nat)) : Nat := (rs.map fun r => r.1.length * r.2).sum
theorem wr_len (rs : List (List α × Nat)) : (wr rs).length = lettersR rs := by
  induction rs with
  | nil => rfl
  | cons r rs ih =>
    rw [wr_cons, List.length_append, ih, pw_len, Nat.mul_comm]
    rfl
/-- the letter at a place, run by run -/
def letterR : List (List α × Nat) → Nat → Option α
  | [], _ => none
  | r :: rs, i => if i < r.1.length * r.2 then r.1[i % r.1.length]? else letterR rs (i - r.1.length * r.2)
theorem letterR_eq : ∀ (rs : List (List α × Nat)) (i : Nat), letterR rs i = (wr rs)[i]?
  | [], i => rfl
  | r :: rs, i => by
    rw [wr_cons]
    unfold letterR
    by_cases c : i < r.1.length * r.2
    · rw [if_pos c, List.getElem?_append_left (by rw [pw_len, Nat.mul_comm]; exact c), pw_get _ _ _ (by rw [Nat.mul_comm]; exact c)]
    · rw [if_neg c, List.getElem?_append_right (by rw [pw_len, Nat.mul_comm]; omega), letterR_eq rs, pw_len, Nat.mul_comm r.2]
end
end NP
set_option Elab.async false
set_option linter.all false
set_option maxRecDepth 100000
set_option maxHeartbeats 4000000
namespace NP
open PySem PySem.StrLaws Builtin Builtin.Str
/-- the letters of a text -/
abbrev cs (z : Str) : List Nat := z.cps.toList
theorem cs_len (z : Str) : z.length = (cs z).length := by simp [cs, Str.length]
theorem cs_ext {x y : Str} (h : cs x = cs y) : x = y := Str.ext' (Array.toList_inj.mp h)
theorem cs_app (x y : Str) : cs (x ++ y) = cs x ++ cs y := by
  show (x ++ y).cps.toList = _
  rw [Str.cps_append, Array.toList_append]
theorem fold_rep (l : Array Nat) (n : Nat) (z : Array Nat) : ((List.replicate n l).foldl (· ++ ·) z).toList = z.toList ++ pw l.toList n := by
  induction n generalizing z with
  | zero => simp [pw_zero]
  | succ n ih => rw [List.replicate_succ, List.foldl_cons, ih, Array.toList_append, pw_succ, List.append_assoc]
theorem cs_mul (z : Str) {i : Int} (h : 0 ≤ i) : cs (Txt.mul z i) = pw (cs z) i.toNat := by
  unfold Txt.mul
  by_cases c : i < 1
  · rw [if_pos c, show i.toNat = 0 by omega, pw_zero]
    rfl
  · rw [if_neg c]
    by_cases d : (i == 1 || z.length == 0) = true
    · rw [if_pos d]
      rcases (Bool.or_eq_true _ _).mp d with e | e
      · have : i = 1 := beq_iff_eq.mp e
        subst this
        exact (pw_one _).symm
      · have e2 : (cs z).length = 0 := by rw [← cs_len]; exact beq_iff_eq.mp e
        rw [List.length_eq_zero_iff.mp e2, pw_nil]
    · rw [if_neg d]
      show ((List.replicate i.toNat z.cps).foldl (· ++ ·) #[]).toList = _
      rw [fold_rep]
      rfl
/-! ### the first place -/
theorem occ_full (s sub : Str) (hi : Nat) : ∀ (l : List Nat) (st : Array Nat × Nat), st.fst.size = 1 → (forIn l st (occBody s sub hi 1)).run.fst = st.fst
  | [], st, _ => rfl
  | a :: l, st, h => by
    rw [List.forIn_cons]
    unfold occBody
    have c : ¬ (((st.fst.size < 1 ∧ st.snd ≤ a) ∧ a + sub.length ≤ hi) ∧ subAt s sub a = true) := fun z => by omega
    rw [if_neg c]
    exact occ_full s sub hi l _ h
def hit (s sub : Str) (hi i : Nat) : Bool := decide (i + sub.length ≤ hi) && subAt s sub i
theorem occ_first (s sub : Str) (hi : Nat) : ∀ (l : List Nat) (free : Nat), (∀ i ∈ l, free ≤ i) →
    (forIn l ((#[] : Array Nat), free) (occBody s sub hi 1)).run.fst.toList = match l.find? (hit s sub hi) with
      | some i => [i]
      | none => []
  | [], free, _ => rfl
  | a :: l, free, hf => by
    rw [List.forIn_cons, List.find?_cons]
    have ha : free ≤ a := hf a (List.mem_cons_self ..)
    by_cases hc : hit s sub hi a = true
    · have hc2 := hc
      unfold hit at hc2
      rw [Bool.and_eq_true, decide_eq_true_eq] at hc2
      rw [hc]
      unfold occBody
      rw [if_pos ⟨⟨⟨by simp, ha⟩, hc2.1⟩, hc2.2⟩]
      show ((forIn l ((#[] : Array Nat).push a, a + sub.length) (occBody s sub hi 1)).run.fst).toList = [a]
      rw [occ_full s sub hi l _ (by simp)]
      rfl
    · have hc2 : ¬ (((((#[] : Array Nat), free).fst.size < 1 ∧ ((#[] : Array Nat), free).snd ≤ a) ∧ a + sub.length ≤ hi) ∧ subAt s sub a = true) := fun h => hc (by
        unfold hit
        rw [Bool.and_eq_true, decide_eq_true_eq]
        exact ⟨h.1.2, h.2⟩)
      rw [Bool.eq_false_iff.mpr hc]
      unfold occBody
      rw [if_neg hc2]
      exact occ_first s sub hi l free fun i hi' => hf i (List.mem_cons_of_mem _ hi')
theorem find_some {P : Nat → Bool} : ∀ (k lo p : Nat), (List.range' lo k).find? P = some p → lo ≤ p ∧ P p = true ∧ ∀ q, lo ≤ q → q < p → P q = false
  | 0, lo, p, h => by simp at h
  | k + 1, lo, p, h => by
    rw [List.range'_succ, List.find?_cons] at h
    cases e : P lo with
    | true =>
      rw [e] at h
      cases h
      exact ⟨Nat.le_refl _, e, fun q h1 h2 => by omega⟩
    | false =>
      rw [e] at h
      obtain ⟨h1, h2, h3⟩ := find_some k (lo + 1) p h
      refine ⟨by omega, h2, fun q q1 q2 => ?_⟩
      by_cases c : q = lo
      · rw [c]; exact e
      · exact h3 q (by omega) q2
theorem find_none {P : Nat → Bool} : ∀ (k lo : Nat), (List.range' lo k).find? P = none → ∀ q, lo ≤ q → q < lo + k → P q = false
  | 0, lo, _, q, h1, h2 => by omega
  | k + 1, lo, h, q, h1, h2 => by
    rw [List.range'_succ, List.find?_cons] at h
    cases e : P lo with
    | true =>
      rw [e] at h
      cases h
    | false =>
      rw [e] at h
      by_cases c : q = lo
      · rw [c]; exact e
      · exact find_none k (lo + 1) h q (by omega) (by omega)
theorem hit_at (w : Str) (i : Nat) : hit (w ++ w) w (w ++ w).length i = true ↔ i ≤ (cs w).length ∧ At (cs w) i := by
  unfold hit
  rw [Bool.and_eq_true, decide_eq_true_eq, subAt_eq, show (w ++ w).cps.toList = cs w ++ cs w from cs_app w w, cs_len (w ++ w), cs_app, List.length_append, cs_len w]
  unfold At
  constructor
  · rintro ⟨h1, h2⟩
    exact ⟨by omega, eq_of_beq h2⟩
  · rintro ⟨h1, h2⟩
    exact ⟨by omega, beq_iff_eq.mpr h2⟩
/-- (w + w).find(w, 1) -/
theorem root_find {w : Str} (hw : cs w ≠ []) : ∃ p : Nat, Txt.find3 (w ++ w) w 1 = (p : Int) ∧ 1 ≤ p ∧ p ≤ (cs w).length ∧ At (cs w) p ∧ ∀ q, 1 ≤ q → q < p → ¬ At (cs w) q := by
  have n0 : 0 < (cs w).length := List.length_pos_iff.mpr hw
  have lw : (w ++ w).length = (cs w).length + (cs w).length := by rw [cs_len, cs_app, List.length_append]
  have fi : fromIndex (w ++ w).length 1 = 1 := by
    unfold fromIndex
    rw [if_neg (by decide)]
    rfl
  unfold Txt.find3
  rw [fi, occ_eq, occ_first _ _ _ _ _ (fun i hi => by simp [List.mem_range'] at hi; omega)]
  cases e : (List.range' 1 ((w ++ w).length + 1 - 1)).find? (hit (w ++ w) w (w ++ w).length) with
  | none =>
    have z := find_none _ _ e (cs w).length (by omega) (by omega)
    have t : hit (w ++ w) w (w ++ w).length (cs w).length = true := (hit_at w _).mpr ⟨Nat.le_refl _, at_of_turn (Nat.le_refl _) (turn_all _)⟩
    rw [t] at z
    cases z
  | some p =>
    obtain ⟨h1, h2, h3⟩ := find_some _ _ _ e
    obtain ⟨h4, h5⟩ := (hit_at w p).mp h2
    refine ⟨p, rfl, h1, h4, h5, fun q q1 q2 hq => ?_⟩
    have := h3 q q1 q2
    rw [(hit_at w q).mpr ⟨by omega, hq⟩] at this
    cases this
end NP
set_option Elab.async false
set_option linter.all false
set_option maxRecDepth 100000
set_option maxHeartbeats 4000000
/-! the place of a letter in a text: of texts, no program. -/
namespace NP
open PySem PySem.StrLaws Builtin Builtin.Str
theorem idx_first {c : Nat} : ∀ {l : List Nat} {p : Nat}, l[p]? = some c → (∀ q, q < p → l[q]? ≠ some c) → l.idxOf c = p
  | [], _, h, _ => by simp at h
  | a :: l, 0, h, _ => by
    have : a = c := Option.some.inj h
    rw [this, List.idxOf_cons_self]
  | a :: l, p + 1, h, k => by
    have ne : a ≠ c := fun e => k 0 (by omega) (by rw [e]; rfl)
    have e : (a == c) = false := by simpa using ne
    rw [List.idxOf_cons, e, idx_first (l := l) (p := p) h fun q hq => k (q + 1) (by omega)]
    rfl
theorem idx_none {c : Nat} {l : List Nat} (h : ∀ q, q < l.length → l[q]? ≠ some c) : l.idxOf c = l.length := by
  apply List.idxOf_eq_length
  intro hm
  obtain ⟨i, hi⟩ := List.mem_iff_getElem?.mp hm
  exact h i (List.getElem?_eq_some_iff.mp hi).1 hi
theorem find_one (z : Str) (c : Nat) : Txt.find z ⟨#[c]⟩ = if (cs z).idxOf c < (cs z).length then (((cs z).idxOf c : Nat) : Int) else -1 := by
  have lz := cs_len z
  have hit1 : ∀ i, hit z ⟨#[c]⟩ z.length i = true ↔ (cs z)[i]? = some c := fun i => by
    unfold hit
    rw [Bool.and_eq_true, decide_eq_true_eq, subAt_eq]
    show (i + 1 ≤ z.length ∧ (((cs z).drop i).take 1 == [c]) = true) ↔ _
    rw [beq_iff_eq]
    constructor
    · rintro ⟨h1, h2⟩
      have := congrArg (fun l => l[0]?) h2
      simp only [List.getElem?_take, List.getElem?_drop] at this
      simpa using this
    · intro h
      have hi := (List.getElem?_eq_some_iff.mp h).1
      refine ⟨by omega, ?_⟩
      rw [List.drop_eq_getElem_cons hi, List.take_succ_cons, List.take_zero]
      rw [List.getElem?_eq_getElem hi] at h
      rw [Option.some.inj h]
  unfold Txt.find
  rw [occ_eq, occ_first _ _ _ _ _ (fun i hi => Nat.zero_le _)]
  cases e : (List.range' 0 (z.length + 1 - 0)).find? (hit z ⟨#[c]⟩ z.length) with
  | none =>
    have no : ∀ q, q < (cs z).length → (cs z)[q]? ≠ some c := fun q hq h => by
      have := find_none _ _ e q (Nat.zero_le _) (by omega)
      rw [(hit1 q).mpr h] at this
      cases this
    rw [idx_none no, if_neg (by omega)]
  | some p =>
    obtain ⟨h1, h2, h3⟩ := find_some _ _ _ e
    have hp := (hit1 p).mp h2
    have e2 := idx_first hp fun q hq h => by
      have := h3 q (Nat.zero_le _) hq
      rw [(hit1 q).mpr h] at this
      cases this
    rw [e2, if_pos (List.getElem?_eq_some_iff.mp hp).1]
end NP
set_option Elab.async false
set_option linter.all false
set_option maxRecDepth 100000
set_option maxHeartbeats 4000000
namespace KK
open PySem PySem.Spec PyProof.Rows L2 XV NM XT
theorem call_list_ofK {X : Cx} {K : PySem.W.Frag} (e : X.K = K) : CallR X (.type "list") (fun xs H Q => ∃ p ys, xs = [.ref p] ∧ (SqL K H p ys ∨ SqT K H p ys) ∧ ∀ l, H l = none → Q (.ref l) (upd H l (.lst ys))) := by
  subst e
  exact call_list_of
def tysD : List String := ["NoneType", "int", "str", "list", "tuple"]
def RL (H : Hp) (r : Addr) (R : List (List Nat)) : Prop := ∃ xs, H r = some (.lst xs) ∧ Pts H xs (R.map natI)
theorem RL.keep {H H' : Hp} (s : Same H H') {r : Addr} {R : List (List Nat)} (h : RL H r R) : RL H' r R := by
  obtain ⟨xs, e, p⟩ := h
  exact ⟨xs, s _ _ e, p.keep s⟩
abbrev FnM (K : PySem.W.Frag) (m q : Str) (st : Stmt) (f : Addr) (fd : FuncData) : Prop := FunD K m q (defArgs st) (defBody st) (defScope st) [] [] f fd
theorem call_lenK {X : Cx} {K : PySem.W.Frag} (e : X.K = K) : CallR X (.builtin "len") (fun xs H Q => ∃ x n, xs = [x] ∧ LenV K x H n ∧ Q (.int n) H) := by
  subst e
  exact call_len
abbrev cz (z : Str) : List Nat := z.cps.toList
theorem cz_at (z : Str) (i : Nat) : z.cps[i]? = (cz z)[i]? := by simp
theorem cz_len (z : Str) : z.length = (cz z).length := by simp [Str.length]
def colsN (z w : Str) : List Nat := (cz w).map fun c => (cz z).idxOf c
theorem idx_at {l : List Nat} (h : l.Nodup) {i c : Nat} (e : l[i]? = some c) : l.idxOf c = i := by
  obtain ⟨hi, rfl⟩ := List.getElem?_eq_some_iff.mp e
  exact List.Nodup.idxOf_getElem h i hi
def NoA (K : PySem.W.Frag) (H : Hp) (v : L2.V) : Prop := ∃ T ∈ tysD, TyX K H v (.type T)
theorem join0 (ys : List Str) : cz (Txt.join "" ys) = ys.flatMap cz := by
  have e : ∀ L : List (List Nat), TL.joinL [] L = L.flatten := fun L => by
    induction L with
    | nil => rfl
    | cons p L ih =>
      cases L with
      | nil => simp [TL.joinL]
      | cons q r =>
        show p ++ ([] ++ TL.joinL [] (q :: r)) = _
        rw [ih]
        simp
  have h := TL.tl_join "" ys
  have t : TL.tl ("" : Str) = [] := by decide +kernel
  rw [TL.join_eq]
  show TL.tl (Str.join "" ys) = _
  rw [h, t, e, ← List.flatMap_def]
theorem sum_len (ys : List Str) : (ys.map (·.length)).sum = (ys.flatMap cz).length := by
  induction ys with
  | nil => rfl
  | cons y ys ih => rw [List.map_cons, List.sum_cons, ih, List.flatMap_cons, List.length_append, cz_len]
abbrev sAlph : Stmt := top 17
theorem scAlph : FnScope ["value"] ["value"] (defScope sAlph) := ⟨rfl, rfl, rfl, by decide +kernel, rfl, by decide +kernel, by decide +kernel⟩
def alphV : L2.V → Bool
  | .str z => wordV (.str z) && riseN (cz z)
  | _ => false
def spAlph : Sp := fun vs H Q _ => ∃ v, vs = [v] ∧ Kn H v ∧ (∀ z, v = .str z → z.length < 64) ∧ ∀ H', Same H H' → Q (.bl (alphV v)) H'
theorem below_lt (n x : Nat) : belV (n : Int) (.int (x : Int)) = decide (x < n) := by
  show (decide (0 ≤ (x : Int)) && decide ((x : Int) < n)) = _
  rw [decide_eq_true (Int.natCast_nonneg x), Bool.true_and]
  exact decide_eq_decide.mpr ⟨fun h => by omega, fun h => by omega⟩
section
variable {P : Program} {w : World} {K : PySem.W.Frag} {mg : Str → Option Value} {base : Heap} {f : Addr} {fd : FuncData} {C : Addr}
theorem ok_alph (F : FnP K "is_alphabet" sAlph f fd) (o_word : Ok P w K mg base "is_word" 2 ["value"] spIsWord) (z_sorted : mg "sorted" = none) (z_set : mg "set" = none) : FnOk P w K mg base CX0 3 f fd ["value"] spAlph := by
  refine F.ok scAlph (fun vs H Q E h => ?_) (fun cdv A outer s H vs Q E hr h => ?_)
  · obtain ⟨v, rfl, _⟩ := h
    rfl
  · obtain ⟨v, rfl, kn, lv, q⟩ := h
    have szl := sizeLine_eq
    refine ⟨_, PSs.nox (pss_one (ps_ret (pe_and (pe_callO o_word hr (by rfl) (pa_cons (pv 0) pa_nil)) (pe_one (pe_cmpR op_eq (pe_join pe_str (pe_callB (cr_sortedSS rfl) (by rfl) z_sorted (by decide +kernel) (pa_cons (pe_callTy (cr_setStr rfl) (by rfl) z_set (by decide +kernel) (pa_cons (pv 0) pa_nil)) pa_nil))) (pv 0) (nomark _)))))), ?_⟩
    refine ⟨_, rfl, v, rfl, kn, fun z e => by have := lv z e; omega, ?_⟩
    have no : wordV v = false → ∃ b, V.bl (wordV v) = .bl b ∧ (if b = true then False else Q (.bl false) H) := fun e => ⟨false, by rw [e], by
      rw [if_neg (by decide)]
      have : alphV v = false := by
        cases v <;> first | rfl | (show (wordV _ && _) = false; rw [e]; rfl)
      rw [← this]
      exact q H (Same.refl _)⟩
    cases e : wordV v with
    | false =>
      obtain ⟨b, h1, h2⟩ := no e
      rw [e] at h1
      refine ⟨false, rfl, iteF ?_⟩
      have : alphV v = false := by
        cases v <;> first | rfl | (show (wordV _ && _) = false; rw [e]; rfl)
      have q1 := q H (Same.refl _)
      rw [this] at q1
      exact q1
    | true =>
      cases v with
      | str z =>
        have lz := lv z rfl
        refine ⟨true, rfl, iteT ?_⟩
        refine ⟨⟨_, rfl⟩, _, rfl, z, sgs z, rfl, fun y hy => hy, by rw [← sgs_len]; show z.length < 1000; omega, fun p c np lc => ?_⟩
        have lsg : (sgs z).length = z.length := (sgs_len z).symm
        refine ⟨p, _, c, rfl, upd_same, by omega, fun ks p2 knd ks1 km kl np2 => ?_⟩
        obtain ⟨ds, rfl, pw, ed⟩ := sorted_sgs knd ks1 km
        have sm := (same_new (o := SetSO w p (fun j => decide (j ∈ sgs z)) c) np).trans (same_new (o := .lst ((ds.map sg).map V.str)) np2)
        have hk : ∀ ds : List Nat, (ds.map sg).flatMap cz = ds := fun ds => by
          induction ds with
          | nil => rfl
          | cons d ds ih => rw [List.map_cons, List.flatMap_cons, ih]; rfl
        refine ⟨_, p2, ds.map sg, rfl, rfl, .inl (SqL.of upd_same), ?_, ?_⟩
        · rw [sum_len, hk, show ("" : Str).length = 0 by decide +kernel, Nat.mul_zero]
          rw [List.length_map] at kl
          omega
        · refine ⟨_, rfl, rfl, ?_⟩
          have e2 : decide (V.str (Txt.join "" (ds.map sg)) = V.str z) = riseN (cz z) := by
            rw [← ed]
            apply decide_eq_decide.mpr
            have ej : cz (Txt.join "" (ds.map sg)) = ds := by rw [join0, hk]
            constructor
            · intro h
              rw [← ej, V.str.inj h]
            · intro h
              rw [h] at ej
              have : Txt.join "" (ds.map sg) = z := by
                have e3 := congrArg List.toArray ej
                have ext : ∀ a b : Str, a.cps = b.cps → a = b := fun ⟨_⟩ ⟨_⟩ h => congrArg Str.mk h
                refine ext _ _ ?_
                rw [h]
                exact (by simpa using e3)
              rw [this]
          have q1 := q _ sm
          have e3 : alphV (.str z) = riseN (cz z) := by
            show (wordV (.str z) && riseN (cz z)) = _
            rw [e, Bool.true_and]
          rw [e3, ← e2] at q1
          exact q1
      | _ => cases e
end
theorem Pts.updI {H : Hp} {x : Addr} {C dx : Addr} {fs : List (Str × V)} {o : HO} (hx : H x = some (.ins C dx fs)) : ∀ {xs : List V} {R : List (List Int)}, Pts H xs R → Pts (upd H x o) xs R
  | _, _, .nil => .nil
  | _, _, .cons h r => .cons (by
      obtain ⟨a, e, t⟩ := h
      refine ⟨a, e, ?_⟩
      rw [upd_ne (ne_of t hx (by intro z; cases z))]
      exact t) (Pts.updI hx r)
theorem RL.updI {H : Hp} {x r : Addr} {C dx : Addr} {fs : List (Str × V)} {o : HO} {R : List (List Nat)} (hx : H x = some (.ins C dx fs)) (h : RL H r R) : RL (upd H x o) r R := by
  obtain ⟨xs, e, p⟩ := h
  refine ⟨xs, ?_, p.updI hx⟩
  rw [upd_ne (ne_of e hx (by intro z; cases z))]
  exact e
end KK
set_option Elab.async false
set_option linter.all false
set_option maxRecDepth 100000
set_option maxHeartbeats 2000000
/-! A lambda with parameters, handed to a def and called there. -/
namespace XA
open PySem PySem.Spec PyProof.Rows L2 LamX
/-- the maker's names, those of the parameters hidden -/
def hideN (ps l : List Str) : List Str := l.map fun y => if ps.contains y then "" else y
structure LamP (sc scope : Scope) (ps : List Str) : Prop where
  kind : scope.kind = .function
  co : scope.isCoroutine = false
  gen : scope.isGenerator = false
  nc : ∀ y ∈ scope.names, y.2 ≠ .cell
  par : ∀ x ∈ ps, scope.names.lookup x = some .local
  loc : ∀ y ∈ scope.names, y.2 = .local → y.1 ∈ ps
  nd : ps.Nodup
  noE : scope.names.lookup ("" : Str) = none
  free : ∀ y ∈ scope.names, y.2 = .free → sc.names.lookup y.1 = some .cell ∨ sc.names.lookup y.1 = some .free
def lamPB (sc scope : Scope) (ps : List Str) : Bool :=
  decide (scope.kind = .function) && (!scope.isCoroutine && (!scope.isGenerator && ((scope.names.all fun y => !decide (y.2 = .cell) && ((!decide (y.2 = .local) || decide (y.1 ∈ ps)) && (!decide (y.2 = .free) || (decide (sc.names.lookup y.1 = some .cell) || decide (sc.names.lookup y.1 = some .free))))) &&
    ((ps.all fun x => decide (scope.names.lookup x = some .local)) && (decide ps.Nodup && decide (scope.names.lookup ("" : Str) = none))))))
theorem lamP_by {sc scope : Scope} {ps : List Str} (h : lamPB sc scope ps = true) : LamP sc scope ps := by
  unfold lamPB at h
  simp only [Bool.and_eq_true, Bool.or_eq_true, Bool.not_eq_true', decide_eq_true_eq, decide_eq_false_iff_not, List.all_eq_true] at h
  obtain ⟨k1, k2, k3, k4, k5, k6, k7⟩ := h
  refine ⟨k1, k2, k3, fun y hy => (k4 y hy).1, k5, fun y hy e => ?_, k6, k7, fun y hy e => ?_⟩
  · exact (k4 y hy).2.1.elim (fun z => absurd e z) id
  · exact (k4 y hy).2.2.elim (fun z => absurd e z) id
theorem LamP.has {X : Cx} {scope : Scope} {ps : List Str} (L : LamP X.env.scope scope ps) (ok : X.Ok) : ∀ y ∈ scope.names, y.2 = .free → ∃ c, X.env.cells.lookup y.1 = some c := fun y hy e =>
  (L.free y hy e).elim (fun k => ok.has _ (.inl k)) fun k => ok.has _ (.inr k)
/-- the context of the body -/
def lamPx (X : Cx) (A : Around) (outer : List Env) (s : Shared) (H : Hp) (E : XK) (scope : Scope) (ps : List Str) (f c' : Addr) : Cx :=
  { lamCx X A outer s H E scope f c' with N := ps ++ hideN ps X.N }
section
variable {X : Cx} {pins : List (Addr × Obj)} {σ : L2.St} {H HZ : Hp} {s s1 : Shared}
theorem lam_startP {A : Around} {outer : List Env} {E : XK} {scope : Scope} {ps : List Str} {f c' : Addr} {h1 : Heap} {tk : Nat} {us : List Value} {vs : List L2.V} (I : Inv X pins σ H s) (L : LamP X.env.scope scope ps) (e0 : Env0 X.prog X.w X.K X.mg X.base A outer s1 HZ) (hd : A.handled = none)
    (un : Un (frs X.stack) [] H HZ s.heap s1.heap) (hl : vs.length = ps.length) (r : Vals vs us) (ns1 : h1.Ns s1.heap.objs.size fun y => (ps.zip us).reverse.lookup y) (kp : ∀ b o, s1.heap.get? b = some o → h1.get? b = some o) :
    Inv (lamPx X A outer s1 HZ E scope ps f c') [] (vs.map some ++ σ) HZ { s1 with heap := h1, toks := tk } := by
  have own := L.has I.ok
  have up : ∀ {y c}, (cloFrom X.env.cells scope.names []).lookup y = some c → X.env.cells.lookup y = some c := by
    intro y c e
    rcases cloFrom_mem (PySem.mem_of_lookup e) with hm | ⟨h2, h3⟩
    · cases hm
    · obtain ⟨c1, hc⟩ := own _ h2 rfl
      have hc : X.env.cells.lookup y = some c1 := hc
      rw [show c = c1 by rw [h3, hc] <;> rfl]
      exact hc
  have down : ∀ {y}, scope.names.lookup y = some .free → ∃ c, (cloFrom X.env.cells scope.names []).lookup y = some c := fun {y} q =>
    mem_lookup (cloFrom_has (cells := X.env.cells) (acc := []) (PySem.mem_of_lookup q))
  have celK : ∀ {c : Addr} {v : Option Value}, H c = none → s.heap.IsCell c v → h1.IsCell c v := by
    rintro c v n ⟨o, ho, hd2⟩
    obtain ⟨sl, q⟩ := un.any ho n (by simp)
    exact ⟨_, kp _ _ q, hd2⟩
  have nx : ∀ b : Addr, b ∉ (lamPx X A outer s1 HZ E scope ps f c').ex := fun b z => nomatch (show b ∈ ([] : List Addr) from z)
  have okL : (lamPx X A outer s1 HZ E scope ps f c').Ok := by
    refine ⟨e0.mod, L.kind, rfl, rfl, Nat.le_refl _, fun y z c e1 e2 => I.ok.inj y z c (up e1) (up e2), fun y hy => ?_, fun y c z _ => ?_, fun _ => hd, Around.frames_deeper e0.frames, .inr ⟨rfl, rfl⟩, fun b z => absurd z (nx b), e0.bs, e0.bsz, fun b _ _ => nx b,
      fun b z => absurd z (nx b), e0.funs, e0.frf⟩
    · rcases (show scope.names.lookup y = some .cell ∨ scope.names.lookup y = some .free from hy) with k | k
      · exact absurd rfl (L.nc _ (PySem.mem_of_lookup k))
      · exact down k
    · exact nomatch (show false = true from z)
  refine ⟨okL, rfl, e0.bare, Un.kept kp, ⟨_, ns1, fun i y v e1 e2 e3 => ?_⟩, fun y c e => ?_, e0.hok.fresh (Nat.le_refl _), fun y c e => ?_, fun q hq => (nomatch (show q ∈ ([] : List (Addr × Obj)) ++ [] from hq)), e0.hok.kept kp, ?_⟩
  · have e1 : (ps ++ hideN ps X.N)[i]? = some y := e1
    have e3 : Vis scope y := e3
    by_cases li : i < ps.length
    · rw [List.getElem?_append_left li] at e1
      rw [List.getElem?_append_left (by rw [List.length_map, hl]; exact li), List.getElem?_map] at e2
      obtain ⟨v', ev, e2⟩ := Option.map_eq_some_iff.mp e2
      cases e2
      obtain ⟨u, hu, rv⟩ := r.get ev
      exact ⟨u, rv, .inl ⟨L.par y (List.mem_of_getElem? e1), NdefX.zip_look L.nd e1 hu⟩⟩
    · rw [List.getElem?_append_right (by omega)] at e1
      rw [List.getElem?_append_right (by rw [List.length_map]; omega), List.length_map, hl] at e2
      unfold hideN at e1
      rw [List.getElem?_map] at e1
      obtain ⟨y0, ey, e1⟩ := Option.map_eq_some_iff.mp e1
      by_cases hp : ps.contains y0 = true
      · rw [if_pos hp] at e1
        subst e1
        rcases e3 with k | k | k <;> rw [L.noE] at k <;> cases k
      · rw [if_neg hp] at e1
        subst e1
        rcases e3 with k | k | k
        · exact absurd (List.contains_iff_mem.mpr (L.loc _ (PySem.mem_of_lookup k) rfl)) hp
        · exact absurd rfl (L.nc _ (PySem.mem_of_lookup k))
        · obtain ⟨m, hn, lks⟩ := I.loc
          have side := L.free _ (PySem.mem_of_lookup k) rfl
          obtain ⟨u, ru, q⟩ := lks _ y0 v ey e2 (side.elim (fun z => .inr (.inl z)) fun z => .inr (.inr z))
          obtain ⟨c2, h2⟩ := down k
          have c1 := up h2
          refine ⟨u, ru, .inr ⟨.inr k, c2, h2, ?_⟩⟩
          rcases q with ⟨k', _⟩ | ⟨_, c3, e', z⟩
          · have k' : X.env.scope.names.lookup y0 = some .local := k'
            rcases side with k2 | k2 <;> rw [show X.env.scope.names.lookup y0 = _ from k2] at k' <;> cases k'
          · cases c1.symm.trans e'
            exact celK (I.freeC y0 _ c1) z
  · obtain ⟨u, z⟩ := I.cell y c (up e)
    exact ⟨u, celK (I.freeC y c (up e)) z⟩
  · obtain ⟨v, o, ho, hd2⟩ := I.cell y c (up e)
    exact un.free c o ho (I.freeC y c (up e)) (by simp)
  · show (vs.map some ++ σ).length = (ps ++ hideN ps X.N).length
    unfold hideN
    rw [List.length_append, List.length_append, List.length_map, List.length_map, hl, I.len]
/-- x(e, ..), in the def that got the lambda -/
theorem pe_actP {CXg : CXT} {Eg : XK} {Ng : List Str} {qg : Str} {sg : Scope} {g f c' : Addr} {cdg pm ctv : Value} {params : Arguments} {body : Expr} {scope : Scope} {ps : List Str} {k i : Nat} {a : Str} {pn : List (Addr × Obj)} {xe : Value → Shared → Prop} {E : XK} {tb : TE} {p1 p2 : Pos} {e : Expr} {es : List Expr} {t : TA}
    (I : Inv X pins σ H s) (L : LamP X.env.scope scope ps) (hf : s.heap.get? f = some (PySem.W.kla_obj "<lambda>" (X.env.qual ++ "<lambda>") params body scope (cloFrom X.env.cells scope.names []) pm c' ctv)) (fn0 : H f = none) (fr0 : f ∉ frs X.stack)
    (hb : ∀ us : List Value, us.length = ps.length → bindArgs (PySem.W.kla_fn "<lambda>" (X.env.qual ++ "<lambda>") params body scope (cloFrom X.env.cells scope.names []) pm (.ref c') ctv) ⟨us, []⟩ = pure (ps.zip us))
    (hx : Passes (L2.CX X.prog X.w) ((cxOf CXg X.prog X.w X.K X.mg X.base Ng qg sg g cdg X.A X.stack s H Eg).tr pn xe) E) (hr : Room (k + 1) (X.A.deeper (envOfC qg sg s.heap.objs.size g cdg)))
    (bd : ∀ (A : Around) (outer : List Env) (s : Shared) (H : Hp), Room k (A.deeper (lamEnv X scope s.heap.objs.size f c')) → PE (lamPx X A outer s H E scope ps f c') body tb)
    (hN : Ng[i]? = some a) (hv : Vis sg a) (ha : PA ((cxOf CXg X.prog X.w X.K X.mg X.base Ng qg sg g cdg X.A X.stack s H Eg).tr pn xe) (e :: es) t)
    (he : starEach (e :: es) ((cxOf CXg X.prog X.w X.K X.mg X.base Ng qg sg g cdg X.A X.stack s H Eg).tr pn xe).env = (false, eval e ((cxOf CXg X.prog X.w X.K X.mg X.base Ng qg sg g cdg X.A X.stack s H Eg).tr pn xe).env) :: starEach es ((cxOf CXg X.prog X.w X.K X.mg X.base Ng qg sg g cdg X.A X.stack s H Eg).tr pn xe).env := by rfl)
    (hpl : (backTo p2 (starEach es ((cxOf CXg X.prog X.w X.K X.mg X.base Ng qg sg g cdg X.A X.stack s H Eg).tr pn xe).env)).any (·.1) = false := by rfl)
    (hd : (a == ("__debug__" : Str)) = false := by decide) (hcd : (a == ("__classdict__" : Str)) = false := by decide) :
    PE ((cxOf CXg X.prog X.w X.K X.mg X.base Ng qg sg g cdg X.A X.stack s H Eg).tr pn xe) (.Call (.Name a p1) (e :: es) [] p2)
      (fun σZ HZ Q => σZ[i]? = some (some (.ref f)) ∧ t σZ HZ fun vs HY => vs.length = ps.length ∧ HY c' = some (CodeO c' (X.env.qual ++ "<lambda>")) ∧ tb (vs.map some ++ σ) HY Q) := by
  refine ⟨fun pinsZ sZ σZ HZ Q IZ ⟨hs, ht⟩ => ?_⟩
  have here : ∀ {σY : L2.St} {HY : Hp} {sY : Shared} {pY : List (Addr × Obj)}, Inv ((cxOf CXg X.prog X.w X.K X.mg X.base Ng qg sg g cdg X.A X.stack s H Eg).tr pn xe) pY σY HY sY → sY.heap.get? f = some (PySem.W.kla_obj "<lambda>" (X.env.qual ++ "<lambda>") params body scope (cloFrom X.env.cells scope.names []) pm c' ctv) := fun IY =>
    IY.base.keep f _ hf fn0 fr0 (fun z => nomatch (show f ∈ ([] : List Addr) from z))
  refine wpAny_Call_Name_kw (thn ((pe_var (pos := p1) (i := i) hN hv hd hcd).run pinsZ sZ σZ HZ (fun v H1 => v = .ref f ∧ H1 = HZ) IZ ⟨.ref f, hs, rfl, rfl⟩) fun u s1 ⟨v, H1, I1, r1, q1⟩ => ?_)
  obtain ⟨rfl, rfl⟩ := q1
  obtain rfl : u = Value.ref f := r1
  refine PySem.W.callWith_F (first := []) ⟨_, _, _, _, here I1⟩ (thn (ha.run p2 pinsZ s1 σZ H1 _ I1 ht) fun us s2 ⟨vs, H2, I2, r, hl, hc, hq⟩ => ⟨⟨_, _, _, _, here I2⟩, ?_⟩) he hpl
  have un : Un (frs X.stack) [] H H2 s.heap s2.heap := I2.base
  obtain ⟨⟨oc, ws, tk, o1, o2, o3⟩, _, _⟩ := I2.hok c' _ hc
  have lu : us.length = ps.length := r.length ▸ hl
  have run : codeAny (model X.prog X.w) (X.A.deeper (envOfC qg sg s.heap.objs.size g cdg)) (.call (.ref f) ⟨us, []⟩) (CR (L2.CX X.prog X.w) (envOfC qg sg s.heap.objs.size g cdg :: X.stack) X.prog X.w H2 s2 Q E) s2 := by
    refine PySem.W.kla_callFunE hr.depth (here I2) rfl L.co L.gen rfl ⟨c', oc, ws, tk, rfl, o1, o2, o3⟩ ?_
    rw [hb us lu]
    refine wpAny_pure (wpAny_newFunctionEnv L.nc (fun y hy => L.par _ (List.of_mem_zip hy).1) (fun h1 ns1 sb => ⟨I2.nolimit.fresh _ sb, ?_⟩) L.kind)
    show codeAny _ _ (.expr body (lamEnv X scope s2.heap.objs.size f c')) _ _
    have kp : ∀ b o, s2.heap.get? b = some o → h1.get? b = some o := fun b o e => sb.extBut b o (Nat.ne_of_lt (Heap.lt_size e)) (Heap.get?_push_of_some _ e)
    have J : Inv (lamPx X (X.A.deeper (envOfC qg sg s.heap.objs.size g cdg)) (envOfC qg sg s.heap.objs.size g cdg :: X.stack) s2 H2 E scope ps f c') [] (vs.map some ++ σ) H2 { s2 with heap := h1, toks := s2.toks + (ps.zip us).length } :=
      lam_startP I L I2.env0 hr.hd un hl r ns1 kp
    refine PySem.W.kla_codeExpr (wpAny_mono ((bd _ _ s2 H2 (hr.deeper _)).run [] _ _ H2 Q J hq) (fun v s' z => ?_) fun e s' z => z)
    obtain ⟨w', H', J', rv, q⟩ := z
    exact ⟨w', H', J'.os, J'.bare, J'.base, J'.hok, rv, q⟩
  refine wpAny_call (codeAny_mono run fun r' s' z => ?_)
  cases r' with
  | error er => exact hx pinsZ σZ H2 s2 er s' I2 z
  | ok fl => cases fl with
    | ret u => exact I2.after z
    | next => exact z.elim
    | brk => exact z.elim
    | cont => exact z.elim
end
end XA
set_option Elab.async false
set_option linter.all false
set_option maxRecDepth 100000
set_option maxHeartbeats 2000000
/-! x(e, lambda ..: ..): the def x, told what the lambda does. -/
namespace XA
open PySem PySem.Spec PyProof.Rows L2 LamX
/-- the context of the def x that got the lambda, called out of X -/
abbrev inX (X : Cx) (Ng : List Str) (x : Str) (sg : Scope) (g : Addr) (cdg : Value) (s : Shared) (H : Hp) : Cx := cxOf C8.CX0 X.prog X.w X.K X.mg X.base Ng x sg g cdg X.A X.stack s H C8.E0
/-- what the call of the lambda does there; i: the place of its name -/
abbrev ActP (X : Cx) (Ng : List Str) (x : Str) (sg : Scope) (g : Addr) (cdg : Value) (a : Str) (i np : Nat) (f : Addr) (s : Shared) (H : Hp) (tl : List L2.V → Hp → VK → Prop) (C : Hp → Prop) : Prop :=
  ∀ (pn : List (Addr × Obj)) (xe : Value → Shared → Prop) (e : Expr) (es : List Expr) (t : TA) (p1 p2 : Pos), PA ((inX X Ng x sg g cdg s H).tr pn xe) (e :: es) t →
    starEach (e :: es) ((inX X Ng x sg g cdg s H).tr pn xe).env = (false, eval e ((inX X Ng x sg g cdg s H).tr pn xe).env) :: starEach es ((inX X Ng x sg g cdg s H).tr pn xe).env →
    (backTo p2 (starEach es ((inX X Ng x sg g cdg s H).tr pn xe).env)).any (·.1) = false →
    PE ((inX X Ng x sg g cdg s H).tr pn xe) (.Call (.Name a p1) (e :: es) [] p2) (fun σ HZ Q => σ[i]? = some (some (.ref f)) ∧ t σ HZ fun vs HY => vs.length = np ∧ C HY ∧ tl vs HY Q)
def Gives2 (X : Cx) (Ng : List Str) (x : Str) (sg : Scope) (g : Addr) (cdg : Value) (bg : List Stmt) (a : Str) (i np : Nat) (TT : L2.V → (List L2.V → Hp → VK → Prop) → Hp → VK → Prop) : Prop :=
  ∀ (f : Addr) (s : Shared) (H : Hp) (v : L2.V) (Q : VK) (tl : List L2.V → Hp → VK → Prop) (C : Hp → Prop), ActP X Ng x sg g cdg a i np f s H tl C → (∀ H1 H2, ExtN H1 H2 → C H1 → C H2) → C H → TT v tl H Q →
    ∃ t, PSs (inX X Ng x sg g cdg s H).nox bg t ∧ t { nx := fun _ H' => Q .non H', rt := Q } (L2.start Ng [v, .ref f]) H
def tLam2 (T : List (Addr × Str)) (TT : L2.V → (List L2.V → Hp → VK → Prop) → Hp → VK → Prop) (t1 tb : TE) : TE := fun σ H Q => t1 σ H fun v H0 => Tabs T H0 ∧ ∀ H1, ExtN H0 H1 → Tabs T H1 → TT v (fun vs HY Q' => tb (vs.map some ++ σ) HY Q') H1 Q
theorem codeO_ext {H1 H2 : Hp} {c : Addr} {q : Str} (e : ExtN H1 H2) (h : H1 c = some (CodeO c q)) : H2 c = some (CodeO c q) := e _ _ h fun ps => codeO_ne ps
section
variable {X : Cx}
theorem pe_lamcall2 {T : List (Addr × Str)} {TT : L2.V → (List L2.V → Hp → VK → Prop) → Hp → VK → Prop} {x a b : Str} {g c P : Addr} {k : Nat} {pg : Arguments} {bg : List Stmt} {sg : Scope} {fdg : FuncData} {Ng : List Str} {params : Arguments} {body : Expr} {scope : Scope} {ps : List Str} {e1 : Expr} {t1 tb : TE} {p lpos pos : Pos}
    (F : FunD X.K x x pg bg sg [] [] g fdg) (hm : X.mg x = some (.ref g)) (hg : Gl X x) (bnd : L2.Binds X.K fdg [b, a] []) (Sg : FnScope Ng [b, a] sg) (hNg : Ng[1]? = some a) (hva : Vis sg a) (h1 : PE X e1 t1)
    (hG : ∀ cdg, Gives2 X Ng x sg g cdg bg a 1 ps.length TT)
    (TB : TabB X.base X.mg c P) (hcode : X.env.code = .ref c) (hmT : (P, X.env.qual ++ "<lambda>") ∈ T) (hu : ∀ p ∈ T, p.1 = P → p.2 = X.env.qual ++ "<lambda>") (hr : Room (k + 2) X.A) (L : LamP X.env.scope scope ps) (hdef : defaultsOf params X.env = ([], []))
    (hb : ∀ (q : Str) (cl : List (Str × Addr)) (pm cv ctv : Value) (us : List Value), us.length = ps.length → bindArgs (PySem.W.kla_fn "<lambda>" q params body scope cl pm cv ctv) ⟨us, []⟩ = pure (ps.zip us))
    (bd : ∀ (A : Around) (outer : List Env) (s : Shared) (H : Hp) (E : XK) (f c' : Addr), Room k (A.deeper (lamEnv X scope s.heap.objs.size f c')) → PE (lamPx X A outer s H E scope ps f c') body tb)
    (hdb : (x == ("__debug__" : Str)) = false := by decide) (hd : (a == ("__debug__" : Str)) = false := by decide) (hcd : (a == ("__classdict__" : Str)) = false := by decide)
    (hst : starEach [e1, .Lambda params body scope lpos] X.env = (false, eval e1 X.env) :: (false, eval (.Lambda params body scope lpos) X.env) :: [] := by rfl) :
    PE X (.Call (.Name x p) [e1, .Lambda params body scope lpos] [] pos) (tLam2 T TT t1 tb) := by
  obtain ⟨oc, od, dV, kV, doc, pm0, an, cdv, ct, osl, rfl, lk, hcg, _, _⟩ := F.ex
  refine ⟨fun pins s σ H Q I h => ?_⟩
  refine wpAny_Call_Name_kw (ld_glob I hg hm ?_ hdb)
  refine PySem.W.callWith_K (h₀ := X.base) I.ok.mod.kin F.kp ?_ (by rw [hst]; rfl) (by rfl)
  rw [hst]
  show wpAny _ _ (spliced [(false, eval e1 X.env), (false, eval (.Lambda params body scope lpos) X.env)]) _ _ s
  refine Calls.spliced_cons (thn (h1.run pins s σ H _ I h) fun u1 s1 z1 => ?_)
  obtain ⟨v, H0, I0, rv, hT, hq⟩ := z1
  refine Calls.spliced_cons (lam_make2 I0 TB hcode hmT hu hT hdef (L.has I0.ok) fun f c' pm' ctv H1 s' I1 eN T1 hf fn0 fr0 hco => ?_)
  refine Calls.spliced_nil ⟨I1.kIn, ?_⟩
  have run : codeAny (model X.prog X.w) X.A (.call (.ref g) ⟨[u1, .ref f], []⟩) (CR C8.CX0 X.stack X.prog X.w H1 s' Q C8.E0) s' := by
    refine run_ofS (N := Ng) (ps := [b, a]) (us := [u1, .ref f]) (vs := [v, .ref f]) lk hcg Sg hr I1.env0 (bnd s' [u1, .ref f] I1.kIn rfl) (.cons rv (.cons rfl .nil)) rfl fun hr' => ?_
    obtain ⟨t', ht', hq'⟩ := hG cdv f s' H1 v Q (fun vs HY Q' => tb (vs.map some ++ σ) HY Q') (fun HY => HY c' = some (CodeO c' (X.env.qual ++ "<lambda>")))
      (fun pn xe e es t p1 p2 ha he hpl => pe_actP (i := 1) (E := fun _ _ _ => False) I1 L hf fn0 fr0 (fun us lu => hb _ _ _ _ _ us lu) (passes_call LamX.takes0 fun _ _ _ _ z => z) hr' (fun A outer s H hr2 => bd A outer s H _ f c' hr2) hNg hva ha he hpl hd hcd)
      (fun H1 H2 e h => codeO_ext e h) hco (hq H1 eN T1)
    exact ⟨t', ht'.nox, hq'⟩
  refine wpAny_call (codeAny_mono run fun r' s2 z => ?_)
  cases r' with
  | error er => exact (show False from z).elim
  | ok fl => cases fl with
    | ret u => exact I1.after z
    | next => exact z.elim
    | brk => exact z.elim
    | cont => exact z.elim
end
end XA
set_option Elab.async false
set_option linter.all false
set_option maxRecDepth 100000
set_option maxHeartbeats 4000000
namespace KK
open PySem PySem.Spec PyProof.Rows L2 XV NM XT
/-! ### the errors -/
def nmF (i : Nat) : Str := (["TooLong", "InvalidList", "InvalidNumber", "InvalidWord", "InvalidMaker"] : List Str).getD i "LoopError"
abbrev CF (K : PySem.W.Frag) (i : Nat) : Addr := He.ga K (nmF i)
structure ClF (P : Program) (w : World) (K : PySem.W.Frag) (mg : Str → Option Value) (base : Heap) : Prop where
  x : ∀ i, i < 5 → ∃ fI fd, XCls P w K mg base (nmF i) "value" (CF K i) fI fd
  g : ∀ i, i < 6 → mg (nmF i) = some (.ref (CF K i))
  e : ∀ i, i < 5 → ExcC K (CF K i)
  f : ∀ i, i < 5 → XF K (CF K i) "value"
  kit : ∀ i, i < 5 → ∀ j, j < 5 → PySem.W.kitOne K (.ref (CF K i)) (.ref (CF K j)) = some (decide (i = j))
  exm : ∀ i, i < 5 → PySem.W.exmOne K (.ref (CF K i)) (.ref (CF K 5)) = some true
  own : ∀ i, i < 5 → PySem.W.exmOne K (.ref (CF K i)) (.ref (CF K i)) = some true
/-- the wish: an error of the class at C with the value v -/
def Rz (E : XK) (H : Hp) (C : Addr) (v : L2.V) : Prop := ∀ (H' : Hp) (d : Addr), Same H H' → H' d = none → E (.ref C) (some d) (upd H' d (.xd [("value", v)]))
theorem Rz.at {E : XK} {H H1 : Hp} {C : Addr} {v : L2.V} (h : Rz E H C v) (s : Same H H1) : Rz E H1 C v := fun H' d s1 n => h H' d (s.trans s1) n
/-! ### automata -/
theorem AT.nC {K : PySem.W.Frag} {C : Addr} : PySem.W.notFirst K C (.ref C) = true := by
  unfold PySem.W.notFirst
  rw [beq_self_eq_true]
  rfl
/-- all but the tables of code objects stay -/
abbrev ExN (H H' : Hp) : Prop := LamX.ExtN H H'
theorem ExN.of {H H' : Hp} (s : Same H H') : ExN H H' := LamX.ExtN.of s
theorem ExN.lst {H H' : Hp} (s : ExN H H') {a : Addr} {xs : List V} (h : H a = some (.lst xs)) : H' a = some (.lst xs) := s _ _ h fun _ z => by cases z
theorem ExN.tup {H H' : Hp} (s : ExN H H') {a : Addr} {xs : List V} (h : H a = some (.tup xs)) : H' a = some (.tup xs) := s _ _ h fun _ z => by cases z
theorem ExN.ins {H H' : Hp} (s : ExN H H') {a C d : Addr} {xs : List (Str × V)} (h : H a = some (.ins C d xs)) : H' a = some (.ins C d xs) := s _ _ h fun _ z => by cases z
theorem Pts.keepN {H H' : Hp} (s : ExN H H') : ∀ {xs : List V} {P : List (List Int)}, Pts H xs P → Pts H' xs P
  | _, _, .nil => .nil
  | _, _, .cons h r => .cons (by
      obtain ⟨a, e, t⟩ := h
      exact ⟨a, e, s.lst t⟩) (Pts.keepN s r)
theorem RL.keepN {H H' : Hp} (s : ExN H H') {r : Addr} {R : List (List Nat)} (h : RL H r R) : RL H' r R := by
  obtain ⟨xs, e, p⟩ := h
  exact ⟨xs, s.lst e, p.keepN s⟩
abbrev sCols : Stmt := top 18
abbrev nCols : List Str := ["machine", "word", "letters", "places", "letter", "at"]
theorem scCols : FnScope nCols ["machine", "word"] (defScope sCols) := ⟨rfl, rfl, rfl, by decide +kernel, rfl, by decide +kernel, by decide +kernel⟩
theorem eqv_rows (R S : List (List Nat)) : PyData.eqv (PD (R.map natI)) (PD (S.map natI)) = decide (R = S) := by
  rw [eqv_P]
  apply decide_eq_decide.mpr
  constructor
  · intro h
    exact List.map_inj_right (fun a b => natI_inj.mp) |>.mp h
  · exact fun h => by rw [h]
theorem eqv_es (a b : List Nat) : PyData.eqv (ptD (natI a)) (ptD (natI b)) = decide (a = b) := by
  rw [show PyData.eqv (ptD (natI a)) (ptD (natI b)) = decide (natI a = natI b) from eqv_ints _ _]
  exact decide_eq_decide.mpr natI_inj
section
variable {P : Program} {w : World} {K : PySem.W.Frag} {mg : Str → Option Value} {base : Heap} {f : Addr} {fd : FuncData} {C : Addr}
end
end KK
set_option Elab.async false
set_option linter.all false
set_option maxRecDepth 100000
set_option maxHeartbeats 1000000
namespace KK
open PySem PySem.Spec PyProof.Rows L2 XV NM XT
structure OkMa (P : Program) (w : World) (K : PySem.W.Frag) (mg : Str → Option Value) (base : Heap) (C : Addr) (m : Str) (sp : Sp) : Prop where
  ex : ∃ f fd, FnOk P w K mg base CX0 1 f fd ["self"] sp ∧ Meth K C m f ∧ Binds K fd ["self"] []
end KK
set_option Elab.async false
set_option linter.all false
set_option maxRecDepth 100000
set_option maxHeartbeats 1000000
namespace KK
open PySem PySem.Spec PyProof.Rows L2 XV NM XT
theorem int_get {l : List Nat} {i : Nat} {y : V} (h : ((natI l).map V.int)[i]? = some y) : ∃ s, l[i]? = some s ∧ y = .int (s : Int) := by
  rw [List.getElem?_map, natI_get] at h
  cases e : l[i]? with
  | none =>
    rw [e] at h
    cases h
  | some s =>
    rw [e] at h
    cases h
    exact ⟨s, rfl, rfl⟩
theorem cols_le (z y : Str) : ∀ c ∈ colsN z y, c ≤ z.length := fun c hc => by
  obtain ⟨a, _, rfl⟩ := List.mem_map.mp hc
  rw [cz_len]
  exact List.idxOf_le_length
theorem was_none {H H' : Hp} (s : Same H H') {D : Addr} (n : H' D = none) : H D = none := by
  cases e : H D with
  | none => rfl
  | some o =>
    rw [s _ _ e] at n
    cases n
theorem wordV_str {v : L2.V} (h : wordV v = true) : ∃ y, v = .str y ∧ y.length ≤ 20000 := by
  cases v with
  | str z =>
    have h : (lowS z && decide (z.length ≤ 20000)) = true := h
    rw [Bool.and_eq_true, decide_eq_true_eq] at h
    exact ⟨z, rfl, h.2⟩
  | _ => cases h
theorem rg_natI (n : Nat) : rgV 0 (n : Int) = (natI (List.range n)).map V.int := by
  unfold rgV natI
  rw [show ((n : Int) - 0).toNat = n by omega, List.map_map]
  exact List.map_congr_left fun i _ => by
    show V.int (0 + (i : Int)) = V.int (i : Int)
    rw [Int.zero_add]
theorem was_new {H H' : Hp} {p : Addr} (s : Same H H') (n : H' p = none) : H p = none := by
  cases e : H p with
  | none => rfl
  | some o =>
    rw [s _ _ e] at n
    cases n
end KK
set_option Elab.async false
set_option linter.all false
set_option maxRecDepth 100000
set_option maxHeartbeats 800000
/-! for i, p in enumerate(zip(a, b)), a and b lists. -/
namespace XV
open PySem
open PySem.Sem (wp)
open AutoSeq1 (wpAny_loadPart')
theorem meets_enum_zip (q a b : Addr) : Meets (Builtin.«enumerate.__new__» ⟨[.type "enumerate", .ref q], []⟩) (fun _ R s => IsZip s.heap q a b .none ∧ R (.ok (.ret (.ref s.heap.objs.size)))
    { s with heap := s.heap.push { cls := .type "enumerate", data := .fields #[.none, .bool false, .ref q, rawInt 0, .none, .none] } }) :=
  .of_wp fun prog w A R s y => by
    obtain ⟨hp, gs, dr, tk, os⟩ := s
    obtain ⟨hl, y⟩ := y
    have hsub := sub_enumerate
    wp_walk using wpAny_loadPart' hl
    refine wpAny_stack_any fun sk => wpAny_pure ?_
    split
    · rename_i k _ _ _ _ _
      cases (k == Value.type "enumerate")
      · wp_walk using wpAny_loadPart' hl, wpAny_pyIter_zip hl
        exact ⟨_, rfl, y⟩
      · wp_walk using wpAny_loadPart' hl, wpAny_pyIter_zip hl
        exact ⟨_, rfl, y⟩
    · wp_walk using wpAny_loadPart' hl, wpAny_pyIter_zip hl
      exact ⟨_, rfl, y⟩
section
variable {prog : Program} {w : World} {A : Around} {E : Value → Shared → Prop} {s : Shared}
theorem call_enum_zip {q a b : Addr} {Q : Value → Shared → Prop} (hz : IsZip s.heap q a b .none) (k : ∀ h, IsEnum h s.heap.objs.size q 0 .none → (∀ c o, s.heap.get? c = some o → h.get? c = some o) → Q (.ref s.heap.objs.size) { s with heap := h }) :
    wpAny (model prog w) A (call (.type "enumerate") [.ref q]) Q E s := by
  refine callType_new F.called_enumerate (by decide) (F.typeCall_enumerate_1 _) (F.newCall_enumerate_1 _) (fun obj => F.args_object_init_2 obj _) F.entry_enumerate_new (meets_enum_zip q a b) ⟨hz, ?_⟩
  have he : IsEnum (s.heap.push { cls := .type "enumerate", data := .fields #[.none, .bool false, .ref q, rawInt 0, .none, .none] }) s.heap.objs.size q 0 .none := Heap.get?_push_size _ rfl
  exact ⟨⟨_, he, rfl⟩, k _ he fun c o e => Heap.get?_push_of_some _ e⟩
end
end XV
set_option Elab.async false
set_option linter.all false
set_option maxRecDepth 100000
set_option maxHeartbeats 800000
namespace XV
open PySem PySem.Spec PyProof.Rows L2
section
variable {prog : Program} {w : World} {A : Around} {E : Value → Shared → Prop} {s : Shared}
theorem nextOf_zip2 {N l1 l2 i : Nat} {f0 : Value} {f1 : Bool} {q1 q2 x1 x2 : Value} {us1 us2 : Array Value} {Q : Value → Shared → Prop} (b1 : l1 < N) (b2 : l2 < N)
    (hz : ZS s.heap (N + 4) (N + 2) (N + 3) f0 f1) (hf : OwnV f0) (hI : s.heap.get? (N + 2) = some { cls := .type "tuple", data := .seq #[.ref (N + 0), .ref (N + 1)] }) (hO : s.heap.get? (N + 3) = some { cls := .type "tuple", data := .seq #[q1, q2] })
    (t1 : s.heap.IsListIter (N + 0) l1 i) (L1 : s.heap.IsList l1 us1) (t2 : s.heap.IsListIter (N + 1) l2 i) (L2 : s.heap.IsList l2 us2) (e1 : us1[i]? = some x1) (e2 : us2[i]? = some x2)
    (hQ : ∀ h, (∃ g0 g1, OwnV g0 ∧ ZS h (N + 4) (N + 2) (N + 3) g0 g1) → (∃ q1 q2, h.get? (N + 3) = some { cls := .type "tuple", data := .seq #[q1, q2] }) → h.IsListIter (N + 0) l1 (i + 1) → h.IsListIter (N + 1) l2 (i + 1) →
      h.get? s.heap.objs.size = some { cls := .type "tuple", data := .seq #[x1, x2] } → h.objs.size = s.heap.objs.size + 1 →
      (∀ c o, c ≠ (N + 4) → c ≠ (N + 3) → c ≠ (N + 0) → c ≠ (N + 1) → s.heap.get? c = some o → h.get? c = some o) → Q (.ref s.heap.objs.size) { s with heap := h }) :
    wpAny (model prog w) A (Builtin.SmallTypes.nextOf (.ref (N + 4))) Q E s := by
  have ty : s.TypeIs (.ref (N + 4)) "zip" := ⟨_, hz, rfl⟩
  unfold Builtin.SmallTypes.nextOf
  exact wpAny_bind (wpAny_callSpecial?_slot (name := Str.ofString "__next__") ty F.slot_zip_next (wpAny_call_entry F.slot_zip_next ty F.entry_zip_next
    (zip2_item b1 b2 hz hf hI hO t1 L1 t2 L2 e1 e2 fun h a b c d e f k => wpAny_pure (hQ h a b c d e f k)) (F.args_zip_next_1 _)))
theorem nextOf_zip2_end {N l1 l2 i : Nat} {f0 : Value} {f1 : Bool} {us1 : Array Value} {Q : Value → Shared → Prop} (b1 : l1 < N) (hh : A.handled = none)
    (hz : ZS s.heap (N + 4) (N + 2) (N + 3) f0 f1) (hf : OwnV f0) (hI : s.heap.get? (N + 2) = some { cls := .type "tuple", data := .seq #[.ref (N + 0), .ref (N + 1)] }) (t1 : s.heap.IsListIter (N + 0) l1 i) (L1 : s.heap.IsList l1 us1) (e1 : us1[i]? = none)
    (hE : ∀ h x, (∀ c o, c ≠ (N + 4) → c ≠ (N + 3) → c ≠ (N + 0) → c ≠ (N + 1) → s.heap.get? c = some o → h.get? c = some o) → (∃ o, h.get? x = some o ∧ o.cls = .type "StopIteration") → E (.ref x) { s with heap := h }) :
    wpAny (model prog w) A (Builtin.SmallTypes.nextOf (.ref (N + 4))) Q E s := by
  have ty : s.TypeIs (.ref (N + 4)) "zip" := ⟨_, hz, rfl⟩
  unfold Builtin.SmallTypes.nextOf
  exact wpAny_bind (wpAny_callSpecial?_slot (name := Str.ofString "__next__") ty F.slot_zip_next (wpAny_call_entry F.slot_zip_next ty F.entry_zip_next
    (zip2_end (l1 := l1) (l2 := l2) b1 hh hz hf hI t1 L1 e1 hE) (F.args_zip_next_1 _)))
end
/-- the lists at a and b: each turn tells the index and a pair of its own -/
def Itez (K : PySem.W.Frag) (a b : Addr) : It where
  go := fun i H => ∃ (xs ys : List V) (x y : V), SqL K H a xs ∧ SqL K H b ys ∧ xs[i]? = some x ∧ ys[i]? = some y
  yld := fun i H v H' => ∃ T U x y, v = .ref U ∧ H T = none ∧ H U = none ∧ U ≠ T ∧ H' = upd (upd H T (.tup [x, y])) U (.tup [.int (i : Nat), .ref T]) ∧ (∀ xs, SqL K H a xs → xs[i]? = some x) ∧ ∀ ys, SqL K H b ys → ys[i]? = some y
  stop := fun i H => ∃ xs : List V, SqL K H a xs ∧ xs.length ≤ i
def AtE (a b N i : Nat) (h : Heap) : Prop :=
  (∃ old, IsEnum h (N + 5) (N + 4) ((i : Nat) : Int) old) ∧ (∃ f0 f1, OwnV f0 ∧ ZS h (N + 4) (N + 2) (N + 3) f0 f1) ∧ h.get? (N + 2) = some { cls := .type "tuple", data := .seq #[.ref (N + 0), .ref (N + 1)] } ∧
  (∃ p q, h.get? (N + 3) = some { cls := .type "tuple", data := .seq #[p, q] }) ∧ h.IsListIter (N + 0) a i ∧ h.IsListIter (N + 1) b i
abbrev fpE (N : Nat) : List Addr := [N + 5, N + 4, N + 2, N + 3, N + 0, N + 1]
theorem fpE_mem {N : Nat} {c : Addr} (h : c ∈ fpE N) : c = N + 5 ∨ c = N + 4 ∨ c = N + 2 ∨ c = N + 3 ∨ c = N + 0 ∨ c = N + 1 := by simpa using h
theorem turnE {P : Program} {w : World} {K : PySem.W.Frag} {es : List Expr} {kk : Nat} {tp : Pos} {a b N : Nat} (la : a < N) (lb : b < N) :
    Turn P w K (.Tuple es kk tp) (Itez K a b) (fpE N) (N + 5) (AtE a b N) where
  mem := List.mem_cons_self
  obj := fun i h ⟨⟨_, s1⟩, ⟨_, _, _, s2⟩, s3, ⟨_, _, s4⟩, ⟨o1, e1, _, d1⟩, ⟨o2, e2, _, d2⟩⟩ c hc => by
    rcases fpE_mem hc with rfl | rfl | rfl | rfl | rfl | rfl
    · exact ⟨_, s1, fun _ x => nomatch x⟩
    · exact ⟨_, s2, fun _ x => nomatch x⟩
    · exact ⟨_, s3, fun _ x => nomatch x⟩
    · exact ⟨_, s4, fun _ x => nomatch x⟩
    · exact ⟨o1, e1, fun _ x => by rw [d1] at x; cases x⟩
    · exact ⟨o2, e2, fun _ x => by rw [d2] at x; cases x⟩
  keep := fun i h h' ⟨⟨o, s1⟩, ⟨f0, f1, ow, s2⟩, s3, ⟨p, q, s4⟩, s5, s6⟩ kp =>
    ⟨⟨o, kp _ (by simp) _ s1⟩, ⟨f0, f1, ow, kp _ (by simp) _ s2⟩, kp _ (by simp) _ s3, ⟨p, q, kp _ (by simp) _ s4⟩, s5.at (fun o e => kp _ (by simp) o e), s6.at (fun o e => kp _ (by simp) o e)⟩
  item := by
    intro X eP ew eK calm i pins s σ H E I fp st gg
    subst eP ew eK
    obtain ⟨⟨old, s1⟩, ⟨f0, f1, ow, s2⟩, s3, ⟨p0, q0, s4⟩, s5, s6⟩ := st
    obtain ⟨xs, ys, x, y, tx, ly, ex, ey⟩ := gg
    obtain ⟨us, ru, pu, _⟩ := I.list tx
    obtain ⟨vs, rv, pw, _⟩ := I.list ly
    obtain ⟨u, eu, rux⟩ := ru.get ex
    obtain ⟨v, ev, rvy⟩ := rv.get ey
    have lt : ∀ c ∈ fpE N, c < s.heap.objs.size := fun c hc => by
      rcases fpE_mem hc with rfl | rfl | rfl | rfl | rfl | rfl
      · exact Heap.lt_size s1
      · exact Heap.lt_size s2
      · exact Heap.lt_size s3
      · exact Heap.lt_size s4
      · obtain ⟨_, q, _⟩ := s5
        exact Heap.lt_size q
      · obtain ⟨_, q, _⟩ := s6
        exact Heap.lt_size q
    refine pyNext_enum_over (c := (i : Int)) (x := .ref s.heap.objs.size) (NX := fun h => (∃ g0 g1, OwnV g0 ∧ ZS h (N + 4) (N + 2) (N + 3) g0 g1) ∧ (∃ q1 q2, h.get? (N + 3) = some { cls := .type "tuple", data := .seq #[q1, q2] }) ∧
      h.IsListIter (N + 0) a (i + 1) ∧ h.IsListIter (N + 1) b (i + 1) ∧ h.get? s.heap.objs.size = some { cls := .type "tuple", data := .seq #[u, v] } ∧ h.objs.size = s.heap.objs.size + 1 ∧
      (∀ c o, c ≠ (N + 4) → c ≠ (N + 3) → c ≠ (N + 0) → c ≠ (N + 1) → s.heap.get? c = some o → h.get? c = some o)) s1
      (fun E' Q' k => nextOf_zip2 la lb s2 ow s3 s4 s5 pu.isList s6 pw.isList (by simpa using eu) (by simpa using ev) fun h a b c d e f kp => k h ⟨a, b, c, d, e, f, kp⟩)
      (fun h n => n.2.2.2.2.2.2 _ _ (ad (by omega)) (ad (by omega)) (ad (by omega)) (ad (by omega)) s1) fun h1 h2 n1 o2 t2 z2 k2 => ?_
    obtain ⟨n1, n2, n3, n4, n5, n6, n7⟩ := n1
    refine ⟨_, rfl, wpAny_letOwnedTupleGo_enum (s := { s with heap := h2, toks := s.toks + 1 }) o2 fun g he sb => ?_⟩
    have el : (N + 5 : Nat) < h1.objs.size := by
      have z : (N + 5 : Nat) < s.heap.objs.size := lt (N + 5) (by simp)
      omega
    have new1 : ObjOk X.prog X.w (upd H s.heap.objs.size (.tup [x, y])) h1 s.heap.objs.size (.tup [x, y]) := ⟨(by show 2 ≤ sizeLine; decide), [u, v], .cons rux (.cons rvy .nil), ⟨_, n5, rfl, _, rfl⟩⟩
    have J1 := I.turnedNew (t' := s.toks) (h' := h1) (ch := [N + 4, N + 3, N + 0, N + 1]) (fun c o out q => n7 c o (fun e => out (by simp [e])) (fun e => out (by simp [e])) (fun e => out (by simp [e])) (fun e => out (by simp [e])) q) (fun c hc => fp c (by
      simp only [List.mem_cons, List.not_mem_nil, or_false] at hc
      rcases hc with rfl | rfl | rfl | rfl <;> simp)) (Nat.le_refl _) new1
    have fT : (N + 5 : Nat) ≠ s.heap.objs.size := Nat.ne_of_lt (lt (N + 5) (by simp))
    have fE : FpOk X pins (upd H s.heap.objs.size (.tup [x, y])) (N + 5) := ⟨by rw [upd_ne fT]; exact (fp _ (by simp)).1, (fp _ (by simp)).2⟩
    have t3 : g.get? h1.objs.size = some { cls := .type "tuple", data := .seq #[.int (i : Int) s.toks, .ref s.heap.objs.size] } := (sb.2 _ (Nat.ne_of_gt el)).trans t2
    have new2 : ObjOk X.prog X.w (upd (upd H s.heap.objs.size (.tup [x, y])) h1.objs.size (.tup [.int (i : Nat), .ref s.heap.objs.size])) g h1.objs.size (.tup [.int (i : Nat), .ref s.heap.objs.size]) :=
      ⟨(by show 2 ≤ sizeLine; decide), [.int (i : Int) s.toks, .ref s.heap.objs.size], .cons ⟨_, rfl⟩ (.cons rfl .nil), ⟨_, t3, rfl, _, rfl⟩⟩
    have J2 := J1.turnedNew (t' := s.toks + 1) (h' := g) (ch := [N + 5]) (fun c o out q => (sb.2 c (fun e => out (by simp [e]))).trans (k2 c o (fun e => out (by simp [e])) q)) (fun c hc => by
      rcases List.mem_singleton.mp hc with rfl
      exact fE) (Nat.le_refl _) new2
    have up : ∀ c o, c ≠ (N + 5 : Nat) → h1.get? c = some o → g.get? c = some o := fun c o n q => (sb.2 c n).trans (k2 c o n q)
    refine ⟨.ref h1.objs.size, _, J2, rfl, ⟨s.heap.objs.size, h1.objs.size, x, y, rfl, I.hok.fresh (Nat.le_refl _), I.hok.fresh (by omega), (by rw [n6]; exact Nat.succ_ne_self _), rfl, fun l hl => (I.list_inj hl tx) ▸ ex, fun l hl => (I.list_inj hl ly) ▸ ey⟩, ⟨⟨.ref s.heap.objs.size, ?_⟩, ?_, ?_, ?_, ?_, ?_⟩, fun c hc => ?_⟩
    · rw [show ((i + 1 : Nat) : Int) = (i : Int) + 1 by omega]
      exact he
    · obtain ⟨g0, g1, og, zg⟩ := n1
      exact ⟨g0, g1, og, up _ _ (ad (by omega)) zg⟩
    · exact up _ _ (ad (by omega)) (n7 _ _ (ad (by omega)) (ad (by omega)) (ad (by omega)) (ad (by omega)) s3)
    · obtain ⟨q1, q2, e⟩ := n2
      exact ⟨q1, q2, up _ _ (ad (by omega)) e⟩
    · exact n3.at fun o e => up _ _ (ad (by omega)) e
    · exact n4.at fun o e => up _ _ (ad (by omega)) e
    · have l := lt c hc
      rw [upd_ne (Nat.ne_of_lt (show c < h1.objs.size by rw [n6]; exact Nat.lt_succ_of_lt l)), upd_ne (Nat.ne_of_lt l)]
      exact (fp c hc).1
  done := by
    intro X eP ew eK calm i pins s σ H E I fp st gg
    subst eP ew eK
    obtain ⟨⟨old, s1⟩, ⟨f0, f1, ow, s2⟩, s3, ⟨p0, q0, s4⟩, s5, s6⟩ := st
    obtain ⟨xs, tx, stop⟩ := gg
    obtain ⟨us, ru, pu, _⟩ := I.list tx
    have n1 := ru.length
    have hh : X.A.in1.handled = none := I.ok.hd calm
    refine pyNext_enum_stop (ST := fun h => ∀ c o, c ≠ (N + 4) → c ≠ (N + 3) → c ≠ (N + 0) → c ≠ (N + 1) → s.heap.get? c = some o → h.get? c = some o) s1
      (fun E' Q' k => nextOf_zip2_end (l2 := b) la hh s2 ow s3 s5 pu.isList (by simp; omega) fun h x kp y => k h x kp y) fun h kp => ⟨rfl, ?_⟩
    exact I.turnedL (t' := s.toks) (ch := fpE N) (fun c o out q => kp c o (fun e => out (by simp [e])) (fun e => out (by simp [e])) (fun e => out (by simp [e])) (fun e => out (by simp [e])) q) fp
  self := fun A i s Q E st q => by
    obtain ⟨⟨_, s1⟩, _⟩ := st
    exact wpAny_pyIter_enum s1 q
/-- .. in enumerate(zip(e, e2)) -/
def iEZ (K : PySem.W.Frag) (ta : TA) : TI := fun σ H R => ta σ H fun vs H1 => ∃ a b xs ys, vs = [.ref a, .ref b] ∧ (SqL K H1 a xs ∧ SqL K H1 b ys) ∧ R (Itez K a b) H1
theorem pi_enumZ {X : Cx} {e e2 : Expr} {ta : TA} {p pz pos pos2 tp : Pos} {es : List Expr} {kk : Nat} (gE : Gl X "enumerate") (z_enum : X.mg "enumerate" = none) (gZ : Gl X "zip") (z_zip : X.mg "zip" = none) (ha : PA X [e, e2] ta)
    (hs : starEach [e, e2] X.env = (false, eval e X.env) :: starEach [e2] X.env := by rfl) (np : (backTo pos2 (starEach [e2] X.env)).any (·.1) = false := by rfl)
    (hs2 : starEach [.Call (.Name "zip" pz) [e, e2] [] pos2] X.env = (false, eval (.Call (.Name "zip" pz) [e, e2] [] pos2) X.env) :: starEach [] X.env := by rfl) :
    PI X (.Tuple es kk tp) (.Call (.Name "enumerate" p) [.Call (.Name "zip" pz) [e, e2] [] pos2] [] pos) (iEZ X.K ta) := by
  refine ⟨fun pins s σ H R I h => Call_ (ld_blt I gE z_enum PyProof.Rows.boot_enumerate (PyProof.Rows.callWith_type1 ?_ hs2 rfl))⟩
  rw [hs2]
  show wpAny _ _ (spliced ((false, eval (.Call (.Name "zip" pz) [e, e2] [] pos2) X.env) :: backTo pos (starEach [] X.env))) _ _ s
  refine Calls.spliced_cons (Call_ (ld_blt I gZ z_zip PyProof.Rows.boot_zip (PyProof.Rows.callWith_type1 (thn (ha.run pos2 pins s σ H _ I h) fun us s1 ⟨vs, H1, J, rv, q⟩ => ?_) hs np)))
  obtain ⟨a, b, xs, ys, rfl, ⟨tx, ly⟩, q⟩ := q
  obtain ⟨u1, u2, rfl, r1, r2⟩ := vals2 rv
  cases r1
  cases r2
  obtain ⟨ps, _, pu, _⟩ := J.list tx
  obtain ⟨qs, _, pw, _⟩ := J.list ly
  refine zip_begins2 (begins_list a ps.toArray) (begins_list b qs.toArray) pu.isList pw.isList fun h' z1 t1 t2 g1 g2 sz kp => Calls.spliced_nil (call_enum_zip z1 fun h2 he kp2 => wpAny_pyIter_enum he ?_)
  have J2 : Inv X pins σ H1 { s1 with heap := h2 } := J.kept (t' := s1.toks) fun c o e => kp2 c o (kp c o e)
  have eE : h'.objs.size = s1.heap.objs.size + 5 := sz
  refine ⟨h'.objs.size, fpE s1.heap.objs.size, AtE a b s1.heap.objs.size, Itez X.K a b, H1, rfl, J2, ?_, ⟨⟨.none, ?_⟩, ⟨.none, false, .inl rfl, kp2 _ _ z1⟩, kp2 _ _ t1, ⟨_, _, kp2 _ _ t2⟩, ⟨_, kp2 _ _ g1, rfl, rfl⟩, ⟨_, kp2 _ _ g2, rfl, rfl⟩⟩, fun c hc => ?_, q⟩
  · rw [eE]
    exact turnE pu.lt pw.lt
  · rw [← eE]
    exact he
  · have le : s1.heap.objs.size ≤ c := by
      rcases fpE_mem hc with rfl | rfl | rfl | rfl | rfl | rfl
      · exact Nat.le_add_right _ 5
      · exact Nat.le_add_right _ 4
      · exact Nat.le_add_right _ 2
      · exact Nat.le_add_right _ 3
      · exact Nat.le_refl _
      · exact Nat.le_add_right _ 1
    exact J.fpOk le (J.hok.fresh le)
end XV
set_option Elab.async false
set_option linter.all false
set_option maxRecDepth 100000
set_option maxHeartbeats 800000
/-! list(zip(a, b, c)) of three lists. -/
namespace XV
open PySem PySem.Spec PyProof.Rows L2
section
variable {prog : Program} {w : World} {A : Around} {E : Value → Shared → Prop} {s : Shared}
theorem pyNext_zip3 {N l1 l2 l3 i : Nat} {f0 : Value} {f1 : Bool} {q1 q2 q3 x1 x2 x3 : Value} {us1 us2 us3 : Array Value} {Q : Option Value → Shared → Prop} (b1 : l1 < N) (b2 : l2 < N) (b3 : l3 < N)
    (hz : ZS s.heap (N + 5) (N + 3) (N + 4) f0 f1) (hf : OwnV f0) (hI : s.heap.get? (N + 3) = some { cls := .type "tuple", data := .seq #[.ref (N + 0), .ref (N + 1), .ref (N + 2)] }) (hO : s.heap.get? (N + 4) = some { cls := .type "tuple", data := .seq #[q1, q2, q3] })
    (t1 : s.heap.IsListIter (N + 0) l1 i) (L1 : s.heap.IsList l1 us1) (t2 : s.heap.IsListIter (N + 1) l2 i) (L2 : s.heap.IsList l2 us2) (t3 : s.heap.IsListIter (N + 2) l3 i) (L3 : s.heap.IsList l3 us3) (e1 : us1[i]? = some x1) (e2 : us2[i]? = some x2) (e3 : us3[i]? = some x3)
    (hQ : ∀ h, (∃ g0 g1, OwnV g0 ∧ ZS h (N + 5) (N + 3) (N + 4) g0 g1) → (∃ q1 q2 q3, h.get? (N + 4) = some { cls := .type "tuple", data := .seq #[q1, q2, q3] }) → h.IsListIter (N + 0) l1 (i + 1) → h.IsListIter (N + 1) l2 (i + 1) → h.IsListIter (N + 2) l3 (i + 1) →
      h.get? s.heap.objs.size = some { cls := .type "tuple", data := .seq #[x1, x2, x3] } → h.objs.size = s.heap.objs.size + 1 →
      (∀ c o, c ≠ (N + 5) → c ≠ (N + 4) → c ≠ (N + 0) → c ≠ (N + 1) → c ≠ (N + 2) → s.heap.get? c = some o → h.get? c = some o) → Q (some (.ref s.heap.objs.size)) { s with heap := h }) :
    wpAny (model prog w) A (pyNext (.ref (N + 5))) Q E s := by
  have ty : s.TypeIs (.ref (N + 5)) "zip" := ⟨_, hz, rfl⟩
  unfold pyNext
  exact wpAny_bind (wpAny_attempt (wpAny_callSpecial?_slot (name := Str.ofString "__next__") ty F.slot_zip_next (wpAny_call_entry F.slot_zip_next ty F.entry_zip_next
    (zip3_item b1 b2 b3 hz hf hI hO t1 L1 t2 L2 t3 L3 e1 e2 e3 fun h a b c d e f g k => wpAny_pure (hQ h a b c d e f g k)) (F.args_zip_next_1 _))))
theorem pyNext_zip3_end {N l1 l2 l3 i : Nat} {f0 : Value} {f1 : Bool} {us1 : Array Value} {Q : Option Value → Shared → Prop} (b1 : l1 < N) (hh : A.handled = none)
    (hz : ZS s.heap (N + 5) (N + 3) (N + 4) f0 f1) (hf : OwnV f0) (hI : s.heap.get? (N + 3) = some { cls := .type "tuple", data := .seq #[.ref (N + 0), .ref (N + 1), .ref (N + 2)] }) (t1 : s.heap.IsListIter (N + 0) l1 i) (L1 : s.heap.IsList l1 us1) (e1 : us1[i]? = none)
    (hQ : ∀ h, (∀ c o, c ≠ (N + 5) → c ≠ (N + 4) → c ≠ (N + 0) → c ≠ (N + 1) → c ≠ (N + 2) → s.heap.get? c = some o → h.get? c = some o) → Q none { s with heap := h }) :
    wpAny (model prog w) A (pyNext (.ref (N + 5))) Q E s := by
  have ty : s.TypeIs (.ref (N + 5)) "zip" := ⟨_, hz, rfl⟩
  unfold pyNext
  refine wpAny_bind (wpAny_attempt (wpAny_callSpecial?_slot (name := Str.ofString "__next__") ty F.slot_zip_next (wpAny_call_entry F.slot_zip_next ty F.entry_zip_next
    (zip3_end (l1 := l1) (l2 := l2) (l3 := l3) b1 hh hz hf hI t1 L1 e1 fun h x kp y => ?_) (F.args_zip_next_1 _))))
  obtain ⟨o, ho, hc⟩ := y
  exact wpAny_bind (wpAny_isInstance (T := "StopIteration") (b := true) ⟨o, ho, hc⟩ isSubtype_stop (wpAny_pure (hQ h kp)))
end
def AtZ (a b c N i : Nat) (h : Heap) : Prop :=
  (∃ f0 f1, OwnV f0 ∧ ZS h (N + 5) (N + 3) (N + 4) f0 f1) ∧ h.get? (N + 3) = some { cls := .type "tuple", data := .seq #[.ref (N + 0), .ref (N + 1), .ref (N + 2)] } ∧
  (∃ p q r, h.get? (N + 4) = some { cls := .type "tuple", data := .seq #[p, q, r] }) ∧ h.IsListIter (N + 0) a i ∧ h.IsListIter (N + 1) b i ∧ h.IsListIter (N + 2) c i
abbrev fpZ (N : Nat) : List Addr := [N + 5, N + 3, N + 4, N + 0, N + 1, N + 2]
theorem fpZ_mem {N : Nat} {c : Addr} (h : c ∈ fpZ N) : c = N + 5 ∨ c = N + 3 ∨ c = N + 4 ∨ c = N + 0 ∨ c = N + 1 ∨ c = N + 2 := by simpa using h
theorem AtZ.keep {a b c N i : Nat} {h h' : Heap} (st : AtZ a b c N i h) (kp : ∀ c ∈ fpZ N, ∀ o, h.get? c = some o → h'.get? c = some o) : AtZ a b c N i h' := by
  obtain ⟨⟨f0, f1, ow, s2⟩, s3, ⟨p, q, r, s4⟩, s5, s6, s7⟩ := st
  exact ⟨⟨f0, f1, ow, kp _ (by simp) _ s2⟩, kp _ (by simp) _ s3, ⟨p, q, r, kp _ (by simp) _ s4⟩, s5.at (fun o e => kp _ (by simp) o e), s6.at (fun o e => kp _ (by simp) o e), s7.at (fun o e => kp _ (by simp) o e)⟩
theorem AtZ.lt {a b c N i : Nat} {h : Heap} (st : AtZ a b c N i h) : ∀ d ∈ fpZ N, d < h.objs.size := fun d hd => by
  obtain ⟨⟨f0, f1, ow, s2⟩, s3, ⟨p, q, r, s4⟩, ⟨_, s5, _⟩, ⟨_, s6, _⟩, ⟨_, s7, _⟩⟩ := st
  rcases fpZ_mem hd with rfl | rfl | rfl | rfl | rfl | rfl
  · exact Heap.lt_size s2
  · exact Heap.lt_size s3
  · exact Heap.lt_size s4
  · exact Heap.lt_size s5
  · exact Heap.lt_size s6
  · exact Heap.lt_size s7
/-- the triples made so far -/
def Trp (H : Hp) (Ts : List Addr) (xs ys us : List V) : Prop := ∀ (j : Nat) (T : Addr) (x y u : V), Ts[j]? = some T → xs[j]? = some x → ys[j]? = some y → us[j]? = some u → H T = some (.tup [x, y, u])
theorem drainZ {X : Cx} {pins : List (Addr × Obj)} {σ : L2.St} {H0 : Hp} {a b c N S : Nat} {xs ys us : List V} {B : Around} {R : Result → Shared → Prop} (la : a < N) (lb : b < N) (lc : c < N) (hh : B.handled = none) (n1 : xs.length = ys.length) (n2 : xs.length = us.length) (nz : xs.length < sizeLine)
    (ha : H0 a = some (.lst xs)) (hb : H0 b = some (.lst ys)) (hc : H0 c = some (.lst us)) (h0 : H0 S = none)
    (hend : ∀ (s : Shared) (H : Hp) (Ts : List Addr), Inv X pins σ H s → Same H0 H → Ts.length = xs.length → H S = some (.lst (Ts.map V.ref)) → Trp H Ts xs ys us → R (.ok (.ret .none)) s) :
    ∀ (m i : Nat) (s : Shared) (H : Hp) (Ts : List Addr), i + m = xs.length → Inv X pins σ H s → (∀ d ∈ fpZ N, FpOk X pins H d) → AtZ a b c N i s.heap → Same H0 H → Ts.length = i → H S = some (.lst (Ts.map V.ref)) → Trp H Ts xs ys us →
      codeAny (model X.prog X.w) B (.builtin "list.extend.loop" ⟨[.ref S, .ref (N + 5), .none], []⟩) R s := by
  intro m
  induction m with
  | zero =>
    intro i s H Ts hi I fp st sm lT hS tr
    refine codeAny_builtin F.entry_extend_loop ?_
    rw [Around.under_plainId F.plain_extend_loop]
    show wpAny _ B.in1 (pyNext (.ref (N + 5)) >>= _) _ _ s
    obtain ⟨⟨f0, f1, ow, s2⟩, s3, ⟨p, q, r, s4⟩, s5, s6, s7⟩ := st
    obtain ⟨ps, ru, pu, _⟩ := I.list (SqL.of (sm _ _ ha))
    have e := ru.length
    refine wpAny_bind (pyNext_zip3_end (l2 := b) (l3 := c) la hh s2 ow s3 s5 pu.isList (by simp; omega) fun h kp => wpAny_pure ?_)
    refine hend _ H Ts (I.turnedL (t' := s.toks) (ch := fpZ N) (fun d o out q => kp d o (fun e => out (by simp [e])) (fun e => out (by simp [e])) (fun e => out (by simp [e])) (fun e => out (by simp [e])) (fun e => out (by simp [e])) q) fp) sm (by omega) hS tr
  | succ m ih =>
    intro i s H Ts hi I fp st sm lT hS tr
    have lt := st.lt
    refine codeAny_builtin F.entry_extend_loop ?_
    rw [Around.under_plainId F.plain_extend_loop]
    show wpAny _ B.in1 (pyNext (.ref (N + 5)) >>= _) _ _ s
    obtain ⟨⟨f0, f1, ow, s2⟩, s3, ⟨p, q, r, s4⟩, s5, s6, s7⟩ := st
    obtain ⟨ps, ru, pu, _⟩ := I.list (SqL.of (sm _ _ ha))
    obtain ⟨qs, rv, pv, _⟩ := I.list (SqL.of (sm _ _ hb))
    obtain ⟨rs, rw_, pw, _⟩ := I.list (SqL.of (sm _ _ hc))
    have ex : xs[i]? = some xs[i] := List.getElem?_eq_getElem (by omega)
    have ey : ys[i]? = some ys[i] := List.getElem?_eq_getElem (by omega)
    have ez : us[i]? = some us[i] := List.getElem?_eq_getElem (by omega)
    generalize xs[i] = x at ex
    generalize ys[i] = y at ey
    generalize us[i] = z at ez
    obtain ⟨u1, eu, r1⟩ := ru.get ex
    obtain ⟨u2, ev, r2⟩ := rv.get ey
    obtain ⟨u3, ew, r3⟩ := rw_.get ez
    refine wpAny_bind (pyNext_zip3 la lb lc s2 ow s3 s4 s5 pu.isList s6 pv.isList s7 pw.isList (by simpa using eu) (by simpa using ev) (by simpa using ew) fun h k1 k2 k3 k4 k5 k6 k7 k8 => ?_)
    have new1 : ObjOk X.prog X.w (upd H s.heap.objs.size (.tup [x, y, z])) h s.heap.objs.size (.tup [x, y, z]) := ⟨(by show 3 ≤ sizeLine; decide), [u1, u2, u3], .cons r1 (.cons r2 (.cons r3 .nil)), ⟨_, k6, rfl, _, rfl⟩⟩
    have J1 := I.turnedNew (t' := s.toks) (h' := h) (ch := [N + 5, N + 4, N + 0, N + 1, N + 2]) (fun d o out q => k8 d o (fun e => out (by simp [e])) (fun e => out (by simp [e])) (fun e => out (by simp [e])) (fun e => out (by simp [e])) (fun e => out (by simp [e])) q) (fun d hd => fp d (by
      simp only [List.mem_cons, List.not_mem_nil, or_false] at hd
      rcases hd with rfl | rfl | rfl | rfl | rfl <;> simp)) (Nat.le_refl _) new1
    have nT : H s.heap.objs.size = none := I.hok.fresh (Nat.le_refl _)
    have sT := same_new (o := .tup [x, y, z]) nT
    have hS1 := sT _ _ hS
    obtain ⟨hz', its, n, ri, e⟩ := J1.hok S _ hS1
    have el := ri.length
    rw [List.length_map] at el hz'
    show wpAny _ B.in1 (updateSeq S (·.push (.ref s.heap.objs.size)) >>= _) _ _ _
    refine wpAny_bind ?_
    have e' : h.get? S = some { cls := .type "list", data := .seq its.toArray n } := e
    refine wpAny_updateSeq (s := { s with heap := h }) (f := (·.push (.ref s.heap.objs.size))) e' rfl (wpAny_pure ⟨plainId_quiet F.plain_extend_loop _, ?_⟩) (by rw [List.size_toArray]; omega) (by show (its.toArray.push _).size ≤ sizeLine + 1; rw [Array.size_push, List.size_toArray]; omega)
    have kS : ∀ d o, d ≠ S → h.get? d = some o → (h.update S (Obj.mapSeq (·.push (.ref s.heap.objs.size)))).get? d = some o := fun d o nd q => (Heap.get?_update_other _ _ (Ne.symm nd)).trans q
    have gS := Heap.get?_update_self (Obj.mapSeq (·.push (Value.ref s.heap.objs.size))) e' rfl
    have J2 : Inv X pins σ (upd (upd H s.heap.objs.size (.tup [x, y, z])) S (.lst (Ts.map V.ref ++ [.ref s.heap.objs.size]))) { s with heap := h.update S (Obj.mapSeq (·.push (.ref s.heap.objs.size))), toks := s.toks } :=
      J1.write (x := S) (e := S) (o := .lst (Ts.map V.ref ++ [.ref s.heap.objs.size])) (t' := s.toks) (by rw [hS1]; trivial) (.inl rfl) kS ⟨_, gS⟩ ⟨by rw [List.length_append, List.length_map]; show Ts.length + 1 ≤ sizeLine; omega, its ++ [.ref s.heap.objs.size], n + 1, ri.append (.cons (show RelV (V.ref s.heap.objs.size) (Value.ref s.heap.objs.size) from rfl) .nil), by rw [gS]; simp [Obj.mapSeq]⟩
    have ne : ∀ d ∈ fpZ N, d ≠ S := fun d hd => (ne_of_none hS (fp d hd).1).symm
    refine ih (i + 1) _ _ (Ts ++ [s.heap.objs.size]) (by omega) J2 (fun d hd => ?_) ?_ (fun d o q => ?_) (by rw [List.length_append, lT]; rfl) (by rw [upd_same, List.map_append]; rfl) ?_
    · refine ⟨?_, (fp d hd).2⟩
      rw [upd_ne (ne d hd), upd_ne (Nat.ne_of_lt (lt d hd))]
      exact (fp d hd).1
    · have kk : ∀ d ∈ fpZ N, ∀ o, h.get? d = some o → (h.update S (Obj.mapSeq (·.push (.ref s.heap.objs.size)))).get? d = some o := fun d hd o q => kS d o (ne d hd) q
      refine AtZ.keep ?_ kk
      exact ⟨k1, k8 _ _ (ad (by omega)) (ad (by omega)) (ad (by omega)) (ad (by omega)) (ad (by omega)) s3, k2, k3, k4, k5⟩
    · rw [upd_ne (ne_of_none q h0)]
      exact sT _ _ (sm _ _ q)
    · intro j T x' y' z' eT e1 e2 e3
      by_cases cj : j < Ts.length
      · rw [List.getElem?_append_left cj] at eT
        have g := sT _ _ (tr j T x' y' z' eT e1 e2 e3)
        have nS : T ≠ S := fun q => by
          rw [q, hS1] at g
          cases g
        rw [upd_ne nS]
        exact g
      · have lj := (List.getElem?_eq_some_iff.mp eT).1
        rw [List.length_append, List.length_singleton] at lj
        obtain rfl : j = i := by omega
        rw [List.getElem?_append_right (by omega), lT, Nat.sub_self] at eT
        cases eT
        cases ex.symm.trans e1
        cases ey.symm.trans e2
        cases ez.symm.trans e3
        rw [upd_ne (fun q => by rw [q, hS] at nT; cases nT)]
        exact upd_same
end XV
set_option Elab.async false
set_option linter.all false
set_option maxRecDepth 100000
set_option maxHeartbeats 800000
namespace XV
open PySem PySem.Spec PyProof.Rows L2
theorem zip_no_len : typeLookup (.type "zip") "__len__" = pure none := by
  rw [typeLookup_type, builtinLookup_eq_fast]
  kernel_rfl
theorem zip_no_hint : typeLookup (.type "zip") "__length_hint__" = pure none := by
  rw [typeLookup_type, builtinLookup_eq_fast]
  kernel_rfl
/-- list(zip(e, e2, e3)) -/
def tLZ (ta : TA) : TE := fun σ H Q => ta σ H fun vs H1 => ∃ a b c xs ys us, vs = [.ref a, .ref b, .ref c] ∧ H1 a = some (.lst xs) ∧ H1 b = some (.lst ys) ∧ H1 c = some (.lst us) ∧ xs.length = ys.length ∧ xs.length = us.length ∧ xs.length < 1000 ∧
  ∀ (H' : Hp) (p : Addr) (Ts : List Addr), Same H1 H' → H1 p = none → H' p = some (.lst (Ts.map V.ref)) → Ts.length = xs.length → Trp H' Ts xs ys us → Q (.ref p) H'
theorem vals3 {a b c : V} {us : List Value} (r : Vals [a, b, c] us) : ∃ u v w, us = [u, v, w] ∧ RelV a u ∧ RelV b v ∧ RelV c w := by
  cases r with
  | cons r1 r =>
    cases r with
    | cons r2 r =>
      cases r with
      | cons r3 r =>
        cases r
        exact ⟨_, _, _, rfl, r1, r2, r3⟩
theorem pe_listZ3 {X : Cx} {e e2 e3 : Expr} {ta : TA} {p pz pos pos2 : Pos} (calm : X.calm = true) (gL : Gl X "list") (z_list : X.mg "list" = none) (gZ : Gl X "zip") (z_zip : X.mg "zip" = none) (ha : PA X [e, e2, e3] ta)
    (hs : starEach [e, e2, e3] X.env = (false, eval e X.env) :: starEach [e2, e3] X.env := by rfl) (np : (backTo pos2 (starEach [e2, e3] X.env)).any (·.1) = false := by rfl)
    (hs2 : starEach [.Call (.Name "zip" pz) [e, e2, e3] [] pos2] X.env = (false, eval (.Call (.Name "zip" pz) [e, e2, e3] [] pos2) X.env) :: starEach [] X.env := by rfl) :
    PE X (.Call (.Name "list" p) [.Call (.Name "zip" pz) [e, e2, e3] [] pos2] [] pos) (tLZ ta) := by
  refine ⟨fun pins s σ H Q I h => Call_ (ld_blt I gL z_list PyProof.Rows.boot_list (PyProof.Rows.callWith_type1 ?_ hs2 rfl))⟩
  rw [hs2]
  show wpAny _ _ (spliced ((false, eval (.Call (.Name "zip" pz) [e, e2, e3] [] pos2) X.env) :: backTo pos (starEach [] X.env))) _ _ s
  refine Calls.spliced_cons (Call_ (ld_blt I gZ z_zip PyProof.Rows.boot_zip (PyProof.Rows.callWith_type1 (thn (ha.run pos2 pins s σ H _ I h) fun us s1 ⟨vs, H1, J, rv, q⟩ => ?_) hs np)))
  obtain ⟨a, b, c, xs, ys, us, rfl, hA, hB, hC, n1, n2, nz, q⟩ := q
  obtain ⟨u1, u2, u3, rfl, r1, r2, r3⟩ := vals3 rv
  cases r1
  cases r2
  cases r3
  obtain ⟨ps, _, pu, _⟩ := J.list (SqL.of (K := X.K) hA)
  obtain ⟨qs, _, pv, _⟩ := J.list (SqL.of (K := X.K) hB)
  obtain ⟨rs, _, pw, _⟩ := J.list (SqL.of (K := X.K) hC)
  refine zip_begins3 (begins_list a ps.toArray) (begins_list b qs.toArray) (begins_list c rs.toArray) pu.isList pv.isList pw.isList fun h' z1 t1 t2 g1 g2 g3 sz kp => Calls.spliced_nil ?_
  have N := s1.heap.objs.size
  have st : AtZ a b c s1.heap.objs.size 0 h' := ⟨⟨.none, false, .inl rfl, z1⟩, t1, ⟨_, _, _, t2⟩, ⟨_, g1, rfl, rfl⟩, ⟨_, g2, rfl, rfl⟩, ⟨_, g3, rfl, rfl⟩⟩
  have J2 : Inv X pins σ H1 { s1 with heap := h' } := J.kept (t' := s1.toks) kp
  have hh : X.A.in1.handled = none := J.ok.hd calm
  have sm_ : 1000 ≤ sizeLine := by decide
  refine callType_codes (Q₁ := fun ob s2 => ob = .ref h'.objs.size ∧ s2 = { s1 with heap := h'.push { cls := .type "list", data := .seq #[] } }) F.called_list (F.typeCall_list_1 _) F.entry_list_init (code_list_new _ ⟨rfl, rfl⟩) fun ob s2 k2 => ?_
  obtain ⟨rfl, rfl⟩ := k2
  have zS : h'.objs.size ≠ s1.heap.objs.size + 5 := Nat.ne_of_gt (Heap.lt_size z1)
  have hS : (h'.push { cls := .type "list", data := .seq #[] }).get? h'.objs.size = some { cls := .type "list", data := .seq #[] } := Heap.get?_push_size _ rfl
  refine ⟨⟨_, hS, rfl⟩, F.args_list_init_2 _ _, ?_⟩
  show wpAny _ X.A.in1.in1 (Builtin.List.listItems (.ref h'.objs.size) >>= fun old => Builtin.List.listUpdate (.ref h'.objs.size) (fun _ => #[]) >>= fun _ => letGo old.toList.reverse >>= fun _ => Builtin.List.listExtendWith (.ref h'.objs.size) (.ref (s1.heap.objs.size + 5)) .none) _ _ _
  refine wpAny_bind ?_
  unfold Builtin.List.listItems
  refine wpAny_bind (wpAny_seqItems hS rfl (wpAny_pure ?_))
  refine wpAny_bind ?_
  show wpAny _ X.A.in1.in1 (updateSeq h'.objs.size fun _ => #[]) _ _ _
  refine wpAny_updateSeq hS rfl (wpAny_bind (wpAny_letGo ?_))
  have hS2 := Heap.get?_update_self (Obj.mapSeq (fun _ => (#[] : Array Value))) hS rfl
  have up : ∀ (h : Heap) (f : Obj → Obj), (∀ d o, h'.get? d = some o → h.get? d = some o) → ∀ d o, h'.get? d = some o → (h.update h'.objs.size f).get? d = some o := fun h f q d o e =>
    (Heap.get?_update_other _ _ (Ne.symm (Nat.ne_of_lt (Heap.lt_size e)))).trans (q d o e)
  have k1 : ∀ d o, h'.get? d = some o → (h'.push { cls := .type "list", data := .seq #[] }).get? d = some o := fun d o e => Heap.get?_push_of_some _ e
  have k2 := up _ (Obj.mapSeq (fun _ => (#[] : Array Value))) k1
  have ty : ∀ {h : Heap} {tk : Nat}, (∀ d o, h'.get? d = some o → h.get? d = some o) → Shared.TypeIs { s1 with heap := h } (.ref (s1.heap.objs.size + 5)) "zip" := fun q => ⟨_, q _ _ z1, rfl⟩
  unfold Builtin.List.listExtendWith
  refine wpAny_bind (wpAny_typeOf (ty (tk := 0) k2) ?_)
  have h1 : Builtin.List.listSameRef (.ref h'.objs.size) (.ref (s1.heap.objs.size + 5)) = false := by simp [Builtin.List.listSameRef, zS]
  have h2 : (Value.type "zip" == Value.type "list") = false := by decide
  have h3 : (Value.type "zip" == Value.type "tuple") = false := by decide
  simp only [h1, h2, h3, Bool.or_false, Bool.false_eq_true, if_false]
  refine wpAny_bind (wpAny_pyIter_zip (k2 _ _ z1) (wpAny_bind (wpAny_holding ?_)))
  unfold Builtin.List.listLengthHint
  refine wpAny_bind (wpAny_specialOf (ty (tk := 0) k2) zip_no_len ?_)
  show wpAny _ X.A.in1.in1 (specialOf (Value.ref (s1.heap.objs.size + 5)) (Str.ofString "__length_hint__") >>= _) _ _ _
  refine wpAny_bind (wpAny_specialOf (ty (tk := 0) k2) zip_no_hint (wpAny_pure ?_))
  show wpAny _ X.A.in1.in1 (rule "list.extend.makes-room" >>= fun _ => Builtin.List.listTouch (.ref h'.objs.size) >>= fun _ => again (.builtin "list.extend.loop" ⟨[.ref h'.objs.size, .ref (s1.heap.objs.size + 5), .none], []⟩)) _ _ _
  refine wpAny_bind (wpAny_rule (wpAny_bind ?_))
  show wpAny _ X.A.in1.in1 (updateSeq h'.objs.size (·.push .none) >>= fun _ => updateSeq h'.objs.size (·.pop)) _ _ _
  refine wpAny_bind (wpAny_updateSeq hS2 rfl ?_)
  have hS3 := Heap.get?_update_self (Obj.mapSeq (·.push Value.none)) hS2 rfl
  refine wpAny_updateSeq (hz := by seq_fits) hS3 rfl ?_
  have hS4 := Heap.get?_update_self (Obj.mapSeq (·.pop)) hS3 rfl
  have k4 := up _ (Obj.mapSeq (·.pop)) (up _ (Obj.mapSeq (·.push Value.none)) k2)
  refine wpAny_pure ⟨plainId_quiet F.plain_extend_loop _, ?_⟩
  have nS : H1 h'.objs.size = none := J2.hok.fresh (Nat.le_refl _)
  have J3 := J2.laid (t' := s1.toks) (o := .lst []) k4 (Nat.le_refl _) ⟨Nat.zero_le _, [], _, .nil, hS4⟩
  have ltz : ∀ d ∈ fpZ s1.heap.objs.size, d < h'.objs.size := st.lt
  refine drainZ (H0 := H1) pu.lt pv.lt pw.lt hh n1 n2 (by omega) hA hB hC nS (fun s H Ts I sm lT hL tr => ⟨rfl, .ref h'.objs.size, H, I, rfl, q H _ Ts sm nS hL lT tr⟩) xs.length 0 _ _ [] (Nat.zero_add _) J3 (fun d hd => ?_) (st.keep fun d _ o e => k4 d o e) (same_new nS) rfl upd_same (fun j T x y u e => by simp at e)
  · have le : s1.heap.objs.size ≤ d := by
      rcases fpZ_mem hd with rfl | rfl | rfl | rfl | rfl | rfl
      · exact Nat.le_add_right _ 5
      · exact Nat.le_add_right _ 3
      · exact Nat.le_add_right _ 4
      · exact Nat.le_refl _
      · exact Nat.le_add_right _ 1
      · exact Nat.le_add_right _ 2
    have f := J.fpOk le (J.hok.fresh le)
    refine ⟨?_, f.2⟩
    rw [upd_ne (Nat.ne_of_lt (ltz d hd))]
    exact f.1
end XV
set_option Elab.async false
set_option linter.all false
set_option maxRecDepth 100000
set_option maxHeartbeats 800000
/-! comprehensions: two clauses (a list, a range within), enumerate(list), enumerate(zip(a, b)). -/
namespace XV
open PySem PySem.Spec PyProof.Rows L2
theorem lc2_LR {K : PySem.W.Frag} {a : Addr} {xs : List V} {g g1 : TG} {tt tt1 : TT} {wi1 : TI} {te : TE} {vs vs1 : List Nat} {σ : L2.St} {H1 : Hp} {D : Addr} {Qd : Hp → Prop} (Pv : Nat → Hp → Prop) (h0 : Pv 0 (upd H1 D (.lst []))) (hl : ∀ i H, i ≤ xs.length → Pv i H → SqL K H a xs)
    (hs : ∀ i x H, xs[i]? = some x → Pv i H → g x (wipe σ vs) H fun σ2 H2 => wipe σ2 vs = wipe σ vs ∧ tt σ2 H2 fun b H3 => if b = true then wi1 σ2 H3 fun J1 H4 => ∃ W1 : Nat → Nat → Hp → Prop, (∃ m, W1 0 m H4) ∧ ∀ j k H, W1 j k H →
      (J1.stop j H ∧ Pv (i + 1) H) ∨ (J1.go j H ∧ ∃ N1 : Hp → Prop, (∀ H', N1 H' → ∃ k', k' < k ∧ W1 (j + 1) k' H') ∧ ∀ x H', J1.yld j H x H' → g1 x (wipe σ2 vs1) H' fun σ3 H5 => wipe σ3 vs1 = wipe σ2 vs1 ∧ tt1 σ3 H5 fun b H6 =>
        if b = true then te σ3 H6 fun y H7 => ∃ acc, H7 D = some (.lst acc) ∧ acc.length < sizeLine ∧ N1 (upd H7 D (.lst (acc ++ [y]))) else N1 H6) else Pv (i + 1) H3)
    (hd : ∀ H, Pv xs.length H → Qd H) :
    ∃ W : Nat → Nat → Hp → Prop, (∃ m, W 0 m (upd H1 D (.lst []))) ∧ ∀ i m H, W i m H →
      ((Itl K a).stop i H ∧ Qd H) ∨ ((Itl K a).go i H ∧ ∃ N : Hp → Prop, (∀ H', N H' → ∃ m', m' < m ∧ W (i + 1) m' H') ∧ ∀ x H', (Itl K a).yld i H x H' → g x (wipe σ vs) H' fun σ2 H2 => wipe σ2 vs = wipe σ vs ∧ tt σ2 H2 fun b H3 =>
        if b = true then wi1 σ2 H3 fun J1 H4 => ∃ W1 : Nat → Nat → Hp → Prop, (∃ m, W1 0 m H4) ∧ ∀ j k H, W1 j k H →
          (J1.stop j H ∧ N H) ∨ (J1.go j H ∧ ∃ N1 : Hp → Prop, (∀ H', N1 H' → ∃ k', k' < k ∧ W1 (j + 1) k' H') ∧ ∀ x H', J1.yld j H x H' → g1 x (wipe σ2 vs1) H' fun σ3 H5 => wipe σ3 vs1 = wipe σ2 vs1 ∧ tt1 σ3 H5 fun b H6 =>
            if b = true then te σ3 H6 fun y H7 => ∃ acc, H7 D = some (.lst acc) ∧ acc.length < sizeLine ∧ N1 (upd H7 D (.lst (acc ++ [y]))) else N1 H6) else N H3) := by
  refine ⟨fun i m H => m + i = xs.length ∧ Pv i H, ⟨xs.length, rfl, h0⟩, ?_⟩
  rintro i m H ⟨em, pv⟩
  have q := hl i H (by omega) pv
  cases m with
  | zero =>
    obtain rfl : i = xs.length := by omega
    exact .inl ⟨⟨xs, q, Nat.le_refl _⟩, hd H pv⟩
  | succ m =>
    have li : i < xs.length := by omega
    refine .inr ⟨⟨xs, _, q, List.getElem?_eq_getElem li⟩, Pv (i + 1), fun H' p' => ⟨m, Nat.lt_succ_self m, by omega, p'⟩, ?_⟩
    rintro x H' ⟨rfl, y⟩
    exact hs i x _ (y xs q) pv
theorem in_rng {n : Nat} {g1 : TG} {tt1 : TT} {te : TE} {vs1 : List Nat} {σ2 : L2.St} {H4 : Hp} {D : Addr} {N : Hp → Prop} (Pv : Nat → Hp → Prop) (h0 : Pv 0 H4)
    (hs : ∀ j H, j < n → Pv j H → g1 (.int (0 + (j : Nat))) (wipe σ2 vs1) H fun σ3 H5 => wipe σ3 vs1 = wipe σ2 vs1 ∧ tt1 σ3 H5 fun b H6 =>
      if b = true then te σ3 H6 fun y H7 => ∃ acc, H7 D = some (.lst acc) ∧ acc.length < sizeLine ∧ Pv (j + 1) (upd H7 D (.lst (acc ++ [y]))) else Pv (j + 1) H6) (hd : ∀ H, Pv n H → N H) :
    ∃ W1 : Nat → Nat → Hp → Prop, (∃ m, W1 0 m H4) ∧ ∀ j k H, W1 j k H → ((Itr 0 n).stop j H ∧ N H) ∨ ((Itr 0 n).go j H ∧ ∃ N1 : Hp → Prop, (∀ H', N1 H' → ∃ k', k' < k ∧ W1 (j + 1) k' H') ∧ ∀ x H', (Itr 0 n).yld j H x H' → g1 x (wipe σ2 vs1) H' fun σ3 H5 => wipe σ3 vs1 = wipe σ2 vs1 ∧ tt1 σ3 H5 fun b H6 =>
      if b = true then te σ3 H6 fun y H7 => ∃ acc, H7 D = some (.lst acc) ∧ acc.length < sizeLine ∧ N1 (upd H7 D (.lst (acc ++ [y]))) else N1 H6) := by
  refine ⟨fun j k H => k + j = n ∧ Pv j H, ⟨n, rfl, h0⟩, ?_⟩
  rintro j k H ⟨em, pv⟩
  cases k with
  | zero =>
    obtain rfl : j = n := by omega
    exact .inl ⟨Nat.le_refl _, hd H pv⟩
  | succ k =>
    have lj : j < n := by omega
    refine .inr ⟨lj, Pv (j + 1), fun H' p' => ⟨k, Nat.lt_succ_self k, by omega, p'⟩, ?_⟩
    rintro x H' ⟨rfl, rfl⟩
    exact hs j _ lj pv
/-- [.. for i, x in enumerate(xs)] -/
theorem lc_enum {K : PySem.W.Frag} {a : Addr} {xs : List V} {g : TG} {tt : TT} {te : TE} {vs : List Nat} {σ : L2.St} {H1 : Hp} {D : Addr} {Qd : Hp → Prop} (Pv : Nat → Hp → Prop) (h0 : Pv 0 (upd H1 D (.lst []))) (hl : ∀ i H, Pv i H → SqL K H a xs)
    (hs : ∀ (i : Nat) (x : V) (T : Addr) (H : Hp), xs[i]? = some x → Pv i H → H T = none → g (.ref T) (wipe σ vs) (upd H T (.tup [.int (i : Nat), x])) fun σ2 H2 => wipe σ2 vs = wipe σ vs ∧ tt σ2 H2 fun c H3 =>
      if c = true then te σ2 H3 fun r H4 => ∃ acc, H4 D = some (.lst acc) ∧ acc.length < sizeLine ∧ Pv (i + 1) (upd H4 D (.lst (acc ++ [r]))) else Pv (i + 1) H3) (hd : ∀ H, Pv xs.length H → Qd H) :
    ∃ W : Nat → Nat → Hp → Prop, (∃ m, W 0 m (upd H1 D (.lst []))) ∧ ∀ i m H, W i m H →
      ((Ite K a).stop i H ∧ Qd H) ∨ ((Ite K a).go i H ∧ ∃ N : Hp → Prop, (∀ H', N H' → ∃ m', m' < m ∧ W (i + 1) m' H') ∧ ∀ x H', (Ite K a).yld i H x H' → g x (wipe σ vs) H' fun σ2 H2 => wipe σ2 vs = wipe σ vs ∧ tt σ2 H2 fun c H3 =>
        if c = true then te σ2 H3 fun r H4 => ∃ acc, H4 D = some (.lst acc) ∧ acc.length < sizeLine ∧ N (upd H4 D (.lst (acc ++ [r]))) else N H3) := by
  refine ⟨fun i m H => m + i = xs.length ∧ Pv i H, ⟨xs.length, rfl, h0⟩, ?_⟩
  rintro i m H ⟨em, pv⟩
  have q := hl i H pv
  cases m with
  | zero =>
    obtain rfl : i = xs.length := by omega
    exact .inl ⟨⟨xs, q, Nat.le_refl _⟩, hd H pv⟩
  | succ m =>
    have li : i < xs.length := by omega
    have g1 := List.getElem?_eq_getElem li
    refine .inr ⟨⟨xs, _, q, g1⟩, Pv (i + 1), fun H' p' => ⟨m, Nat.lt_succ_self m, by omega, p'⟩, ?_⟩
    rintro v H' ⟨T, x, rfl, nT, rfl, f1⟩
    exact hs i x T H (f1 xs q) pv nT
/-- [.. for i, (x, y) in enumerate(zip(xs, ys))] of lists of one length -/
theorem lc_enumZ {K : PySem.W.Frag} {a b : Addr} {xs ys : List V} {g : TG} {tt : TT} {te : TE} {vs : List Nat} {σ : L2.St} {H1 : Hp} {D : Addr} {Qd : Hp → Prop} (eq : xs.length = ys.length) (Pv : Nat → Hp → Prop) (h0 : Pv 0 (upd H1 D (.lst []))) (hl : ∀ i H, Pv i H → SqL K H a xs ∧ SqL K H b ys)
    (hs : ∀ (i : Nat) (x y : V) (T U : Addr) (H : Hp), xs[i]? = some x → ys[i]? = some y → Pv i H → H T = none → H U = none → U ≠ T → g (.ref U) (wipe σ vs) (upd (upd H T (.tup [x, y])) U (.tup [.int (i : Nat), .ref T])) fun σ2 H2 => wipe σ2 vs = wipe σ vs ∧ tt σ2 H2 fun c H3 =>
      if c = true then te σ2 H3 fun r H4 => ∃ acc, H4 D = some (.lst acc) ∧ acc.length < sizeLine ∧ Pv (i + 1) (upd H4 D (.lst (acc ++ [r]))) else Pv (i + 1) H3) (hd : ∀ H, Pv xs.length H → Qd H) :
    ∃ W : Nat → Nat → Hp → Prop, (∃ m, W 0 m (upd H1 D (.lst []))) ∧ ∀ i m H, W i m H →
      ((Itez K a b).stop i H ∧ Qd H) ∨ ((Itez K a b).go i H ∧ ∃ N : Hp → Prop, (∀ H', N H' → ∃ m', m' < m ∧ W (i + 1) m' H') ∧ ∀ x H', (Itez K a b).yld i H x H' → g x (wipe σ vs) H' fun σ2 H2 => wipe σ2 vs = wipe σ vs ∧ tt σ2 H2 fun c H3 =>
        if c = true then te σ2 H3 fun r H4 => ∃ acc, H4 D = some (.lst acc) ∧ acc.length < sizeLine ∧ N (upd H4 D (.lst (acc ++ [r]))) else N H3) := by
  refine ⟨fun i m H => m + i = xs.length ∧ Pv i H, ⟨xs.length, rfl, h0⟩, ?_⟩
  rintro i m H ⟨em, pv⟩
  obtain ⟨q1, q2⟩ := hl i H pv
  cases m with
  | zero =>
    obtain rfl : i = xs.length := by omega
    exact .inl ⟨⟨xs, q1, Nat.le_refl _⟩, hd H pv⟩
  | succ m =>
    have l1 : i < xs.length := by omega
    have l2 : i < ys.length := by omega
    refine .inr ⟨⟨xs, ys, _, _, q1, q2, List.getElem?_eq_getElem l1, List.getElem?_eq_getElem l2⟩, Pv (i + 1), fun H' p' => ⟨m, Nat.lt_succ_self m, by omega, p'⟩, ?_⟩
    rintro v H' ⟨T, U, x, y, rfl, nT, nU, ne, rfl, f1, f2⟩
    exact hs i x y T U H (f1 xs q1) (f2 ys q2) pv nT nU ne
end XV
set_option Elab.async false
set_option linter.all false
set_option maxRecDepth 100000
set_option maxHeartbeats 800000
/-! a comprehension with two clauses, a list within a list. -/
namespace XV
open PySem PySem.Spec PyProof.Rows L2
theorem in_lst {K : PySem.W.Frag} {a : Addr} {xs : List V} {g1 : TG} {tt1 : TT} {te : TE} {vs1 : List Nat} {σ2 : L2.St} {H4 : Hp} {D : Addr} {N : Hp → Prop} (Pv : Nat → Hp → Prop) (h0 : Pv 0 H4) (hl : ∀ j H, Pv j H → SqL K H a xs)
    (hs : ∀ j x H, xs[j]? = some x → Pv j H → g1 x (wipe σ2 vs1) H fun σ3 H5 => wipe σ3 vs1 = wipe σ2 vs1 ∧ tt1 σ3 H5 fun b H6 =>
      if b = true then te σ3 H6 fun y H7 => ∃ acc, H7 D = some (.lst acc) ∧ acc.length < sizeLine ∧ Pv (j + 1) (upd H7 D (.lst (acc ++ [y]))) else Pv (j + 1) H6) (hd : ∀ H, Pv xs.length H → N H) :
    ∃ W1 : Nat → Nat → Hp → Prop, (∃ m, W1 0 m H4) ∧ ∀ j k H, W1 j k H → ((Itl K a).stop j H ∧ N H) ∨ ((Itl K a).go j H ∧ ∃ N1 : Hp → Prop, (∀ H', N1 H' → ∃ k', k' < k ∧ W1 (j + 1) k' H') ∧ ∀ x H', (Itl K a).yld j H x H' → g1 x (wipe σ2 vs1) H' fun σ3 H5 => wipe σ3 vs1 = wipe σ2 vs1 ∧ tt1 σ3 H5 fun b H6 =>
      if b = true then te σ3 H6 fun y H7 => ∃ acc, H7 D = some (.lst acc) ∧ acc.length < sizeLine ∧ N1 (upd H7 D (.lst (acc ++ [y]))) else N1 H6) := by
  refine ⟨fun j k H => k + j = xs.length ∧ Pv j H, ⟨xs.length, rfl, h0⟩, ?_⟩
  rintro j k H ⟨em, pv⟩
  have q := hl j H pv
  cases k with
  | zero =>
    obtain rfl : j = xs.length := by omega
    exact .inl ⟨⟨xs, q, Nat.le_refl _⟩, hd H pv⟩
  | succ k =>
    have lj : j < xs.length := by omega
    refine .inr ⟨⟨xs, _, q, List.getElem?_eq_getElem lj⟩, Pv (j + 1), fun H' p' => ⟨k, Nat.lt_succ_self k, by omega, p'⟩, ?_⟩
    rintro x H' ⟨rfl, y⟩
    exact hs j x _ (y xs q) pv
end XV
set_option Elab.async false
set_option linter.all false
set_option maxRecDepth 100000
set_option maxHeartbeats 1000000
namespace KK
open PySem PySem.Spec PyProof.Rows L2 XV NM XT
/-! ### entries among any data -/
theorem call_isiK {X : Cx} {K : PySem.W.Frag} (e : X.K = K) : CallR X (.builtin "isinstance") (rIsi K) := by
  subst e
  exact call_isi
def belD (n : Nat) : PyData → Bool
  | .int x => decide (0 ≤ x) && decide (x < (n : Int))
  | _ => false
def isLD : PyData → Bool
  | .list _ => true
  | _ => false
def lenD : PyData → Nat
  | .list ds => ds.length
  | _ => 0
theorem da_len {H : Hp} : ∀ {xs : List V} {ds : List PyData}, DaAll H xs ds → xs.length = ds.length
  | _, _, .nil => rfl
  | _, _, .cons _ r => congrArg (· + 1) (da_len r)
theorem da_knG {H : Hp} {v : V} {d : PyData} (h : Da H v d) : Kn H v := by
  cases h with
  | non => exact .non
  | bl b => exact .bl b
  | int i => exact .int i
  | str x => exact .str x
  | lst h _ => exact .lst h
  | tup h _ => exact .tup h
theorem bel_da {H : Hp} {v : V} {d : PyData} (h : Da H v d) (n : Nat) : belV (n : Int) v = belD n d := by
  cases h <;> rfl
theorem all_bl {α : Type} (f : α → Bool) (l : List α) : (l.map f).all id = l.all f := by
  rw [List.all_map]
  rfl
def shortV : V → Bool
  | .str y => lowS y && decide (y.length ≤ 2000)
  | _ => false
def shortD : PyData → Bool
  | .str y => lowS y && decide (y.length ≤ 2000)
  | _ => false
def isBD : PyData → Bool
  | .bool _ => true
  | _ => false
def itemsD : PyData → List PyData
  | .list ds => ds
  | _ => []
def entD (n : Nat) : PyData → Bool
  | .tuple [a, b, c] => belD n a && (shortD b && isBD c)
  | _ => false
def entsD (wd : Nat) : PyData → Bool
  | .list ds => (decide (1 ≤ ds.length) && decide (ds.length ≤ 12)) && (ds.all (fun r => isLD r && decide (lenD r = wd)) && ds.all fun r => (itemsD r).all (entD ds.length))
  | _ => false
def wrdsD (n : Nat) : PyData → Bool
  | .list ds => decide (ds.length = n) && ds.all shortD
  | _ => false
/-- a text is not too long -/
def SL (d : PyData) : Prop := ∀ y, d = .str y → y.length ≤ 100000
def SE (d : PyData) : Prop := ∀ a b c, d = .tuple [a, b, c] → SL b
theorem short_da {H : Hp} {v : V} {d : PyData} (h : Da H v d) : shortV v = shortD d := by cases h <;> rfl
theorem sl_da {H : Hp} {v : V} {d : PyData} (h : Da H v d) (l : SL d) : ∀ y, v = .str y → y.length ≤ 100000 := fun y e => by
  subst e
  cases h
  exact l y rfl
/-- the type of data, and whether it is of the type T -/
theorem da_ty {K : PySem.W.Frag} {H : Hp} {v : V} {d : PyData} (h : Da H v d) : ∃ T, TyX K H v (.type T) ∧ T ∈ (["NoneType", "bool", "int", "str", "list", "tuple"] : List String) := by
  cases h with
  | non => exact ⟨"NoneType", .base .non, by simp⟩
  | bl b => exact ⟨"bool", .base (.bl b), by simp⟩
  | int i => exact ⟨"int", .base (.int i), by simp⟩
  | str x => exact ⟨"str", .base (.str x), by simp⟩
  | lst h _ => exact ⟨"list", .base (.lst h), by simp⟩
  | tup h _ => exact ⟨"tuple", .base (.tup h), by simp⟩
def isTD : PyData → Bool
  | .tuple _ => true
  | _ => false
theorem da_isT {K : PySem.W.Frag} {H : Hp} {v : V} {d : PyData} (h : Da H v d) : ∃ t, TyX K H v t ∧ PySem.W.kitOne K t (.type "tuple") = some (isTD d) := by
  cases h with
  | non => exact ⟨.type "NoneType", .base .non, (show PySem.W.kitOne K (.type "NoneType") (.type "tuple") = some false from kit_ty (by decide +kernel))⟩
  | bl b => exact ⟨.type "bool", .base (.bl b), (show PySem.W.kitOne K (.type "bool") (.type "tuple") = some false from kit_ty (by decide +kernel))⟩
  | int i => exact ⟨.type "int", .base (.int i), (show PySem.W.kitOne K (.type "int") (.type "tuple") = some false from kit_ty (by decide +kernel))⟩
  | str x => exact ⟨.type "str", .base (.str x), (show PySem.W.kitOne K (.type "str") (.type "tuple") = some false from kit_ty (by decide +kernel))⟩
  | lst h _ => exact ⟨.type "list", .base (.lst h), (show PySem.W.kitOne K (.type "list") (.type "tuple") = some false from kit_ty (by decide +kernel))⟩
  | tup h _ => exact ⟨.type "tuple", .base (.tup h), (show PySem.W.kitOne K (.type "tuple") (.type "tuple") = some true from kit_ty (by decide +kernel))⟩
theorem da_isL {K : PySem.W.Frag} {H : Hp} {v : V} {d : PyData} (h : Da H v d) : ∃ t, TyX K H v t ∧ PySem.W.kitOne K t (.type "list") = some (isLD d) := by
  cases h with
  | non => exact ⟨.type "NoneType", .base .non, (show PySem.W.kitOne K (.type "NoneType") (.type "list") = some false from kit_ty (by decide +kernel))⟩
  | bl b => exact ⟨.type "bool", .base (.bl b), (show PySem.W.kitOne K (.type "bool") (.type "list") = some false from kit_ty (by decide +kernel))⟩
  | int i => exact ⟨.type "int", .base (.int i), (show PySem.W.kitOne K (.type "int") (.type "list") = some false from kit_ty (by decide +kernel))⟩
  | str x => exact ⟨.type "str", .base (.str x), (show PySem.W.kitOne K (.type "str") (.type "list") = some false from kit_ty (by decide +kernel))⟩
  | lst h _ => exact ⟨.type "list", .base (.lst h), (show PySem.W.kitOne K (.type "list") (.type "list") = some true from kit_ty (by decide +kernel))⟩
  | tup h _ => exact ⟨.type "tuple", .base (.tup h), (show PySem.W.kitOne K (.type "tuple") (.type "list") = some false from kit_ty (by decide +kernel))⟩
theorem da_isB {K : PySem.W.Frag} {H : Hp} {v : V} {d : PyData} (h : Da H v d) : ∃ t, TyX K H v t ∧ PySem.W.kitOne K t (.type "bool") = some (isBD d) := by
  cases h with
  | non => exact ⟨.type "NoneType", .base .non, (show PySem.W.kitOne K (.type "NoneType") (.type "bool") = some false from kit_ty (by decide +kernel))⟩
  | bl b => exact ⟨.type "bool", .base (.bl b), (show PySem.W.kitOne K (.type "bool") (.type "bool") = some true from kit_ty (by decide +kernel))⟩
  | int i => exact ⟨.type "int", .base (.int i), (show PySem.W.kitOne K (.type "int") (.type "bool") = some false from kit_ty (by decide +kernel))⟩
  | str x => exact ⟨.type "str", .base (.str x), (show PySem.W.kitOne K (.type "str") (.type "bool") = some false from kit_ty (by decide +kernel))⟩
  | lst h _ => exact ⟨.type "list", .base (.lst h), (show PySem.W.kitOne K (.type "list") (.type "bool") = some false from kit_ty (by decide +kernel))⟩
  | tup h _ => exact ⟨.type "tuple", .base (.tup h), (show PySem.W.kitOne K (.type "tuple") (.type "bool") = some false from kit_ty (by decide +kernel))⟩
abbrev sShort : Stmt := top 26
abbrev sEnt : Stmt := top 25
abbrev sEnts : Stmt := top 24
abbrev sWrds : Stmt := top 27
theorem scShort : FnScope ["value"] ["value"] (defScope sShort) := ⟨rfl, rfl, rfl, by decide +kernel, rfl, by decide +kernel, by decide +kernel⟩
abbrev nEnt : List Str := ["how_many", "item", "state", "word", "itself"]
theorem scEnt : FnScope nEnt ["how_many", "item"] (defScope sEnt) := ⟨rfl, rfl, rfl, by decide +kernel, rfl, by decide +kernel, by decide +kernel⟩
abbrev nEnts : List Str := ["value", "width", "row", "item"]
theorem scEnts : FnScope nEnts ["value", "width"] (defScope sEnts) := ⟨rfl, rfl, rfl, by decide +kernel, rfl, by decide +kernel, by decide +kernel⟩
abbrev nWrds : List Str := ["value", "how_many", "item"]
theorem scWrds : FnScope nWrds ["value", "how_many"] (defScope sWrds) := ⟨rfl, rfl, rfl, by decide +kernel, rfl, by decide +kernel, by decide +kernel⟩
def spShort : Sp := fun vs H Q _ => ∃ v, vs = [v] ∧ Kn H v ∧ (∀ y, v = .str y → y.length ≤ 100000) ∧ Q (.bl (shortV v)) H
def spEnt : Sp := fun vs H Q _ => ∃ (n : Nat) (v : V) (d : PyData), vs = [.int n, v] ∧ Da H v d ∧ SE d ∧ Q (.bl (entD n d)) H
def spEnts : Sp := fun vs H Q _ => ∃ (v : V) (d : PyData) (wd : Nat), vs = [v, .int wd] ∧ Da H v d ∧ lenD d ≤ 100 ∧ (∀ r ∈ itemsD d, lenD r ≤ 60 ∧ ∀ e ∈ itemsD r, SE e) ∧ ∀ H', Same H H' → Q (.bl (entsD wd d)) H'
def spWrds : Sp := fun vs H Q _ => ∃ (v : V) (d : PyData) (n : Nat), vs = [v, .int n] ∧ Da H v d ∧ lenD d ≤ 100 ∧ (∀ e ∈ itemsD d, SL e) ∧ ∀ H', Same H H' → Q (.bl (wrdsD n d)) H'
section
variable {P : Program} {w : World} {K : PySem.W.Frag} {mg : Str → Option Value} {base : Heap} {f : Addr} {fd : FuncData} {C : Addr}
theorem ok_short (F : FnP K "is_short_word" sShort f fd) (o_low : Ok P w K mg base "is_string_of_letters" 1 ["value"] spLow) (z_len : mg "len" = none) {tM : Tok} (h_LP : mg "LONGEST_PIECE" = some (.int 2000 tM)) : FnOk P w K mg base CX0 2 f fd ["value"] spShort := by
  refine F.ok scShort (fun vs H Q E h => ?_) (fun cdv A outer s H vs Q E hr h => ?_)
  · obtain ⟨v, rfl, _⟩ := h
    rfl
  · obtain ⟨v, rfl, kv, lv, q⟩ := h
    have r1 : Room 1 (A.deeper (envOfC "is_short_word" (defScope sShort) s.heap.objs.size f cdv)) := hr
    have szl := sizeLine_eq
    refine ⟨_, PSs.nox (pss_one (ps_ret (pe_and (pe_callO o_low r1 (by rfl) (pa_cons (pv 0) pa_nil)) (pe_one (pe_cmpR op_le (pe_callB call_len_str (by rfl) z_len boot_len (pa_cons (pv 0) pa_nil)) (pe_glob (v := .int 2000) (by rfl) h_LP ⟨_, rfl⟩) (nomark _)))))), ?_⟩
    refine ⟨_, rfl, v, rfl, kv, ?_⟩
    cases v with
    | str z =>
      have lz := lv z rfl
      have e : shortV (.str z) = (lowS z && decide (z.length ≤ 2000)) := rfl
      rw [e] at q
      show ∃ b, V.bl (lowS z) = .bl b ∧ _
      cases c : lowS z with
      | false =>
        rw [c] at q
        exact ⟨false, rfl, iteF q⟩
      | true =>
        rw [c, Bool.true_and] at q
        refine ⟨true, rfl, iteT ⟨_, rfl, z, rfl, by omega, _, _, rfl, rfl, ?_⟩⟩
        have e2 : decide ((z.length : Int) ≤ 2000) = decide (z.length ≤ 2000) := decide_eq_decide.mpr ⟨fun h => by omega, fun h => by omega⟩
        show Q (.bl (decide ((z.length : Int) ≤ 2000))) H
        rw [e2]
        exact q
    | _ => exact ⟨false, rfl, iteF q⟩
theorem ok_ent (F : FnP K "is_entry" sEnt f fd) (o_below : Ok P w K mg base "is_count_below" 3 ["bound", "value"] spBelow) (o_short : Ok P w K mg base "is_short_word" 2 ["value"] spShort) (z_isinstance : mg "isinstance" = none) (z_tuple : mg "tuple" = none) (z_len : mg "len" = none) (z_bool : mg "bool" = none) : FnOk P w K mg base CX0 4 f fd ["how_many", "item"] spEnt := by
  have nd := scEnt.nd
  refine F.ok scEnt (fun vs H Q E h => ?_) (fun cdv A outer s H vs Q E hr h => ?_)
  · obtain ⟨n, v, d, rfl, _⟩ := h
    rfl
  · obtain ⟨n, v, d, rfl, hd, se, q⟩ := h
    have r3 : Room 3 (A.deeper (envOfC "is_entry" (defScope sEnt) s.heap.objs.size f cdv)) := hr
    refine ⟨_, PSs.nox (pss_cons (ps_if (PW.pt (pw_or (pt_not (pt_val (pe_callB call_isi (by rfl) z_isinstance (by decide +kernel) (pa_cons (pv 1) (pa_cons (pe_bltn (v := .ty "tuple") (by rfl) z_tuple (by decide +kernel) rfl) pa_nil))))) (pw_or1 (pt_cmpR op_ne (pe_callB call_len (by rfl) z_len boot_len (pa_cons (pv 1) pa_nil)) pe_int (nomark _))))) (pss_one (ps_ret pe_bl)) pss_nil)
      (pss_cons (ps_asg (pv 1) (pg_tup rfl (pgs_cons (pg_name (i := 2) nd rfl (Or.inl rfl)) (pgs_cons (pg_name (i := 3) nd rfl (Or.inl rfl)) (pgs_cons (pg_name (i := 4) nd rfl (Or.inl rfl)) pgs_nil)))))
      (pss_one (ps_ret (pe_and (pe_callO o_below r3 (by rfl) (pa_cons (pv 0) (pa_cons (pv 2) pa_nil))) (pe_and (pe_callO o_short (r3.mono (by decide)) (by rfl) (pa_cons (pv 3) pa_nil)) (pe_one (pe_callB call_isi (by rfl) z_isinstance (by decide +kernel) (pa_cons (pv 4) (pa_cons (pe_bltn (v := .ty "bool") (by rfl) z_bool (by decide +kernel) rfl) pa_nil)))))))))), ?_⟩
    obtain ⟨t, ty, kt⟩ := da_isT (K := K) hd
    refine ⟨_, rfl, _, _, t, _, isTD d, rfl, .ty "tuple", ty, kt, isTD d, rfl, ?_⟩
    cases hd with
    | @tup a xs ds ha hall =>
      have lx : xs.length = ds.length := da_len hall
      refine iteF ⟨_, rfl, _, ds.length, rfl, .inr ⟨_, SqT.of ha, lx.symm⟩, rfl, _, rfl, ?_⟩
      by_cases c : ds.length = 3
      · have e : decide (V.int (ds.length : Int) = V.int 3) = true := decide_eq_true (by rw [c]; rfl)
        rw [e]
        refine iteF ?_
        cases hall with
        | nil => cases c
        | @cons v1 _ d1 _ h1 r1 =>
          cases r1 with
          | nil => cases c
          | @cons v2 _ d2 _ h2 r2 =>
            cases r2 with
            | nil => cases c
            | @cons v3 _ d3 _ h3 r3' =>
              cases r3' with
              | cons _ _ => exact absurd c (by simp)
              | nil =>
                refine ⟨_, rfl, a, _, rfl, SqT.of ha, rfl, _, _, rfl, _, _, rfl, _, _, rfl, rfl, ?_⟩
                have q : Q (.bl (belD n d1 && (shortD d2 && isBD d3))) H := q
                refine ⟨_, rfl, _, rfl, _, _, rfl, da_knG h1, ?_⟩
                rw [bel_da h1]
                cases e1 : belD n d1 with
                | false =>
                  rw [e1] at q
                  exact ⟨false, rfl, iteF q⟩
                | true =>
                  rw [e1, Bool.true_and] at q
                  refine ⟨true, rfl, iteT ⟨_, rfl, v2, rfl, da_knG h2, sl_da h2 (se _ _ _ rfl), ?_⟩⟩
                  rw [short_da h2]
                  cases e2 : shortD d2 with
                  | false =>
                    rw [e2] at q
                    exact ⟨false, rfl, iteF q⟩
                  | true =>
                    rw [e2, Bool.true_and] at q
                    obtain ⟨t3, ty3, kt3⟩ := da_isB (K := K) h3
                    exact ⟨true, rfl, iteT ⟨_, rfl, _, _, t3, _, isBD d3, rfl, .ty "bool", ty3, kt3, q⟩⟩
      · have e : decide (V.int (ds.length : Int) = V.int 3) = false := decide_eq_false (fun z => c (by have := V.int.inj z; omega))
        rw [e]
        refine iteT ?_
        have eq : entD n (.tuple ds) = false := by
          unfold entD
          split
          · rename_i h
            injection h with h
            subst h
            exact absurd rfl c
          · rfl
        rw [eq] at q
        exact q
    | _ => exact iteT (iteT q)
end
end KK
set_option Elab.async false
set_option linter.all false
set_option maxRecDepth 100000
set_option maxHeartbeats 1000000
namespace KK
open PySem PySem.Spec PyProof.Rows L2 XV NM XT
theorem isT_nl {d : PyData} (h : isLD d = false) (wd : Nat) : entsD wd d = false := by
  cases d <;> first | rfl | cases h
theorem wrds_nl {d : PyData} (h : isLD d = false) (n : Nat) : wrdsD n d = false := by
  cases d <;> first | rfl | cases h
theorem flat_le {ds : List PyData} (h : ∀ r ∈ ds, (itemsD r).length ≤ 60) : (ds.flatMap itemsD).length ≤ ds.length * 60 := by
  induction ds with
  | nil => simp
  | cons d ds ih =>
    rw [List.flatMap_cons, List.length_append, List.length_cons]
    have := h d List.mem_cons_self
    have := ih fun r hr => h r (List.mem_cons_of_mem _ hr)
    omega
theorem items_len (r : PyData) : (itemsD r).length = lenD r := by cases r <;> rfl
section
variable {P : Program} {w : World} {K : PySem.W.Frag} {mg : Str → Option Value} {base : Heap} {f : Addr} {fd : FuncData} {C : Addr}
theorem ok_ents (F : FnP K "is_list_of_entries" sEnts f fd) (o_ent : Ok P w K mg base "is_entry" 4 ["how_many", "item"] spEnt) (z_isinstance : mg "isinstance" = none) (z_list : mg "list" = none) (z_len : mg "len" = none) (z_all : mg "all" = none) {tM : Tok} (h_M : mg "MOST_STATES" = some (.int 12 tM)) : FnOk P w K mg base CX0 5 f fd ["value", "width"] spEnts := by
  have nd := scEnts.nd
  refine F.ok scEnts (fun vs H Q E h => ?_) (fun cdv A outer s H vs Q E hr h => ?_)
  · obtain ⟨v, d, wd, rfl, _⟩ := h
    rfl
  · obtain ⟨v, d, wd, rfl, hd, l100, l2, q⟩ := h
    have r4 : Room 4 (A.deeper (envOfC "is_list_of_entries" (defScope sEnts) s.heap.objs.size f cdv)) := hr
    refine ⟨_, PSs.nox (pss_cons (ps_if (PW.pt (pw_or (pt_not (pt_val (pe_callB call_isi (by rfl) z_isinstance (by decide +kernel) (pa_cons (pv 0) (pa_cons (pe_bltn (v := .ty "list") (by rfl) z_list (by decide +kernel) rfl) pa_nil))))) (pw_or1 (pt_not (pt_chain op_le op_le pe_int (pe_callB call_len (by rfl) z_len boot_len (pa_cons (pv 0) pa_nil)) (pe_glob (v := .int 12) (by rfl) h_M ⟨_, rfl⟩)))))) (pss_one (ps_ret pe_bl)) pss_nil)
      (pss_cons (ps_if (pt_not (pt_val (pe_callB (cr_all rfl) (by rfl) z_all (by decide +kernel) (pa_cons
      (pe_lc (own := [("row", 2)]) (g := gName 2) (by rfl) nd (pi_list (pv 0)) (blkOk_by (N := nEnts) (sc := defScope sEnts) (own := [("row", 2)]) (by decide +kernel)) (fun _ _ _ _ _ => pg_name (i := 2) nd rfl (Or.inl rfl)) (fun _ _ _ _ _ => pts_nil)
        (fun _ _ _ _ _ => pe_and (pe_callB (call_isiK (K := K) rfl) (by rfl) z_isinstance (by decide +kernel) (pa_cons (pv 2) (pa_cons (pe_bltn (v := .ty "list") (by rfl) z_list (by decide +kernel) rfl) pa_nil))) (pe_one (pe_cmpR op_eq (pe_callB (call_lenK (K := K) rfl) (by rfl) z_len boot_len (pa_cons (pv 2) pa_nil)) (pv 1) (nomark _))))) pa_nil)))) (pss_one (ps_ret pe_bl)) pss_nil)
      (pss_one (ps_ret (pe_callB (cr_all rfl) (by rfl) z_all (by decide +kernel) (pa_cons
      (pe_lc2 (own := [("row", 2), ("item", 3)]) (vs1 := [3]) (g := gName 2) (g1 := gName 3) (by rfl) nd (pi_list (pv 0)) (blkOk_by (N := nEnts) (sc := defScope sEnts) (own := [("row", 2), ("item", 3)]) (by decide +kernel)) (by decide) (fun _ _ _ _ _ => pg_name (i := 2) nd rfl (Or.inl rfl)) (fun _ _ _ _ _ => pts_nil)
        (fun _ _ _ _ _ => pi_listK (K := K) rfl (pv 2)) (fun _ _ _ _ _ => pg_name (i := 3) nd rfl (Or.inl rfl)) (fun _ _ _ _ _ => pts_nil)
        (fun _ _ _ _ _ => pe_callO o_ent r4 (by rfl) (pa_cons (pe_callB (call_lenK (K := K) rfl) (by rfl) z_len boot_len (pa_cons (pv 0) pa_nil)) (pa_cons (pv 3) pa_nil)))) pa_nil)))))), ?_⟩
    obtain ⟨t, ty, kt⟩ := da_isL (K := K) hd
    refine ⟨_, rfl, _, _, t, _, isLD d, rfl, .ty "list", ty, kt, isLD d, rfl, ?_⟩
    by_cases il : isLD d = false
    · have q := q H (Same.refl _)
      rw [isT_nl il] at q
      rw [il]
      exact iteT (iteT q)
    cases hd with
    | @lst a xs ds ha hall =>
      have lx : xs.length = ds.length := da_len hall
      have l100 : ds.length ≤ 100 := l100
      refine iteF ⟨_, rfl, _, ds.length, rfl, .inl ⟨_, SqL.of ha, lx.symm⟩, ?_⟩
      have eqD : entsD wd (.list ds) = ((decide (1 ≤ ds.length) && decide (ds.length ≤ 12)) && (ds.all (fun r => isLD r && decide (lenD r = wd)) && ds.all fun r => (itemsD r).all (entD ds.length))) := rfl
      by_cases c1 : ¬ 1 ≤ ds.length
      · have q1 := q H (Same.refl _)
        rw [eqD, decide_eq_false c1, Bool.false_and, Bool.false_and] at q1
        exact ⟨_, _, rfl, rfl, false, congrArg V.bl (decide_eq_false (by omega)), iteF ⟨false, rfl, iteT q1⟩⟩
      have c1 := Decidable.of_not_not c1
      refine ⟨_, _, rfl, rfl, true, congrArg V.bl (decide_eq_true (by omega)), ?_⟩
      by_cases c2 : ¬ ds.length ≤ 12
      · have q1 := q H (Same.refl _)
        rw [eqD, decide_eq_false c2, Bool.and_false, Bool.false_and] at q1
        exact ⟨_, _, rfl, rfl, false, congrArg V.bl (decide_eq_false (by omega)), iteT q1⟩
      have c2 := Decidable.of_not_not c2
      refine ⟨_, _, rfl, rfl, true, congrArg V.bl (decide_eq_true (by omega)), iteF ?_⟩
      rw [eqD, decide_eq_true c1, decide_eq_true c2, Bool.true_and, Bool.true_and] at q
      clear eqD
      refine ⟨_, rfl, a, rfl, ⟨_, SqL.of ha⟩, fun D nD => lc_list (K := K) (a := a) (xs := xs) (fun k H' => Same H H' ∧ H' D = some (.lst (((ds.take k).map (fun r => isLD r && decide (lenD r = wd))).map V.bl))) ⟨same_new nD, upd_same⟩ (fun k H' _ p => SqL.of (p.1 _ _ ha)) ?_ ?_⟩
      · rintro k y H' hk ⟨sm, hD⟩
        obtain ⟨dx, ex, hx⟩ := hall.get hk
        have li := (List.getElem?_eq_some_iff.mp ex).1
        have fin : ∀ b, b = (isLD dx && decide (lenD dx = wd)) → ∃ acc, H' D = some (.lst acc) ∧ acc.length < sizeLine ∧ Same H (upd H' D (.lst (acc ++ [V.bl b]))) ∧ upd H' D (.lst (acc ++ [V.bl b])) D = some (.lst (((ds.take (k + 1)).map (fun r => isLD r && decide (lenD r = wd))).map V.bl)) := fun b eb => by
          refine ⟨_, hD, ?_, fun b o e => ?_, ?_⟩
          · rw [List.length_map, List.length_map, List.length_take]
            exact small1000 (by omega)
          · rw [upd_ne (ne_of_none (H := H) e nD)]
            exact sm _ _ e
          · rw [upd_same, List.take_add_one, ex, List.map_append, List.map_append, eb]
            rfl
        have hx2 := hx.keep sm
        obtain ⟨t2, ty2, kt2⟩ := da_isL (K := K) hx2
        refine ⟨rfl, _, rfl, _, _, t2, _, isLD dx, rfl, .ty "list", ty2, kt2, isLD dx, rfl, ?_⟩
        by_cases il2 : isLD dx = false
        · rw [il2]
          exact iteF (fin false (by rw [il2]; rfl))
        cases hx2 with
        | @lst a2 xs2 ds2 ha2 hall2 =>
          have lx2 : xs2.length = ds2.length := da_len hall2
          refine iteT ⟨_, rfl, _, ds2.length, rfl, .inl ⟨_, SqL.of ha2, lx2.symm⟩, _, rfl, rfl, ?_⟩
          refine fin _ ?_
          show decide (V.int (ds2.length : Int) = V.int (wd : Int)) = decide (ds2.length = wd)
          exact decide_eq_decide.mpr ⟨fun z => by have := V.int.inj z; omega, fun z => by rw [z]⟩
        | _ => exact absurd rfl il2
      rintro H1 ⟨s1, hD⟩
      rw [lx, List.take_length] at hD
      refine ⟨D, _, rfl, SqL.of hD, _, rfl, ?_⟩
      rw [all_bl]
      cases ea : ds.all (fun r => isLD r && decide (lenD r = wd)) with
      | false =>
        have q1 := q H1 s1
        rw [ea, Bool.false_and] at q1
        exact iteT q1
      | true =>
        rw [ea, Bool.true_and] at q
        refine iteF ?_
        have ha1 := s1 _ _ ha
        refine ⟨_, rfl, a, rfl, ⟨_, SqL.of ha1⟩, fun D2 nD2 => ?_⟩
        have row : ∀ r ∈ ds, (itemsD r).length ≤ 60 := fun r hr => by
          rw [items_len]
          exact (l2 r hr).1
        refine lc2_LR (K := K) (a := a) (xs := xs) (fun i H2 => Same H1 H2 ∧ H2 D2 = some (.lst ((((ds.take i).flatMap itemsD).map (entD ds.length)).map V.bl))) ⟨same_new nD2, upd_same⟩ (fun i H' _ p => SqL.of (p.1 _ _ ha1)) ?_ ?_
        · rintro i y H2 hi ⟨s2, hD2⟩
          obtain ⟨dx, ex, hx⟩ := hall.get hi
          have li := (List.getElem?_eq_some_iff.mp ex).1
          have mx := List.mem_of_getElem? ex
          have ix : isLD dx = true := by
            have := List.all_eq_true.mp ea dx mx
            rw [Bool.and_eq_true] at this
            exact this.1
          obtain ⟨_, se⟩ := l2 dx mx
          have row1 := row dx mx
          have fl := flat_le (ds := ds.take i) fun r hr => row r (List.mem_of_mem_take hr)
          rw [List.length_take] at fl
          have hx1 := hx.keep s1
          cases hx1 with
          | @lst a2 xs2 ds2 ha2 hall2 =>
            have lx2 : xs2.length = ds2.length := da_len hall2
            have se : ∀ e ∈ ds2, SE e := se
            have row1 : ds2.length ≤ 60 := row1
            refine ⟨rfl, ?_⟩
            refine ⟨_, rfl, a2, rfl, ⟨_, SqL.of (s2 _ _ ha2)⟩, in_lst (K := K) (a := a2) (xs := xs2) (fun j H3 => Same H1 H3 ∧ H3 D2 = some (.lst ((((ds.take i).flatMap itemsD ++ ds2.take j).map (entD ds.length)).map V.bl))) ⟨s2, by rw [List.take_zero, List.append_nil]; exact hD2⟩ (fun j H3 p => SqL.of (p.1 _ _ ha2)) ?_ ?_⟩
            · rintro j v H3 hj ⟨s3, hD3⟩
              obtain ⟨de, ee, he⟩ := hall2.get hj
              have lj := (List.getElem?_eq_some_iff.mp ee).1
              refine ⟨rfl, _, rfl, _, ds.length, rfl, .inl ⟨_, SqL.of (s3 _ _ ha1), lx.symm⟩, _, rfl, ds.length, v, de, rfl, he.keep s3, se de (List.mem_of_getElem? ee), _, hD3, ?_, fun b o e => ?_, ?_⟩
              · rw [List.length_map, List.length_map, List.length_append, List.length_take]
                exact small1000 (by omega)
              · rw [upd_ne (ne_of_none (H := H1) e nD2)]
                exact s3 _ _ e
              · rw [upd_same, List.take_add_one (l := ds2), ee]
                simp
            · rintro H3 ⟨s3, hD3⟩
              rw [lx2, List.take_length] at hD3
              refine ⟨s3, ?_⟩
              rw [hD3, List.take_add_one, ex, List.flatMap_append]
              simp [itemsD]
          | _ => cases ix
        · rintro H2 ⟨s2, hD2⟩
          rw [lx, List.take_length] at hD2
          refine ⟨D2, _, rfl, SqL.of hD2, ?_⟩
          have q1 := q H2 (s1.trans s2)
          rw [all_bl, List.all_flatMap]
          exact q1
    | _ => exact absurd rfl il
theorem ok_wrds (F : FnP K "is_list_of_words" sWrds f fd) (o_short : Ok P w K mg base "is_short_word" 2 ["value"] spShort) (z_isinstance : mg "isinstance" = none) (z_list : mg "list" = none) (z_len : mg "len" = none) (z_all : mg "all" = none) : FnOk P w K mg base CX0 3 f fd ["value", "how_many"] spWrds := by
  have nd := scWrds.nd
  refine F.ok scWrds (fun vs H Q E h => ?_) (fun cdv A outer s H vs Q E hr h => ?_)
  · obtain ⟨v, d, n, rfl, _⟩ := h
    rfl
  · obtain ⟨v, d, n, rfl, hd, l100, l2, q⟩ := h
    have r2 : Room 2 (A.deeper (envOfC "is_list_of_words" (defScope sWrds) s.heap.objs.size f cdv)) := hr
    refine ⟨_, PSs.nox (pss_one (ps_ret (pe_and (pe_callB call_isi (by rfl) z_isinstance (by decide +kernel) (pa_cons (pv 0) (pa_cons (pe_bltn (v := .ty "list") (by rfl) z_list (by decide +kernel) rfl) pa_nil))) (pe_and (pe_cmpR op_eq (pe_callB call_len (by rfl) z_len boot_len (pa_cons (pv 0) pa_nil)) (pv 1) (nomark _))
      (pe_one (pe_callB (cr_all rfl) (by rfl) z_all (by decide +kernel) (pa_cons
      (pe_lc (own := [("item", 2)]) (g := gName 2) (by rfl) nd (pi_list (pv 0)) (blkOk_by (N := nWrds) (sc := defScope sWrds) (own := [("item", 2)]) (by decide +kernel)) (fun _ _ _ _ _ => pg_name (i := 2) nd rfl (Or.inl rfl)) (fun _ _ _ _ _ => pts_nil)
        (fun _ _ _ _ _ => pe_callO o_short r2 (by rfl) (pa_cons (pv 2) pa_nil))) pa_nil))))))), ?_⟩
    obtain ⟨t, ty, kt⟩ := da_isL (K := K) hd
    refine ⟨_, rfl, _, _, t, _, isLD d, rfl, .ty "list", ty, kt, isLD d, rfl, ?_⟩
    by_cases il : isLD d = false
    · have q := q H (Same.refl _)
      rw [wrds_nl il] at q
      rw [il]
      exact iteF q
    cases hd with
    | @lst a xs ds ha hall =>
      have lx : xs.length = ds.length := da_len hall
      have l100 : ds.length ≤ 100 := l100
      have eqD : wrdsD n (.list ds) = (decide (ds.length = n) && ds.all shortD) := rfl
      rw [eqD] at q
      refine iteT ⟨_, rfl, _, ds.length, rfl, .inl ⟨_, SqL.of ha, lx.symm⟩, _, rfl, rfl, ?_⟩
      have ed : decide (V.int (ds.length : Int) = V.int (n : Int)) = decide (ds.length = n) := decide_eq_decide.mpr ⟨fun z => by have := V.int.inj z; omega, fun z => by rw [z]⟩
      refine ⟨decide (ds.length = n), by rw [← ed], ?_⟩
      by_cases c : ds.length = n
      · rw [decide_eq_true c] at q ⊢
        rw [Bool.true_and] at q
        refine iteT ?_
        refine ⟨_, rfl, a, rfl, ⟨_, SqL.of ha⟩, fun D nD => lc_list (K := K) (a := a) (xs := xs) (fun k H' => Same H H' ∧ H' D = some (.lst (((ds.take k).map shortD).map V.bl))) ⟨same_new nD, upd_same⟩ (fun k H' _ p => SqL.of (p.1 _ _ ha)) ?_ ?_⟩
        · rintro k y H' hk ⟨sm, hD⟩
          obtain ⟨dx, ex, hx⟩ := hall.get hk
          have li := (List.getElem?_eq_some_iff.mp ex).1
          have hx2 := hx.keep sm
          refine ⟨rfl, _, rfl, y, rfl, da_knG hx2, sl_da hx2 (l2 dx (List.mem_of_getElem? ex)), _, hD, ?_, fun b o e => ?_, ?_⟩
          · rw [List.length_map, List.length_map, List.length_take]
            exact small1000 (by omega)
          · rw [upd_ne (ne_of_none (H := H) e nD)]
            exact sm _ _ e
          · rw [upd_same, List.take_add_one, ex, List.map_append, List.map_append, short_da hx2]
            rfl
        · rintro H1 ⟨s1, hD⟩
          rw [lx, List.take_length] at hD
          refine ⟨D, _, rfl, SqL.of hD, ?_⟩
          rw [all_bl]
          exact q H1 s1
      · rw [decide_eq_false c] at q ⊢
        have q1 := q H (Same.refl _)
        rw [Bool.false_and] at q1
        exact iteF q1
    | _ => exact absurd rfl il
end
end KK
set_option Elab.async false
set_option linter.all false
set_option maxRecDepth 100000
set_option maxHeartbeats 2000000
/-! A def by its body, its code object known. -/
namespace XA
open PySem PySem.Spec PyProof.Rows L2 LamX
section
variable {P : Program} {w : World} {K : PySem.W.Frag} {mg : Str → Option Value} {base : Heap} {x qual : Str} {params : Arguments} {body : List Stmt} {scope : Scope} {dvs : List L2.V} {kws : List (Str × L2.V)} {f : Addr} {fd : FuncData}
theorem okC {CX : CXT} {N ps : List Str} {k : Nat} {sp : Sp} {c : Addr} (F : FunD K x qual params body scope dvs kws f fd) (hc : fd.code = .ref c) (S : FnScope N ps scope) (len : ∀ vs H Q E, sp vs H Q E → vs.length = ps.length)
    (bd : ∀ (A : Around) (o : List Env) (s : Shared) (H : Hp) (vs : List L2.V) (Q : VK) (E : XK), Room k (A.deeper (envOfC qual scope s.heap.objs.size f (.ref c))) → sp vs H Q E →
      ∃ t, PSs (cxOf CX P w K mg base N qual scope f (.ref c) A o s H E) body t ∧ t { nx := fun _ H' => Q .non H', rt := Q } (start N vs) H) : FnOk P w K mg base CX (k + 1) f fd ps sp := by
  obtain ⟨oc, od, dV, kV, doc, pm, an, cdv, ct, osl, rfl, lk, hcd, _, _⟩ := F.ex
  obtain rfl : cdv = .ref c := hc
  exact fn_of lk hcd S len bd
end
end XA
set_option Elab.async false
set_option linter.all false
set_option maxRecDepth 100000
set_option maxHeartbeats 2000000
/-! x(lambda: ..), called there within a try whose handler sets names. -/
namespace XA
open PySem PySem.Spec PyProof.Rows L2 LamX XV
section
variable {X : Cx} {pins : List (Addr × Obj)} {σ : L2.St} {H HZ : Hp} {s s1 : Shared}
theorem pe_actS {CXg : CXT} {Eg : XK} {Ng : List Str} {qg : Str} {sg : Scope} {g f c' : Addr} {cdg pm ctv : Value} {params : Arguments} {body : Expr} {scope : Scope} {k i : Nat} {a : Str} {pn : List (Addr × Obj)} {xe : Value → Shared → Prop} {W : WX} {tb : XK → TE} {p1 p2 : Pos}
    (I : Inv X pins σ H s) (L : LamP X.env.scope scope []) (hf : s.heap.get? f = some (PySem.W.kla_obj "<lambda>" (X.env.qual ++ "<lambda>") params body scope (cloFrom X.env.cells scope.names []) pm c' ctv)) (fn0 : H f = none) (fr0 : f ∉ frs X.stack)
    (hb : bindArgs (PySem.W.kla_fn "<lambda>" (X.env.qual ++ "<lambda>") params body scope (cloFrom X.env.cells scope.names []) pm (.ref c') ctv) ⟨[], []⟩ = pure [])
    (tk : Takes ((cxOf CXg X.prog X.w X.K X.mg X.base Ng qg sg g cdg X.A X.stack s H Eg).tr pn xe) W) (hr : Room (k + 1) (X.A.deeper (envOfC qg sg s.heap.objs.size g cdg)))
    (bd : ∀ (A : Around) (outer : List Env) (s : Shared) (H : Hp) (E : XK), Room k (A.deeper (lamEnv X scope s.heap.objs.size f c')) → PE (lamPx X A outer s H E scope [] f c') body (tb E))
    (hN : Ng[i]? = some a) (hv : Vis sg a)
    (hd : (a == ("__debug__" : Str)) = false := by decide) (hcd : (a == ("__classdict__" : Str)) = false := by decide) :
    PE ((cxOf CXg X.prog X.w X.K X.mg X.base Ng qg sg g cdg X.A X.stack s H Eg).tr pn xe) (.Call (.Name a p1) [] [] p2)
      (fun σZ HZ Q => σZ[i]? = some (some (.ref f)) ∧ HZ c' = some (CodeO c' (X.env.qual ++ "<lambda>")) ∧ tb (WE W σZ) σ HZ Q) := by
  refine ⟨fun pinsZ sZ σZ HZ Q IZ ⟨hs, hc, hq⟩ => ?_⟩
  have here : ∀ {σY : L2.St} {HY : Hp} {sY : Shared} {pY : List (Addr × Obj)}, Inv ((cxOf CXg X.prog X.w X.K X.mg X.base Ng qg sg g cdg X.A X.stack s H Eg).tr pn xe) pY σY HY sY → sY.heap.get? f = some (PySem.W.kla_obj "<lambda>" (X.env.qual ++ "<lambda>") params body scope (cloFrom X.env.cells scope.names []) pm c' ctv) := fun IY =>
    IY.base.keep f _ hf fn0 fr0 (fun z => nomatch (show f ∈ ([] : List Addr) from z))
  refine wpAny_Call_Name_kw (thn ((pe_var (pos := p1) (i := i) hN hv hd hcd).run pinsZ sZ σZ HZ (fun v H1 => v = .ref f ∧ H1 = HZ) IZ ⟨.ref f, hs, rfl, rfl⟩) fun u s1 ⟨v, H1, I1, r1, q1⟩ => ?_)
  obtain ⟨rfl, rfl⟩ := q1
  obtain rfl : u = Value.ref f := r1
  refine PySem.W.callWith_F0 ⟨_, _, _, _, here I1⟩ ?_
  have un : Un (frs X.stack) [] H H1 s.heap s1.heap := I1.base
  obtain ⟨⟨oc, ws, tkC, o1, o2, o3⟩, _, _⟩ := I1.hok c' _ hc
  have run : codeAny (model X.prog X.w) (X.A.deeper (envOfC qg sg s.heap.objs.size g cdg)) (.call (.ref f) ⟨[], []⟩) (CR (L2.CX X.prog X.w) (envOfC qg sg s.heap.objs.size g cdg :: X.stack) X.prog X.w H1 s1 Q (WE W σZ)) s1 := by
    refine PySem.W.kla_callFunE hr.depth (here I1) rfl L.co L.gen rfl ⟨c', oc, ws, tkC, rfl, o1, o2, o3⟩ ?_
    rw [hb]
    refine wpAny_pure (wpAny_newFunctionEnv L.nc (fun y hy => nomatch hy) (fun h1 ns1 sb => ⟨I1.nolimit.fresh _ sb, ?_⟩) L.kind)
    show codeAny _ _ (.expr body (lamEnv X scope s1.heap.objs.size f c')) _ _
    have kp : ∀ b o, s1.heap.get? b = some o → h1.get? b = some o := fun b o e => sb.extBut b o (Nat.ne_of_lt (Heap.lt_size e)) (Heap.get?_push_of_some _ e)
    have J : Inv (lamPx X (X.A.deeper (envOfC qg sg s.heap.objs.size g cdg)) (envOfC qg sg s.heap.objs.size g cdg :: X.stack) s1 H1 (WE W σZ) scope [] f c') [] σ H1 { s1 with heap := h1, toks := s1.toks + ([] : List (Str × Value)).length } :=
      lam_startP (vs := []) (us := []) I L I1.env0 hr.hd un rfl .nil ns1 kp
    refine PySem.W.kla_codeExpr (wpAny_mono ((bd _ _ s1 H1 _ (hr.deeper _)).run [] _ _ H1 Q J hq) (fun v s' z => ?_) fun e s' z => z)
    obtain ⟨w', H', J', rv, q⟩ := z
    exact ⟨w', H', J'.os, J'.bare, J'.base, J'.hok, rv, q⟩
  refine wpAny_call (codeAny_mono run fun r' s' z => ?_)
  cases r' with
  | error er => exact passAt tk σZ pinsZ H1 s1 er s' I1 z
  | ok fl => cases fl with
    | ret u => exact I1.after z
    | next => exact z.elim
    | brk => exact z.elim
    | cont => exact z.elim
end
def GivesS (X : Cx) (Ng : List Str) (x : Str) (sg : Scope) (g : Addr) (cdg : Value) (bg : List Stmt) (a : Str) (TT : (XK → Hp → VK → Prop) → Hp → VK → Prop) : Prop :=
  ∀ (f : Addr) (s : Shared) (H : Hp) (Q : VK) (tl : XK → Hp → VK → Prop) (C : Hp → Prop), (∀ (W : WX) (pn : List (Addr × Obj)) (xe : Value → Shared → Prop) (p1 p2 : Pos), Takes ((inX X Ng x sg g cdg s H).tr pn xe) W →
      PE ((inX X Ng x sg g cdg s H).tr pn xe) (.Call (.Name a p1) [] [] p2) (fun σZ HZ Q => σZ[0]? = some (some (.ref f)) ∧ C HZ ∧ tl (WE W σZ) HZ Q)) → (∀ H1 H2, ExtN H1 H2 → C H1 → C H2) → C H → TT tl H Q →
    ∃ t, PSs (inX X Ng x sg g cdg s H).nox bg t ∧ t { nx := fun _ H' => Q .non H', rt := Q } (L2.start Ng [.ref f]) H
def tLamS (T : List (Addr × Str)) (TT : (XK → Hp → VK → Prop) → Hp → VK → Prop) (tb : XK → TE) : TE := fun σ H Q => Tabs T H ∧ ∀ H1, ExtN H H1 → Tabs T H1 → TT (fun E HY Q' => tb E σ HY Q') H1 Q
section
variable {X : Cx}
theorem pe_lamcallS {T : List (Addr × Str)} {TT : (XK → Hp → VK → Prop) → Hp → VK → Prop} {x a : Str} {g c P : Addr} {k : Nat} {pg : Arguments} {bg : List Stmt} {sg : Scope} {fdg : FuncData} {Ng : List Str} {params : Arguments} {body : Expr} {scope : Scope} {tb : XK → TE} {p lpos pos : Pos}
    (F : FunD X.K x x pg bg sg [] [] g fdg) (hm : X.mg x = some (.ref g)) (hg : Gl X x) (bnd : L2.Binds X.K fdg [a] []) (Sg : FnScope Ng [a] sg) (hNg : Ng[0]? = some a) (hva : Vis sg a)
    (hG : ∀ cdg, GivesS X Ng x sg g cdg bg a TT)
    (TB : TabB X.base X.mg c P) (hcode : X.env.code = .ref c) (hmT : (P, X.env.qual ++ "<lambda>") ∈ T) (hu : ∀ p ∈ T, p.1 = P → p.2 = X.env.qual ++ "<lambda>") (hr : Room (k + 2) X.A) (L : LamP X.env.scope scope []) (hdef : defaultsOf params X.env = ([], []))
    (hb : ∀ (q : Str) (cl : List (Str × Addr)) (pm cv ctv : Value), bindArgs (PySem.W.kla_fn "<lambda>" q params body scope cl pm cv ctv) ⟨[], []⟩ = pure [])
    (bd : ∀ (A : Around) (outer : List Env) (s : Shared) (H : Hp) (E : XK) (f c' : Addr), Room k (A.deeper (lamEnv X scope s.heap.objs.size f c')) → PE (lamPx X A outer s H E scope [] f c') body (tb E))
    (hdb : (x == ("__debug__" : Str)) = false := by decide) (hd : (a == ("__debug__" : Str)) = false := by decide) (hcd : (a == ("__classdict__" : Str)) = false := by decide) :
    PE X (.Call (.Name x p) [.Lambda params body scope lpos] [] pos) (tLamS T TT tb) := by
  obtain ⟨oc, od, dV, kV, doc, pm0, an, cdv, ct, osl, rfl, lk, hcg, _, _⟩ := F.ex
  refine ⟨fun pins s σ H Q I ⟨hT, hq⟩ => ?_⟩
  refine wpAny_Call_Name_kw (ld_glob I hg hm ?_ hdb)
  refine PySem.W.callWith_K (h₀ := X.base) I.ok.mod.kin F.kp ?_ (by rfl) (by rfl)
  show wpAny _ _ (spliced [(false, eval (.Lambda params body scope lpos) X.env)]) _ _ s
  refine Calls.spliced_cons (lam_make2 I TB hcode hmT hu hT hdef (L.has I.ok) fun f c' pm' ctv H1 s' I1 eN T1 hf fn0 fr0 hco => ?_)
  refine Calls.spliced_nil ⟨I1.kIn, ?_⟩
  have run : codeAny (model X.prog X.w) X.A (.call (.ref g) ⟨[.ref f], []⟩) (CR C8.CX0 X.stack X.prog X.w H1 s' Q C8.E0) s' := by
    refine run_ofS (N := Ng) (ps := [a]) (us := [.ref f]) (vs := [.ref f]) lk hcg Sg hr I1.env0 (bnd s' [.ref f] I1.kIn rfl) (.cons rfl .nil) rfl fun hr' => ?_
    obtain ⟨t', ht', hq'⟩ := hG cdv f s' H1 Q (fun E HY Q' => tb E σ HY Q') (fun HY => HY c' = some (CodeO c' (X.env.qual ++ "<lambda>")))
      (fun W pn xe p1 p2 tk => pe_actS (i := 0) I1 L hf fn0 fr0 (hb _ _ _ _ _) tk hr' (fun A outer s H E hr2 => bd A outer s H E f c' hr2) hNg hva hd hcd)
      (fun H1 H2 e h => codeO_ext e h) hco (hq H1 eN T1)
    exact ⟨t', ht'.nox, hq'⟩
  refine wpAny_call (codeAny_mono run fun r' s2 z => ?_)
  cases r' with
  | error er => exact (show False from z).elim
  | ok fl => cases fl with
    | ret u => exact I1.after z
    | next => exact z.elim
    | brk => exact z.elim
    | cont => exact z.elim
end
end XA
set_option Elab.async false
set_option linter.all false
set_option maxRecDepth 100000
set_option maxHeartbeats 2000000
/-! Defs where nothing guards, their code objects told; literals whose parts are new; calls of a local that holds a def, an error let out. -/
namespace XV
open PySem PySem.Spec PyProof.Rows L2 LamX
section
variable {P : Program} {w : World} {K : PySem.W.Frag} {mg : Str → Option Value} {base : Heap} {x qual : Str} {params : Arguments} {body : List Stmt} {scope : Scope} {dvs : List V} {kws : List (Str × V)} {f : Addr} {fd : FuncData}
/-- a def by its body, where nothing guards, its code object told -/
theorem okGC {c : Addr} {Z : CXT} {N ps : List Str} {k : Nat} {sp : Sp} (F : FunD K x qual params body scope dvs kws f fd) (hc : fd.code = .ref c) (S : FnScope N ps scope) (gl : ∀ l H Q E, sp l H Q E → l.length = ps.length)
    (bd : ∀ (A : Around) (o : List Env) (s : Shared) (H : Hp) (l : List V) (Q : VK) (E : XK), (A.deeper (envOfC qual scope s.heap.objs.size f (.ref c))).guards = some [] → Room k (A.deeper (envOfC qual scope s.heap.objs.size f (.ref c))) → sp l H Q E →
      ∃ t, PSs (cxOf Z P w K mg base N qual scope f (.ref c) A o s H E) body t ∧ t { nx := fun _ H' => Q .non H', rt := Q } (start N l) H) : FnG P w K mg base Z (k + 1) f fd ps sp := by
  obtain ⟨oc, od, dV, kV, doc, pm, an, cdv, ct, osl, rfl, lk, hcd, _, _⟩ := F.ex
  obtain rfl : cdv = .ref c := hc
  refine ⟨gl, fun A o s H ar us l Q E ag hr e0 hb r hs => ?_⟩
  have hlen := gl _ _ _ _ hs
  have inK : K.In s.heap := e0.mod.kin.keeps fun b ob e => (e0.bs b ob e).1
  have nol : s.heap.NoLimit := e0.mod.nolimit.keeps fun b ob e => (e0.bs b ob e).1
  have kinds : ∀ y ∈ ps.zip us, scope.names.lookup y.1 = some .local ∨ (scope.names.lookup y.1 = some .cell ∧ ((cellsFrom (s.heap.objs.size + 1) scope.names []).lookup y.1).isSome = true) := by
    rintro ⟨n, v⟩ hy
    exact (S.par n (List.of_mem_zip hy).1).imp id fun q => ⟨q, PySem.W.cellsFrom_some _ _ _ (.inl q)⟩
  refine codeAny_call_function hr.depth (inK _ _ lk) rfl S.co S.gen rfl (PySem.W.codeRec_of inK hcd) (hb _ _ _ _ ?_)
  refine wpAny_newFunctionEnv_cells S.kind kinds fun env he s1 xx => ?_
  subst he
  refine ⟨nol.keeps xx.toInCall.keep, codeAny_func ?_⟩
  obtain ⟨t, ht, hq⟩ := bd A o s H l Q E (show A.guards = some [] from ag) (hr.deeper _) hs
  have J0 := inv_start (CX := Z) (E := E) S hr.hd e0 hlen r xx
  refine wpAny_mono (ht.run [] s1 (start N l) H _ J0 hq) (fun fl s' z => ?_) fun e s' z => z
  have done : ∀ {τ : L2.St} {H' : Hp} {v : V} {u : Value}, Inv (cxOf Z P w K mg base N qual scope f (.ref c) A o s H E) [] τ H' s' → RelV v u → Q v H' → CE o P w H s Q u s' := fun J rv q => ⟨_, _, J.os, J.bare, J.base, J.hok, rv, q⟩
  cases fl with
  | next =>
    obtain ⟨τ, H', J, q⟩ := z
    exact done (v := V.non) (u := Value.none) J rfl q
  | ret u =>
    obtain ⟨v, τ, H', J, rv, q⟩ := z
    exact done J rv q
  | brk =>
    obtain ⟨_, _, _, q⟩ := z
    exact q.elim
  | cont =>
    obtain ⟨_, _, _, q⟩ := z
    exact q.elim
end
mutual
theorem Da.keepN {H H' : Hp} (s : ExtN H H') : ∀ {d : PyData} {v : V}, Da H v d → Da H' v d
  | _, _, .non => .non
  | _, _, .bl b => .bl b
  | _, _, .int i => .int i
  | _, _, .str x => .str x
  | _, _, .lst h a => .lst (s _ _ h fun _ z => by cases z) (DaAll.keepN s a)
  | _, _, .tup h a => .tup (s _ _ h fun _ z => by cases z) (DaAll.keepN s a)
theorem DaAll.keepN {H H' : Hp} (s : ExtN H H') : ∀ {ds : List PyData} {vs : List V}, DaAll H vs ds → DaAll H' vs ds
  | _, _, .nil => .nil
  | _, _, .cons h r => .cons (Da.keepN s h) (DaAll.keepN s r)
end
theorem DaAll.app {H : Hp} : ∀ {ds es : List PyData} {vs us : List V}, DaAll H vs ds → DaAll H us es → DaAll H (vs ++ us) (ds ++ es)
  | _, _, _, _, .nil, r => r
  | _, _, _, _, .cons h q, r => .cons h (DaAll.app q r)
theorem DaAll.rep {H : Hp} {d : PyData} {v : V} (h : Da H v d) : ∀ n : Nat, DaAll H (List.replicate n v) (List.replicate n d)
  | 0 => .nil
  | n + 1 => .cons h (DaAll.rep h n)
/-- what is new in H' -/
def dif (H H' : Hp) : Hp := fun a => if (H a).isNone then H' a else none
theorem dif_same {H H' : Hp} : Same (dif H H') H' := fun a o e => by
  unfold dif at e
  split at e
  · exact e
  · cases e
theorem dif_s {H H1 H2 : Hp} (s : Same H1 H2) : Same (dif H H1) (dif H H2) := fun a o e => by
  unfold dif at e ⊢
  split at e
  · rename_i h
    rw [if_pos h]
    exact s _ _ e
  · cases e
theorem dif_b {H H1 H2 : Hp} (s : Same H H1) : Same (dif H1 H2) (dif H H2) := fun a o e => by
  unfold dif at e ⊢
  split at e
  · rename_i h
    have hn : H a = none := by
      cases q : H a with
      | none => rfl
      | some o =>
        rw [s _ _ q] at h
        cases h
    rw [if_pos (by rw [hn]; rfl)]
    exact e
  · cases e
theorem dif_at {H H1 : Hp} {p : Addr} {o : HO} (s : Same H H1) (np : H1 p = none) : dif H (upd H1 p o) p = some o := by
  have hn : H p = none := by
    cases q : H p with
    | none => rfl
    | some o =>
      rw [s _ _ q] at np
      cases np
  unfold dif
  rw [if_pos (by rw [hn]; rfl)]
  exact upd_same
/-- all but what stands at d -/
def rm (d : Addr) (H : Hp) : Hp := fun a => if a = d then none else H a
theorem rm_at {d : Addr} {H : Hp} : rm d H d = none := if_pos rfl
theorem rm_s {d : Addr} {H : Hp} : Same (rm d H) H := fun a o e => by
  unfold rm at e
  split at e
  · cases e
  · exact e
theorem dif_rm {H H' : Hp} {d : Addr} (h : H d ≠ none) : Same (dif H H') (rm d H') := fun a o e => by
  unfold dif at e
  split at e
  · rename_i q
    unfold rm
    rw [if_neg (fun z => h (by rw [← z]; exact Option.isNone_iff_eq_none.mp q))]
    exact e
  · cases e
theorem dif_none {H H' : Hp} {d : Addr} (h : H d ≠ none) : dif H H' d = none := by
  unfold dif
  split
  · rename_i q
    exact absurd (Option.isNone_iff_eq_none.mp q) h
  · rfl
theorem ext_rm {H H' : Hp} {d : Addr} (s : ExtN H H') (n : H d = none) : ExtN H (rm d H') := fun a o e q => by
  unfold rm
  rw [if_neg (ne_of_none e n)]
  exact s _ _ e q
/-- the reading of written data, all of it new -/
def tLitN (d : PyData) : TE := fun _ H Q => ∀ (v : V) (H' : Hp), Same H H' → Da (dif H H') v d → Q v H'
def tLitsN (ds : List PyData) : TA := fun _ H Q => ∀ (vs : List V) (H' : Hp), Same H H' → DaAll (dif H H') vs ds → vs.length = ds.length → Q vs H'
theorem lits_okN {X : Cx} {f : Expr → Option PyData} (hf : ∀ e d, f e = some d → PE X e (tLitN d)) (hs : ∀ e d es, f e = some d → starEach (e :: es) X.env = (false, eval e X.env) :: starEach es X.env) :
    ∀ (es : List Expr) (ds : List PyData), litsN f es = some ds → PA X es (tLitsN ds)
  | [], ds, h => by
    cases h
    exact PA.le pa_nil fun σ H Q z => z [] H (fun _ _ e => e) .nil rfl
  | e :: es, ds, h => by
    unfold litsN at h
    split at h
    · rename_i d ds' h1 h2
      cases h
      exact PA.le (pa_cons (hf e d h1) (lits_okN hf hs es ds' h2) (hs e d es h1)) fun σ H Q z v H1 s1 p1 vs H2 s2 p2 l2 => z (v :: vs) H2 (s1.trans s2) (.cons (p1.keep (dif_s s2)) (p2.keep (dif_b s1))) (by rw [List.length_cons, List.length_cons, l2])
    · cases h
theorem lit_okN {X : Cx} : ∀ (n : Nat) (e : Expr) (d : PyData), litN n e = some d → PE X e (tLitN d)
  | 0, _, _, h => by cases h
  | n + 1, e, d, h => by
    have small : ∀ m : Nat, m ≤ 1000 → m ≤ sizeLine := fun m hm => by
      rw [sizeLine_eq]
      omega
    unfold litN at h
    split at h
    · cases h
      exact PE.le pe_non fun σ H Q z => z _ H (fun _ _ e => e) .non
    · cases h
      exact PE.le pe_bl fun σ H Q z => z _ H (fun _ _ e => e) (.bl _)
    · cases h
      exact PE.le pe_int fun σ H Q z => z _ H (fun _ _ e => e) (.int _)
    · cases h
      exact PE.le pe_str fun σ H Q z => z _ H (fun _ _ e => e) (.str _)
    · cases h
      exact PE.le (pe_un un_neg pe_int) fun σ H Q z => ⟨_, rfl, z _ H (fun _ _ e => e) (.int _)⟩
    · rename_i es p
      split at h
      · rename_i hl
        cases q : litsN (litN n) es with
        | none =>
          rw [q] at h
          cases h
        | some ds =>
          rw [q] at h
          cases h
          exact PE.le (pe_lst (lits_okN (lit_okN n) (fun _ _ _ => lit_star) es ds q)) fun σ H Q z vs H1 s1 p1 l1 => ⟨by rw [l1, litsN_len _ _ q]; exact small _ hl, fun p np =>
            z _ _ (s1.trans (same_new np)) (.lst (dif_at s1 np) (p1.keep (dif_s (same_new np))))⟩
      · cases h
    · rename_i es k p
      split at h
      · rename_i hl
        cases q : litsN (litN n) es with
        | none =>
          rw [q] at h
          cases h
        | some ds =>
          rw [q] at h
          cases h
          exact PE.le (pe_tup (lits_okN (lit_okN n) (fun _ _ _ => lit_star) es ds q)) fun σ H Q z vs H1 s1 p1 l1 => ⟨by rw [l1, litsN_len _ _ q]; exact small _ hl, fun p np =>
            z _ _ (s1.trans (same_new np)) (.tup (dif_at s1 np) (p1.keep (dif_s (same_new np))))⟩
      · cases h
    · cases h
theorem pe_litN {X : Cx} (n : Nat) {e : Expr} {d : PyData} (h : litN n e = some d) : PE X e (tLitN d) := lit_okN n e d h
theorem pa_nilL {X : Cx} : PA X [] (tLitsN []) := PA.le pa_nil fun σ H Q z => z [] H (fun _ _ e => e) .nil rfl
theorem pa_consL {X : Cx} {e : Expr} {es : List Expr} {d : PyData} {ds : List PyData} (he : PE X e (tLitN d)) (ha : PA X es (tLitsN ds)) (hs : starEach (e :: es) X.env = (false, eval e X.env) :: starEach es X.env := by rfl) : PA X (e :: es) (tLitsN (d :: ds)) :=
  PA.le (pa_cons he ha hs) fun σ H Q z v H1 s1 p1 vs H2 s2 p2 l2 => z (v :: vs) H2 (s1.trans s2) (.cons (p1.keep (dif_s s2)) (p2.keep (dif_b s1))) (by rw [List.length_cons, List.length_cons, l2])
theorem pe_lstL {X : Cx} {es : List Expr} {ds : List PyData} {p : Pos} (ha : PA X es (tLitsN ds)) (h : ds.length ≤ 1000) : PE X (.List es p) (tLitN (.list ds)) :=
  PE.le (pe_lst ha) fun σ H Q z vs H1 s1 p1 l1 => ⟨by rw [l1, sizeLine_eq]; omega, fun p np => z _ _ (s1.trans (same_new np)) (.lst (dif_at s1 np) (p1.keep (dif_s (same_new np))))⟩
/-! a call of a local name that holds a def -/
def tCallLX (i : Nat) (S : Addr → Prop) (sp : Sp) (E : XK) (t : TA) : TE := fun σ H Q => ∃ f, σ[i]? = some (some (.ref f)) ∧ S f ∧ t σ H fun vs H1 => sp vs H1 Q E
theorem pe_callLX {X : Cx} {K : PySem.W.Frag} {k i : Nat} {sp : Sp} {E : XK} {x : Str} {p pos : Pos} {e : Expr} {es : List Expr} {t : TA} {S : Addr → Prop} (eK : X.K = K) (A : ∀ f, S f → ∃ (fd : FuncData) (ps : List Str), FnOk X.prog X.w K X.mg X.base (L2.CX X.prog X.w) k f fd ps sp ∧ PySem.W.keepIn K (.ref f) = true ∧ L2.Binds K fd ps [])
    (tk : Takes X fun cls d _ H => E cls d H) (hr : Room k X.A) (hN : X.N[i]? = some x) (hv : Vis X.env.scope x) (ha : PA X (e :: es) t)
    (hdb : (x == ("__debug__" : Str)) = false := by decide) (hcd : (x == ("__classdict__" : Str)) = false := by decide)
    (he : starEach (e :: es) X.env = (false, eval e X.env) :: starEach es X.env := by rfl) (hpl : (backTo pos (starEach es X.env)).any (·.1) = false := by rfl) : PE X (.Call (.Name x p) (e :: es) [] pos) (tCallLX i S sp E t) := by
  subst eK
  refine ⟨fun pins s σ H Q I h => ?_⟩
  obtain ⟨f, hs, hS, ht⟩ := h
  obtain ⟨fd, ps, F, hk, hb⟩ := A f hS
  refine (pe_callL (i := i) (f := f) (sp := sp) (dvs := []) (E := E) F hr hN hv hk hb .nil (passes_call tk fun _ _ _ _ h => h) ha hdb hcd he hpl).run pins s σ H Q I ⟨hs, ?_⟩
  have e0 : (fun (vs : List V) (H1 : Hp) => sp (vs ++ []) H1 Q E) = fun vs H1 => sp vs H1 Q E := by
    funext vs H1
    rw [List.append_nil]
  show t σ H (fun vs H1 => sp (vs ++ []) H1 Q E)
  rw [e0]
  exact ht
theorem FnOk.weak {P : Program} {w : World} {K : PySem.W.Frag} {mg : Str → Option Value} {base : Heap} {CX : CXT} {k : Nat} {f : Addr} {fd : FuncData} {ps : List Str} {sp sp' : Sp} (F : FnOk P w K mg base CX k f fd ps sp) (h : ∀ vs H Q E, sp' vs H Q E → sp vs H Q E) : FnOk P w K mg base CX k f fd ps sp' :=
  ⟨fun vs H Q E z => F.len vs H Q E (h _ _ _ _ z), fun A o s H ar us vs Q E hr e0 b r z => F.run A o s H ar us vs Q E hr e0 b r (h _ _ _ _ z)⟩
end XV
set_option Elab.async false
set_option linter.all false
set_option maxRecDepth 100000
set_option maxHeartbeats 1000000
namespace KK
open PySem PySem.Spec PyProof.Rows L2 XV NM XT XA LamX
/-! ### makers -/
structure En where
  s : Nat
  w : Str
  b : Bool
deriving DecidableEq
structure Mm where
  z : Str
  R : List (List En)
  s : Nat
  cl : List Str
deriving DecidableEq
def enD (e : En) : PyData := .tuple [.int (e.s : Int), .str e.w, .bool e.b]
def rwD (r : List En) : PyData := .list (r.map enD)
def rsD (R : List (List En)) : PyData := .list (R.map rwD)
def clD (c : List Str) : PyData := .list (c.map PyData.str)
structure MmOk (m : Mm) : Prop where
  al : alphV (.str m.z) = true
  ascii : m.z.cps.all (· < 128) = true
  lz : m.z.length ≤ 26
  r1 : 1 ≤ m.R.length
  r2 : m.R.length ≤ 12
  rw : ∀ r ∈ m.R, r.length = m.z.length + 1 ∧ ∀ e ∈ r, e.s < m.R.length ∧ shortV (.str e.w) = true
  hs : m.s < m.R.length
  lc : m.cl.length = m.R.length
  hc : ∀ y ∈ m.cl, shortV (.str y) = true
theorem MmOk.nd {m : Mm} (o : MmOk m) : (cz m.z).Nodup := by
  have h := o.al
  have h : (wordV (.str m.z) && riseN (cz m.z)) = true := h
  rw [Bool.and_eq_true] at h
  exact ((riseN_iff _).1 h.2).imp fun h => Nat.ne_of_lt h
def fldM (z : Str) (s : Nat) (r e : Addr) : List (Str × V) := putF "_closing" (.ref e) (putF "_start" (.int s) (putF "_rows" (.ref r) (putF "_letters" (.str z) [])))
theorem fldM_l (z : Str) (s : Nat) (r e : Addr) : (fldM z s r e).lookup ("_letters" : Str) = some (.str z) := by
  unfold fldM
  rw [lookup_putF, if_neg (by decide +kernel), lookup_putF, if_neg (by decide +kernel), lookup_putF, if_neg (by decide +kernel), lookup_putF, if_pos rfl]
theorem fldM_r (z : Str) (s : Nat) (r e : Addr) : (fldM z s r e).lookup ("_rows" : Str) = some (.ref r) := by
  unfold fldM
  rw [lookup_putF, if_neg (by decide +kernel), lookup_putF, if_neg (by decide +kernel), lookup_putF, if_pos rfl]
theorem fldM_s (z : Str) (s : Nat) (r e : Addr) : (fldM z s r e).lookup ("_start" : Str) = some (.int s) := by
  unfold fldM
  rw [lookup_putF, if_neg (by decide +kernel), lookup_putF, if_pos rfl]
theorem fldM_c (z : Str) (s : Nat) (r e : Addr) : (fldM z s r e).lookup ("_closing" : Str) = some (.ref e) := by
  unfold fldM
  rw [lookup_putF, if_pos rfl]
theorem fldM_no (z : Str) (s : Nat) (r e : Addr) {x : Str} (h1 : ¬ x = "_closing") (h2 : ¬ x = "_start") (h3 : ¬ x = "_rows") (h4 : ¬ x = "_letters") : (fldM z s r e).lookup x = none := by
  unfold fldM
  rw [lookup_putF, if_neg h1, lookup_putF, if_neg h2, lookup_putF, if_neg h3, lookup_putF, if_neg h4]
  rfl
structure MT (K : PySem.W.Frag) (mg : Str → Option Value) (C : Addr) : Prop where
  ic : C8.InsC K C
  nL : NoAttr K C "_letters"
  nR : NoAttr K C "_rows"
  nS : NoAttr K C "_start"
  nC' : NoAttr K C "_closing"
  g : mg "Maker" = some (.ref C)
  kt : ∀ T ∈ tysD, PySem.W.kitOne K (.type T) (.ref C) = some false
theorem MT.ty {K : PySem.W.Frag} {mg : Str → Option Value} {C : Addr} (T : MT K mg C) {H : Hp} {a dx : Addr} {fs : List (Str × V)} (e : H a = some (.ins C dx fs)) : TyX K H (.ref a) (.ref C) := .base (.ins e T.ic.cl T.ic.ha T.ic.hn T.ic.htk T.ic.hm)
/-- a maker stands at x -/
def Ma (C : Addr) (H : Hp) (x : Addr) (m : Mm) : Prop := ∃ dx r e, H x = some (.ins C dx (fldM m.z m.s r e)) ∧ Da H (.ref r) (rsD m.R) ∧ H e = some (.lst (m.cl.map V.str))
theorem Ma.keepN {C : Addr} {H H' : Hp} (s : ExtN H H') {x : Addr} {m : Mm} (h : Ma C H x m) : Ma C H' x m := by
  obtain ⟨dx, r, e, h1, h2, h3⟩ := h
  exact ⟨dx, r, e, s _ _ h1 fun _ z => (by cases z), h2.keepN s, s _ _ h3 fun _ z => (by cases z)⟩
theorem Ma.keep {C : Addr} {H H' : Hp} (s : Same H H') {x : Addr} {m : Mm} (h : Ma C H x m) : Ma C H' x m := h.keepN (ExtN.of s)
theorem DaAll.ofGet {H : Hp} : ∀ {xs : List V} {ds : List PyData}, xs.length = ds.length → (∀ (i : Nat) x d, xs[i]? = some x → ds[i]? = some d → Da H x d) → DaAll H xs ds
  | [], [], _, _ => .nil
  | [], _ :: _, l, _ => by cases l
  | _ :: _, [], l, _ => by cases l
  | x :: xs, d :: ds, l, h => .cons (h 0 x d rfl rfl) (DaAll.ofGet (by simpa using l) fun i y e hy he => h (i + 1) y e (by simpa using hy) (by simpa using he))
theorem da_row {H : Hp} {v : V} {r : List En} (h : Da H v (rwD r)) : ∃ b ys, v = .ref b ∧ H b = some (.lst ys) ∧ DaAll H ys (r.map enD) := by
  cases h with
  | lst h a => exact ⟨_, _, rfl, h, a⟩
theorem da_rs {H : Hp} {v : V} {R : List (List En)} (h : Da H v (rsD R)) : ∃ b xs, v = .ref b ∧ H b = some (.lst xs) ∧ DaAll H xs (R.map rwD) ∧ xs.length = R.length := by
  cases h with
  | lst h a =>
    have := da_len a
    rw [List.length_map] at this
    exact ⟨_, _, rfl, h, a, this⟩
theorem da_en {H : Hp} {v : V} {e : En} (h : Da H v (enD e)) : ∃ t, v = .ref t ∧ H t = some (.tup [.int (e.s : Int), .str e.w, .bl e.b]) := by
  cases h with
  | @tup t xs ds h a =>
    cases a with
    | cons h1 r1 =>
      cases h1
      cases r1 with
      | cons h2 r2 =>
        cases h2
        cases r2 with
        | cons h3 r3 =>
          cases h3
          cases r3
          exact ⟨t, rfl, h⟩
theorem rs_at {H : Hp} {xs : List V} {R : List (List En)} {i : Nat} {y : V} (h : DaAll H xs (R.map rwD)) (hi : xs[i]? = some y) : ∃ b row ys, y = .ref b ∧ R[i]? = some row ∧ H b = some (.lst ys) ∧ DaAll H ys (row.map enD) := by
  obtain ⟨d, ed, hd⟩ := h.get hi
  rw [List.getElem?_map] at ed
  obtain ⟨row, er, rfl⟩ := Option.map_eq_some_iff.mp ed
  obtain ⟨b, ys, e, hb, a⟩ := da_row hd
  exact ⟨b, row, ys, e, er, hb, a⟩
theorem en_at {H : Hp} {ys : List V} {r : List En} {j : Nat} {e : En} (h : DaAll H ys (r.map enD)) (ej : r[j]? = some e) : ∃ t, ys[j]? = some (.ref t) ∧ H t = some (.tup [.int (e.s : Int), .str e.w, .bl e.b]) := by
  have l := da_len h
  rw [List.length_map] at l
  have lj := (List.getElem?_eq_some_iff.mp ej).1
  have ey : ys[j]? = some (ys[j]'(by omega)) := List.getElem?_eq_getElem (by omega)
  obtain ⟨d, ed, hd⟩ := h.get ey
  rw [List.getElem?_map, ej] at ed
  cases ed
  obtain ⟨t, et, ht⟩ := da_en hd
  rw [et] at ey
  exact ⟨t, ey, ht⟩
/-! copies of rows, one by one: new lists, the entries as they were -/
def RwAt (H0 H : Hp) (xs : List V) (n : Nat) (R : List (List En)) : Prop := ∀ (j : Nat) row, j < n → R[j]? = some row → ∃ b ys, xs[j]? = some (.ref b) ∧ H0 b = none ∧ H b = some (.lst ys) ∧ DaAll H0 ys (row.map enD)
def RwN (H0 H : Hp) (p : Addr) (R : List (List En)) : Prop := ∃ xs, H p = some (.lst xs) ∧ H0 p = none ∧ xs.length = R.length ∧ xs.Nodup ∧ (∀ y ∈ xs, y ≠ .ref p ∧ ∃ b, y = .ref b ∧ H0 b = none) ∧ RwAt H0 H xs R.length R
def CpM (H1 : Hp) (D : Addr) (R : List (List En)) (i : Nat) (H' : Hp) : Prop := Same H1 H' ∧ ∃ acc, H' D = some (.lst acc) ∧ acc.length = i ∧ (∀ y ∈ acc, y ≠ .ref D ∧ ∃ b o, y = .ref b ∧ H1 b = none ∧ H' b = some o) ∧ acc.Nodup ∧ RwAt H1 H' acc i R
theorem cm_0 {H1 : Hp} {D : Addr} {R : List (List En)} (nD : H1 D = none) : CpM H1 D R 0 (upd H1 D (.lst [])) := ⟨same_new nD, [], upd_same, rfl, fun y hy => (by cases hy), .nil, fun j row h => absurd h (Nat.not_lt_zero j)⟩
theorem cm_s {H1 H' : Hp} {D l : Addr} {R : List (List En)} {i : Nat} {row : List En} {ys : List V} (p : CpM H1 D R i H') (nD : H1 D = none) (er : R[i]? = some row) (hy : DaAll H1 ys (row.map enD)) (l60 : R.length ≤ 60) (nl : H' l = none) :
    ∃ acc, upd H' l (.lst ys) D = some (.lst acc) ∧ acc.length < sizeLine ∧ CpM H1 D R (i + 1) (upd (upd H' l (.lst ys)) D (.lst (acc ++ [.ref l]))) := by
  obtain ⟨sm, acc, hD, la, nA, ndA, at_⟩ := p
  have li := (List.getElem?_eq_some_iff.mp er).1
  have s2 := same_new (o := .lst ys) nl
  have hD2 := s2 _ _ hD
  have nlD : l ≠ D := fun z => by
    rw [z, hD] at nl
    cases nl
  have nl1 : H1 l = none := was_none sm nl
  refine ⟨acc, hD2, small1000 (by omega), fun c o e => ?_, acc ++ [.ref l], upd_same, by rw [List.length_append, la]; rfl, fun y hy => ?_, ?_, fun j r hj ej => ?_⟩
  · rw [upd_ne (ne_of_none (H := H1) e nD)]
    exact s2 _ _ (sm _ _ e)
  · rcases List.mem_append.mp hy with h | h
    · obtain ⟨h1, b, o, e1, e2, e3⟩ := nA y h
      refine ⟨h1, b, o, e1, e2, ?_⟩
      rw [upd_ne (fun z => h1 (by rw [e1, z]))]
      exact s2 _ _ e3
    · rw [List.mem_singleton.mp h]
      refine ⟨fun z => nlD (V.ref.inj z), l, .lst ys, rfl, nl1, ?_⟩
      rw [upd_ne nlD]
      exact upd_same
  · refine List.nodup_append.mpr ⟨ndA, List.pairwise_singleton _ _, fun y hy z hz ez => ?_⟩
    rw [List.mem_singleton.mp hz] at ez
    obtain ⟨_, b, o, e1, _, e3⟩ := nA y hy
    rw [ez] at e1
    cases e1
    rw [nl] at e3
    cases e3
  · by_cases c : j = i
    · subst c
      rw [er] at ej
      cases ej
      refine ⟨l, ys, ?_, nl1, ?_, hy⟩
      · rw [List.getElem?_append_right (by omega), la, Nat.sub_self]
        rfl
      · rw [upd_ne nlD]
        exact upd_same
    · obtain ⟨b, zs, e1, e2, e3, e4⟩ := at_ j r (by omega) ej
      refine ⟨b, zs, ?_, e2, ?_, e4⟩
      · rw [List.getElem?_append_left (by omega)]
        exact e1
      · rw [upd_ne (fun z => (nA _ (List.mem_of_getElem? e1)).1 (by rw [z]))]
        exact s2 _ _ e3
theorem cm_e {H1 H' : Hp} {D : Addr} {R : List (List En)} {i : Nat} (p : CpM H1 D R i H') (nD : H1 D = none) (e : i = R.length) : RwN H1 H' D R := by
  obtain ⟨sm, acc, hD, la, nA, ndA, at_⟩ := p
  subst e
  exact ⟨acc, hD, nD, la, ndA, fun y hy => ⟨(nA y hy).1, (nA y hy).2.elim fun b ⟨o, e1, e2, _⟩ => ⟨b, e1, e2⟩⟩, at_⟩
theorem RwN.keep {H0 H H' : Hp} {p : Addr} {R : List (List En)} (h : RwN H0 H p R) (s : Same H H') : RwN H0 H' p R := by
  obtain ⟨xs, h1, h2, h3, h4, h5, h6⟩ := h
  refine ⟨xs, s _ _ h1, h2, h3, h4, h5, fun j row hj ej => ?_⟩
  obtain ⟨b, ys, e1, e2, e3, e4⟩ := h6 j row hj ej
  exact ⟨b, ys, e1, e2, s _ _ e3, e4⟩
/-- as data, in a part of the heap that holds the new lists and the old tuples -/
theorem RwN.da {H0 H G : Hp} {p : Addr} {R : List (List En)} (h : RwN H0 H p R) (gp : ∀ a xs, H a = some (.lst xs) → H0 a = none → G a = some (.lst xs)) (gt : ∀ a xs, H0 a = some (.tup xs) → G a = some (.tup xs)) : Da G (.ref p) (rsD R) := by
  obtain ⟨xs, h1, h2, h3, h4, h5, h6⟩ := h
  refine .lst (gp _ _ h1 h2) (DaAll.ofGet (by rw [h3, List.length_map]) fun i x d ex ed => ?_)
  rw [List.getElem?_map] at ed
  obtain ⟨row, er, rfl⟩ := Option.map_eq_some_iff.mp ed
  obtain ⟨b, ys, e1, e2, e3, e4⟩ := h6 i row (List.getElem?_eq_some_iff.mp er).1 er
  rw [ex] at e1
  cases e1
  refine .lst (gp _ _ e3 e2) (DaAll.ofGet (by rw [da_len e4]) fun j y d ey ed => ?_)
  obtain ⟨d', ed', hd'⟩ := e4.get ey
  rw [ed] at ed'
  cases ed'
  rw [List.getElem?_map] at ed
  obtain ⟨en, _, rfl⟩ := Option.map_eq_some_iff.mp ed
  cases hd' with
  | tup ht ha =>
    refine .tup (gt _ _ ht) ?_
    cases ha with
    | cons h1 r1 =>
      cases h1
      cases r1 with
      | cons h2 r2 =>
        cases h2
        cases r2 with
        | cons h3 r3 =>
          cases h3
          cases r3
          exact .cons (.int _) (.cons (.str _) (.cons (.bl _) .nil))
theorem RwN.dS {H0 H : Hp} {p : Addr} {R : List (List En)} (h : RwN H0 H p R) (s : ∀ a xs, H0 a = some (.tup xs) → H a = some (.tup xs)) : Da H (.ref p) (rsD R) := h.da (fun _ _ e _ => e) s
/-- a maker whose lists are new since H0 -/
def MaN (C : Addr) (H0 H : Hp) (x : Addr) (m : Mm) : Prop := ∃ dx r e, H x = some (.ins C dx (fldM m.z m.s r e)) ∧ RwN H0 H r m.R ∧ H0 e = none ∧ H e = some (.lst (m.cl.map V.str))
theorem MaN.ma {C : Addr} {H0 H : Hp} {x : Addr} {m : Mm} (h : MaN C H0 H x m) (s : ∀ a xs, H0 a = some (.tup xs) → H a = some (.tup xs)) : Ma C H x m := by
  obtain ⟨dx, r, e, h1, h2, h3, h4⟩ := h
  exact ⟨dx, r, e, h1, h2.dS s, h4⟩
/-- a maker that stands in a part of the heap without Z -/
def MaZ (C : Addr) (H : Hp) (x : Addr) (m : Mm) (Z : Addr → Prop) : Prop := ∃ G, Same G H ∧ (∀ a, Z a → G a = none) ∧ Ma C G x m
theorem MaZ.ma {C : Addr} {H : Hp} {x : Addr} {m : Mm} {Z : Addr → Prop} (h : MaZ C H x m Z) : Ma C H x m := by
  obtain ⟨G, s, _, g⟩ := h
  exact g.keep s
theorem MaZ.keep {C : Addr} {H H' : Hp} {x : Addr} {m : Mm} {Z : Addr → Prop} (h : MaZ C H x m Z) (s : Same H H') : MaZ C H' x m Z := by
  obtain ⟨G, s1, z, g⟩ := h
  exact ⟨G, s1.trans s, z, g⟩
theorem MaZ.upd {C : Addr} {H : Hp} {x o : Addr} {v : HO} {m : Mm} {Z : Addr → Prop} (h : MaZ C H x m Z) (zo : Z o) : MaZ C (upd H o v) x m Z := by
  obtain ⟨G, s1, z, g⟩ := h
  refine ⟨G, fun a w e => ?_, z, g⟩
  rw [upd_ne (ne_of_none e (z o zo))]
  exact s1 _ _ e
theorem MaZ.but {C : Addr} {H H' : Hp} {x g : Addr} {m : Mm} {Z : Addr → Prop} (h : MaZ C H x m Z) (zo : Z g) (b : But H H' g) : MaZ C H' x m Z := by
  obtain ⟨G, s1, z, gm⟩ := h
  exact ⟨G, fun a w e => b _ _ (ne_of_none e (z g zo)) (s1 _ _ e), z, gm⟩
theorem MaZ.sub {C : Addr} {H : Hp} {x : Addr} {m : Mm} {Z Z' : Addr → Prop} (h : MaZ C H x m Z) (i : ∀ a, Z' a → Z a) : MaZ C H x m Z' := by
  obtain ⟨G, s1, z, gm⟩ := h
  exact ⟨G, s1, fun a za => z a (i a za), gm⟩
theorem Ma.z {C : Addr} {H : Hp} {x : Addr} {m : Mm} (h : Ma C H x m) : MaZ C H x m fun a => H a = none := ⟨H, Same.refl _, fun _ z => z, h⟩
/-- all but the lists that were there -/
def noL (H0 H : Hp) : Hp := fun a => match H0 a with
  | some (.lst _) => none
  | _ => H a
theorem noL_eq {H0 H : Hp} {a : Addr} (h : ∀ xs, H0 a ≠ some (.lst xs)) : noL H0 H a = H a := by
  unfold noL
  split
  · rename_i xs e
    exact absurd e (h xs)
  · rfl
theorem noL_no {H0 H : Hp} {a : Addr} (h : ∃ xs, H0 a = some (.lst xs)) : noL H0 H a = none := by
  obtain ⟨xs, e⟩ := h
  unfold noL
  rw [e]
theorem noL_s {H0 H : Hp} : Same (noL H0 H) H := fun a o e => by
  unfold noL at e
  split at e
  · cases e
  · exact e
/-- the lists that were there before a maker was made are none of its own -/
theorem MaN.z {C : Addr} {H0 H : Hp} {x : Addr} {m : Mm} (h : MaN C H0 H x m) (nx : ∀ xs, H0 x ≠ some (.lst xs)) (s : ∀ a xs, H0 a = some (.tup xs) → H a = some (.tup xs)) : MaZ C H x m fun a => ∃ xs, H0 a = some (.lst xs) := by
  obtain ⟨dx, r, e, h1, h2, h3, h4⟩ := h
  refine ⟨noL H0 H, noL_s, fun a z => noL_no z, dx, r, e, ?_, h2.da (fun a xs q n => ?_) (fun a xs q => ?_), ?_⟩
  · rw [noL_eq nx]
    exact h1
  · rw [noL_eq fun xs z => by rw [n] at z; cases z]
    exact q
  · rw [noL_eq fun xs z => by rw [q] at z; cases z]
    exact s a _ q
  · rw [noL_eq fun xs z => by rw [h3] at z; cases z]
    exact h4
end KK
set_option Elab.async false
set_option linter.all false
set_option maxRecDepth 100000
set_option maxHeartbeats 1000000
namespace KK
open PySem PySem.Spec PyProof.Rows L2 XV NM XT XA LamX
/-! ### makers compared, as data -/
theorem eqvAll_map {α : Type} [DecidableEq α] (f : α → PyData) (hf : ∀ a b, PyData.eqv (f a) (f b) = decide (a = b)) : ∀ l k : List α, PyData.eqvAll (l.map f) (k.map f) = decide (l = k)
  | [], [] => by simp [PyData.eqvAll]
  | [], _ :: _ => by simp [PyData.eqvAll]
  | _ :: _, [] => by simp [PyData.eqvAll]
  | a :: l, b :: k => by
    have ih := eqvAll_map f hf l k
    simp only [List.map_cons, PyData.eqvAll, hf, ih, List.cons.injEq]
    by_cases h1 : a = b <;> by_cases h2 : l = k <;> simp [h1, h2]
theorem eqv_en (a b : En) : PyData.eqv (enD a) (enD b) = decide (a = b) := by
  obtain ⟨s1, w1, b1⟩ := a
  obtain ⟨s2, w2, b2⟩ := b
  simp only [enD, PyData.eqv, PyData.eqvAll, En.mk.injEq]
  by_cases h1 : s1 = s2 <;> by_cases h2 : w1 = w2 <;> cases b1 <;> cases b2 <;> simp [h1, h2] <;> omega
theorem eqv_rw (a b : List En) : PyData.eqv (rwD a) (rwD b) = decide (a = b) := by
  show PyData.eqv (.list _) (.list _) = _
  simp only [PyData.eqv]
  exact eqvAll_map enD eqv_en a b
theorem eqv_rs (a b : List (List En)) : PyData.eqv (rsD a) (rsD b) = decide (a = b) := by
  show PyData.eqv (.list _) (.list _) = _
  simp only [PyData.eqv]
  exact eqvAll_map rwD eqv_rw a b
theorem eqv_cl (a b : List Str) : PyData.eqv (clD a) (clD b) = decide (a = b) := by
  show PyData.eqv (.list _) (.list _) = _
  simp only [PyData.eqv]
  refine eqvAll_map PyData.str (fun x y => ?_) a b
  simp only [PyData.eqv]
  by_cases h : x = y <;> simp [h]
theorem layAll_map {α : Type} (f : α → PyData) : ∀ l : List α, (∀ a ∈ l, (f a).canLay0 = true) → PyData.canLayAll0 (l.map f) = true
  | [], _ => by simp [PyData.canLayAll0]
  | a :: l, h => by
    have ih := layAll_map f l fun b hb => h b (List.mem_cons_of_mem _ hb)
    simp only [List.map_cons, PyData.canLayAll0, h a List.mem_cons_self, ih]
    rfl
theorem depAll_map {α : Type} (f : α → PyData) (k : Nat) : ∀ l : List α, (∀ a ∈ l, (f a).depth ≤ k) → PyData.depthAll (l.map f) ≤ k
  | [], _ => by simp [PyData.depthAll]
  | a :: l, h => by
    have ih := depAll_map f k l fun b hb => h b (List.mem_cons_of_mem _ hb)
    have := h a List.mem_cons_self
    simp only [List.map_cons, PyData.depthAll]
    omega
theorem dep_en (e : En) : (enD e).depth ≤ 1 := by simp [enD, PyData.depth, PyData.depthAll]
theorem lay_en {e : En} (h : PyData.strOk e.w = true) : (enD e).canLay0 = true := by simp [enD, PyData.canLay0, PyData.canLayAll0, h]
theorem dep_rw (r : List En) : (rwD r).depth ≤ 2 := by
  have := depAll_map enD 1 r fun e _ => dep_en e
  simp only [rwD, PyData.depth]
  omega
theorem dep_rs (R : List (List En)) : (rsD R).depth ≤ 3 := by
  have := depAll_map rwD 2 R fun e _ => dep_rw e
  simp only [rsD, PyData.depth]
  omega
def RowsT (R : List (List En)) : Prop := ∀ r ∈ R, ∀ e ∈ r, PyData.strOk e.w = true
theorem shaped_rs {R : List (List En)} (h : RowsT R) : SeqAt.shaped (rsD R) = true := by
  have e2 : (rsD R).canLay0 = true := by
    simp only [rsD, PyData.canLay0]
    refine layAll_map rwD R fun r hr => ?_
    simp only [rwD, PyData.canLay0]
    exact layAll_map enD r fun e he => lay_en (h r hr e he)
  have := dep_rs R
  unfold SeqAt.shaped
  rw [e2, decide_eq_true (show (rsD R).depth ≤ 64 by omega)]
  rfl
theorem shaped_en {e : En} (h : PyData.strOk e.w = true) : SeqAt.shaped (enD e) = true := by
  have := dep_en e
  unfold SeqAt.shaped
  rw [lay_en h, decide_eq_true (show (enD e).depth ≤ 64 by omega)]
  rfl
theorem shaped_cl {c : List Str} (h : ∀ y ∈ c, PyData.strOk y = true) : SeqAt.shaped (clD c) = true := by
  have e2 : (clD c).canLay0 = true := by
    simp only [clD, PyData.canLay0]
    refine layAll_map PyData.str c fun y hy => ?_
    simp only [PyData.canLay0]
    exact h y hy
  have d : PyData.depthAll (c.map PyData.str) ≤ 0 := depAll_map PyData.str 0 c fun y _ => by simp [PyData.depth]
  have e : (clD c).depth ≤ 64 := by
    simp only [clD, PyData.depth]
    omega
  unfold SeqAt.shaped
  rw [e2, decide_eq_true e]
  rfl
theorem cl_da {H : Hp} {e : Addr} {c : List Str} (h : H e = some (.lst (c.map V.str))) : Da H (.ref e) (clD c) := by
  refine .lst h ?_
  induction c with
  | nil => exact .nil
  | cons y c ih => exact .cons (.str y) (by
      clear ih h
      induction c with
      | nil => exact .nil
      | cons z c ih => exact .cons (.str z) ih)
theorem asc_ok {y : Str} (h : y.cps.all (· < 128) = true) : PyData.strOk y = true := by
  unfold PyData.strOk
  rw [Array.all_eq_true] at h ⊢
  intro i hi
  have := h i hi
  simp only [decide_eq_true_eq] at this ⊢
  omega
theorem low_ok {y : Str} (h : lowS y = true) : PyData.strOk y = true := by
  have h : (decide (y = "") || (Txt.isascii y && (Txt.isalpha y && Txt.islower y))) = true := h
  by_cases c : y = ""
  · rw [c]
    decide +kernel
  · rw [decide_eq_false c, Bool.false_or, Bool.and_eq_true] at h
    exact asc_ok h.1
theorem short_ok {y : Str} (h : shortV (.str y) = true) : PyData.strOk y = true := by
  have h : (lowS y && decide (y.length ≤ 2000)) = true := h
  rw [Bool.and_eq_true] at h
  exact low_ok h.1
theorem MmOk.rt {m : Mm} (o : MmOk m) : RowsT m.R := fun r hr e he => short_ok ((o.rw r hr).2 e he).2
theorem MmOk.ct {m : Mm} (o : MmOk m) : ∀ y ∈ m.cl, PyData.strOk y = true := fun y hy => short_ok (o.hc y hy)
end KK
set_option Elab.async false
set_option linter.all false
set_option maxRecDepth 100000
set_option maxHeartbeats 1000000
namespace KK
open PySem PySem.Spec PyProof.Rows L2 XV NM XT XA LamX
/-! ### the methods of makers -/
abbrev sInitM : Stmt := inClass (top 21) 0
abbrev sLettersM : Stmt := inClass (top 21) 1
abbrev sRowsM : Stmt := inClass (top 21) 2
abbrev sStartM : Stmt := inClass (top 21) 3
abbrev sClosM : Stmt := inClass (top 21) 4
abbrev sEqM : Stmt := inClass (top 21) 5
abbrev sReqM : Stmt := top 23
theorem scInitM : FnScope ["self", "letters", "rows", "start", "closing", "row"] ["self", "letters", "rows", "start", "closing"] (defScope sInitM) := ⟨rfl, rfl, rfl, by decide +kernel, rfl, by decide +kernel, by decide +kernel⟩
theorem scLettersM : FnScope ["self"] ["self"] (defScope sLettersM) := ⟨rfl, rfl, rfl, by decide +kernel, rfl, by decide +kernel, by decide +kernel⟩
theorem scRowsM : FnScope ["self", "row"] ["self"] (defScope sRowsM) := ⟨rfl, rfl, rfl, by decide +kernel, rfl, by decide +kernel, by decide +kernel⟩
theorem scStartM : FnScope ["self"] ["self"] (defScope sStartM) := ⟨rfl, rfl, rfl, by decide +kernel, rfl, by decide +kernel, by decide +kernel⟩
theorem scClosM : FnScope ["self"] ["self"] (defScope sClosM) := ⟨rfl, rfl, rfl, by decide +kernel, rfl, by decide +kernel, by decide +kernel⟩
theorem scEqM : FnScope ["self", "other"] ["self", "other"] (defScope sEqM) := ⟨rfl, rfl, rfl, by decide +kernel, rfl, by decide +kernel, by decide +kernel⟩
theorem scReqM : FnScope ["maker"] ["maker"] (defScope sReqM) := ⟨rfl, rfl, rfl, by decide +kernel, rfl, by decide +kernel, by decide +kernel⟩
def spLetM (C : Addr) : Sp := fun vs H Q _ => ∃ (x : Addr) (m : Mm), vs = [.ref x] ∧ Ma C H x m ∧ Q (.str m.z) H
def spStartM (C : Addr) : Sp := fun vs H Q _ => ∃ (x : Addr) (m : Mm), vs = [.ref x] ∧ Ma C H x m ∧ Q (.int m.s) H
def spRowsM (C : Addr) : Sp := fun vs H Q _ => ∃ (x : Addr) (m : Mm), vs = [.ref x] ∧ Ma C H x m ∧ m.R.length ≤ 12 ∧ (∀ r ∈ m.R, r.length ≤ 60) ∧ ∀ (H' : Hp) (p : Addr), Same H H' → RwN H H' p m.R → Q (.ref p) H'
def spClosM (C : Addr) : Sp := fun vs H Q _ => ∃ (x : Addr) (m : Mm), vs = [.ref x] ∧ Ma C H x m ∧ ∀ (p : Addr), H p = none → Q (.ref p) (upd H p (.lst (m.cl.map V.str)))
def spEqM (K : PySem.W.Frag) (C : Addr) : Sp := fun vs H Q _ => ∃ (x : Addr) (y : V) (m : Mm), vs = [.ref x, y] ∧ Ma C H x m ∧ MmOk m ∧ ((∃ y' m2, y = .ref y' ∧ Ma C H y' m2 ∧ MmOk m2 ∧ Q (.bl (decide (m = m2))) H) ∨ (NoA K H y ∧ Q (.bl false) H))
def spReqM (K : PySem.W.Frag) (C : Addr) : Sp := fun vs H Q E => ∃ v, vs = [v] ∧ ((∃ x m, v = .ref x ∧ Ma C H x m ∧ Q .non H) ∨ (NoA K H v ∧ Rz E H (CF K 4) v))
section
variable {P : Program} {w : World} {K : PySem.W.Frag} {mg : Str → Option Value} {base : Heap} {f : Addr} {fd : FuncData} {C : Addr}
theorem ok_letM (F : FnM K "letters" "Maker.letters" sLettersM f fd) (T : MT K mg C) : FnOk P w K mg base CX0 1 f fd ["self"] (spLetM C) := by
  refine F.ok scLettersM (fun vs H Q E h => ?_) (fun cdv A outer s H vs Q E hr h => ?_)
  · obtain ⟨x, m, rfl, _⟩ := h
    rfl
  · obtain ⟨x, m, rfl, ⟨dx, r, e, hx, hR, he⟩, q⟩ := h
    refine ⟨_, PSs.nox (pss_one (ps_ret (pe_fld (pv 0) rfl))), ?_⟩
    exact ⟨_, rfl, x, C, dx, _, _, rfl, hx, T.ic.cl, T.nL, fldM_l _ _ _ _, q⟩
theorem ok_startM (F : FnM K "start" "Maker.start" sStartM f fd) (T : MT K mg C) : FnOk P w K mg base CX0 1 f fd ["self"] (spStartM C) := by
  refine F.ok scStartM (fun vs H Q E h => ?_) (fun cdv A outer s H vs Q E hr h => ?_)
  · obtain ⟨x, m, rfl, _⟩ := h
    rfl
  · obtain ⟨x, m, rfl, ⟨dx, r, e, hx, hR, he⟩, q⟩ := h
    refine ⟨_, PSs.nox (pss_one (ps_ret (pe_fld (pv 0) rfl))), ?_⟩
    exact ⟨_, rfl, x, C, dx, _, _, rfl, hx, T.ic.cl, T.nS, fldM_s _ _ _ _, q⟩
theorem ok_closM (F : FnM K "closing" "Maker.closing" sClosM f fd) (T : MT K mg C) (z_list : mg "list" = none) : FnOk P w K mg base CX0 1 f fd ["self"] (spClosM C) := by
  refine F.ok scClosM (fun vs H Q E h => ?_) (fun cdv A outer s H vs Q E hr h => ?_)
  · obtain ⟨x, m, rfl, _⟩ := h
    rfl
  · obtain ⟨x, m, rfl, ⟨dx, r, e, hx, hR, he⟩, q⟩ := h
    refine ⟨_, PSs.nox (pss_one (ps_ret (pe_callTy call_list_of (by rfl) z_list (by decide +kernel) (pa_cons (pe_fld (pv 0) rfl) pa_nil)))), ?_⟩
    exact ⟨_, rfl, x, C, dx, _, _, rfl, hx, T.ic.cl, T.nC', fldM_c _ _ _ _, e, _, rfl, .inl (SqL.of he), fun l nl => q l nl⟩
theorem ok_rowsM (F : FnM K "rows" "Maker.rows" sRowsM f fd) (T : MT K mg C) (z_list : mg "list" = none) : FnOk P w K mg base CX0 1 f fd ["self"] (spRowsM C) := by
  have nd := scRowsM.nd
  refine F.ok scRowsM (fun vs H Q E h => ?_) (fun cdv A outer s H vs Q E hr h => ?_)
  · obtain ⟨x, m, rfl, _⟩ := h
    rfl
  · obtain ⟨x, m, rfl, ⟨dx, r, e, hx, hR, he⟩, l12, l60, q⟩ := h
    refine ⟨_, PSs.nox (pss_one (ps_ret (pe_lc (own := [("row", 1)]) (g := gName 1) (by rfl) nd (pi_list (pe_fld (pv 0) rfl)) (blkOk_by (N := ["self", "row"]) (sc := defScope sRowsM) (own := [("row", 1)]) (by decide +kernel)) (fun _ _ _ _ _ => pg_name (i := 1) nd rfl (Or.inl rfl)) (fun _ _ _ _ _ => pts_nil)
      (fun _ _ _ _ _ => pe_callTy (call_list_ofK (K := K) rfl) (by rfl) z_list (by decide +kernel) (pa_cons (pv 1) pa_nil))))), ?_⟩
    obtain ⟨b, xs, eb, hxs, hP, lx⟩ := da_rs hR
    cases eb
    refine ⟨_, rfl, x, C, dx, _, _, rfl, hx, T.ic.cl, T.nR, fldM_r _ _ _ _, r, rfl, ⟨_, SqL.of hxs⟩, fun D nD => lc_list (K := K) (a := r) (xs := xs) (CpM H D m.R) (cm_0 nD) (fun i H' _ p => SqL.of (p.1 _ _ hxs)) ?_ ?_⟩
    · rintro i y H' hi p
      obtain ⟨b, row, ys, rfl, er, hb, hy⟩ := rs_at hP hi
      exact ⟨rfl, _, rfl, b, _, rfl, .inl (SqL.of (p.1 _ _ hb)), fun l nl => cm_s p nD er hy (by omega) nl⟩
    · exact fun H' p => q H' D p.1 (cm_e p nD lx)
theorem ok_eqM (F : FnM K "__eq__" "Maker.__eq__" sEqM f fd) (T : MT K mg C) (z_isinstance : mg "isinstance" = none) : FnOk P w K mg base CX0 1 f fd ["self", "other"] (spEqM K C) := by
  refine F.ok scEqM (fun vs H Q E h => ?_) (fun cdv A outer s H vs Q E hr h => ?_)
  · obtain ⟨x, y, m, rfl, _⟩ := h
    rfl
  · obtain ⟨x, y, m, rfl, ⟨dx, r, e, hx, hR, he⟩, ok1, h⟩ := h
    have hu := hr.units
    refine ⟨_, PSs.nox (pss_cons (ps_if (pt_not (pt_val (pe_callB call_isi (by rfl) z_isinstance (by decide +kernel) (pa_cons (pv 1) (pa_cons (pe_glob (v := .ref C) (by rfl) T.g rfl) pa_nil))))) (pss_one (ps_ret pe_bl)) pss_nil)
      (pss_cons (ps_if (PW.pt (pw_or (pt_cmpR op_ne (pe_fld (pv 0) rfl) (pe_fld (pv 1) rfl) (nomark _)) (pw_or1 (pt_cmpR op_ne (pe_fld (pv 0) rfl) (pe_fld (pv 1) rfl) (nomark _))))) (pss_one (ps_ret pe_bl)) pss_nil)
      (pss_one (ps_ret (pe_and (pe_cmpR (op_eqD hu) (pe_fld (pv 0) rfl) (pe_fld (pv 1) rfl) (nomark _)) (pe_one (pe_cmpR (op_eqD hu) (pe_fld (pv 0) rfl) (pe_fld (pv 1) rfl) (nomark _)))))))), ?_⟩
    rcases h with ⟨y', m2, rfl, ⟨dy, r2, e2, hy, hR2, he2⟩, ok2, q⟩ | ⟨⟨T', hT, ty⟩, q⟩
    · refine ⟨_, rfl, _, _, _, _, true, rfl, .own C, T.ty hy, T.ic.me, true, rfl, iteF ?_⟩
      have cmp : decide (m = m2) = (decide (m.z = m2.z) && (decide (m.s = m2.s) && (decide (m.R = m2.R) && decide (m.cl = m2.cl)))) := by
        obtain ⟨a1, a2, a3, a4⟩ := m
        obtain ⟨b1, b2, b3, b4⟩ := m2
        simp only [Mm.mk.injEq, Bool.decide_and]
        cases decide (a1 = b1) <;> cases decide (a2 = b2) <;> cases decide (a3 = b3) <;> rfl
      rw [cmp] at q
      refine ⟨_, rfl, x, C, dx, _, _, rfl, hx, T.ic.cl, T.nL, fldM_l _ _ _ _, _, rfl, y', C, dy, _, _, rfl, hy, T.ic.cl, T.nL, fldM_l _ _ _ _, rfl, _, rfl, ?_⟩
      by_cases c1 : m.z = m2.z
      · rw [show decide (V.str m.z = V.str m2.z) = true from decide_eq_true (by rw [c1])]
        rw [decide_eq_true c1, Bool.true_and] at q
        refine iteF ⟨_, rfl, x, C, dx, _, _, rfl, hx, T.ic.cl, T.nS, fldM_s _ _ _ _, _, rfl, y', C, dy, _, _, rfl, hy, T.ic.cl, T.nS, fldM_s _ _ _ _, rfl, _, rfl, ?_⟩
        by_cases c2 : m.s = m2.s
        · rw [show decide (V.int (m.s : Int) = V.int (m2.s : Int)) = true from decide_eq_true (by rw [c2])]
          rw [decide_eq_true c2, Bool.true_and] at q
          refine iteF ⟨_, rfl, x, C, dx, _, _, rfl, hx, T.ic.cl, T.nR, fldM_r _ _ _ _, _, rfl, y', C, dy, _, _, rfl, hy, T.ic.cl, T.nR, fldM_r _ _ _ _, ?_⟩
          refine ⟨rsD m.R, rsD m2.R, hR.dp, hR2.dp, shaped_rs ok1.rt, shaped_rs ok2.rt, ?_⟩
          rw [eqv_rs]
          by_cases c3 : m.R = m2.R
          · rw [decide_eq_true c3] at q ⊢
            rw [Bool.true_and] at q
            refine ⟨true, rfl, iteT ⟨_, rfl, x, C, dx, _, _, rfl, hx, T.ic.cl, T.nC', fldM_c _ _ _ _, _, rfl, y', C, dy, _, _, rfl, hy, T.ic.cl, T.nC', fldM_c _ _ _ _, clD m.cl, clD m2.cl, (cl_da he).dp, (cl_da he2).dp, shaped_cl ok1.ct, shaped_cl ok2.ct, ?_⟩⟩
            rw [eqv_cl]
            exact q
          · rw [decide_eq_false c3] at q ⊢
            exact ⟨false, rfl, iteF q⟩
        · rw [show decide (V.int (m.s : Int) = V.int (m2.s : Int)) = false from decide_eq_false fun z => c2 (by have := V.int.inj z; omega)]
          rw [decide_eq_false c2] at q
          exact iteT q
      · rw [show decide (V.str m.z = V.str m2.z) = false from decide_eq_false fun z => c1 (V.str.inj z)]
        rw [decide_eq_false c1] at q
        exact iteT q
    · exact ⟨_, rfl, _, _, _, _, false, rfl, .own C, ty, T.kt T' hT, false, rfl, iteT q⟩
theorem ok_reqM (F : FnP K "require_maker" sReqM f fd) (T : MT K mg C) (Z : ClF P w K mg base) (z_isinstance : mg "isinstance" = none) : FnOk P w K mg base (L2.CX P w) 3 f fd ["maker"] (spReqM K C) := by
  refine F.ok scReqM (fun vs H Q E h => ?_) (fun cdv A outer s H vs Q E hr h => ?_)
  · obtain ⟨v, rfl, _⟩ := h
    rfl
  · obtain ⟨v, rfl, h⟩ := h
    obtain ⟨fI, fdI, XT⟩ := Z.x 4 (by decide)
    have XT : XCls P w K mg base "InvalidMaker" "value" (CF K 4) fI fdI := XT
    refine ⟨_, pss_one (ps_if (pt_not (pt_val (pe_callB call_isi (by rfl) z_isinstance (by decide +kernel) (pa_cons (pv 0) (pa_cons (pe_glob (v := .ref C) (by rfl) T.g rfl) pa_nil))))) (pss_one (ps_raiseX (nm := "InvalidMaker") rfl XT hr (takes_of rfl rfl rfl rfl) (by rfl) (pv 0))) pss_nil), ?_⟩
    rcases h with ⟨x, m, rfl, ⟨dx, r, e, hx, hR, he⟩, q⟩ | ⟨⟨T', hT, ty⟩, r⟩
    · exact ⟨_, rfl, _, _, _, _, true, rfl, .own C, T.ty hx, T.ic.me, true, rfl, iteF q⟩
    · exact ⟨_, rfl, _, _, _, _, false, rfl, .own C, ty, T.kt T' hT, false, rfl, iteT ⟨_, rfl, fun d nd => r H d (Same.refl _) nd⟩⟩
end
section
variable {X : Cx} {C : Addr} {e : Expr} {te : TE} {apos pos : Pos}
theorem pe_letM {pl : Sem Bool} (o : OkMa X.prog X.w X.K X.mg X.base C "letters" (spLetM C)) (T : MT X.K X.mg C) (he : PE X e te) (hr : Room 1 X.A) (ht : eval (.Call (.Attribute e "letters" apos) [] [] pos) X.env = (do
      let ov ← eval e X.env
      standAt apos.atName
      let (f, first) ← holding [ov] (getMethod ov "letters" pl)
      callWith pos f first (backTo pos (starEach [] X.env)) (backToKw pos (keywordEach [] X.env))) := by rfl) :
    PE X (.Call (.Attribute e "letters" apos) [] [] pos) (fun σ H Q => te σ H fun x H1 => ∃ a m, x = .ref a ∧ Ma C H1 a m ∧ Q (.str m.z) H1) := by
  obtain ⟨f, fd, F, hm, b⟩ := o.ex
  refine PE.le (pe_meth0 (pl := pl) (pe_mono he) T.ic.cl hm F hr b .nil pass0 ht) fun σ H Q h => ⟨_, h, ?_⟩
  rintro x H1 ⟨a, m, rfl, hg, q⟩
  obtain ⟨dx, r, en, hx, hL⟩ := id hg
  exact ⟨a, dx, _, rfl, hx, fldM_no _ _ _ _ (by decide +kernel) (by decide +kernel) (by decide +kernel) (by decide +kernel), a, m, rfl, hg, q⟩
theorem pe_startM {pl : Sem Bool} (o : OkMa X.prog X.w X.K X.mg X.base C "start" (spStartM C)) (T : MT X.K X.mg C) (he : PE X e te) (hr : Room 1 X.A) (ht : eval (.Call (.Attribute e "start" apos) [] [] pos) X.env = (do
      let ov ← eval e X.env
      standAt apos.atName
      let (f, first) ← holding [ov] (getMethod ov "start" pl)
      callWith pos f first (backTo pos (starEach [] X.env)) (backToKw pos (keywordEach [] X.env))) := by rfl) :
    PE X (.Call (.Attribute e "start" apos) [] [] pos) (fun σ H Q => te σ H fun x H1 => ∃ a m, x = .ref a ∧ Ma C H1 a m ∧ Q (.int m.s) H1) := by
  obtain ⟨f, fd, F, hm, b⟩ := o.ex
  refine PE.le (pe_meth0 (pl := pl) (pe_mono he) T.ic.cl hm F hr b .nil pass0 ht) fun σ H Q h => ⟨_, h, ?_⟩
  rintro x H1 ⟨a, m, rfl, hg, q⟩
  obtain ⟨dx, r, en, hx, hL⟩ := id hg
  exact ⟨a, dx, _, rfl, hx, fldM_no _ _ _ _ (by decide +kernel) (by decide +kernel) (by decide +kernel) (by decide +kernel), a, m, rfl, hg, q⟩
theorem pe_rowsM {pl : Sem Bool} (o : OkMa X.prog X.w X.K X.mg X.base C "rows" (spRowsM C)) (T : MT X.K X.mg C) (he : PE X e te) (hr : Room 1 X.A) (ht : eval (.Call (.Attribute e "rows" apos) [] [] pos) X.env = (do
      let ov ← eval e X.env
      standAt apos.atName
      let (f, first) ← holding [ov] (getMethod ov "rows" pl)
      callWith pos f first (backTo pos (starEach [] X.env)) (backToKw pos (keywordEach [] X.env))) := by rfl) :
    PE X (.Call (.Attribute e "rows" apos) [] [] pos) (fun σ H Q => te σ H fun x H1 => ∃ a m, x = .ref a ∧ Ma C H1 a m ∧ m.R.length ≤ 12 ∧ (∀ r ∈ m.R, r.length ≤ 60) ∧ ∀ (H' : Hp) (p : Addr), Same H1 H' → RwN H1 H' p m.R → Q (.ref p) H') := by
  obtain ⟨f, fd, F, hm, b⟩ := o.ex
  refine PE.le (pe_meth0 (pl := pl) (pe_mono he) T.ic.cl hm F hr b .nil pass0 ht) fun σ H Q h => ⟨_, h, ?_⟩
  rintro x H1 ⟨a, m, rfl, hg, q⟩
  obtain ⟨dx, r, en, hx, hL⟩ := id hg
  exact ⟨a, dx, _, rfl, hx, fldM_no _ _ _ _ (by decide +kernel) (by decide +kernel) (by decide +kernel) (by decide +kernel), a, m, rfl, hg, q⟩
theorem pe_closM {pl : Sem Bool} (o : OkMa X.prog X.w X.K X.mg X.base C "closing" (spClosM C)) (T : MT X.K X.mg C) (he : PE X e te) (hr : Room 1 X.A) (ht : eval (.Call (.Attribute e "closing" apos) [] [] pos) X.env = (do
      let ov ← eval e X.env
      standAt apos.atName
      let (f, first) ← holding [ov] (getMethod ov "closing" pl)
      callWith pos f first (backTo pos (starEach [] X.env)) (backToKw pos (keywordEach [] X.env))) := by rfl) :
    PE X (.Call (.Attribute e "closing" apos) [] [] pos) (fun σ H Q => te σ H fun x H1 => ∃ a m, x = .ref a ∧ Ma C H1 a m ∧ ∀ (p : Addr), H1 p = none → Q (.ref p) (upd H1 p (.lst (m.cl.map V.str)))) := by
  obtain ⟨f, fd, F, hm, b⟩ := o.ex
  refine PE.le (pe_meth0 (pl := pl) (pe_mono he) T.ic.cl hm F hr b .nil pass0 ht) fun σ H Q h => ⟨_, h, ?_⟩
  rintro x H1 ⟨a, m, rfl, hg, q⟩
  obtain ⟨dx, r, en, hx, hL⟩ := id hg
  exact ⟨a, dx, _, rfl, hx, fldM_no _ _ _ _ (by decide +kernel) (by decide +kernel) (by decide +kernel) (by decide +kernel), a, m, rfl, hg, q⟩
end
end KK
set_option Elab.async false
set_option linter.all false
set_option maxRecDepth 100000
set_option maxHeartbeats 2000000
namespace KK
open PySem PySem.Spec PyProof.Rows L2 XV NM XT XA LamX
/-! ### the making of makers, whatever it is given -/
theorem ents_len {wd : Nat} {H : Hp} {v : V} {d : PyData} (h : Da H v d) (e : entsD wd d = true) : ∃ a xs, v = .ref a ∧ H a = some (.lst xs) ∧ xs.length = lenD d := by
  cases h with
  | @lst a xs ds ha hall => exact ⟨a, xs, rfl, ha, da_len hall⟩
  | _ => cases e
def spInitM (K : PySem.W.Frag) (C : Addr) : Sp := fun vs H Q E => ∃ (x dx : Addr) (vL vR vS vC : V), vs = [.ref x, vL, vR, vS, vC] ∧ H x = some (.ins C dx []) ∧ (
  (Kn H vL ∧ (∀ z, vL = .str z → z.length < 64) ∧ alphV vL = false ∧ Rz E H (CF K 3) vL) ∨
  ∃ z, vL = .str z ∧ z.length < 64 ∧ alphV (.str z) = true ∧ ∃ dR, Da H vR dR ∧ lenD dR ≤ 100 ∧ (∀ r ∈ itemsD dR, lenD r ≤ 60 ∧ ∀ e ∈ itemsD r, SE e) ∧ (
    (entsD (z.length + 1) dR = false ∧ Rz E H (CF K 1) vR) ∨
    (entsD (z.length + 1) dR = true ∧ Kn H vS ∧ (
      (belV (lenD dR : Int) vS = false ∧ Rz E H (CF K 2) vS) ∨
      (belV (lenD dR : Int) vS = true ∧ ∃ dC, Da H vC dC ∧ lenD dC ≤ 100 ∧ (∀ e ∈ itemsD dC, SL e) ∧ (
        (wrdsD (lenD dR) dC = false ∧ Rz E H (CF K 1) vC) ∨
        (wrdsD (lenD dR) dC = true ∧ ∃ (m : Mm) (ra en : Addr), z = m.z ∧ vR = .ref ra ∧ vS = .int m.s ∧ vC = .ref en ∧ H en = some (.lst (m.cl.map V.str)) ∧ Da H (.ref ra) (rsD m.R) ∧ m.R.length ≤ 12 ∧ m.cl.length ≤ 12 ∧ ∀ H' : Hp, (∀ b o, b ≠ x → H b = some o → H' b = some o) → MaN C H H' x m → Q .non H')))))))
section
variable {P : Program} {w : World} {K : PySem.W.Frag} {mg : Str → Option Value} {base : Heap} {f : Addr} {fd : FuncData} {C : Addr}
theorem ok_initM (F : FunD K "__init__" "Maker.__init__" (defArgs sInitM) (defBody sInitM) (defScope sInitM) [] [("start", .int 0)] f fd) (T : MT K mg C) (Z : ClF P w K mg base) (o_alph : Ok P w K mg base "is_alphabet" 3 ["value"] spAlph) (o_ents : Ok P w K mg base "is_list_of_entries" 5 ["value", "width"] spEnts) (o_below : Ok P w K mg base "is_count_below" 3 ["bound", "value"] spBelow) (o_wrds : Ok P w K mg base "is_list_of_words" 3 ["value", "how_many"] spWrds) (z_len : mg "len" = none) (z_list : mg "list" = none) : FnOk P w K mg base (L2.CX P w) 6 f fd ["self", "letters", "rows", "start", "closing"] (spInitM K C) := by
  have nd := scInitM.nd
  refine F.ok scInitM (fun vs H Q E h => ?_) (fun cdv A outer s H vs Q E hr h => ?_)
  · obtain ⟨x, dx, vL, vR, vS, vE, rfl, _⟩ := h
    rfl
  · obtain ⟨x, dx, vL, vR, vS, vE, rfl, hx, h⟩ := h
    have r5 : Room 5 (A.deeper (envOfC "Maker.__init__" (defScope sInitM) s.heap.objs.size f cdv)) := hr
    have r3 := r5.mono (by decide : 3 ≤ 5)
    have szl := sizeLine_eq
    obtain ⟨fI3, fdI3, XW⟩ := Z.x 3 (by decide)
    have XW : XCls P w K mg base "InvalidWord" "value" (CF K 3) fI3 fdI3 := XW
    obtain ⟨fI1, fdI1, XL⟩ := Z.x 1 (by decide)
    have XL : XCls P w K mg base "InvalidList" "value" (CF K 1) fI1 fdI1 := XL
    obtain ⟨fI2, fdI2, XN⟩ := Z.x 2 (by decide)
    have XN : XCls P w K mg base "InvalidNumber" "value" (CF K 2) fI2 fdI2 := XN
    refine ⟨_, (pss_cons (ps_if (pt_not (pt_val (pe_callO o_alph r3 (by rfl) (pa_cons (pv 1) pa_nil)))) (pss_one (ps_raiseX (nm := "InvalidWord") rfl XW (hr.mono (by decide)) (takes_of rfl rfl rfl rfl) (by rfl) (pv 1))) pss_nil)
      (pss_cons (ps_if (pt_not (pt_val (pe_callO o_ents r5 (by rfl) (pa_cons (pv 2) (pa_cons (pe_op op_add (pe_callB call_len_str (by rfl) z_len boot_len (pa_cons (pv 1) pa_nil)) pe_int) pa_nil))))) (pss_one (ps_raiseX (nm := "InvalidList") rfl XL (hr.mono (by decide)) (takes_of rfl rfl rfl rfl) (by rfl) (pv 2))) pss_nil)
      (pss_cons (ps_if (pt_not (pt_val (pe_callO o_below r3 (by rfl) (pa_cons (pe_callB call_len (by rfl) z_len boot_len (pa_cons (pv 2) pa_nil)) (pa_cons (pv 3) pa_nil))))) (pss_one (ps_raiseX (nm := "InvalidNumber") rfl XN (hr.mono (by decide)) (takes_of rfl rfl rfl rfl) (by rfl) (pv 3))) pss_nil)
      (pss_cons (ps_if (pt_not (pt_val (pe_callO o_wrds r3 (by rfl) (pa_cons (pv 4) (pa_cons (pe_callB call_len (by rfl) z_len boot_len (pa_cons (pv 2) pa_nil)) pa_nil))))) (pss_one (ps_raiseX (nm := "InvalidList") rfl XL (hr.mono (by decide)) (takes_of rfl rfl rfl rfl) (by rfl) (pv 4))) pss_nil)
      (pss_cons (ps_fld (pv 0) (pv 1) rfl)
      (pss_cons (ps_fld (pv 0) (pe_lc (own := [("row", 5)]) (g := gName 5) (by rfl) nd (pi_list (pv 2)) (blkOk_by (N := ["self", "letters", "rows", "start", "closing", "row"]) (sc := defScope sInitM) (own := [("row", 5)]) (by decide +kernel)) (fun _ _ _ _ _ => pg_name (i := 5) nd rfl (Or.inl rfl)) (fun _ _ _ _ _ => pts_nil)
        (fun _ _ _ _ _ => pe_callTy (call_list_ofK (K := K) rfl) (by rfl) z_list (by decide +kernel) (pa_cons (pv 5) pa_nil))) rfl)
      (pss_cons (ps_fld (pv 0) (pv 3) rfl)
      (pss_one (ps_fld (pv 0) (pe_callTy call_list_of (by rfl) z_list (by decide +kernel) (pa_cons (pv 4) pa_nil)) rfl))))))))), ?_⟩
    rcases h with ⟨kn, sh, e, r⟩ | ⟨z, rfl, lz, az, dR, hdR, l100, l2, h⟩
    · refine ⟨_, rfl, _, rfl, kn, sh, fun H1 s1 => ?_⟩
      rw [e]
      exact ⟨false, rfl, iteT ⟨_, rfl, fun d nd => r H1 d s1 nd⟩⟩
    refine ⟨_, rfl, _, rfl, .str z, fun z' e => (by
      cases e
      omega), fun H1 s1 => ?_⟩
    rw [az]
    refine ⟨true, rfl, iteF ?_⟩
    refine ⟨_, rfl, _, rfl, z, rfl, by omega, _, _, rfl, rfl, vR, dR, z.length + 1, rfl, hdR.keep s1, l100, l2, fun H2 s2 => ?_⟩
    have s02 := s1.trans s2
    rcases h with ⟨e, r⟩ | ⟨eR, knS, h⟩
    · rw [e]
      exact ⟨false, rfl, iteT ⟨_, rfl, fun d nd => r H2 d s02 nd⟩⟩
    rw [eR]
    refine ⟨true, rfl, iteF ?_⟩
    obtain ⟨ra, xs, rfl, hra, lx⟩ := ents_len hdR eR
    refine ⟨_, rfl, _, lenD dR, rfl, .inl ⟨_, SqL.of (s02 _ _ hra), lx.symm⟩, _, rfl, _, _, rfl, knS.keep s02, ?_⟩
    rcases h with ⟨e, r⟩ | ⟨eS, dE, hdE, l60, lE, h⟩
    · rw [e]
      exact ⟨false, rfl, iteT ⟨_, rfl, fun d nd => r H2 d s02 nd⟩⟩
    rw [eS]
    refine ⟨true, rfl, iteF ?_⟩
    refine ⟨_, rfl, _, rfl, _, lenD dR, rfl, .inl ⟨_, SqL.of (s02 _ _ hra), lx.symm⟩, vE, dE, lenD dR, rfl, hdE.keep s02, l60, lE, fun H3 s3 => ?_⟩
    have s03 := s02.trans s3
    rcases h with ⟨e, r⟩ | ⟨eE, m, ra', en, rfl, er, rfl, rfl, hen, hR, l12, lc, q⟩
    · rw [e]
      exact ⟨false, rfl, iteT ⟨_, rfl, fun d nd => r H3 d s03 nd⟩⟩
    rw [eE]
    refine ⟨true, rfl, iteF ?_⟩
    cases er
    obtain ⟨b, xs', eb, hra', hP, lx'⟩ := da_rs hR
    cases eb
    have : xs = xs' := by
      rw [hra] at hra'
      cases hra'
      rfl
    subst this
    obtain ⟨z, R, st, cl⟩ := m
    dsimp only at *
    have hx3 := s03 _ _ hx
    have hra3 := s03 _ _ hra
    have hen3 := s03 _ _ hen
    refine ⟨_, rfl, _, rfl, x, C, dx, _, rfl, hx3, T.ic.cl, T.nL, (by show 0 < 1000; decide), ?_⟩
    have nrx : ra ≠ x := ne_of hra hx (by intro z; cases z)
    have nex : en ≠ x := ne_of hen hx (by intro z; cases z)
    have hx4 : upd H3 x (.ins C dx (putF "_letters" (.str z) [])) x = some (.ins C dx (putF "_letters" (.str z) [])) := upd_same
    have k4 : ∀ b o, b ≠ x → H b = some o → upd H3 x (.ins C dx (putF "_letters" (.str z) [])) b = some o := fun b o nb e => by
      rw [upd_ne nb]
      exact s03 _ _ e
    generalize upd H3 x (.ins C dx (putF "_letters" (.str z) [])) = H4 at *
    have hra4 := k4 _ _ nrx hra
    -- the rows as they were, in H without x
    have sG : Same (rm x H) H4 := fun b o e => by
      have nb : b ≠ x := fun z => by
        rw [z, rm_at] at e
        cases e
      exact k4 _ _ nb (rm_s _ _ e)
    have inG : ∀ {b o}, b ≠ x → H b = some o → rm x H b = some o := fun {b o} nb e => by
      unfold rm
      rw [if_neg nb]
      exact e
    have hP4 : ∀ (i : Nat) y, xs[i]? = some y → ∃ b row ys, y = .ref b ∧ R[i]? = some row ∧ H b = some (.lst ys) ∧ b ≠ x ∧ DaAll (rm x H) ys (row.map enD) := fun i y hi => by
      obtain ⟨b, row, ys, e1, e2, e3, e4⟩ := rs_at hP hi
      refine ⟨b, row, ys, e1, e2, e3, ne_of e3 hx (by intro z; cases z), DaAll.ofGet (da_len e4) fun j u d eu ed => ?_⟩
      obtain ⟨d', ed', hd'⟩ := e4.get eu
      rw [ed] at ed'
      cases ed'
      rw [List.getElem?_map] at ed
      obtain ⟨en', _, rfl⟩ := Option.map_eq_some_iff.mp ed
      obtain ⟨t, et, ht⟩ := da_en hd'
      rw [et]
      exact .tup (inG (ne_of ht hx (by intro z; cases z)) ht) (.cons (.int _) (.cons (.str _) (.cons (.bl _) .nil)))
    refine ⟨_, rfl, ra, rfl, ⟨_, SqL.of hra4⟩, fun D nD => ?_⟩
    have nDG : rm x H D = none := was_none sG nD
    refine lc_list (K := K) (a := ra) (xs := xs) (fun i H' => CpM (rm x H) D R i H' ∧ Same H4 H') ⟨⟨fun b o e => ?_, [], upd_same, rfl, fun y hy => (by cases hy), .nil, fun j row h => absurd h (Nat.not_lt_zero j)⟩, same_new nD⟩ (fun i H' _ p => SqL.of (p.2 _ _ hra4)) ?_ ?_
    · rw [upd_ne (ne_of_none e nDG)]
      exact sG _ _ e
    · rintro i y H' hi ⟨p, p2⟩
      obtain ⟨b, row, ys, rfl, er, hb, nb, hy⟩ := hP4 i y hi
      refine ⟨rfl, _, rfl, b, _, rfl, .inl (SqL.of (p2 _ _ (k4 _ _ nb hb))), fun l nl => ?_⟩
      obtain ⟨acc, a1, a2, a3⟩ := cm_s p nDG er hy (by omega) nl
      refine ⟨acc, a1, a2, a3, fun c o e => ?_⟩
      rw [upd_ne (ne_of_none e nD)]
      exact same_new nl _ _ (p2 _ _ e)
    rintro H5 ⟨p, s5⟩
    have rn := cm_e p nDG lx'
    have hx5 := s5 _ _ hx4
    refine ⟨_, rfl, x, C, dx, _, rfl, hx5, T.ic.cl, T.nR, (by show 1 < 1000; decide), ?_⟩
    refine ⟨_, rfl, _, rfl, x, C, dx, _, rfl, upd_same, T.ic.cl, T.nS, (by show 2 < 1000; decide), ?_⟩
    obtain ⟨acc, hD, _, la, ndA, nwA, atA⟩ := rn
    have Dx : D ≠ x := ne_of hD hx5 (by intro z; cases z)
    have hx6 : upd (upd H5 x (.ins C dx (putF "_rows" (.ref D) (putF "_letters" (.str z) [])))) x (.ins C dx (putF "_start" (.int st) (putF "_rows" (.ref D) (putF "_letters" (.str z) [])))) x = some (.ins C dx (putF "_start" (.int st) (putF "_rows" (.ref D) (putF "_letters" (.str z) [])))) := upd_same
    have k6 : ∀ b o, b ≠ x → H5 b = some o → upd (upd H5 x (.ins C dx (putF "_rows" (.ref D) (putF "_letters" (.str z) [])))) x (.ins C dx (putF "_start" (.int st) (putF "_rows" (.ref D) (putF "_letters" (.str z) [])))) b = some o := fun b o nb e => by
      rw [upd_ne nb, upd_ne nb]
      exact e
    generalize upd (upd H5 x (.ins C dx (putF "_rows" (.ref D) (putF "_letters" (.str z) [])))) x (.ins C dx (putF "_start" (.int st) (putF "_rows" (.ref D) (putF "_letters" (.str z) [])))) = H6 at *
    have hen6 := k6 _ _ nex (s5 _ _ (k4 _ _ nex hen))
    refine ⟨_, rfl, en, _, rfl, .inl (SqL.of hen6), fun l nl => ?_⟩
    have s7 := same_new (o := .lst (cl.map V.str)) nl
    have hx7 := s7 _ _ hx6
    refine ⟨_, rfl, x, C, dx, _, rfl, hx7, T.ic.cl, T.nC', (by show 3 < 1000; decide), ?_⟩
    have nlx : l ≠ x := ne_of (upd_same (H := H6) (a := l)) hx7 (by intro z; cases z)
    have back : ∀ b, b ≠ x → rm x H b = none → H b = none := fun b nb n => by
      cases e : H b with
      | none => rfl
      | some o =>
        rw [inG nb e] at n
        cases n
    have nlH : H l = none := by
      cases e : H l with
      | none => rfl
      | some o =>
        rw [k6 _ _ nlx (s5 _ _ (k4 _ _ nlx e))] at nl
        cases nl
    have notx : ∀ {b : Addr} {ys : List V}, H5 b = some (.lst ys) → b ≠ x := fun {b ys} e z => by
      rw [z, hx5] at e
      cases e
    have atH : RwAt H H5 acc R.length R := fun j row hj ej => by
      obtain ⟨b, ys, e1, e2, e3, e4⟩ := atA j row hj ej
      exact ⟨b, ys, e1, back b (notx e3) e2, e3, DaAll.keep rm_s e4⟩
    refine q _ (fun b o nb e => ?_) ⟨dx, D, l, upd_same, ⟨acc, ?_, back D Dx nDG, la, ndA, fun y hy => ⟨(nwA y hy).1, ?_⟩, fun j row hj ej => ?_⟩, nlH, ?_⟩
    · rw [upd_ne nb]
      exact s7 _ _ (k6 _ _ nb (s5 _ _ (k4 b o nb e)))
    · rw [upd_ne Dx]
      exact s7 _ _ (k6 _ _ Dx hD)
    · obtain ⟨k, hk⟩ := List.getElem?_of_mem hy
      have lk := (List.getElem?_eq_some_iff.mp hk).1
      obtain ⟨b, ys, e1, e2, _⟩ := atH k _ (by omega) (List.getElem?_eq_getElem (by omega))
      rw [hk] at e1
      exact ⟨b, Option.some.inj e1, e2⟩
    · obtain ⟨b, ys, e1, e2, e3, e4⟩ := atH j row hj ej
      refine ⟨b, ys, e1, e2, ?_, e4⟩
      rw [upd_ne (notx e3)]
      exact s7 _ _ (k6 _ _ (notx e3) e3)
    · rw [upd_ne nlx]
      exact upd_same
end
end KK
set_option Elab.async false
set_option linter.all false
set_option maxRecDepth 100000
set_option maxHeartbeats 1000000
namespace KK
open PySem PySem.Spec PyProof.Rows L2 XV NM XT XA LamX
/-! ### making makers, by all keywords too -/
abbrev psM : List Str := ["self", "letters", "rows", "start", "closing"]
structure OkMkM (P : Program) (w : World) (K : PySem.W.Frag) (mg : Str → Option Value) (base : Heap) (C : Addr) : Prop where
  ex : ∃ f fd mv, Mk K C f ∧ FnOk P w K mg base (L2.CX P w) 6 f fd psM (spInitM K C) ∧ KBn K fd psM 3 ["closing"] (fun us ws => us ++ mv ++ ws) (fun vs zs => vs ++ [V.int 0] ++ zs) ∧ KBn K fd psM 3 ["start", "closing"] (fun us ws => us ++ ws) (fun vs zs => vs ++ zs) ∧
    KBn K fd psM 1 ["closing", "start", "rows", "letters"] (fun us ws => us ++ ws.reverse) (fun vs zs => vs ++ zs.reverse) ∧ mg "Maker" = some (.ref C)
section
variable {X : Cx} {C : Addr} {e1 e2 : Expr} {kws : List Keyword} {t tk : TA} {pos p : Pos} {E : XK}
/-- Maker(letters, rows, closing=..), an error let out -/
theorem pe_mkMX0 (o : OkMkM X.prog X.w X.K X.mg X.base C) (tx : Takes X fun cls d _ H => E cls d H) (hr : Room 7 X.A) (hg : Gl X "Maker") (ha : PA X [e1, e2] t) (hk : PK X kws tk)
    (hall : (backToKw pos (keywordEach kws X.env)).all (·.1.isSome) = true := by rfl) (hks : (backToKw pos (keywordEach kws X.env)).filterMap (·.1) = (["closing"] : List Str) := by rfl)
    (he : starEach [e1, e2] X.env = (false, eval e1 X.env) :: starEach [e2] X.env := by rfl) (hpl : ((backTo pos (starEach [e1, e2] X.env)).any (·.1) || (backToKw pos (keywordEach kws X.env)).any (·.1.isNone)) = false := by rfl) :
    PE X (.Call (.Name "Maker" p) [e1, e2] kws pos) (tMakeK C 2 1 (spInitM X.K C) (fun vs zs => vs ++ [V.int 0] ++ zs) E t tk) := by
  obtain ⟨f, fd, mv, M, F, b, b2, b3, g⟩ := o.ex
  exact pe_makeK M F hr hg g b (passes_call tx fun _ _ _ _ h => h) ha hk hall hks (by decide) he hpl
/-- Maker(letters, rows, start=.., closing=..), an error let out -/
theorem pe_mkMX1 (o : OkMkM X.prog X.w X.K X.mg X.base C) (tx : Takes X fun cls d _ H => E cls d H) (hr : Room 7 X.A) (hg : Gl X "Maker") (ha : PA X [e1, e2] t) (hk : PK X kws tk)
    (hall : (backToKw pos (keywordEach kws X.env)).all (·.1.isSome) = true := by rfl) (hks : (backToKw pos (keywordEach kws X.env)).filterMap (·.1) = (["start", "closing"] : List Str) := by rfl)
    (he : starEach [e1, e2] X.env = (false, eval e1 X.env) :: starEach [e2] X.env := by rfl) (hpl : ((backTo pos (starEach [e1, e2] X.env)).any (·.1) || (backToKw pos (keywordEach kws X.env)).any (·.1.isNone)) = false := by rfl) :
    PE X (.Call (.Name "Maker" p) [e1, e2] kws pos) (tMakeK C 2 2 (spInitM X.K C) (fun vs zs => vs ++ zs) E t tk) := by
  obtain ⟨f, fd, mv, M, F, b, b2, b3, g⟩ := o.ex
  exact pe_makeK M F hr hg g b2 (passes_call tx fun _ _ _ _ h => h) ha hk hall hks (by decide) he hpl
/-- the same where nothing is raised -/
theorem pe_mkMC0 (o : OkMkM X.prog X.w X.K X.mg X.base C) (hr : Room 7 X.A) (hg : Gl X "Maker") (ha : PA X [e1, e2] t) (hk : PK X kws tk)
    (hall : (backToKw pos (keywordEach kws X.env)).all (·.1.isSome) = true := by rfl) (hks : (backToKw pos (keywordEach kws X.env)).filterMap (·.1) = (["closing"] : List Str) := by rfl)
    (he : starEach [e1, e2] X.env = (false, eval e1 X.env) :: starEach [e2] X.env := by rfl) (hpl : ((backTo pos (starEach [e1, e2] X.env)).any (·.1) || (backToKw pos (keywordEach kws X.env)).any (·.1.isNone)) = false := by rfl) :
    PE X (.Call (.Name "Maker" p) [e1, e2] kws pos) (tMakeK C 2 1 (cm (spInitM X.K C)) (fun vs zs => vs ++ [V.int 0] ++ zs) E0 t tk) := by
  obtain ⟨f, fd, mv, M, F, b, b2, b3, g⟩ := o.ex
  exact pe_makeK M (FnOk.calm F) hr hg g b pass0 ha hk hall hks (by decide) he hpl
theorem pe_mkMC1 (o : OkMkM X.prog X.w X.K X.mg X.base C) (hr : Room 7 X.A) (hg : Gl X "Maker") (ha : PA X [e1, e2] t) (hk : PK X kws tk)
    (hall : (backToKw pos (keywordEach kws X.env)).all (·.1.isSome) = true := by rfl) (hks : (backToKw pos (keywordEach kws X.env)).filterMap (·.1) = (["start", "closing"] : List Str) := by rfl)
    (he : starEach [e1, e2] X.env = (false, eval e1 X.env) :: starEach [e2] X.env := by rfl) (hpl : ((backTo pos (starEach [e1, e2] X.env)).any (·.1) || (backToKw pos (keywordEach kws X.env)).any (·.1.isNone)) = false := by rfl) :
    PE X (.Call (.Name "Maker" p) [e1, e2] kws pos) (tMakeK C 2 2 (cm (spInitM X.K C)) (fun vs zs => vs ++ zs) E0 t tk) := by
  obtain ⟨f, fd, mv, M, F, b, b2, b3, g⟩ := o.ex
  exact pe_makeK M (FnOk.calm F) hr hg g b2 pass0 ha hk hall hks (by decide) he hpl
/-- Maker(closing=.., start=.., rows=.., letters=..) -/
theorem pe_mkMC4 (o : OkMkM X.prog X.w X.K X.mg X.base C) (hr : Room 7 X.A) (hg : Gl X "Maker") (hk : PK X kws tk)
    (hall : (backToKw pos (keywordEach kws X.env)).all (·.1.isSome) = true := by rfl) (hks : (backToKw pos (keywordEach kws X.env)).filterMap (·.1) = (["closing", "start", "rows", "letters"] : List Str) := by rfl)
    (hpl : ((backTo pos (starEach [] X.env)).any (·.1) || (backToKw pos (keywordEach kws X.env)).any (·.1.isNone)) = false := by rfl) :
    PE X (.Call (.Name "Maker" p) [] kws pos) (tMakeK C 0 4 (cm (spInitM X.K C)) (fun vs zs => vs ++ zs.reverse) E0 tNil tk) := by
  obtain ⟨f, fd, mv, M, F, b, b2, b3, g⟩ := o.ex
  exact pe_makeK0 M (FnOk.calm F) hr hg g b3 pass0 hk hall hks (by decide) hpl
end
section
variable {X : Cx} {K : PySem.W.Frag} {C : Addr} {e1 e2 : Expr} {kws : List Keyword} {t tk : TA} {pos p : Pos} {E : XK}
theorem pe_mkMX0K (eK : X.K = K) (o : OkMkM X.prog X.w K X.mg X.base C) (tx : Takes X fun cls d _ H => E cls d H) (hr : Room 7 X.A) (hg : Gl X "Maker") (ha : PA X [e1, e2] t) (hk : PK X kws tk)
    (hall : (backToKw pos (keywordEach kws X.env)).all (·.1.isSome) = true := by rfl) (hks : (backToKw pos (keywordEach kws X.env)).filterMap (·.1) = (["closing"] : List Str) := by rfl)
    (he : starEach [e1, e2] X.env = (false, eval e1 X.env) :: starEach [e2] X.env := by rfl) (hpl : ((backTo pos (starEach [e1, e2] X.env)).any (·.1) || (backToKw pos (keywordEach kws X.env)).any (·.1.isNone)) = false := by rfl) :
    PE X (.Call (.Name "Maker" p) [e1, e2] kws pos) (tMakeK C 2 1 (spInitM K C) (fun vs zs => vs ++ [V.int 0] ++ zs) E t tk) := by
  subst eK
  exact pe_mkMX0 o tx hr hg ha hk hall hks he hpl
theorem pe_mkMX1K (eK : X.K = K) (o : OkMkM X.prog X.w K X.mg X.base C) (tx : Takes X fun cls d _ H => E cls d H) (hr : Room 7 X.A) (hg : Gl X "Maker") (ha : PA X [e1, e2] t) (hk : PK X kws tk)
    (hall : (backToKw pos (keywordEach kws X.env)).all (·.1.isSome) = true := by rfl) (hks : (backToKw pos (keywordEach kws X.env)).filterMap (·.1) = (["start", "closing"] : List Str) := by rfl)
    (he : starEach [e1, e2] X.env = (false, eval e1 X.env) :: starEach [e2] X.env := by rfl) (hpl : ((backTo pos (starEach [e1, e2] X.env)).any (·.1) || (backToKw pos (keywordEach kws X.env)).any (·.1.isNone)) = false := by rfl) :
    PE X (.Call (.Name "Maker" p) [e1, e2] kws pos) (tMakeK C 2 2 (spInitM K C) (fun vs zs => vs ++ zs) E t tk) := by
  subst eK
  exact pe_mkMX1 o tx hr hg ha hk hall hks he hpl
end
/-! what is right, as data -/
theorem ent_ok {n : Nat} {e : En} (h1 : e.s < n) (h2 : shortV (.str e.w) = true) : entD n (enD e) = true := by
  show ((decide (0 ≤ (e.s : Int)) && decide ((e.s : Int) < (n : Int))) && (shortD (.str e.w) && true)) = true
  rw [decide_eq_true (Int.natCast_nonneg _), decide_eq_true (Int.ofNat_lt.mpr h1), show shortD (.str e.w) = true from h2]
  rfl
theorem ents_ok {m : Mm} (ok : MmOk m) : entsD (m.z.length + 1) (rsD m.R) = true := by
  have l : (m.R.map rwD).length = m.R.length := List.length_map _
  show ((decide (1 ≤ (m.R.map rwD).length) && decide ((m.R.map rwD).length ≤ 12)) && ((m.R.map rwD).all (fun r => isLD r && decide (lenD r = m.z.length + 1)) && (m.R.map rwD).all fun r => (itemsD r).all (entD (m.R.map rwD).length))) = true
  rw [l, decide_eq_true ok.r1, decide_eq_true ok.r2, Bool.true_and, Bool.true_and, Bool.and_eq_true, List.all_eq_true, List.all_eq_true]
  refine ⟨fun d hd => ?_, fun d hd => ?_⟩
  · obtain ⟨r, hr, rfl⟩ := List.mem_map.mp hd
    show (true && decide ((r.map enD).length = m.z.length + 1)) = true
    rw [List.length_map, decide_eq_true (ok.rw r hr).1]
    rfl
  · obtain ⟨r, hr, rfl⟩ := List.mem_map.mp hd
    show (r.map enD).all (entD m.R.length) = true
    rw [List.all_eq_true]
    intro d hd
    obtain ⟨e, he, rfl⟩ := List.mem_map.mp hd
    obtain ⟨h1, h2⟩ := (ok.rw r hr).2 e he
    exact ent_ok h1 h2
theorem wrds_ok {m : Mm} (ok : MmOk m) : wrdsD m.R.length (clD m.cl) = true := by
  show (decide ((m.cl.map PyData.str).length = m.R.length) && (m.cl.map PyData.str).all shortD) = true
  rw [List.length_map, decide_eq_true ok.lc, Bool.true_and, List.all_eq_true]
  intro d hd
  obtain ⟨y, hy, rfl⟩ := List.mem_map.mp hd
  exact ok.hc y hy
theorem short_len {y : Str} (h : shortV (.str y) = true) : y.length ≤ 2000 := by
  have h : (lowS y && decide (y.length ≤ 2000)) = true := h
  rw [Bool.and_eq_true, decide_eq_true_eq] at h
  exact h.2
theorem rs_small {m : Mm} (ok : MmOk m) : ∀ r ∈ itemsD (rsD m.R), lenD r ≤ 60 ∧ ∀ e ∈ itemsD r, SE e := fun r hr => by
  obtain ⟨row, hrow, rfl⟩ := List.mem_map.mp (show r ∈ m.R.map rwD from hr)
  obtain ⟨h1, h2⟩ := ok.rw row hrow
  have lz := ok.lz
  refine ⟨?_, fun e he => ?_⟩
  · show (row.map enD).length ≤ 60
    rw [List.length_map]
    omega
  · obtain ⟨en, hen, rfl⟩ := List.mem_map.mp (show e ∈ row.map enD from he)
    intro a b c eq y ey
    have eq : PyData.tuple [.int (en.s : Int), .str en.w, .bool en.b] = .tuple [a, b, c] := eq
    injection eq with eq
    injection eq with _ eq
    injection eq with eq _
    rw [← eq] at ey
    rw [← PyData.str.inj ey]
    have := short_len (h2 en hen).2
    omega
theorem cl_small {m : Mm} (ok : MmOk m) : ∀ e ∈ itemsD (clD m.cl), SL e := fun e he y ey => by
  obtain ⟨w, hw, rfl⟩ := List.mem_map.mp (show e ∈ m.cl.map PyData.str from he)
  rw [← PyData.str.inj ey]
  have := short_len (ok.hc w hw)
  omega
/-- what the making asks where all is right, its instance new -/
theorem mk_spM {K : PySem.W.Frag} {C : Addr} {H : Hp} {Q : VK} {E : XK} {x dx ra en : Addr} {m : Mm} {zv sv : V} (hz : zv = .str m.z) (hv : sv = .int (m.s : Int)) (nx : H x = none) (ndx : H dx = none) (ne : dx ≠ x) (hen : H en = some (.lst (m.cl.map V.str))) (hR : Da H (.ref ra) (rsD m.R)) (ok : MmOk m)
    (q : ∀ H' : Hp, Same H H' → MaZ C H' x m (fun a => ∃ xs, H a = some (.lst xs)) → Q .non H') :
    cm (spInitM K C) [V.ref x, zv, V.ref ra, sv, V.ref en] (upd (upd H dx (.own x)) x (.ins C dx [])) Q E := by
  subst hz hv
  have s1 := same_new (o := .own x) ndx
  have s2 : Same (upd H dx (.own x)) (upd (upd H dx (.own x)) x (.ins C dx [])) := same_new (by rw [upd_ne (Ne.symm ne)]; exact nx)
  have s := s1.trans s2
  have lR : lenD (rsD m.R) = m.R.length := by
    show (m.R.map rwD).length = _
    rw [List.length_map]
  have lC : lenD (clD m.cl) = m.cl.length := by
    show (m.cl.map PyData.str).length = _
    rw [List.length_map]
  have lz := ok.lz
  have r2 := ok.r2
  have lc := ok.lc
  refine ⟨x, dx, _, _, _, _, rfl, upd_same, .inr ⟨m.z, rfl, by omega, ok.al, _, hR.keep s, by omega, rs_small ok, .inr ⟨ents_ok ok, .int _, .inr ⟨?_, _, (cl_da hen).keep s, by omega, cl_small ok, .inr ⟨?_, m, ra, en, rfl, rfl, rfl, rfl, s _ _ hen, hR.keep s, r2, by omega, fun H' hb ha => q H' (fun b o e => ?_) ((ha.z (fun xs z => ?_) fun a xs e => ?_).sub fun a ⟨xs, e⟩ => ⟨xs, s _ _ e⟩)⟩⟩⟩⟩⟩
  · rw [lR]
    exact (below_lt _ _).trans (decide_eq_true ok.hs)
  · rw [lR]
    exact wrds_ok ok
  · exact hb _ _ (ne_of_none e nx) (s _ _ e)
  · rw [upd_same] at z
    cases z
  · refine hb _ _ (fun z => ?_) e
    rw [z, upd_same] at e
    cases e
end KK
set_option Elab.async false
set_option linter.all false
set_option maxRecDepth 100000
set_option maxHeartbeats 2000000
/-! zip of a string (first) and a list (second). -/
namespace XV
open PySem PySem.Spec PyProof.Rows L2
/-- the letters of y and the list at b, as it is when a turn begins; each turn's two items come in a pair of their own -/
def ItzS (K : PySem.W.Frag) (y : Str) (b : Addr) : It where
  go := fun i H => ∃ (ys : List V) (c : Nat) (v : V), SqL K H b ys ∧ y.cps[i]? = some c ∧ ys[i]? = some v
  yld := fun i H v H' => ∃ T c w, v = .ref T ∧ H T = none ∧ H' = upd H T (.tup [.str ⟨#[c]⟩, w]) ∧ y.cps[i]? = some c ∧ ∀ ys, SqL K H b ys → ys[i]? = some w
  stop := fun i H => ∃ ys : List V, SqL K H b ys ∧ (y.cps.size = i ∨ ys.length = i) ∧ i ≤ y.cps.size ∧ i ≤ ys.length
def AtS (y : Str) (t : Tok) (b z tI tO j k : Addr) (i : Nat) (h : Heap) : Prop :=
  IsZip h z tI tO .none ∧ IsPair h tI (.ref j) (.ref k) ∧ (∃ p q, IsPair h tO p q) ∧ h.IsStrIter j (strIterType y) y t i ∧ h.IsListIter k b i
theorem sepS {z tI tO j k b : Addr} (D : ZipApart z tI tO j k b b) : ZipSep2 z tI tO j k [j] [k, b] where
  TIz := D.TIz
  TOz := D.TOz
  TITO := D.TITO
  TIi1 := D.TIi1
  mem1 := List.mem_cons_self
  zf1 := by simp [D.i1z.symm]
  Tf1 := by simp [D.TOi1]
  TIi2 := D.TIi2
  mem2 := List.mem_cons_self
  zf2 := by simp [D.i2z.symm, D.l2z.symm]
  Tf2 := by simp [D.TOi2, D.l2TO.symm]
  sep1_2 := by simp [D.i12, D.l2i1.symm]
  sep2_1 := by simp [D.i12.symm]
theorem turnS {P : Program} {w : World} {K : PySem.W.Frag} {es : List Expr} {kk : Nat} {tp : Pos} {y : Str} {t : Tok} {b z tI tO j k : Addr} (D : ZipApart z tI tO j k b b) :
    Turn P w K (.Tuple es kk tp) (ItzS K y b) [z, tI, tO, j, k] z (AtS y t b z tI tO j k) where
  mem := List.mem_cons_self
  obj := fun i h ⟨s1, s2, ⟨p, q, s3⟩, ⟨o1, e1, _, d1⟩, ⟨o2, e2, _, d2⟩⟩ c hc => by
    simp only [List.mem_cons, List.not_mem_nil, or_false] at hc
    rcases hc with rfl | rfl | rfl | rfl | rfl
    · exact ⟨_, s1, fun _ x => nomatch x⟩
    · exact ⟨_, s2, fun _ x => nomatch x⟩
    · exact ⟨_, s3, fun _ x => nomatch x⟩
    · exact ⟨o1, e1, fun _ x => by rw [d1] at x; cases x⟩
    · exact ⟨o2, e2, fun _ x => by rw [d2] at x; cases x⟩
  keep := fun i h h' ⟨s1, s2, ⟨p, q, s3⟩, s4, s5⟩ kp =>
    ⟨kp z (by simp) _ s1, kp tI (by simp) _ s2, ⟨p, q, kp tO (by simp) _ s3⟩, (by obtain ⟨o, e, r⟩ := s4; exact ⟨o, kp j (by simp) o e, r⟩), s5.at (fun o e => kp k (by simp) o e)⟩
  item := by
    intro X eP ew eK calm i pins s σ H E I fp st gg
    subst eP ew eK
    obtain ⟨s1, s2, ⟨p0, q0, s3⟩, s4, s5⟩ := st
    obtain ⟨ys, c, w, ly, ex, ey⟩ := gg
    obtain ⟨vs, rv, pw, _⟩ := I.list ly
    obtain ⟨v, ev, rvy⟩ := rv.get ey
    have zlt : z < s.heap.objs.size := Heap.lt_size s1
    have hu : i < y.cps.size := (Array.getElem?_eq_some_iff.mp ex).1
    have hv : i < vs.toArray.size := by
      have := (List.getElem?_eq_some_iff.mp ev).1
      simpa using this
    have hh : X.A.in1.handled = none := I.ok.hd calm
    refine wpAny_pyNext_zipD2_item (sepS D) (Draws.text hh j y t) (Draws.list hh k b D.l2i2 vs.toArray) s1 s2 s3 s4 ⟨s5, pw.isList⟩ hu hv fun x1 x2 h' tk d1 d2 z1 t1 n1 n2 new sz kp => ?_
    obtain ⟨c', u, ec, e1⟩ := d1
    obtain rfl : c' = c := Option.some.inj (ec.symm.trans ex)
    have e2 : x2 = v := Option.some.inj (d2.symm.trans (by simpa using ev))
    subst e1 e2
    refine ⟨_, rfl, wpAny_letOwnedTupleGo_zip (s := { s with heap := h', toks := tk }) z1 fun g z2 sb => ?_⟩
    have far : ∀ c, c = z ∨ c = tI ∨ c = tO ∨ c = j ∨ c = k → c < s.heap.objs.size := fun c hc => by
      rcases hc with rfl | rfl | rfl | rfl | rfl
      · exact zlt
      · exact Heap.lt_size s2
      · exact Heap.lt_size s3
      · obtain ⟨_, q, _⟩ := s4
        exact Heap.lt_size q
      · obtain ⟨_, q, _⟩ := s5
        exact Heap.lt_size q
    have fresh : g.get? s.heap.objs.size = some { cls := .type "tuple", data := .seq #[.str ⟨#[c']⟩ u, x2] } := (sb.2 _ (Nat.ne_of_gt zlt)).trans new
    have ok2 : ObjOk X.prog X.w (upd H s.heap.objs.size (.tup [.str ⟨#[c']⟩, w])) g s.heap.objs.size (.tup [.str ⟨#[c']⟩, w]) := ⟨(by show 2 ≤ sizeLine; decide), [.str ⟨#[c']⟩ u, x2], .cons ⟨u, rfl⟩ (.cons rvy .nil), ⟨_, fresh, rfl, _, rfl⟩⟩
    have J := I.turnedNew (t' := tk) (h' := g) (ch := [z, tI, tO, j, k]) (fun c o out q => (sb.2 c (fun e => out (by simp [e]))).trans (kp c o (fun e => out (by simp [e])) (fun e => out (by simp [e])) (fun e => out (by simp [e])) (fun e => out (by simp [e])) q)) fp (Nat.le_refl _) ok2
    refine ⟨.ref s.heap.objs.size, _, J, rfl, ⟨_, c', w, rfl, I.hok.fresh (Nat.le_refl _), rfl, ex, fun l hl => (I.list_inj hl ly) ▸ ey⟩, ⟨z2, (sb.2 _ D.TIz).trans (kp _ _ D.TIz D.TITO D.TIi1 D.TIi2 s2), ⟨_, x2, (sb.2 _ D.TOz).trans t1⟩, (by obtain ⟨o, e, r⟩ := n1; exact ⟨o, (sb.2 _ D.i1z).trans e, r⟩), n2.1.at (fun o q => (sb.2 _ D.i2z).trans q)⟩, fun c hc => ?_⟩
    simp only [List.mem_cons, List.not_mem_nil, or_false] at hc
    rw [upd_ne (Nat.ne_of_lt (far c hc))]
    exact (fp c (by simpa using hc)).1
  done := by
    intro X eP ew eK calm i pins s σ H E I fp st gg
    subst eP ew eK
    obtain ⟨s1, s2, ⟨p0, q0, s3⟩, s4, s5⟩ := st
    obtain ⟨ys, ly, stop, l1, l2⟩ := gg
    obtain ⟨vs, rv, pw, _⟩ := I.list ly
    have n2 := rv.length
    have hh : X.A.in1.handled = none := I.ok.hd calm
    refine wpAny_pyNext_zipD2_end (sepS D) (Draws.text hh j y t) (Draws.list hh k b D.l2i2 vs.toArray) s1 s2 s3 s4 ⟨s5, pw.isList⟩ (by first | omega | (simp; omega)) (by first | omega | (simp; omega)) (by first | omega | (simp; omega)) fun h' tk kp => ⟨rfl, ?_⟩
    exact I.turnedL (t' := tk) (ch := [z, tI, tO, j, k]) (fun c o out q => kp c o (fun e => out (by simp [e])) (fun e => out (by simp [e])) (fun e => out (by simp [e])) (fun e => out (by simp [e])) q) fp
  self := fun A i s Q E st q => wpAny_pyIter_zip st.1 q
/-- .. in zip(text, list) -/
def iZipS (K : PySem.W.Frag) (ta : TA) : TI := fun σ H R => ta σ H fun vs H1 => ∃ y b ys, vs = [.str y, .ref b] ∧ SqL K H1 b ys ∧ R (ItzS K y b) H1
theorem pi_zipS {X : Cx} {e e2 : Expr} {ta : TA} {p pos tp : Pos} {es : List Expr} {kk : Nat} (gl : Gl X "zip") (z_zip : X.mg "zip" = none) (ha : PA X [e, e2] ta)
    (hs : starEach [e, e2] X.env = (false, eval e X.env) :: starEach [e2] X.env := by rfl) (np : (backTo pos (starEach [e2] X.env)).any (·.1) = false := by rfl) :
    PI X (.Tuple es kk tp) (.Call (.Name "zip" p) [e, e2] [] pos) (iZipS X.K ta) := by
  refine ⟨fun pins s σ H R I h => Call_ (ld_blt I gl z_zip PyProof.Rows.boot_zip (PyProof.Rows.callWith_type1 (thn (ha.run pos pins s σ H _ I h) fun us s1 ⟨vs, H1, J, rv, q⟩ => ?_) hs np))⟩
  obtain ⟨y, b, ys, rfl, ly, q⟩ := q
  obtain ⟨u1, u2, rfl, r1, r2⟩ := vals2 rv
  obtain ⟨t, rfl⟩ := r1
  cases r2
  obtain ⟨qs, _, pw, _⟩ := J.list ly
  have lt2 : b < s1.heap.objs.size := pw.lt
  refine zip_begins2 (begins_text y t) (begins_list b qs.toArray) trivial pw.isList fun h' z1 t1 t2 g1 g2 sz kp => wpAny_pyIter_zip z1 ?_
  have J2 : Inv X pins σ H1 { s1 with heap := h' } := J.kept (t' := s1.toks) kp
  refine ⟨s1.heap.objs.size + 4, [s1.heap.objs.size + 4, s1.heap.objs.size + 2, s1.heap.objs.size + 3, s1.heap.objs.size, s1.heap.objs.size + 1], _, _, H1, rfl, J2, turnS (PySem.W.ktu_apart s1.heap.objs.size b b lt2 lt2), ⟨z1, t1, ⟨_, _, t2⟩, ⟨_, g1, rfl, rfl⟩, ⟨_, g2, rfl, rfl⟩⟩, fun c hc => ?_, q⟩
  have le : s1.heap.objs.size ≤ c := by
    simp only [List.mem_cons, List.not_mem_nil, or_false] at hc
    rcases hc with rfl | rfl | rfl | rfl | rfl
    · exact Nat.le_add_right _ 4
    · exact Nat.le_add_right _ 2
    · exact Nat.le_add_right _ 3
    · exact Nat.le_refl _
    · exact Nat.le_add_right _ 1
  exact J.fpOk le (J.hok.fresh le)
theorem walk_zipS {K : PySem.W.Frag} {y : Str} {b : Addr} {ys : List V} (hn : y.cps.size = ys.length) : Walk (ItzS K y b) ys.length (fun H => SqL K H b ys) (fun i H v H' => ∃ T c w, v = .ref T ∧ H T = none ∧ H' = upd H T (.tup [.str ⟨#[c]⟩, w]) ∧ y.cps[i]? = some c ∧ ys[i]? = some w) := by
  refine ⟨fun i _ hi q => ?_, fun _ q => ⟨ys, q, .inr rfl, by omega, Nat.le_refl _⟩, fun i H v H' _ q z => ?_⟩
  · have h1 : i < y.cps.size := by omega
    exact ⟨ys, y.cps[i], ys[i], q, by simp [h1], by simp [hi]⟩
  · obtain ⟨T, c, w, h1, h2, h3, h4, h5⟩ := z
    exact ⟨T, c, w, h1, h2, h3, h4, h5 ys q⟩
end XV
set_option Elab.async false
set_option linter.all false
set_option maxRecDepth 100000
set_option maxHeartbeats 1000000
namespace KK
open PySem PySem.Spec PyProof.Rows L2 XV NM XT XA LamX
/-! ### what a maker makes of a word -/
theorem PE.or {X : Cx} {e : Expr} {t1 t2 : TE} (h1 : PE X e t1) (h2 : PE X e t2) : PE X e (fun σ H Q => t1 σ H Q ∨ t2 σ H Q) := ⟨fun pins s σ H Q I h => h.elim (fun h => h1.run pins s σ H Q I h) fun h => h2.run pins s σ H Q I h⟩
def ZOk (z : Str) : Prop := (cz z).Nodup ∧ z.length ≤ 26 ∧ z.cps.all (· < 128) = true
def spCols2 (CM : Addr) : Sp := fun vs H Q _ => ∃ (x : Addr) (z y : Str), vs = [.ref x, .str y] ∧ (∃ m, Ma CM H x m ∧ m.z = z) ∧ ZOk z ∧ y.length ≤ 100000 ∧ ∀ (H' : Hp) (p : Addr), Same H H' → H p = none → H' p = some (.lst ((natI (colsN z y)).map V.int)) → Q (.ref p) H'
section
variable {P : Program} {w : World} {K : PySem.W.Frag} {mg : Str → Option Value} {base : Heap} {f : Addr} {fd : FuncData} {C CM : Addr}
theorem ok_cols2 (F : FnP K "columns_of" sCols f fd) (TM : MT K mg CM) (o_letM : OkMa P w K mg base CM "letters" (spLetM CM)) (z_enum : mg "enumerate" = none) (z_len : mg "len" = none) : FnOk P w K mg base CX0 2 f fd ["machine", "word"] (spCols2 CM) := by
  have nd := scCols.nd
  refine F.ok scCols (fun vs H Q E h => ?_) (fun cdv A outer s H vs Q E hr h => ?_)
  · obtain ⟨x, z, y, rfl, _⟩ := h
    rfl
  · obtain ⟨x, z, y, rfl, hx, ⟨nz, lz0, az⟩, ly, q⟩ := h
    have szl := sizeLine_eq
    have r1 : Room 1 (A.deeper (envOfC "columns_of" (defScope sCols) s.heap.objs.size f cdv)) := hr
    have hu1 : (A.deeper (envOfC "columns_of" (defScope sCols) s.heap.objs.size f cdv)).units + 1 < cLine := by have := hr.un; omega
    refine ⟨_, PSs.nox (C8.pss_cut (ps_set (i := 2) nd rfl (Or.inr rfl) (pe_letM o_letM TM (pv 0) r1))
      (pss_cons (ps_set (i := 3) nd rfl (Or.inr rfl) (pe_dc (own := [("letter", 4), ("at", 5)]) (g := gTup K 2 (gCons (gName 5) (gCons (gName 4) gNil))) (by rfl) nd (pi_enumS (by rfl) z_enum (pv 2)) (blkOk_by (N := nCols) (sc := defScope sCols) (own := [("letter", 4), ("at", 5)]) (by decide +kernel))
          (fun _ _ _ _ _ => pg_tup rfl (pgs_cons (pg_name (i := 5) nd rfl (Or.inl rfl)) (pgs_cons (pg_name (i := 4) nd rfl (Or.inl rfl)) pgs_nil))) (fun _ _ _ _ _ => pts_nil) (fun _ _ _ _ _ => pv 4) (fun _ _ _ _ _ => pv 5)))
      (pss_one (ps_ret (pe_lc (own := [("letter", 4)]) (g := gName 4) (by rfl) nd (pi_str (pv 1)) (blkOk_by (N := nCols) (sc := defScope sCols) (own := [("letter", 4)]) (by decide +kernel)) (fun _ _ _ _ _ => pg_name (i := 4) nd rfl (Or.inl rfl)) (fun _ _ _ _ _ => pts_nil)
          (fun _ _ _ _ _ => pe_dget2 hu1 (pv 3) (pv 4) (pe_callB call_len_str (by rfl) z_len boot_len (pa_cons (pv 2) pa_nil)) ⟨rfl, rfl, rfl, rfl⟩)))))), ?_⟩
    refine ⟨fun σ' H' => σ' = [some (.ref x), some (.str y), some (.str z), none, none, none] ∧ H = H', ?_, ?_⟩
    · obtain ⟨m, ha, rfl⟩ := hx
      exact ⟨_, rfl, x, m, rfl, ha, rfl, rfl⟩
    rintro σ' _ ⟨rfl, rfl⟩
    have lz : z.length ≤ 26 := lz0
    have sz : z.cps.size = (cz z).length := by simp
    have lcz := cz_len z
    refine ⟨_, rfl, z, rfl, az, fun D nD => dc_it walk_enumS (fun i H' => Same H H' ∧ ∃ kvs : List (Key × V), H' D = some (.dK kvs) ∧ kvs.length ≤ i ∧ ∀ c : Nat, valV kvs (.inr ⟨#[c]⟩) = if (cz z).idxOf c < i then some (.int (((cz z).idxOf c : Nat) : Int)) else none)
      ⟨same_new nD, [], upd_same, Nat.le_refl _, fun c => by rw [if_neg (by omega)]; rfl⟩ (fun _ _ _ _ => trivial) ?_ ?_⟩
    · rintro i v H' H2 hi ⟨sm, kvs, hD, lk, hv⟩ ⟨T', a, b, rfl, nT, rfl, ea, eb⟩
      obtain rfl : V.int (i : Nat) = a := Option.some.inj ea
      obtain ⟨c, ec, rfl⟩ := Option.map_eq_some_iff.mp eb
      rw [cz_at] at ec
      have ic := idx_at nz ec
      have li := (List.getElem?_eq_some_iff.mp ec).1
      have sT := same_new (o := .tup [.int (i : Nat), .str ⟨#[c]⟩]) nT
      refine ⟨T', _, rfl, SqT.of upd_same, rfl, _, _, rfl, _, _, rfl, rfl, rfl, ?_⟩
      refine ⟨_, rfl, _, rfl, kvs, .inr ⟨#[c]⟩, rfl, sT _ _ hD, small1000 (by omega), fun d o e => ?_, _, upd_same, Nat.le_trans (length_putK _ _ _) (by omega), fun c2 => ?_⟩
      · rw [upd_ne (ne_of_none (H := H) e nD)]
        exact sT _ _ (sm _ _ e)
      · rw [valV_put]
        by_cases e : c2 = c
        · subst e
          rw [if_pos rfl, ic, if_pos (by omega)]
        · have ne : ¬ ((.inr ⟨#[c2]⟩ : Key) = .inr ⟨#[c]⟩) := fun h => e (by
            have := Str.mk.inj (Sum.inr.inj h)
            simpa using this)
          rw [if_neg ne, hv]
          have ni : (cz z).idxOf c2 ≠ i := fun h => by
            have l2 : (cz z).idxOf c2 < (cz z).length := by omega
            have e2 : (cz z)[(cz z).idxOf c2] = c2 := List.getElem_idxOf l2
            obtain ⟨h3, e4⟩ := List.getElem?_eq_some_iff.mp ec
            apply e
            rw [← e2, ← e4]
            congr 1
          by_cases h : (cz z).idxOf c2 < i
          · rw [if_pos h, if_pos (by omega)]
          · rw [if_neg h, if_neg (by omega)]
    rintro H1 ⟨sm, kvs, hD, lk, hv⟩
    refine ⟨_, rfl, y, rfl, fun D2 nD2 => lc_it walk_str (fun i H' => Same H1 H' ∧ H' D2 = some (.lst ((natI ((colsN z y).take i)).map V.int))) ⟨same_new nD2, upd_same⟩ (fun _ _ _ _ => trivial) ?_ ?_⟩
    · rintro i v H' H2 hi ⟨s2, hD2⟩ ⟨rfl, c, ec, rfl⟩
      rw [cz_at] at ec
      have li := (List.getElem?_eq_some_iff.mp ec).1
      have ly2 := cz_len y
      have egd : (valV kvs (.inr ⟨#[c]⟩)).getD (V.int (z.length : Int)) = .int (((cz z).idxOf c : Nat) : Int) := by
        rw [hv, sz]
        by_cases h : (cz z).idxOf c < (cz z).length
        · rw [if_pos h]
          rfl
        · rw [if_neg h]
          have := List.idxOf_le_length (a := c) (l := cz z)
          show V.int (z.length : Int) = _
          rw [cz_len z, show (cz z).idxOf c = (cz z).length by omega]
      refine ⟨rfl, ?_⟩
      refine ⟨_, rfl, D, rfl, .inl ⟨kvs, .inl (s2 _ _ hD)⟩, _, rfl, _, rfl, z, rfl, by omega, _, DGet.k (k := .inr ⟨#[c]⟩) (s2 _ _ hD), _, hD2, ?_, fun d o e => ?_, ?_⟩
      · rw [List.length_map, natI_len, List.length_take]
        omega
      · rw [upd_ne (ne_of_none (H := H1) e nD2)]
        exact s2 _ _ e
      · rw [upd_same, egd]
        have et : (colsN z y)[i]? = some ((cz z).idxOf c) := by
          unfold colsN
          rw [List.getElem?_map, ec]
          rfl
        rw [List.take_add_one, et]
        unfold natI
        rw [List.map_append, List.map_append]
        rfl
    · rintro H' ⟨s2, hD2⟩
      have ly2 : y.cps.size = (colsN z y).length := by simp [colsN]
      rw [ly2, List.take_length] at hD2
      refine q H' D2 (sm.trans s2) ?_ hD2
      cases e : H D2 with
      | none => rfl
      | some o =>
        rw [sm _ _ e] at nD2
        cases nD2
end
end KK
set_option Elab.async false
set_option linter.all false
set_option maxRecDepth 100000
set_option maxHeartbeats 1000000
namespace KK
open PySem PySem.Spec PyProof.Rows L2 XV NM XT XA LamX
/-! ### the parts that a maker makes -/
def enAt (R : List (List En)) (s k : Nat) : En := (R.getD s []).getD k ⟨0, "", false⟩
def pstep (z : Str) (R : List (List En)) (st : Nat × List Str) (c : Nat) : Nat × List Str := ((enAt R st.1 ((cz z).idxOf c)).s, st.2 ++ ((enAt R st.1 ((cz z).idxOf c)).w :: if (enAt R st.1 ((cz z).idxOf c)).b then [⟨#[c]⟩] else []))
def prun (m : Mm) (s : Nat) (cs : List Nat) : Nat × List Str := cs.foldl (pstep m.z m.R) (s, [])
theorem prun_snoc (m : Mm) (s : Nat) (cs : List Nat) (c : Nat) : prun m s (cs ++ [c]) = pstep m.z m.R (prun m s cs) c := by
  unfold prun
  rw [List.foldl_append]
  rfl
theorem prun_take {m : Mm} {s i c : Nat} {cs : List Nat} (h : cs[i]? = some c) : prun m s (cs.take (i + 1)) = pstep m.z m.R (prun m s (cs.take i)) c := by
  rw [List.take_add_one, h]
  exact prun_snoc m s _ c
theorem en_get {m : Mm} (ok : MmOk m) {s : Nat} (hs : s < m.R.length) (c : Nat) : ∃ row, m.R[s]? = some row ∧ row[(cz m.z).idxOf c]? = some (enAt m.R s ((cz m.z).idxOf c)) ∧ (enAt m.R s ((cz m.z).idxOf c)).s < m.R.length ∧ shortV (.str (enAt m.R s ((cz m.z).idxOf c)).w) = true := by
  have e1 : m.R[s]? = some m.R[s] := List.getElem?_eq_getElem hs
  obtain ⟨h1, h2⟩ := ok.rw _ (List.getElem_mem hs)
  have hc : (cz m.z).idxOf c ≤ (cz m.z).length := List.idxOf_le_length
  rw [← cz_len] at hc
  have lc : (cz m.z).idxOf c < m.R[s].length := by omega
  have e2 : m.R[s][(cz m.z).idxOf c]? = some m.R[s][(cz m.z).idxOf c] := List.getElem?_eq_getElem lc
  have e3 : enAt m.R s ((cz m.z).idxOf c) = m.R[s][(cz m.z).idxOf c] := by
    unfold enAt
    have e4 : m.R.getD s [] = m.R[s] := by
      rw [List.getD_eq_getElem?_getD, e1]
      rfl
    rw [e4, List.getD_eq_getElem?_getD, e2]
    rfl
  rw [e3]
  obtain ⟨h3, h4⟩ := h2 _ (List.getElem_mem lc)
  exact ⟨_, e1, e2, h3, h4⟩
theorem prun_ok {m : Mm} (ok : MmOk m) {s : Nat} (hs : s < m.R.length) (cs : List Nat) : ∀ i, i ≤ cs.length → (prun m s (cs.take i)).1 < m.R.length ∧ (prun m s (cs.take i)).2.length ≤ 2 * i ∧ ∀ y ∈ (prun m s (cs.take i)).2, y.length ≤ 2000
  | 0, _ => ⟨hs, Nat.le_refl _, fun y hy => by cases hy⟩
  | i + 1, hi => by
    obtain ⟨h1, h2, h3⟩ := prun_ok ok hs cs i (by omega)
    have ec : cs[i]? = some (cs[i]'(by omega)) := List.getElem?_eq_getElem (by omega)
    rw [prun_take ec]
    obtain ⟨row, _, _, e3, e4⟩ := en_get ok h1 (cs[i]'(by omega))
    refine ⟨e3, ?_, fun y hy => ?_⟩
    · show (_ ++ (_ :: if _ then _ else _)).length ≤ _
      rw [List.length_append, List.length_cons]
      split
      · show _ + (1 + 1) ≤ _
        omega
      · show _ + (0 + 1) ≤ _
        omega
    · rcases List.mem_append.mp hy with h | h
      · exact h3 y h
      · rcases List.mem_cons.mp h with h | h
        · rw [h]
          exact short_len e4
        · split at h
          · rw [List.mem_singleton.mp h]
            show 1 ≤ 2000; decide
          · cases h
theorem prun_all {m : Mm} (ok : MmOk m) {s : Nat} (hs : s < m.R.length) (cs : List Nat) : (prun m s cs).1 < m.R.length ∧ (prun m s cs).2.length ≤ 2 * cs.length ∧ ∀ y ∈ (prun m s cs).2, y.length ≤ 2000 := by
  have h := prun_ok ok hs cs cs.length (Nat.le_refl _)
  rw [List.take_length] at h
  exact h
abbrev sParts : Stmt := top 28
abbrev nParts : List Str := ["maker", "state", "word", "rows", "parts", "letter", "column", "made", "itself"]
theorem scParts : FnScope nParts ["maker", "state", "word"] (defScope sParts) := ⟨rfl, rfl, rfl, by decide +kernel, rfl, by decide +kernel, by decide +kernel⟩
abbrev sLop : Stmt := top 29
theorem scLop : FnScope ["parts", "part"] ["parts"] (defScope sLop) := ⟨rfl, rfl, rfl, by decide +kernel, rfl, by decide +kernel, by decide +kernel⟩
def spParts (C : Addr) : Sp := fun vs H Q _ => ∃ (x : Addr) (m : Mm) (s : Nat) (y : Str), vs = [.ref x, .int s, .str y] ∧ Ma C H x m ∧ MmOk m ∧ s < m.R.length ∧ y.length ≤ 20001 ∧ ∀ (H' : Hp) (t l : Addr), Same H H' → H' t = some (.tup [.int ((prun m s (cz y)).1 : Nat), .ref l]) → H l = none → H' l = some (.lst ((prun m s (cz y)).2.map V.str)) → Q (.ref t) H'
def spLop : Sp := fun vs H Q _ => ∃ (l : Addr) (ps : List Str), vs = [.ref l] ∧ H l = some (.lst (ps.map V.str)) ∧ ps.length ≤ 50000 ∧ (∀ y ∈ ps, y.length ≤ 100000) ∧ ∀ H', Same H H' → Q (.int (((ps.map (·.length)).sum : Nat) : Int)) H'
theorem sum_cast : ∀ ps : List Str, (ps.map fun y => (y.length : Int)).sum = (((ps.map (·.length)).sum : Nat) : Int)
  | [] => rfl
  | y :: ps => by
    rw [List.map_cons, List.sum_cons, sum_cast ps, List.map_cons, List.sum_cons, Int.natCast_add]
section
variable {P : Program} {w : World} {K : PySem.W.Frag} {mg : Str → Option Value} {base : Heap} {f : Addr} {fd : FuncData} {C CM : Addr}
theorem ok_parts (F : FnP K "parts_made" sParts f fd) (TM : MT K mg CM) (o_rowsM : OkMa P w K mg base CM "rows" (spRowsM CM)) (o_cols : Ok P w K mg base "columns_of" 2 ["machine", "word"] (spCols2 CM)) (z_zip : mg "zip" = none) : FnOk P w K mg base CX0 3 f fd ["maker", "state", "word"] (spParts CM) := by
  have nd := scParts.nd
  refine F.ok scParts (fun vs H Q E h => ?_) (fun cdv A outer s H vs Q E hr h => ?_)
  · obtain ⟨x, m, s0, y, rfl, _⟩ := h
    rfl
  · obtain ⟨x, m, s0, y, rfl, hx, ok, hs, ly, q⟩ := h
    have szl := sizeLine_eq
    have r2 : Room 2 (A.deeper (envOfC "parts_made" (defScope sParts) s.heap.objs.size f cdv)) := hr
    have r1 := r2.mono (by decide : 1 ≤ 2)
    refine ⟨_, PSs.nox (pss_cons (ps_par (i := 3) (j := 4) rfl nd rfl rfl (by decide) rfl rfl (pa_cons (pe_rowsM o_rowsM TM (pv 0) r1) (pa_cons (pe_lst pa_nil) pa_nil)) (by rfl))
      (pss_cons (ps_for PassesOwn.never rfl (pi_zipS (by rfl) z_zip (pa_cons (pv 2) (pa_cons (pe_callO o_cols r2 (by rfl) (pa_cons (pv 0) (pa_cons (pv 2) pa_nil))) pa_nil))) (pg_tup rfl (pgs_cons (pg_name (i := 5) nd rfl (Or.inl rfl)) (pgs_cons (pg_name (i := 6) nd rfl (Or.inl rfl)) pgs_nil)))
        (pss_cons (ps_asg (pe_ix ix_list (pe_ix ix_list (pv 3) (pv 1) (fun _ _ => rfl)) (pv 6) (fun _ _ => rfl)) (pg_tup rfl (pgs_cons (pg_name (i := 1) nd rfl (Or.inl rfl)) (pgs_cons (pg_name (i := 7) nd rfl (Or.inl rfl)) (pgs_cons (pg_name (i := 8) nd rfl (Or.inl rfl)) pgs_nil)))))
        (pss_cons (ps_expr (pe_bm PySem.F.plainAttrs_list PySem.F.slot_list_append PySem.F.type_list_append mt_append (pv 4) (pa_cons (pv 7) pa_nil)))
        (pss_one (ps_if (pt_val (pv 8)) (pss_one (ps_expr (pe_bm PySem.F.plainAttrs_list PySem.F.slot_list_append PySem.F.type_list_append mt_append (pv 4) (pa_cons (pv 5) pa_nil)))) pss_nil)))))
      (pss_one (ps_ret (pe_tup (pa_cons (pv 1) (pa_cons (pv 4) pa_nil))))))), ?_⟩
    have lz := ok.lz
    refine ⟨_, rfl, x, m, rfl, hx, ok.r2, fun r hr2 => by have := (ok.rw r hr2).1; omega, fun H1 p s1 rn => ⟨(by show 0 ≤ sizeLine; omega), fun l nl => ⟨_, _, rfl, ?_⟩⟩⟩
    have hda := rn.dS fun a xs e => s1 _ _ e
    have s2 := same_new (o := .lst []) nl
    have hl2 : upd H1 l (.lst []) l = some (.lst []) := upd_same
    have nlH := was_none s1 nl
    generalize upd H1 l (.lst []) = H2 at *
    have S2 := s1.trans s2
    refine ⟨_, rfl, _, rfl, _, rfl, x, m.z, y, rfl, ⟨m, hx.keep S2, rfl⟩, ⟨ok.nd, ok.lz, ok.ascii⟩, by omega, fun H3 cp s3 ncp hcp => ?_⟩
    have hl3 := s3 _ _ hl2
    have cl : cp ≠ l := Ne.symm (ne_of_none hl2 ncp)
    have sG : Same H1 (rm l H3) := fun b o e => by
      unfold rm
      rw [if_neg (ne_of_none e nl)]
      exact s3 _ _ (s2 _ _ e)
    have hcpG : rm l H3 cp = some (.lst ((natI (colsN m.z y)).map V.int)) := by
      unfold rm
      rw [if_neg cl]
      exact hcp
    have nlG : rm l H3 l = none := rm_at
    have hda := hda.keep sG
    have S03 : Same H (rm l H3) := s1.trans sG
    have lcz := cz_len y
    have lcol : ((natI (colsN m.z y)).map V.int).length = y.length := by
      rw [List.length_map, natI_len]
      unfold colsN
      rw [List.length_map, lcz]
    have hn : y.cps.size = ((natI (colsN m.z y)).map V.int).length := by
      rw [lcol]
      rfl
    obtain ⟨p', xs, ep, hxs, hP, lx⟩ := da_rs hda
    cases ep
    refine ⟨y, cp, _, rfl, SqL.of hcp, for_it (walk_zipS hn) (fun i σ H' => (∃ x5 x6 x7 x8, σ = [some (.ref x), some (.int ((prun m s0 ((cz y).take i)).1 : Nat)), some (.str y), some (.ref p), some (.ref l), x5, x6, x7, x8]) ∧ Same (rm l H3) H' ∧ H' l = some (.lst ((prun m s0 ((cz y).take i)).2.map V.str))) ⟨⟨_, _, _, _, rfl⟩, rm_s, hl3⟩ (fun i σ H' _ z => SqL.of (z.2.1 _ _ hcpG)) ?_ ?_⟩
    · rintro i v σ H4 H5 hi ⟨⟨x5, x6, x7, x8, rfl⟩, s4, hl4⟩ ⟨T, c, w, rfl, nT, rfl, ec, ew⟩
      rw [cz_at] at ec
      have li : i < (cz y).length := (List.getElem?_eq_some_iff.mp ec).1
      obtain rfl : w = .int (((cz m.z).idxOf c : Nat) : Int) := by
        rw [List.getElem?_map, natI_get] at ew
        unfold colsN at ew
        rw [List.getElem?_map, ec] at ew
        exact (Option.some.inj ew).symm
      have sT := same_new (o := .tup [.str ⟨#[c]⟩, .int (((cz m.z).idxOf c : Nat) : Int)]) nT
      refine ⟨T, _, rfl, SqT.of upd_same, rfl, _, _, rfl, _, _, rfl, rfl, ?_⟩
      have s5 := s4.trans sT
      have hl5 := sT _ _ hl4
      generalize upd H4 T (.tup [.str ⟨#[c]⟩, .int (((cz m.z).idxOf c : Nat) : Int)]) = H5 at *
      obtain ⟨st1, st2, st3⟩ := prun_ok ok hs (cz y) i (by omega)
      rw [prun_take ec]
      generalize prun m s0 ((cz y).take i) = st at *
      obtain ⟨row, er, ee, es, ew2⟩ := en_get ok st1 c
      have ex : xs[st.1]? = some (xs[st.1]'(by omega)) := List.getElem?_eq_getElem (by omega)
      obtain ⟨b, row', ys, eb, er', hb, hy⟩ := rs_at hP ex
      rw [er] at er'
      cases er'
      rw [eb] at ex
      obtain ⟨t, ey, ht⟩ := en_at hy ee
      refine ⟨_, rfl, _, rfl, p, xs, _, _, rfl, rfl, SqL.of (s5 _ _ hxs), atI_nat ex, _, rfl, b, ys, _, _, rfl, rfl, SqL.of (s5 _ _ hb), atI_nat ey, t, _, rfl, SqT.of (s5 _ _ ht), rfl, _, _, rfl, _, _, rfl, _, _, rfl, rfl, ?_⟩
      have hlu := hl5
      refine ⟨_, rfl, .inl ⟨rfl, _, SqL.of hl5⟩, _, rfl, l, _, .str (enAt m.R st.1 ((cz m.z).idxOf c)).w, rfl, rfl, hl5, (by rw [List.length_map]; omega), ?_⟩
      have s6 : ∀ o, Same (rm l H3) (upd H5 l o) := fun o b u e => by
        rw [upd_ne (ne_of_none e nlG)]
        exact s5 _ _ e
      refine ⟨_, rfl, (enAt m.R st.1 ((cz m.z).idxOf c)).b, rfl, ?_⟩
      cases eb2 : (enAt m.R st.1 ((cz m.z).idxOf c)).b with
      | false =>
        refine iteF ⟨⟨_, _, _, _, rfl⟩, s6 _, ?_⟩
        rw [upd_same]
        show _ = some (HO.lst ((st.2 ++ (_ :: if (enAt m.R st.1 ((cz m.z).idxOf c)).b then [(⟨#[c]⟩ : Str)] else [])).map V.str))
        rw [eb2, List.map_append]
        rfl
      | true =>
        refine iteT ⟨_, rfl, .inl ⟨rfl, _, SqL.of upd_same⟩, _, rfl, l, _, .str ⟨#[c]⟩, rfl, rfl, upd_same, (by rw [List.length_append, List.length_map]; show st.2.length + 1 < _; omega), ⟨_, _, _, _, rfl⟩, fun b u e => ?_, ?_⟩
        · rw [upd_ne (ne_of_none e nlG)]
          exact s6 _ _ _ e
        · rw [upd_same]
          show _ = some (HO.lst ((st.2 ++ (_ :: if (enAt m.R st.1 ((cz m.z).idxOf c)).b then [(⟨#[c]⟩ : Str)] else [])).map V.str))
          rw [eb2, List.map_append, List.append_assoc]
          rfl
    · rintro σ H4 ⟨⟨x5, x6, x7, x8, rfl⟩, s4, hl4⟩
      have et : (cz y).take ((natI (colsN m.z y)).map V.int).length = cz y := by
        rw [lcol, lcz, List.take_length]
      rw [et] at hl4 ⊢
      refine ⟨_, rfl, _, rfl, (by show 2 ≤ sizeLine; omega), fun t nt => ?_⟩
      have s5 := same_new (o := .tup [.int ((prun m s0 (cz y)).1 : Nat), .ref l]) nt
      exact q _ t l ((S03.trans s4).trans s5) upd_same nlH (s5 _ _ hl4)
theorem ok_lop (F : FnP K "letters_of_parts" sLop f fd) (z_sum : mg "sum" = none) (z_len : mg "len" = none) : FnOk P w K mg base CX0 1 f fd ["parts"] spLop := by
  have nd := scLop.nd
  refine F.ok scLop (fun vs H Q E h => ?_) (fun cdv A outer s H vs Q E hr h => ?_)
  · obtain ⟨l, ps, rfl, _⟩ := h
    rfl
  · obtain ⟨l, ps, rfl, hl, lp, ls, q⟩ := h
    have szl := sizeLine_eq
    refine ⟨_, PSs.nox (pss_one (ps_ret (pe_callB (cr_sum rfl) (by rfl) z_sum (by decide +kernel) (pa_cons (pe_lc (own := [("part", 1)]) (g := gName 1) (by rfl) nd (pi_list (pv 0)) (blkOk_by (N := ["parts", "part"]) (sc := defScope sLop) (own := [("part", 1)]) (by decide +kernel)) (fun _ _ _ _ _ => pg_name (i := 1) nd rfl (Or.inl rfl)) (fun _ _ _ _ _ => pts_nil)
      (fun _ _ _ _ _ => pe_callB call_len_str (by rfl) z_len boot_len (pa_cons (pv 1) pa_nil))) pa_nil)))), ?_⟩
    refine ⟨_, rfl, l, rfl, ⟨_, SqL.of hl⟩, fun D nD => lc_list (K := K) (a := l) (xs := ps.map V.str) (fun i H' => Same H H' ∧ H' D = some (.lst (((ps.take i).map fun y => (y.length : Int)).map V.int))) ⟨same_new nD, upd_same⟩ (fun i H' _ p => SqL.of (p.1 _ _ hl)) ?_ ?_⟩
    · rintro i y H' hi ⟨sm, hD⟩
      rw [List.getElem?_map] at hi
      obtain ⟨z, ez, rfl⟩ := Option.map_eq_some_iff.mp hi
      have li := (List.getElem?_eq_some_iff.mp ez).1
      have lz := ls z (List.mem_of_getElem? ez)
      refine ⟨rfl, _, rfl, z, rfl, by omega, _, hD, ?_, fun b o e => ?_, ?_⟩
      · rw [List.length_map, List.length_map, List.length_take]
        omega
      · rw [upd_ne (ne_of_none (H := H) e nD)]
        exact sm _ _ e
      · rw [upd_same, List.take_add_one, ez, List.map_append, List.map_append]
        rfl
    · rintro H' ⟨sm, hD⟩
      rw [List.length_map, List.take_length] at hD
      refine ⟨D, ps.map fun y => (y.length : Int), rfl, SqL.of hD, ?_⟩
      rw [sum_cast]
      exact q H' sm
end
end KK
set_option Elab.async false
set_option linter.all false
set_option maxRecDepth 100000
set_option maxHeartbeats 1000000
namespace KK
open PySem PySem.Spec PyProof.Rows L2 XV NM XT XA LamX
/-! ### the word that a maker makes; the automaton of its states -/
def madeP (m : Mm) (y : Str) : List Str := (prun m m.s (cz y)).2 ++ [m.cl.getD (prun m m.s (cz y)).1 ""]
def tot (ps : List Str) : Nat := (ps.map (·.length)).sum
abbrev sMade : Stmt := top 22
abbrev nMade : List Str := ["maker", "word", "state", "parts"]
theorem scMade : FnScope nMade ["maker", "word"] (defScope sMade) := ⟨rfl, rfl, rfl, by decide +kernel, rfl, by decide +kernel, by decide +kernel⟩
def spMade (K : PySem.W.Frag) (C : Addr) : Sp := fun vs H Q E => ∃ u v, vs = [u, v] ∧ ((NoA K H u ∧ Rz E H (CF K 4) u) ∨ ∃ x m, u = .ref x ∧ Ma C H x m ∧ MmOk m ∧ Kn H v ∧ (∀ y, v = .str y → y.length ≤ 100000) ∧ ((wordV v = false ∧ Rz E H (CF K 3) v) ∨
  (wordV v = true ∧ ∀ y, v = .str y → (20000 < tot (madeP m y) ∧ Rz E H (CF K 0) (.int (tot (madeP m y) : Nat))) ∨ (tot (madeP m y) ≤ 20000 ∧ ∀ H', Same H H' → Q (.str (Txt.join "" (madeP m y))) H'))))
theorem made_small {m : Mm} (ok : MmOk m) (y : Str) : (madeP m y).length ≤ 2 * y.length + 1 ∧ (∀ w ∈ madeP m y, w.length ≤ 2000) ∧ (prun m m.s (cz y)).1 < m.R.length := by
  obtain ⟨h1, h2, h3⟩ := prun_all ok ok.hs (cz y)
  have ly := cz_len y
  refine ⟨?_, fun w hw => ?_, h1⟩
  · unfold madeP
    rw [List.length_append]
    show _ + 1 ≤ _
    omega
  · unfold madeP at hw
    rcases List.mem_append.mp hw with h | h
    · exact h3 w h
    · rw [List.mem_singleton.mp h]
      have lc := ok.lc
      have e1 : m.cl[(prun m m.s (cz y)).1]? = some (m.cl[(prun m m.s (cz y)).1]'(by omega)) := List.getElem?_eq_getElem (by omega)
      rw [List.getD_eq_getElem?_getD, e1]
      exact short_len (ok.hc _ (List.getElem_mem _))
section
variable {P : Program} {w : World} {K : PySem.W.Frag} {mg : Str → Option Value} {base : Heap} {f : Addr} {fd : FuncData} {C CM : Addr}
theorem ok_made (F : FnP K "made_word" sMade f fd) (TM : MT K mg CM) (Z : ClF P w K mg base) (o_reqM : OkX P w K mg base "require_maker" 3 ["maker"] (spReqM K CM)) (o_word : Ok P w K mg base "is_word" 2 ["value"] spIsWord) (o_parts : Ok P w K mg base "parts_made" 3 ["maker", "state", "word"] (spParts CM))
    (o_startM : OkMa P w K mg base CM "start" (spStartM CM)) (o_closM : OkMa P w K mg base CM "closing" (spClosM CM)) (o_lop : Ok P w K mg base "letters_of_parts" 1 ["parts"] spLop) {tM : Tok} (h_LW : mg "LONGEST_WORD" = some (.int 20000 tM)) : FnOk P w K mg base (L2.CX P w) 4 f fd ["maker", "word"] (spMade K CM) := by
  have nd := scMade.nd
  refine F.ok scMade (fun vs H Q E h => ?_) (fun cdv A outer s H vs Q E hr h => ?_)
  · obtain ⟨u, v, rfl, _⟩ := h
    rfl
  · obtain ⟨u, v, rfl, h⟩ := h
    obtain ⟨fI3, fdI3, XW⟩ := Z.x 3 (by decide)
    have XW : XCls P w K mg base "InvalidWord" "value" (CF K 3) fI3 fdI3 := XW
    obtain ⟨fI5, fdI5, XL⟩ := Z.x 0 (by decide)
    have XL : XCls P w K mg base "TooLong" "value" (CF K 0) fI5 fdI5 := XL
    have szl := sizeLine_eq
    have r3 : Room 3 (A.deeper (envOfC "made_word" (defScope sMade) s.heap.objs.size f cdv)) := hr
    have r2 := r3.mono (by decide : 2 ≤ 3)
    have r1 := r3.mono (by decide : 1 ≤ 3)
    refine ⟨_, (pss_cons (ps_expr (pe_callX (E := E) o_reqM (takes_of rfl rfl rfl rfl) r3 (by rfl) (pa_cons (pv 0) pa_nil)))
      (pss_cons (ps_if (pt_not (pt_val (pe_callO o_word r2 (by rfl) (pa_cons (pv 1) pa_nil)))) (pss_one (ps_raiseX (nm := "InvalidWord") rfl XW r2 (takes_of rfl rfl rfl rfl) (by rfl) (pv 1))) pss_nil)
      (pss_cons (ps_asg (pe_callO o_parts r3 (by rfl) (pa_cons (pv 0) (pa_cons (pe_startM o_startM TM (pv 0) r1) (pa_cons (pv 1) pa_nil)))) (pg_tup rfl (pgs_cons (pg_name (i := 2) nd rfl (Or.inl rfl)) (pgs_cons (pg_name (i := 3) nd rfl (Or.inl rfl)) pgs_nil))))
      (pss_cons (ps_expr (pe_bm PySem.F.plainAttrs_list PySem.F.slot_list_append PySem.F.type_list_append mt_append (pv 3) (pa_cons (pe_ix ix_list (pe_closM o_closM TM (pv 0) r1) (pv 2) (fun _ _ => rfl)) pa_nil)))
      (pss_cons (ps_if (pt_cmpR op_gt (pe_callO o_lop r1 (by rfl) (pa_cons (pv 3) pa_nil)) (pe_glob (v := .int 20000) (by rfl) h_LW ⟨_, rfl⟩) (nomark _)) (pss_one (ps_raiseX (nm := "TooLong") rfl XL r2 (takes_of rfl rfl rfl rfl) (by rfl) (pe_callO o_lop r1 (by rfl) (pa_cons (pv 3) pa_nil)))) pss_nil)
      (pss_one (ps_ret (pe_join pe_str (pv 3))))))))), ?_⟩
    rcases h with ⟨n, r⟩ | ⟨x, m, rfl, hx, ok, kn, lv, h⟩
    · exact ⟨_, rfl, _, rfl, .inr ⟨n, r⟩⟩
    refine ⟨_, rfl, _, rfl, .inl ⟨x, m, rfl, hx, ?_⟩⟩
    refine ⟨_, rfl, v, rfl, kn, lv, ?_⟩
    rcases h with ⟨e, r⟩ | ⟨e, h⟩
    · rw [e]
      exact ⟨false, rfl, iteT ⟨_, rfl, fun d nd => r H d (Same.refl _) nd⟩⟩
    rw [e]
    refine ⟨true, rfl, iteF ?_⟩
    obtain ⟨y, rfl, ly⟩ := wordV_str e
    have h := h y rfl
    obtain ⟨h1, h2, h3⟩ := made_small ok y
    obtain ⟨p1, p2, p3⟩ := prun_all ok ok.hs (cz y)
    have lcz := cz_len y
    refine ⟨_, rfl, _, rfl, x, m, rfl, hx, _, rfl, x, m, m.s, y, rfl, hx, ok, ok.hs, by omega, fun H1 t l s1 ht nl hl => ?_⟩
    refine ⟨t, _, rfl, SqT.of ht, rfl, _, _, rfl, _, _, rfl, rfl, ?_⟩
    refine ⟨_, rfl, .inl ⟨rfl, _, SqL.of hl⟩, _, rfl, x, m, rfl, hx.keep s1, fun c nc => ?_⟩
    have s2 := same_new (o := .lst (m.cl.map V.str)) nc
    have hl2 := s2 _ _ hl
    have lc := ok.lc
    have e1 : m.cl[(prun m m.s (cz y)).1]? = some (m.cl.getD (prun m m.s (cz y)).1 "") := by
      have e1 : m.cl[(prun m m.s (cz y)).1]? = some (m.cl[(prun m m.s (cz y)).1]'(by omega)) := List.getElem?_eq_getElem (by omega)
      rw [List.getD_eq_getElem?_getD, e1]
      rfl
    have e2 : (m.cl.map V.str)[(prun m m.s (cz y)).1]? = some (.str (m.cl.getD (prun m m.s (cz y)).1 "")) := by
      rw [List.getElem?_map, e1]
      rfl
    refine ⟨_, rfl, c, _, _, _, rfl, rfl, SqL.of upd_same, atI_nat e2, l, _, .str (m.cl.getD (prun m m.s (cz y)).1 ""), rfl, rfl, hl2, (by rw [List.length_map]; omega), ?_⟩
    have s3 : Same H (upd (upd H1 c (.lst (m.cl.map V.str))) l (.lst ((prun m m.s (cz y)).2.map V.str ++ [.str (m.cl.getD (prun m m.s (cz y)).1 "")]))) := fun b o e => by
      rw [upd_ne (ne_of_none e nl)]
      exact s2 _ _ (s1 _ _ e)
    have hl3 : upd (upd H1 c (.lst (m.cl.map V.str))) l (.lst ((prun m m.s (cz y)).2.map V.str ++ [.str (m.cl.getD (prun m m.s (cz y)).1 "")])) l = some (.lst ((madeP m y).map V.str)) := by
      rw [upd_same]
      unfold madeP
      rw [List.map_append]
      rfl
    generalize upd (upd H1 c (.lst (m.cl.map V.str))) l (.lst ((prun m m.s (cz y)).2.map V.str ++ [.str (m.cl.getD (prun m m.s (cz y)).1 "")])) = H3 at *
    have l50 : (madeP m y).length ≤ 50000 := by omega
    have ls : ∀ w ∈ madeP m y, w.length ≤ 100000 := fun w hw => by
      have := h2 w hw
      omega
    refine ⟨_, rfl, l, madeP m y, rfl, hl3, l50, ls, fun H4 s4 => ?_⟩
    refine ⟨_, _, rfl, rfl, _, rfl, ite2 (fun c => ?_) (fun c => ?_)⟩
    · rcases h with ⟨hb, r⟩ | ⟨hb, q⟩
      · refine ⟨_, rfl, l, madeP m y, rfl, s4 _ _ hl3, l50, ls, fun H5 s5 => fun d nd => r H5 d ((s3.trans s4).trans s5) nd⟩
      · have := of_decide_eq_true c
        have hb : ((madeP m y).map (·.length)).sum ≤ 20000 := hb
        omega
    · rcases h with ⟨hb, r⟩ | ⟨hb, q⟩
      · exact absurd (decide_eq_true (show ((((madeP m y).map (·.length)).sum : Nat) : Int) > 20000 from by have hb : 20000 < ((madeP m y).map (·.length)).sum := hb; omega)) c
      · refine ⟨⟨_, rfl⟩, _, rfl, _, l, madeP m y, rfl, rfl, .inl (SqL.of (s4 _ _ hl3)), ?_, q H4 (s3.trans s4)⟩
        have hb : ((madeP m y).map (·.length)).sum ≤ 20000 := hb
        rw [show ("" : Str).length = 0 by decide +kernel, Nat.mul_zero]
        omega
end
end KK
set_option Elab.async false
set_option linter.all false
set_option maxRecDepth 100000
set_option maxHeartbeats 2000000
namespace KK
open PySem PySem.Spec PyProof.Rows L2 XV NM XT
theorem dr_neK {H : Hp} {g p : Addr} {n : Nat} (d : Dr H g n) (np : H p = none) : g ≠ p := by
  obtain ⟨a, b, c, e, _⟩ := d
  exact ne_of_none e np
theorem dr_updK {H : Hp} {g p : Addr} {n : Nat} {o : HO} (d : Dr H g n) (h : g ≠ p) : Dr (L2.upd H p o) g n := by
  obtain ⟨a, b, c, e, r⟩ := d
  exact ⟨a, b, c, by rw [upd_ne h]; exact e, r⟩
theorem dr_newK {H : Hp} {g p : Addr} {n : Nat} {o : HO} (d : Dr H g n) (np : H p = none) : Dr (L2.upd H p o) g n := dr_updK d (dr_neK d np)
def LO (z : Str) : Prop := ∀ c ∈ cz z, c = 97 ∨ c = 98 ∨ c = 99 ∨ c = 122 ∨ c = 113 ∨ c = 109 ∨ c = 120 ∨ c = 121
def loB (c : Nat) : Bool := decide (c = 97) || decide (c = 98) || decide (c = 99) || decide (c = 122) || decide (c = 113) || decide (c = 109) || decide (c = 120) || decide (c = 121)
theorem LO.of {z : Str} (h : (cz z).all loB = true) : LO z := fun c hc => by
  have := List.all_eq_true.mp h c hc
  simp only [loB, Bool.or_eq_true, decide_eq_true_eq] at this
  omega
theorem lo_all {z : Str} (h : LO z) {p : Nat → Bool} (h1 : ([97, 98, 99, 122, 113, 109, 120, 121] : List Nat).all p = true) : z.cps.all p = true := by
  rw [show z.cps.all p = (cz z).all p by simp, List.all_eq_true]
  intro c hc
  refine List.all_eq_true.mp h1 c ?_
  rcases h c hc with rfl | rfl | rfl | rfl | rfl | rfl | rfl | rfl <;> simp
theorem lo_any {z : Str} (h : LO z) {p : Nat → Bool} (h1 : ([97, 98, 99, 122, 113, 109, 120, 121] : List Nat).any p = false) : z.cps.any p = false := by
  rw [show z.cps.any p = (cz z).any p by simp, List.any_eq_false]
  intro c hc
  refine List.any_eq_false.mp h1 c ?_
  rcases h c hc with rfl | rfl | rfl | rfl | rfl | rfl | rfl | rfl <;> simp
theorem lo_low {z : Str} (h : LO z) : lowS z = true := by
  unfold lowS
  by_cases e : z = ""
  · rw [decide_eq_true e]
    rfl
  rw [decide_eq_false e, Bool.false_or]
  have n : cz z ≠ [] := fun q => e (Str.ext' (Array.toList_inj.mp (q.trans (by decide +kernel))))
  have l : 0 < z.length := by
    rw [cz_len]
    exact List.length_pos_iff.mpr n
  have a1 : Txt.isascii z = true := lo_all h (by decide)
  have a2 : Txt.isalpha z = true := by
    unfold Txt.isalpha
    rw [lo_all h (by decide +kernel), Bool.and_true]
    exact decide_eq_true l
  have a3 : Txt.islower z = true := by
    unfold Txt.islower
    rw [lo_any h (p := fun c => Unicode.isUpper c || Unicode.isTitle c) (by decide +kernel)]
    have e : z.cps.any Unicode.isLower = true := by
      rw [show z.cps.any Unicode.isLower = (cz z).any Unicode.isLower by simp, List.any_eq_true]
      obtain ⟨c, r, hc⟩ := List.exists_cons_of_ne_nil n
      refine ⟨c, by rw [hc]; exact List.mem_cons_self, ?_⟩
      rcases h c (by rw [hc]; exact List.mem_cons_self) with rfl | rfl | rfl | rfl | rfl | rfl | rfl | rfl <;> decide +kernel
    rw [e]
    rfl
  rw [a1, a2, a3]
  rfl
theorem lo_word {y : Str} (h : LO y) (l : y.length ≤ 20000) : wordV (.str y) = true := by
  show (lowS y && decide (y.length ≤ 20000)) = true
  rw [lo_low h, decide_eq_true l]
  rfl
abbrev sSigns : Stmt := top 37
theorem scSigns : FnScope ["_law_generator_here"] ["_law_generator_here"] (defScope sSigns) := ⟨rfl, rfl, rfl, by decide +kernel, rfl, by decide +kernel, by decide +kernel⟩
def menu : List Str := ["a", "ab", "b", "bz", "abc", "z", "", "ac"]
def spSigns : Sp := fun vs H Q _ => ∃ (g : Addr) (n : Nat), vs = [.ref g] ∧ Dr H g n ∧ n ≤ 500000 ∧ ∀ (H' : Hp) (z : Str), z ∈ menu → But H H' g → Dr H' g (n + 20) → Q (.str z) H'
theorem Pts.butG {H H' : Hp} {g : Addr} (b : But H H' g) : ∀ {xs : List V} {P : List (List Int)}, (∀ x ∈ xs, x ≠ .ref g) → Pts H xs P → Pts H' xs P
  | _, _, _, .nil => .nil
  | _, _, n, .cons h r => .cons (by
      obtain ⟨a, e, t⟩ := h
      exact ⟨a, e, b _ _ (fun z => n _ List.mem_cons_self (by rw [e, z])) t⟩) (Pts.butG b (fun x hx => n x (List.mem_cons_of_mem _ hx)) r)
theorem fold_lo (q : Nat) (hq : ([97, 98, 99, 122, 113, 109, 120, 121] : List Nat).all (fun c => decide (Builtin.Str.reprChar q c = [c])) = true) : ∀ (l : List Nat) (acc : Array Nat), (∀ c ∈ l, c = 97 ∨ c = 98 ∨ c = 99 ∨ c = 122 ∨ c = 113 ∨ c = 109 ∨ c = 120 ∨ c = 121) → (l.foldl (fun out c => out ++ (Builtin.Str.reprChar q c).toArray) acc).toList = acc.toList ++ l
  | [], acc, _ => by simp
  | c :: l, acc, h => by
    have hc : Builtin.Str.reprChar q c = [c] := of_decide_eq_true (List.all_eq_true.mp hq c (by
      rcases h c List.mem_cons_self with rfl | rfl | rfl | rfl | rfl | rfl | rfl | rfl <;> simp))
    rw [List.foldl_cons, fold_lo q hq l _ (fun d hd => h d (List.mem_cons_of_mem _ hd)), hc]
    simp
theorem repr_lo {z : Str} (h : LO z) : (reprText z).cps.toList = 39 :: (cz z ++ [39]) := by
  have e : reprQuote z = 39 := by
    unfold reprQuote
    have : z.cps.contains 39 = false := by
      cases c : z.cps.contains 39 with
      | false => rfl
      | true =>
        have := h 39 (by simpa using c)
        omega
    rw [this]
    rfl
  unfold reprText
  rw [e]
  show ((z.cps.foldl (fun out c => out ++ (Builtin.Str.reprChar 39 c).toArray) #[39]).push 39).toList = _
  rw [Array.toList_push, ← Array.foldl_toList, fold_lo 39 (by decide +kernel) _ _ h]
  rfl
structure ShOk (d : PyData) : Prop where
  s : d.showable = true
  h : d.hasDict = false
  dp : d.depth ≤ 60
  l : d.shown.length ≤ 100000
  o : PyData.strOk d.shown = true
def shB (d : PyData) : Bool := d.showable && (!d.hasDict && (decide (d.depth ≤ 60) && (decide (d.shown.length ≤ 100000) && PyData.strOk d.shown)))
theorem shB_ok {d : PyData} (h : shB d = true) : ShOk d := by
  unfold shB at h
  simp only [Bool.and_eq_true, Bool.not_eq_true', decide_eq_true_eq] at h
  obtain ⟨h1, h2, h3, h4, h5⟩ := h
  exact ⟨h1, h2, h3, h4, h5⟩
theorem sh_lo {z : Str} (h : LO z) (l : z.length ≤ 50000) : ShOk (.str z) := by
  have e : (PyData.str z).shown = reprText z := by simp [PyData.shown]
  have r := repr_lo h
  refine ⟨by simp [PyData.showable], by simp [PyData.hasDict], by simp [PyData.depth], ?_, ?_⟩
  · rw [e, cz_len, show cz (reprText z) = _ from r]
    simp only [List.length_cons, List.length_append, List.length_singleton]
    rw [← cz_len]
    simp
    omega
  · rw [e]
    unfold PyData.strOk
    rw [show (reprText z).cps.all (fun x => decide (x < 0x110000)) = ((reprText z).cps.toList).all (fun x => decide (x < 0x110000)) by simp, r, List.all_eq_true]
    intro c hc
    rcases List.mem_cons.mp hc with rfl | hc
    · decide
    · rcases List.mem_append.mp hc with hc | hc
      · have := h c hc
        exact decide_eq_true (by omega)
      · rw [List.mem_singleton.mp hc]
        decide
theorem look_v (f : Str) (v : L2.V) : List.lookup f [(f, v)] = some v := by simp [List.lookup]
theorem da_noA {K : PySem.W.Frag} {H : Hp} {v : V} {d : PyData} (h : Da H v d) (n : ∀ b, d ≠ .bool b) : NoA K H v := by
  cases h with
  | non => exact ⟨"NoneType", by simp [tysD], .base .non⟩
  | bl b => exact absurd rfl (n b)
  | int i => exact ⟨"int", by simp [tysD], .base (.int i)⟩
  | str x => exact ⟨"str", by simp [tysD], .base (.str x)⟩
  | lst h _ => exact ⟨"list", by simp [tysD], .base (.lst h)⟩
  | tup h _ => exact ⟨"tuple", by simp [tysD], .base (.tup h)⟩
section
variable {P : Program} {w : World} {K : PySem.W.Frag} {mg : Str → Option Value} {base : Heap} {f : Addr} {fd : FuncData} {C : Addr}
theorem ok_signs (F : FnP K "_law_signs" sSigns f fd) (o_rand : Ok P w K mg base "_law_random" 2 ["_law_generator_here", "_law_bound"] spRand) : FnOk P w K mg base CX0 3 f fd ["_law_generator_here"] spSigns := by
  refine F.ok scSigns (fun vs H Q E h => ?_) (fun cdv A outer s H vs Q E hr h => ?_)
  · obtain ⟨g, n, rfl, _⟩ := h
    rfl
  · obtain ⟨g, n, rfl, dr, hn, q⟩ := h
    have szl := sizeLine_eq
    have r2 : Room 2 (A.deeper (envOfC "_law_signs" (defScope sSigns) s.heap.objs.size f cdv)) := hr
    refine ⟨_, PSs.nox (pss_one (ps_ret (pe_ix ix_list (pe_lst (pa_cons pe_str (pa_cons pe_str (pa_cons pe_str (pa_cons pe_str (pa_cons pe_str (pa_cons pe_str (pa_cons pe_str (pa_cons pe_str pa_nil))))))))) (pe_callO o_rand r2 (by rfl) (pa_cons (pv 0) (pa_cons pe_int pa_nil))) (fun _ _ => rfl)))), ?_⟩
    refine ⟨(by show 8 ≤ sizeLine; omega), fun l nl => ?_⟩
    have sl := same_new (o := .lst (menu.map V.str)) nl
    have gl := dr_neK dr nl
    refine ⟨_, rfl, g, n, 8, rfl, dr_newK dr nl, by omega, by decide, by decide +kernel, fun H1 r r0 r8 bt1 d1 => ?_⟩
    have hl1 := bt1 _ _ (Ne.symm gl) (upd_same (H := H) (a := l) (o := .lst (menu.map V.str)))
    have bt0 : But H H1 g := (Same.but sl).trans bt1
    obtain ⟨z, ez, hz⟩ : ∃ z : Str, atI (menu.map V.str) r = some (.str z) ∧ z ∈ menu := by
      obtain ⟨k, rfl⟩ := Int.eq_ofNat_of_zero_le r0
      have hk : k < menu.length := by show k < 8; omega
      exact ⟨menu[k], atI_nat (by rw [List.getElem?_map, List.getElem?_eq_getElem hk]; rfl), List.getElem_mem hk⟩
    exact ⟨l, _, r, _, rfl, rfl, SqL.of hl1, ez, q H1 z hz bt0 d1⟩
end
abbrev sWord : Stmt := top 36
abbrev nWord : List Str := ["_law_generator_here", "_law_signs_here", "_law_most", "_law_turn"]
theorem scWord : FnScope nWord ["_law_generator_here", "_law_signs_here", "_law_most"] (defScope sWord) := ⟨rfl, rfl, rfl, by decide +kernel, rfl, by decide +kernel, by decide +kernel⟩
def spWord : Sp := fun vs H Q _ => ∃ (g : Addr) (n k : Nat) (sg : Str), vs = [.ref g, .str sg, .int (k : Int)] ∧ k ≤ 12 ∧ Dr H g n ∧ n ≤ 500000 ∧ LO sg ∧ (1 ≤ sg.length ∧ sg.length ≤ 4) ∧ ∀ (H' : Hp) (y : Str), LO y → y.length ≤ k → But H H' g → Dr H' g (n + 400) → Q (.str y) H'
section
variable {P : Program} {w : World} {K : PySem.W.Frag} {mg : Str → Option Value} {base : Heap} {f : Addr} {fd : FuncData} {C : Addr}
theorem ok_word (F : FnP K "_law_word" sWord f fd) (o_rand : Ok P w K mg base "_law_random" 2 ["_law_generator_here", "_law_bound"] spRand) (z_range : mg "range" = none) (z_len : mg "len" = none) : FnOk P w K mg base CX0 3 f fd ["_law_generator_here", "_law_signs_here", "_law_most"] spWord := by
  have nd := scWord.nd
  refine F.ok scWord (fun vs H Q E h => ?_) (fun cdv A outer s H vs Q E hr h => ?_)
  · obtain ⟨g, n, k, sg, rfl, _⟩ := h
    rfl
  · obtain ⟨g, n, k, sg, rfl, hk, hd, hn, lo, l3, q⟩ := h
    have szl := sizeLine_eq
    have r2 : Room 2 (A.deeper (envOfC "_law_word" (defScope sWord) s.heap.objs.size f cdv)) := hr
    refine ⟨_, PSs.nox (pss_one (ps_ret (pe_join pe_str (pe_lc (own := [("_law_turn", 3)]) (g := gName 3) (by rfl) nd (pi_range1 (by rfl) z_range (pa_cons (pe_callO o_rand r2 (by rfl) (pa_cons (pv 0) (pa_cons (pe_op op_add (pv 2) pe_int) pa_nil))) pa_nil)) (blkOk_by (N := nWord) (sc := defScope sWord) (own := [("_law_turn", 3)]) (by decide +kernel))
        (fun _ _ _ _ _ => pg_name (i := 3) nd rfl (Or.inl rfl)) (fun _ _ _ _ _ => pts_nil)
        (fun _ _ _ _ _ => pe_ix ix_str (pv 1) (pe_callO o_rand r2 (by rfl) (pa_cons (pv 0) (pa_cons (pe_callB call_len_str (by rfl) z_len boot_len (pa_cons (pv 1) pa_nil)) pa_nil))) (fun _ _ => rfl)))))), ?_⟩
    refine ⟨⟨_, rfl⟩, _, rfl, _, rfl, _, _, rfl, rfl, g, n, ((k : Int) + 1), rfl, hd, by omega, by omega, Int.lt_of_le_of_lt (b := 13) (by omega) (by decide +kernel), fun H1 r r0 rk b1 d1 => ⟨r, rfl, by omega, by omega, fun D nD => ?_⟩⟩
    have gD := dr_neK d1 nD
    refine lc_range (lo := 0) (n := r.toNat) (fun i H' => But H1 H' g ∧ ∃ zs : List Str, H' D = some (.lst (zs.map V.str)) ∧ zs.length = i ∧ (∀ z ∈ zs, LO z ∧ z.length = 1) ∧ Dr H' g (n + 20 + 20 * i)) ⟨Same.but (same_new nD), [], upd_same, rfl, fun z hz => (by cases hz), dr_newK d1 nD⟩ ?_ ?_
    · rintro i H' hi ⟨bt, zs, hD, lz, hz, hd2⟩
      refine ⟨rfl, ?_⟩
      refine ⟨_, rfl, _, rfl, _, rfl, sg, rfl, by omega, g, n + 20 + 20 * i, (sg.length : Int), rfl, hd2, by omega, by omega, Int.lt_of_le_of_lt (b := 4) (by omega) (by decide +kernel), fun H2 x x0 x2 b2 d2 => ?_⟩
      obtain ⟨kk, rfl⟩ := Int.eq_ofNat_of_zero_le x0
      have lk : kk < (cz sg).length := by
        rw [← cz_len]
        omega
      have hc := lo _ (List.getElem_mem lk)
      have ec : atI (cz sg) ((kk : Nat) : Int) = some ((cz sg)[kk]) := atI_nat (List.getElem?_eq_getElem lk)
      generalize (cz sg)[kk] = c at hc ec
      have hD2 := b2 _ _ (Ne.symm gD) hD
      refine ⟨sg, _, c, rfl, rfl, by omega, ec, _, hD2, ?_, fun b o nb e => ?_, zs ++ [⟨#[c]⟩], ?_, ?_, fun z hz2 => ?_, dr_updK (d2.mono (by omega)) gD⟩
      · rw [List.length_map]
        exact small1000 (by omega)
      · rw [upd_ne (ne_of_none (H := H1) e nD)]
        exact b2 _ _ nb (bt _ _ nb e)
      · rw [upd_same, List.map_append]
        rfl
      · rw [List.length_append, lz]
        rfl
      · rcases List.mem_append.mp hz2 with h | h
        · exact hz z h
        · rw [List.mem_singleton.mp h]
          refine ⟨fun c' hc' => ?_, rfl⟩
          have : c' = c := by simpa using hc'
          rw [this]
          exact hc
    · rintro H' ⟨bt, zs, hD, lz, hz, hd2⟩
      have lf : (zs.flatMap cz).length = zs.length := by
        clear hD lz hd2 bt
        induction zs with
        | nil => rfl
        | cons z zs ih =>
          have l1 : (cz z).length = 1 := by rw [← cz_len]; exact (hz z List.mem_cons_self).2
          rw [List.flatMap_cons, List.length_append, l1, ih fun y hy => hz y (List.mem_cons_of_mem _ hy), List.length_cons, Nat.add_comm]
      refine ⟨_, D, zs, rfl, rfl, .inl (SqL.of hD), ?_, q H' _ (fun c hc => ?_) ?_ (b1.trans bt) (hd2.mono (by omega))⟩
      · rw [sum_len, lf, show ("" : Str).length = 0 by decide +kernel, Nat.mul_zero]
        omega
      · rw [join0] at hc
        obtain ⟨z, h1, h2⟩ := List.mem_flatMap.mp hc
        exact (hz z h1).1 c h2
      · rw [cz_len, join0, lf]
        omega
end
end KK
set_option Elab.async false
set_option linter.all false
set_option maxRecDepth 100000
set_option maxHeartbeats 1000000
namespace KK
open PySem PySem.Spec PyProof.Rows L2 XV NM XT XA LamX
/-! ### rows of entries, none of their lists in S -/
theorem Dr.keepS {H H' : Hp} (s : Same H H') {g : Addr} {n : Nat} (d : Dr H g n) : Dr H' g n := by
  obtain ⟨a, b, c, e, r⟩ := d
  exact ⟨a, b, c, s _ _ e, r⟩
theorem dr_lst {H : Hp} {g : Addr} {n : Nat} (d : Dr H g n) : ∃ xs, H g = some (.lst xs) := by
  obtain ⟨a, b, c, e, r⟩ := d
  exact ⟨_, e⟩
theorem ens_but {H H' : Hp} {g : Addr} {ws : List V} (hg : H g = some (.lst ws)) (b : But H H' g) : ∀ {ys : List V} {row : List En}, DaAll H ys (row.map enD) → DaAll H' ys (row.map enD)
  | [], [], _ => .nil
  | _ :: _, [], h => by cases h
  | [], _ :: _, h => by cases h
  | y :: ys, e :: row, h => by
    cases h with
    | cons h r =>
      obtain ⟨t, rfl, ht⟩ := da_en h
      exact .cons (.tup (b _ _ (ne_of ht hg (by intro z; cases z)) ht) (.cons (.int _) (.cons (.str _) (.cons (.bl _) .nil)))) (ens_but hg b r)
theorem ens_upd {H : Hp} {a : Addr} {o : HO} {ws : List V} (ha : H a = some (.lst ws)) {ys : List V} {row : List En} (h : DaAll H ys (row.map enD)) : DaAll (upd H a o) ys (row.map enD) :=
  ens_but ha (fun b o nb e => by rw [upd_ne nb]; exact e) h
inductive RA (S : List Addr) (H : Hp) : List V → List (List En) → Prop
  | nil : RA S H [] []
  | cons {b : Addr} {ys xs : List V} {row : List En} {R : List (List En)} : b ∉ S → H b = some (.lst ys) → DaAll H ys (row.map enD) → RA S H xs R → RA S H (.ref b :: xs) (row :: R)
theorem RA.keep {S : List Addr} {H H' : Hp} (s : Same H H') : ∀ {xs : List V} {R : List (List En)}, RA S H xs R → RA S H' xs R
  | _, _, .nil => .nil
  | _, _, .cons n h a r => .cons n (s _ _ h) (DaAll.keep s a) (RA.keep s r)
theorem RA.but {S : List Addr} {H H' : Hp} {g : Addr} {ws : List V} (hg : H g = some (.lst ws)) (m : g ∈ S) (b : But H H' g) : ∀ {xs : List V} {R : List (List En)}, RA S H xs R → RA S H' xs R
  | _, _, .nil => .nil
  | _, _, .cons n h a r => .cons n (b _ _ (fun z => n (z ▸ m)) h) (ens_but hg b a) (RA.but hg m b r)
theorem RA.upd {S : List Addr} {H : Hp} {a : Addr} {o : HO} {ws : List V} (ha : H a = some (.lst ws)) (m : a ∈ S) {xs : List V} {R : List (List En)} (h : RA S H xs R) : RA S (upd H a o) xs R :=
  h.but ha m fun b o nb e => by rw [upd_ne nb]; exact e
theorem RA.snoc {S : List Addr} {H : Hp} {b : Addr} {ys : List V} {row : List En} (n : b ∉ S) (hb : H b = some (.lst ys)) (a : DaAll H ys (row.map enD)) : ∀ {xs : List V} {R : List (List En)}, RA S H xs R → RA S H (xs ++ [.ref b]) (R ++ [row])
  | _, _, .nil => .cons n hb a .nil
  | _, _, .cons n1 h1 a1 r => .cons n1 h1 a1 (RA.snoc n hb a r)
theorem RA.len {S : List Addr} {H : Hp} : ∀ {xs : List V} {R : List (List En)}, RA S H xs R → xs.length = R.length
  | _, _, .nil => rfl
  | _, _, .cons _ _ _ r => congrArg (· + 1) (RA.len r)
theorem RA.sub {S S' : List Addr} {H : Hp} (i : ∀ a ∈ S', a ∈ S) : ∀ {xs : List V} {R : List (List En)}, RA S H xs R → RA S' H xs R
  | _, _, .nil => .nil
  | _, _, .cons n h a r => .cons (fun z => n (i _ z)) h a (RA.sub i r)
theorem RA.da {S : List Addr} {H : Hp} : ∀ {xs : List V} {R : List (List En)}, RA S H xs R → DaAll H xs (R.map rwD)
  | _, _, .nil => .nil
  | _, _, .cons _ h a r => .cons (.lst h a) (RA.da r)
/-- rows drawn, apart from g -/
def RG2 (H : Hp) (p g : Addr) (R : List (List En)) : Prop := p ≠ g ∧ ∃ xs, H p = some (.lst xs) ∧ RA [g] H xs R
theorem RG2.keep {H H' : Hp} {p g : Addr} {R : List (List En)} (h : RG2 H p g R) (s : Same H H') : RG2 H' p g R := by
  obtain ⟨n, xs, e, r⟩ := h
  exact ⟨n, xs, s _ _ e, r.keep s⟩
theorem RG2.but {H H' : Hp} {p g : Addr} {R : List (List En)} {ws : List V} (h : RG2 H p g R) (hg : H g = some (.lst ws)) (b : But H H' g) : RG2 H' p g R := by
  obtain ⟨n, xs, e, r⟩ := h
  exact ⟨n, xs, b _ _ n e, r.but hg List.mem_cons_self b⟩
theorem RG2.da {H : Hp} {p g : Addr} {R : List (List En)} (h : RG2 H p g R) : Da H (.ref p) (rsD R) := by
  obtain ⟨n, xs, e, r⟩ := h
  exact .lst e r.da
/-! ### what is made, by the law -/
abbrev sMRows : Stmt := top 38
abbrev nMRows : List Str := ["_law_generator_here", "_law_letters", "_law_states", "_law_signs_here", "_law_rows", "_law_state", "_law_row", "_law_turn", "_law_itself"]
theorem scMRows : FnScope nMRows ["_law_generator_here", "_law_letters", "_law_states", "_law_signs_here"] (defScope sMRows) := ⟨rfl, rfl, rfl, by decide +kernel, rfl, by decide +kernel, by decide +kernel⟩
def spMRows : Sp := fun vs H Q _ => ∃ (g : Addr) (n st : Nat) (z sg : Str), vs = [.ref g, .str z, .int st, .str sg] ∧ Dr H g n ∧ n ≤ 400000 ∧ z.length ≤ 3 ∧ 1 ≤ st ∧ st ≤ 12 ∧ LO sg ∧ (1 ≤ sg.length ∧ sg.length ≤ 4) ∧
  ∀ (H' : Hp) (p : Addr) (R : List (List En)), H p = none → RG2 H' p g R → R.length = st → (∀ r ∈ R, r.length = z.length + 1 ∧ ∀ e ∈ r, e.s < st ∧ LO e.w ∧ e.w.length ≤ 2) → But H H' g → Dr H' g (n + 30000) → Q (.ref p) H'
theorem sum_le2 {ps : List Str} (h : ∀ w ∈ ps, w.length ≤ 2000) : (ps.map (·.length)).sum ≤ ps.length * 2000 := by
  induction ps with
  | nil => exact Nat.le_refl _
  | cons p ps ih =>
    rw [List.map_cons, List.sum_cons, List.length_cons]
    have := h p List.mem_cons_self
    have := ih fun w hw => h w (List.mem_cons_of_mem _ hw)
    omega
theorem join_snoc (ps : List Str) (w : Str) : Txt.join "" (ps ++ [w]) = Txt.join "" ps ++ w := by
  apply Str.ext'
  apply Array.toList_inj.mp
  have h1 : cz (Txt.join "" (ps ++ [w])) = cz (Txt.join "" ps) ++ cz w := by
    rw [join0, join0, List.flatMap_append]
    simp
  rw [show (Txt.join "" ps ++ w : Str).cps = (Txt.join "" ps).cps ++ w.cps from rfl, Array.toList_append]
  exact h1
section
variable {P : Program} {w : World} {K : PySem.W.Frag} {mg : Str → Option Value} {base : Heap} {f : Addr} {fd : FuncData} {C CM : Addr}
theorem ok_mrows (F : FnP K "_law_maker_rows" sMRows f fd) (o_rand : Ok P w K mg base "_law_random" 2 ["_law_generator_here", "_law_bound"] spRand) (o_word : Ok P w K mg base "_law_word" 3 ["_law_generator_here", "_law_signs_here", "_law_most"] spWord) (z_range : mg "range" = none) (z_len : mg "len" = none) : FnOk P w K mg base CX0 4 f fd ["_law_generator_here", "_law_letters", "_law_states", "_law_signs_here"] spMRows := by
  have nd := scMRows.nd
  refine F.ok scMRows (fun vs H Q E h => ?_) (fun cdv A outer s H vs Q E hr h => ?_)
  · obtain ⟨g, n, st, z, sg, rfl, _⟩ := h
    rfl
  · obtain ⟨g, n, st, z, sg, rfl, hd, hn, lz, st1, st2, lo, lsg, q⟩ := h
    have szl := sizeLine_eq
    have r3 : Room 3 (A.deeper (envOfC "_law_maker_rows" (defScope sMRows) s.heap.objs.size f cdv)) := hr
    have r2 := r3.mono (by decide : 2 ≤ 3)
    refine ⟨_, PSs.nox (pss_cons (ps_set (i := 4) nd rfl (Or.inl rfl) (pe_lst pa_nil))
      (pss_cons (ps_for PassesOwn.never rfl (pi_range1 (by rfl) z_range (pa_cons (pv 2) pa_nil)) (pg_name (i := 5) nd rfl (Or.inl rfl))
        (pss_cons (ps_set (i := 6) nd rfl (Or.inl rfl) (pe_lst pa_nil))
        (C8.pss_cut (ps_for PassesOwn.never rfl (pi_range1 (by rfl) z_range (pa_cons (pe_op op_add (pe_callB call_len_str (by rfl) z_len boot_len (pa_cons (pv 1) pa_nil)) pe_int) pa_nil)) (pg_name (i := 7) nd rfl (Or.inl rfl))
          (pss_cons (ps_set (i := 8) nd rfl (Or.inl rfl) (pe_cmpR op_eq (pe_callO o_rand r2 (by rfl) (pa_cons (pv 0) (pa_cons pe_int pa_nil))) pe_int (nomark _)))
          (pss_one (ps_expr (pe_bm PySem.F.plainAttrs_list PySem.F.slot_list_append PySem.F.type_list_append mt_append (pv 6) (pa_cons (pe_tup (pa_cons (pe_callO o_rand r2 (by rfl) (pa_cons (pv 0) (pa_cons (pv 2) pa_nil))) (pa_cons (pe_callO o_word r3 (by rfl) (pa_cons (pv 0) (pa_cons (pv 3) (pa_cons pe_int pa_nil)))) (pa_cons (pv 8) pa_nil)))) pa_nil))))))
        (pss_one (ps_expr (pe_bm PySem.F.plainAttrs_list PySem.F.slot_list_append PySem.F.type_list_append mt_append (pv 4) (pa_cons (pv 6) pa_nil)))))))
      (pss_one (ps_ret (pv 4))))), ?_⟩
    refine ⟨(by show 0 ≤ sizeLine; omega), fun D nD => ?_⟩
    have gD := dr_neK hd nD
    have hd0 := dr_newK (o := .lst []) hd nD
    refine ⟨_, rfl, (st : Int), rfl, by omega, by omega, for_range (lo := 0) (n := (st : Int).toNat) (fun i σ H' => (∃ x5 x6 x7 x8, σ = [some (.ref g), some (.str z), some (.int (st : Int)), some (.str sg), some (.ref D), x5, x6, x7, x8]) ∧ But H H' g ∧ Dr H' g (n + 2400 * i) ∧ ∃ (acc : List V) (R : List (List En)), H' D = some (.lst acc) ∧ RA [g, D] H' acc R ∧ R.length = i ∧ ∀ r ∈ R, r.length = z.length + 1 ∧ ∀ e ∈ r, e.s < st ∧ LO e.w ∧ e.w.length ≤ 2)
      ⟨⟨_, _, _, _, rfl⟩, Same.but (same_new nD), hd0, [], [], upd_same, .nil, rfl, fun r hr => (by cases hr)⟩ ?_ ?_⟩
    · rintro i σ H1 hi ⟨⟨x5, x6, x7, x8, rfl⟩, b1, d1, acc, R, hD, hR, lR, okR⟩
      have hi : i < st := by omega
      refine ⟨(by show 0 ≤ sizeLine; omega), fun L nL => ?_⟩
      have gL := dr_neK d1 nL
      have LD : L ≠ D := fun e => by
        rw [e, hD] at nL
        cases nL
      have s2 := same_new (o := .lst []) nL
      have hd2 := dr_newK (o := .lst []) d1 nL
      have hL2 : upd H1 L (.lst []) L = some (.lst []) := upd_same
      have hD2 := s2 _ _ hD
      have hR2 := hR.keep s2
      have b2 : But H (upd H1 L (.lst [])) g := b1.trans (Same.but s2)
      have nLH : H L = none := by
        cases e : H L with
        | none => rfl
        | some o =>
          rw [b1 _ _ (Ne.symm gL) e] at nL
          cases nL
      have hR2 : RA [g, D, L] (upd H1 L (.lst [])) acc R := by
        clear hD2 hd2 hL2 s2 b2 hR2 hD lR okR
        induction hR with
        | nil => exact .nil
        | @cons b ys xs row R n h a r ih =>
          have bL := ne_of_none h nL
          refine .cons (fun z => ?_) (same_new nL _ _ h) (DaAll.keep (same_new nL) a) ih
          simp only [List.mem_cons, List.not_mem_nil, or_false] at n z
          rcases z with z | z | z
          · exact n (.inl z)
          · exact n (.inr z)
          · exact bL z
      generalize upd H1 L (.lst []) = H2 at *
      refine ⟨fun σ' H' => (∃ x5 x7 x8, σ' = [some (.ref g), some (.str z), some (.int (st : Int)), some (.str sg), some (.ref D), x5, some (.ref L), x7, x8]) ∧ But H H' g ∧ Dr H' g (n + 2400 * (i + 1)) ∧ H' D = some (.lst acc) ∧ RA [g, D, L] H' acc R ∧ ∃ (ys : List V) (row : List En), H' L = some (.lst ys) ∧ DaAll H' ys (row.map enD) ∧ row.length = z.length + 1 ∧ ∀ e ∈ row, e.s < st ∧ LO e.w ∧ e.w.length ≤ 2, ?_, ?_⟩
      · refine ⟨_, rfl, z, rfl, by omega, _, _, rfl, rfl, (z.length : Int) + 1, rfl, by omega, by omega, for_range (lo := 0) (n := ((z.length : Int) + 1).toNat) (fun j σ H' => (∃ x5 x7 x8, σ = [some (.ref g), some (.str z), some (.int (st : Int)), some (.str sg), some (.ref D), x5, some (.ref L), x7, x8]) ∧ But H H' g ∧ Dr H' g (n + 2400 * i + 460 * j) ∧ H' D = some (.lst acc) ∧ RA [g, D, L] H' acc R ∧ ∃ (ys : List V) (row : List En), H' L = some (.lst ys) ∧ DaAll H' ys (row.map enD) ∧ row.length = j ∧ ∀ e ∈ row, e.s < st ∧ LO e.w ∧ e.w.length ≤ 2)
          ⟨⟨_, _, _, rfl⟩, b2, hd2, hD2, hR2, [], [], hL2, .nil, rfl, fun e he => (by cases he)⟩ ?_ ?_⟩
        · rintro j σ H3 hj ⟨⟨x5, x7, x8, rfl⟩, b3, d3, hD3, hR3, ys, row, hL3, hys, lrow, okrow⟩
          have hj : j < z.length + 1 := by omega
          have hij : n + 2400 * i + 460 * j ≤ 450000 := by omega
          refine ⟨_, rfl, g, _, 3, rfl, d3, by omega, by decide, by decide +kernel, fun H4 r r0 rb b4 d4 => ⟨rfl, ?_⟩⟩
          obtain ⟨gs, hg3⟩ := dr_lst d3
          have hD4 := b4 _ _ (Ne.symm gD) hD3
          have hL4 := b4 _ _ (Ne.symm gL) hL3
          have hR4 := hR3.but hg3 List.mem_cons_self b4
          have hy4 := ens_but hg3 b4 hys
          have b04 := b3.trans b4
          refine ⟨_, rfl, .inl ⟨rfl, _, SqL.of hL4⟩, _, rfl, _, rfl, g, _, (st : Int), rfl, d4, by omega, by omega, Int.lt_of_le_of_lt (b := 12) (by omega) (by decide +kernel), fun H5 k k0 kb b5 d5 => ?_⟩
          obtain ⟨k, rfl⟩ := Int.eq_ofNat_of_zero_le k0
          obtain ⟨gs4, hg4⟩ := dr_lst d4
          refine ⟨_, rfl, _, rfl, g, _, 2, sg, rfl, by decide, d5, by omega, lo, lsg, fun H6 wd low lw b6 d6 => ?_⟩
          obtain ⟨gs5, hg5⟩ := dr_lst d5
          have b56 := b5.trans b6
          have hD6 := b56 _ _ (Ne.symm gD) hD4
          have hL6 := b56 _ _ (Ne.symm gL) hL4
          have hR6 := (hR4.but hg4 List.mem_cons_self b5).but hg5 List.mem_cons_self b6
          have hy6 := ens_but hg5 b6 (ens_but hg4 b5 hy4)
          refine ⟨_, rfl, (by show 3 ≤ sizeLine; omega), fun t nt => ?_⟩
          have s7 := same_new (o := .tup [.int (k : Int), .str wd, .bl (decide (V.int r = V.int 0))]) nt
          have d7 := dr_newK (o := .tup [.int (k : Int), .str wd, .bl (decide (V.int r = V.int 0))]) d6 nt
          have ht7 : upd H6 t (.tup [.int (k : Int), .str wd, .bl (decide (V.int r = V.int 0))]) t = some (.tup [.int (k : Int), .str wd, .bl (decide (V.int r = V.int 0))]) := upd_same
          have hL7 := s7 _ _ hL6
          have hD7 := s7 _ _ hD6
          have hR7 := hR6.keep s7
          have hy7 := DaAll.keep s7 hy6
          have b07 := (b04.trans b56).trans (Same.but s7)
          generalize upd H6 t (.tup [.int (k : Int), .str wd, .bl (decide (V.int r = V.int 0))]) = H7 at *
          have ly := da_len hys
          rw [List.length_map] at ly
          have tL : t ≠ L := ne_of ht7 hL7 (by intro z; cases z)
          refine ⟨L, ys, .ref t, rfl, rfl, hL7, small1000 (by omega), ⟨_, _, _, rfl⟩, fun b o nb e => ?_, (dr_updK d7 gL).mono (by omega), ?_, hR7.upd hL7 (by simp), ys ++ [.ref t], row ++ [⟨k, wd, decide (V.int r = V.int 0)⟩], upd_same, ?_, by rw [List.length_append, lrow]; rfl, fun e he => ?_⟩
          · rw [upd_ne (ne_of_none e nLH)]
            exact b07 _ _ nb e
          · rw [upd_ne (Ne.symm LD)]
            exact hD7
          · rw [List.map_append]
            exact DaAll.app (ens_upd hL7 hy7) (.cons (.tup (by rw [upd_ne tL]; exact ht7) (.cons (.int _) (.cons (.str _) (.cons (.bl _) .nil)))) .nil)
          · rcases List.mem_append.mp he with h | h
            · exact okrow e h
            · rw [List.mem_singleton.mp h]
              exact ⟨by show k < st; omega, low, lw⟩
        · rintro σ H3 ⟨⟨x5, x7, x8, rfl⟩, b3, d3, hD3, hR3, ys, row, hL3, hys, lrow, okrow⟩
          exact ⟨⟨_, _, _, rfl⟩, b3, d3.mono (by omega), hD3, hR3, ys, row, hL3, hys, by omega, okrow⟩
      rintro σ' H3 ⟨⟨x5, x7, x8, rfl⟩, b3, d3, hD3, hR3, ys, row, hL3, hys, lrow, okrow⟩
      have la := hR3.len
      have nDH : H D = none := nD
      refine ⟨_, rfl, .inl ⟨rfl, _, SqL.of hD3⟩, _, rfl, D, acc, .ref L, rfl, rfl, hD3, small1000 (by omega), ⟨_, _, _, _, rfl⟩, fun b o nb e => ?_, dr_updK d3 gD, acc ++ [.ref L], R ++ [row], upd_same, ?_, by rw [List.length_append, lR]; rfl, fun r hr => ?_⟩
      · rw [upd_ne (ne_of_none e nDH)]
        exact b3 _ _ nb e
      · refine RA.snoc ?_ ?_ (ens_upd hD3 hys) ((hR3.upd hD3 (by simp)).sub fun a ha => ?_)
        · simp only [List.mem_cons, List.not_mem_nil, or_false, not_or]
          exact ⟨Ne.symm gL, LD⟩
        · rw [upd_ne LD]
          exact hL3
        · simp only [List.mem_cons, List.not_mem_nil, or_false] at ha ⊢
          rcases ha with h | h
          · exact .inl h
          · exact .inr (.inl h)
      · rcases List.mem_append.mp hr with h | h
        · exact okR r h
        · rw [List.mem_singleton.mp h]
          exact ⟨lrow, okrow⟩
    · rintro σ H1 ⟨⟨x5, x6, x7, x8, rfl⟩, b1, d1, acc, R, hD, hR, lR, okR⟩
      have lR : R.length = st := by omega
      exact ⟨_, rfl, q H1 D R nD ⟨Ne.symm gD, acc, hD, hR.sub fun a ha => List.mem_cons.mpr (.inl (List.mem_singleton.mp ha))⟩ lR okR b1 (d1.mono (by omega))⟩
end
end KK
set_option Elab.async false
set_option linter.all false
/-! Seeking through the states that words lead to, shorter words first. -/
namespace NB
section
variable {α : Type} [DecidableEq α] (f : α → Nat → α)
def add1 (p : α) (w : List Nat) (L : List (α × List Nat)) (k : Nat) : List (α × List Nat) := if f p k ∈ L.map Prod.fst then L else L ++ [(f p k, w ++ [97 + k])]
def grow (p : α) (w : List Nat) (L : List (α × List Nat)) : Nat → List (α × List Nat)
  | 0 => L
  | k + 1 => add1 f p w (grow p w L k) k
def bfs (p0 : α) : Nat → List (α × List Nat)
  | 0 => [(p0, [])]
  | t + 1 => match (bfs p0 t)[t]? with
    | some (p, w) => grow f p w (bfs p0 t) 26
    | none => bfs p0 t
variable {f}
theorem add1_pre (p : α) (w : List Nat) (L : List (α × List Nat)) (k : Nat) : L <+: add1 f p w L k := by
  unfold add1
  split
  · exact List.prefix_refl L
  · exact List.prefix_append L _
theorem grow_pre (p : α) (w : List Nat) (L : List (α × List Nat)) : ∀ k, L <+: grow f p w L k
  | 0 => List.prefix_refl L
  | k + 1 => (grow_pre p w L k).trans (add1_pre p w _ k)
theorem bfs_succ {p0 : α} {t : Nat} {p : α} {w : List Nat} (h : (bfs f p0 t)[t]? = some (p, w)) : bfs f p0 (t + 1) = grow f p w (bfs f p0 t) 26 := by
  show (match (bfs f p0 t)[t]? with
    | some (p, w) => grow f p w (bfs f p0 t) 26
    | none => bfs f p0 t) = _
  rw [h]
theorem bfs_end {p0 : α} {t : Nat} (h : (bfs f p0 t).length ≤ t) : bfs f p0 (t + 1) = bfs f p0 t := by
  show (match (bfs f p0 t)[t]? with
    | some (p, w) => grow f p w (bfs f p0 t) 26
    | none => bfs f p0 t) = _
  rw [List.getElem?_eq_none h]
theorem bfs_pre1 (p0 : α) (t : Nat) : bfs f p0 t <+: bfs f p0 (t + 1) := by
  cases h : (bfs f p0 t)[t]? with
  | none =>
    rw [bfs_end (List.getElem?_eq_none_iff.mp h)]
    exact List.prefix_refl _
  | some q =>
    obtain ⟨p, w⟩ := q
    rw [bfs_succ h]
    exact grow_pre p w _ 26
theorem bfs_pre (p0 : α) {t u : Nat} (h : t ≤ u) : bfs f p0 t <+: bfs f p0 u := by
  induction u with
  | zero =>
    obtain rfl : t = 0 := by omega
    exact List.prefix_refl _
  | succ u ih =>
    by_cases e : t = u + 1
    · rw [e]
      exact List.prefix_refl _
    · exact (ih (by omega)).trans (bfs_pre1 p0 u)
theorem pre_get {l m : List (α × List Nat)} (h : l <+: m) {i : Nat} {x : α × List Nat} (e : l[i]? = some x) : m[i]? = some x := by
  obtain ⟨r, rfl⟩ := h
  rw [List.getElem?_append_left (List.getElem?_eq_some_iff.mp e).1]
  exact e
/-- what holds of the start and stays along the way -/
theorem grow_all {Pr : α → List Nat → Prop} {p : α} {w : List Nat} {L : List (α × List Nat)} (hL : ∀ x ∈ L, Pr x.1 x.2) (st : ∀ k, k < 26 → Pr (f p k) (w ++ [97 + k])) : ∀ k, k ≤ 26 → ∀ x ∈ grow f p w L k, Pr x.1 x.2
  | 0, _, x, hx => hL x hx
  | k + 1, hk, x, hx => by
    have hx : x ∈ add1 f p w (grow f p w L k) k := hx
    unfold add1 at hx
    split at hx
    · exact grow_all hL st k (by omega) x hx
    · rcases List.mem_append.mp hx with h | h
      · exact grow_all hL st k (by omega) x h
      · rw [List.mem_singleton.mp h]
        exact st k (by omega)
theorem bfs_all {Pr : α → List Nat → Prop} {p0 : α} (h0 : Pr p0 []) (st : ∀ p w k, Pr p w → k < 26 → Pr (f p k) (w ++ [97 + k])) : ∀ t, ∀ x ∈ bfs f p0 t, Pr x.1 x.2
  | 0, x, hx => by
    rw [List.mem_singleton.mp hx]
    exact h0
  | t + 1, x, hx => by
    cases h : (bfs f p0 t)[t]? with
    | none =>
      rw [bfs_end (List.getElem?_eq_none_iff.mp h)] at hx
      exact bfs_all h0 st t x hx
    | some q =>
      obtain ⟨p, w⟩ := q
      rw [bfs_succ h] at hx
      exact grow_all (bfs_all h0 st t) (fun k hk => st p w k (bfs_all h0 st t _ (List.mem_of_getElem? h)) hk) 26 (Nat.le_refl _) x hx
theorem grow_nd {p : α} {w : List Nat} {L : List (α × List Nat)} (hL : (L.map Prod.fst).Nodup) : ∀ k, ((grow f p w L k).map Prod.fst).Nodup
  | 0 => hL
  | k + 1 => by
    show ((add1 f p w (grow f p w L k) k).map Prod.fst).Nodup
    unfold add1
    split
    · exact grow_nd hL k
    · rename_i h
      rw [List.map_append, List.nodup_append]
      refine ⟨grow_nd hL k, List.nodup_cons.mpr ⟨List.not_mem_nil, List.nodup_nil⟩, fun a ha b hb => ?_⟩
      have hb : b = f p k := List.mem_singleton.mp hb
      rw [hb]
      exact fun z => h (z ▸ ha)
theorem bfs_nd (p0 : α) : ∀ t, ((bfs f p0 t).map Prod.fst).Nodup
  | 0 => List.nodup_cons.mpr ⟨List.not_mem_nil, List.nodup_nil⟩
  | t + 1 => by
    cases h : (bfs f p0 t)[t]? with
    | none =>
      rw [bfs_end (List.getElem?_eq_none_iff.mp h)]
      exact bfs_nd p0 t
    | some q =>
      obtain ⟨p, w⟩ := q
      rw [bfs_succ h]
      exact grow_nd (bfs_nd p0 t) 26
/-- a word is no longer than its place -/
theorem grow_len {p : α} {w : List Nat} {L : List (α × List Nat)} (hL : ∀ (i : Nat) (x : α × List Nat), L[i]? = some x → x.2.length ≤ i) (hw : w.length + 1 ≤ L.length) : ∀ (k i : Nat) (x : α × List Nat), (grow f p w L k)[i]? = some x → x.2.length ≤ i
  | 0, i, x, h => hL i x h
  | k + 1, i, x, h => by
    have h : (add1 f p w (grow f p w L k) k)[i]? = some x := h
    unfold add1 at h
    split at h
    · exact grow_len hL hw k i x h
    · have l1 := (grow_pre (f := f) p w L k).length_le
      by_cases c : i < (grow f p w L k).length
      · rw [List.getElem?_append_left c] at h
        exact grow_len hL hw k i x h
      · rw [List.getElem?_append_right (by omega)] at h
        have := (List.getElem?_eq_some_iff.mp h).1
        have e : i - (grow f p w L k).length = 0 := by simpa using this
        rw [e] at h
        cases h
        show (w ++ [97 + k]).length ≤ i
        rw [List.length_append]
        show w.length + 1 ≤ i
        omega
theorem bfs_len (p0 : α) : ∀ (t i : Nat) (x : α × List Nat), (bfs f p0 t)[i]? = some x → x.2.length ≤ i
  | 0, i, x, h => by
    cases i with
    | zero => cases h; exact Nat.le_refl 0
    | succ i => cases h
  | t + 1, i, x, h => by
    cases e : (bfs f p0 t)[t]? with
    | none =>
      rw [bfs_end (List.getElem?_eq_none_iff.mp e)] at h
      exact bfs_len p0 t i x h
    | some q =>
      obtain ⟨p, w⟩ := q
      rw [bfs_succ e] at h
      have h1 : w.length ≤ t := bfs_len p0 t t (p, w) e
      have h2 := (List.getElem?_eq_some_iff.mp e).1
      exact grow_len (bfs_len p0 t) (by omega) 26 i x h
theorem nd_le : ∀ (l m : List α), l.Nodup → (∀ x ∈ l, x ∈ m) → l.length ≤ m.length
  | [], m, _, _ => Nat.zero_le _
  | x :: l, m, nd, h => by
    obtain ⟨h1, h2⟩ := List.nodup_cons.mp nd
    have hx := h x List.mem_cons_self
    have e := List.length_erase_of_mem hx
    have ih := nd_le l (m.erase x) h2 fun y hy => (List.mem_erase_of_ne (fun z : y = x => h1 (by rw [← z]; exact hy))).mpr (h y (List.mem_cons_of_mem _ hy))
    have := List.length_pos_of_mem hx
    rw [List.length_cons]
    omega
theorem bfs_size {p0 : α} {S : List α} (h0 : p0 ∈ S) (st : ∀ p k, p ∈ S → k < 26 → f p k ∈ S) (t : Nat) : (bfs f p0 t).length ≤ S.length := by
  have h := bfs_all (f := f) (Pr := fun p _ => p ∈ S) h0 (fun p w k hp hk => st p k hp hk) t
  have := nd_le _ S (bfs_nd (f := f) p0 t) fun x hx => by
    obtain ⟨y, hy, rfl⟩ := List.mem_map.mp hx
    exact h y hy
  rw [List.length_map] at this
  exact this
theorem bfs_stay {p0 : α} {t : Nat} (h : (bfs f p0 t).length ≤ t) {u : Nat} (hu : t ≤ u) : bfs f p0 u = bfs f p0 t := by
  induction u with
  | zero =>
    obtain rfl : t = 0 := by omega
    rfl
  | succ u ih =>
    by_cases e : t = u + 1
    · rw [e]
    · have i := ih (by omega)
      rw [bfs_end (by rw [i]; omega), i]
/-- the first word that parts -/
def res (u : α → Bool) (L : List (α × List Nat)) : Option (List Nat) := (L.find? fun x => u x.1).map Prod.snd
/-- what is found one by one is what is found in the whole -/
theorem res_step {p0 : α} {u : α → Bool} {t T : Nat} (hT : (bfs f p0 T).length ≤ T) {x : α × List Nat} (hx : (bfs f p0 t)[t]? = some x) (no : ∀ j y, j < t → (bfs f p0 j)[j]? = some y → u y.1 = false) (yes : u x.1 = true) : res u (bfs f p0 T) = some x.2 := by
  have tT : t < T := by
    apply Nat.lt_of_not_le
    intro c
    have e := bfs_stay hT c
    rw [e] at hx
    have := (List.getElem?_eq_some_iff.mp hx).1
    omega
  have gx := pre_get (bfs_pre p0 (Nat.le_of_lt tT)) hx
  unfold res
  have : (bfs f p0 T).find? (fun y => u y.1) = some x := by
    rw [List.find?_eq_some_iff_getElem]
    refine ⟨yes, t, (List.getElem?_eq_some_iff.mp gx).1, (List.getElem?_eq_some_iff.mp gx).2, fun j hj => ?_⟩
    have lj : j < (bfs f p0 T).length := by have := (List.getElem?_eq_some_iff.mp gx).1; omega
    have l2 : j < (bfs f p0 j).length := by
      apply Nat.lt_of_not_le
      intro c
      rw [bfs_stay c (by omega : j ≤ T)] at lj
      omega
    have gj : (bfs f p0 j)[j]? = some (bfs f p0 j)[j] := List.getElem?_eq_getElem l2
    have g2 := pre_get (bfs_pre p0 (by omega : j ≤ T)) gj
    have e : (bfs f p0 T)[j] = (bfs f p0 j)[j] := by
      rw [List.getElem?_eq_getElem lj] at g2
      exact Option.some.inj g2
    rw [e, no j _ hj gj]
    rfl
  rw [this]
  rfl
theorem res_none {p0 : α} {u : α → Bool} {t T : Nat} (hT : (bfs f p0 T).length ≤ T) (ht : (bfs f p0 t).length ≤ t) (no : ∀ j y, j < t → (bfs f p0 j)[j]? = some y → u y.1 = false) : res u (bfs f p0 T) = none := by
  have e : bfs f p0 T = bfs f p0 t := by
    rcases Nat.le_total t T with h | h
    · exact bfs_stay ht h
    · exact (bfs_stay hT h).symm
  rw [e]
  unfold res
  have : (bfs f p0 t).find? (fun y => u y.1) = none := by
    rw [List.find?_eq_none]
    intro y hy
    obtain ⟨j, hj, rfl⟩ := List.mem_iff_getElem.mp hy
    have l2 : j < (bfs f p0 j).length := by
      apply Nat.lt_of_not_le
      intro c
      rw [bfs_stay c (by omega : j ≤ t)] at hj
      omega
    have gj : (bfs f p0 j)[j]? = some (bfs f p0 j)[j] := List.getElem?_eq_getElem l2
    have g2 := pre_get (bfs_pre p0 (by omega : j ≤ t)) gj
    have e2 : (bfs f p0 t)[j] = (bfs f p0 j)[j] := by
      rw [List.getElem?_eq_getElem hj] at g2
      exact Option.some.inj g2
    rw [e2, no j _ (by omega) gj]
    simp
  rw [this]
  rfl
end
/-! ### the same by other names -/
section
variable {α β : Type} [DecidableEq α] [DecidableEq β] {f : α → Nat → α} {g : β → Nat → β} {h : α → β}
theorem grow_map (inj : ∀ a b, h a = h b → a = b) (cm : ∀ a k, h (f a k) = g (h a) k) (p : α) (w : List Nat) (L : List (α × List Nat)) : ∀ k, (grow f p w L k).map (fun x => (h x.1, x.2)) = grow g (h p) w (L.map fun x => (h x.1, x.2)) k
  | 0 => rfl
  | k + 1 => by
    show (add1 f p w (grow f p w L k) k).map _ = add1 g (h p) w (grow g (h p) w (L.map fun x => (h x.1, x.2)) k) k
    rw [← grow_map inj cm p w L k]
    unfold add1
    have e : (g (h p) k ∈ ((grow f p w L k).map fun x => (h x.1, x.2)).map Prod.fst) ↔ (f p k ∈ (grow f p w L k).map Prod.fst) := by
      rw [List.map_map]
      constructor
      · intro hm
        obtain ⟨x, hx, e⟩ := List.mem_map.mp hm
        have e : h x.1 = g (h p) k := e
        rw [← cm] at e
        rw [← inj _ _ e]
        exact List.mem_map_of_mem hx
      · intro hm
        obtain ⟨x, hx, e⟩ := List.mem_map.mp hm
        refine List.mem_map.mpr ⟨x, hx, ?_⟩
        show h x.1 = _
        rw [e, cm]
    by_cases c : f p k ∈ (grow f p w L k).map Prod.fst
    · rw [if_pos c, if_pos (e.mpr c)]
    · rw [if_neg c, if_neg (fun z => c (e.mp z)), List.map_append]
      show _ ++ [(h (f p k), w ++ [97 + k])] = _
      rw [cm]
theorem bfs_map (inj : ∀ a b, h a = h b → a = b) (cm : ∀ a k, h (f a k) = g (h a) k) (p0 : α) : ∀ t, (bfs f p0 t).map (fun x => (h x.1, x.2)) = bfs g (h p0) t
  | 0 => rfl
  | t + 1 => by
    have ih := bfs_map inj cm p0 t
    cases e : (bfs f p0 t)[t]? with
    | none =>
      have l := List.getElem?_eq_none_iff.mp e
      rw [bfs_end l, bfs_end (by rw [← ih, List.length_map]; exact l), ih]
    | some q =>
      obtain ⟨p, w⟩ := q
      have e2 : (bfs g (h p0) t)[t]? = some (h p, w) := by
        rw [← ih, List.getElem?_map, e]
        rfl
      rw [bfs_succ e, bfs_succ e2, grow_map inj cm, ih]
theorem res_map {u : α → Bool} {v : β → Bool} (hu : ∀ a, v (h a) = u a) (L : List (α × List Nat)) : res v (L.map fun x => (h x.1, x.2)) = res u L := by
  unfold res
  induction L with
  | nil => rfl
  | cons x L ih =>
    rw [List.map_cons, List.find?_cons, List.find?_cons]
    show (Option.map Prod.snd (match v (h x.1) with | true => _ | false => _)) = _
    rw [hu]
    cases u x.1 with
    | true => rfl
    | false => exact ih
end
end NB
set_option Elab.async false
set_option linter.all false
/-! Seeking with an end at a step: the first state, and its first letter, where b holds. -/
namespace NB
section
variable {α : Type} [DecidableEq α] {f : α → Nat → α} {b : α → Nat → Bool}
def badAt (b : α → Nat → Bool) (p : α) : Option Nat := (List.range 26).find? (b p)
def resE (b : α → Nat → Bool) (L : List (α × List Nat)) : Option (List Nat) := (L.find? fun x => (badAt b x.1).isSome).bind fun x => (badAt b x.1).map fun k => x.2 ++ [97 + k]
theorem badAt_none {p : α} : badAt b p = none ↔ ∀ k, k < 26 → b p k = false := by
  unfold badAt
  rw [List.find?_eq_none]
  constructor
  · exact fun h k hk => by simpa using h k (List.mem_range.mpr hk)
  · exact fun h k hk => by rw [h k (List.mem_range.mp hk)]; decide
theorem badAt_some {p : α} {k : Nat} (hk : k < 26) (h : b p k = true) (no : ∀ j, j < k → b p j = false) : badAt b p = some k := by
  unfold badAt
  rw [List.find?_eq_some_iff_getElem]
  refine ⟨h, k, by rw [List.length_range]; exact hk, by rw [List.getElem_range], fun j hj => ?_⟩
  rw [List.getElem_range, no j hj]
  rfl
theorem badAt_inv {p : α} {k : Nat} (h : badAt b p = some k) : k < 26 ∧ b p k = true := by
  unfold badAt at h
  exact ⟨List.mem_range.mp (List.mem_of_find?_eq_some h), List.find?_some h⟩
theorem bfs_at {p0 : α} {t T : Nat} (h : t ≤ T) {x : α × List Nat} (hx : (bfs f p0 T)[t]? = some x) : (bfs f p0 t)[t]? = some x := by
  have lj := (List.getElem?_eq_some_iff.mp hx).1
  have l2 : t < (bfs f p0 t).length := by
    apply Nat.lt_of_not_le
    intro c
    rw [bfs_stay c h] at lj
    omega
  have gj : (bfs f p0 t)[t]? = some (bfs f p0 t)[t] := List.getElem?_eq_getElem l2
  have g2 := pre_get (bfs_pre p0 h) gj
  rw [hx] at g2
  rw [gj, g2]
theorem resE_step {p0 : α} {t T : Nat} (hT : (bfs f p0 T).length ≤ T) {x : α × List Nat} {k : Nat} (hx : (bfs f p0 t)[t]? = some x) (no : ∀ j y, j < t → (bfs f p0 j)[j]? = some y → badAt b y.1 = none) (yes : badAt b x.1 = some k) : resE b (bfs f p0 T) = some (x.2 ++ [97 + k]) := by
  have tT : t < T := by
    apply Nat.lt_of_not_le
    intro c
    have e := bfs_stay hT c
    rw [e] at hx
    have := (List.getElem?_eq_some_iff.mp hx).1
    omega
  have gx := pre_get (bfs_pre p0 (Nat.le_of_lt tT)) hx
  unfold resE
  have : (bfs f p0 T).find? (fun y => (badAt b y.1).isSome) = some x := by
    rw [List.find?_eq_some_iff_getElem]
    refine ⟨by rw [yes]; rfl, t, (List.getElem?_eq_some_iff.mp gx).1, (List.getElem?_eq_some_iff.mp gx).2, fun j hj => ?_⟩
    have lj : j < (bfs f p0 T).length := by have := (List.getElem?_eq_some_iff.mp gx).1; omega
    rw [no j _ hj (bfs_at (by omega) (List.getElem?_eq_getElem lj))]
    rfl
  rw [this]
  show (badAt b x.1).map _ = _
  rw [yes]
  rfl
theorem resE_none {p0 : α} {t T : Nat} (hT : (bfs f p0 T).length ≤ T) (ht : (bfs f p0 t).length ≤ t) (no : ∀ j y, j < t → (bfs f p0 j)[j]? = some y → badAt b y.1 = none) : resE b (bfs f p0 T) = none := by
  have e : bfs f p0 T = bfs f p0 t := by
    rcases Nat.le_total t T with h | h
    · exact bfs_stay ht h
    · exact (bfs_stay hT h).symm
  rw [e]
  unfold resE
  have : (bfs f p0 t).find? (fun y => (badAt b y.1).isSome) = none := by
    rw [List.find?_eq_none]
    intro y hy
    obtain ⟨j, hj, rfl⟩ := List.mem_iff_getElem.mp hy
    rw [no j _ (by omega) (bfs_at (by omega) (List.getElem?_eq_getElem hj))]
    decide
  rw [this]
  rfl
theorem resE_inv {L : List (α × List Nat)} {w : List Nat} (h : resE b L = some w) : ∃ (i : Nat) (x : α × List Nat) (k : Nat), L[i]? = some x ∧ (∀ j y, j < i → L[j]? = some y → badAt b y.1 = none) ∧ badAt b x.1 = some k ∧ w = x.2 ++ [97 + k] := by
  unfold resE at h
  cases e : L.find? fun x => (badAt b x.1).isSome with
  | none =>
    rw [e] at h
    cases h
  | some x =>
    rw [e] at h
    have h : (badAt b x.1).map (fun k => x.2 ++ [97 + k]) = some w := h
    obtain ⟨k, ek, rfl⟩ := Option.map_eq_some_iff.mp h
    obtain ⟨_, i, hi, hx, no⟩ := List.find?_eq_some_iff_getElem.mp e
    refine ⟨i, x, k, by rw [← hx]; exact List.getElem?_eq_getElem hi, fun j y hj hy => ?_, ek, rfl⟩
    obtain ⟨lj, rfl⟩ := List.getElem?_eq_some_iff.mp hy
    have := no j hj
    simpa using this
theorem resE_all {L : List (α × List Nat)} (h : resE b L = none) : ∀ x ∈ L, badAt b x.1 = none := by
  unfold resE at h
  cases e : L.find? fun x => (badAt b x.1).isSome with
  | none =>
    intro x hx
    have := List.find?_eq_none.mp e x hx
    simpa using this
  | some x =>
    rw [e] at h
    have h : (badAt b x.1).map (fun k => x.2 ++ [97 + k]) = none := h
    have hs := List.find?_some e
    rw [Option.map_eq_none_iff] at h
    rw [h] at hs
    cases hs
/-- whence an entry comes -/
theorem grow_par {p : α} {w : List Nat} {L : List (α × List Nat)} : ∀ (k i : Nat) (x : α × List Nat), (grow f p w L k)[i]? = some x → L[i]? = some x ∨ (L.length ≤ i ∧ ∃ j, j < k ∧ x = (f p j, w ++ [97 + j]))
  | 0, i, x, h => .inl h
  | k + 1, i, x, h => by
    have h : (add1 f p w (grow f p w L k) k)[i]? = some x := h
    have l1 := (grow_pre (f := f) p w L k).length_le
    unfold add1 at h
    split at h
    · rcases grow_par k i x h with z | ⟨z, j, hj, e⟩
      · exact .inl z
      · exact .inr ⟨z, j, by omega, e⟩
    · by_cases c : i < (grow f p w L k).length
      · rw [List.getElem?_append_left c] at h
        rcases grow_par k i x h with z | ⟨z, j, hj, e⟩
        · exact .inl z
        · exact .inr ⟨z, j, by omega, e⟩
      · rw [List.getElem?_append_right (by omega)] at h
        have := (List.getElem?_eq_some_iff.mp h).1
        have e : i - (grow f p w L k).length = 0 := by simpa using this
        rw [e] at h
        cases h
        exact .inr ⟨by omega, k, by omega, rfl⟩
theorem bfs_par (p0 : α) : ∀ (t i : Nat) (x : α × List Nat), (bfs f p0 t)[i]? = some x → (i = 0 ∧ x = (p0, [])) ∨ ∃ (j : Nat) (y : α × List Nat) (k : Nat), j < i ∧ (bfs f p0 t)[j]? = some y ∧ k < 26 ∧ x = (f y.1 k, y.2 ++ [97 + k])
  | 0, i, x, h => by
    cases i with
    | zero => cases h; exact .inl ⟨rfl, rfl⟩
    | succ i => cases h
  | t + 1, i, x, h => by
    have pre := bfs_pre1 (f := f) p0 t
    have old : (bfs f p0 t)[i]? = some x → (i = 0 ∧ x = (p0, [])) ∨ ∃ (j : Nat) (y : α × List Nat) (k : Nat), j < i ∧ (bfs f p0 (t + 1))[j]? = some y ∧ k < 26 ∧ x = (f y.1 k, y.2 ++ [97 + k]) := fun h => by
      rcases bfs_par p0 t i x h with z | ⟨j, y, k, hj, hy, hk, e⟩
      · exact .inl z
      · exact .inr ⟨j, y, k, hj, pre_get pre hy, hk, e⟩
    cases e : (bfs f p0 t)[t]? with
    | none =>
      rw [bfs_end (List.getElem?_eq_none_iff.mp e)] at h
      exact old h
    | some q =>
      obtain ⟨p, w⟩ := q
      have h2 := h
      rw [bfs_succ e] at h2
      rcases grow_par 26 i x h2 with z | ⟨z, j, hj, rfl⟩
      · exact old z
      · have := (List.getElem?_eq_some_iff.mp e).1
        exact .inr ⟨t, (p, w), j, by omega, pre_get pre e, hj, rfl⟩
/-- what holds of the start and stays along the steps that don't end, holds of an entry ahead of which nothing ends -/
theorem bfs_allE {p0 : α} {T : Nat} {Pr : α → List Nat → Prop} (h0 : Pr p0 []) (st : ∀ p w k, Pr p w → k < 26 → b p k = false → Pr (f p k) (w ++ [97 + k])) : ∀ (n i : Nat), i < n → ∀ x : α × List Nat, (bfs f p0 T)[i]? = some x → (∀ j y, j < i → (bfs f p0 T)[j]? = some y → badAt b y.1 = none) → Pr x.1 x.2
  | 0, i, hi, _, _, _ => absurd hi (by omega)
  | n + 1, i, hi, x, hx, no => by
    rcases bfs_par p0 T i x hx with ⟨_, rfl⟩ | ⟨j, y, k, hj, hy, hk, rfl⟩
    · exact h0
    · exact st _ _ _ (bfs_allE h0 st n j (by omega) y hy fun l z hl hz => no l z (by omega) hz) hk (badAt_none.mp (no j y hj hy) k hk)
/-- nothing new is reached -/
theorem bfs_closed {p0 : α} {T : Nat} (hT : (bfs f p0 T).length ≤ T) {x : α × List Nat} (hx : x ∈ bfs f p0 T) {k : Nat} (hk : k < 26) : f x.1 k ∈ (bfs f p0 T).map Prod.fst := by
  obtain ⟨j, hj, rfl⟩ := List.mem_iff_getElem.mp hx
  have e := bfs_at (f := f) (p0 := p0) (t := j) (T := T) (by omega) (List.getElem?_eq_getElem hj)
  have e2 := bfs_succ (p := ((bfs f p0 T)[j]).1) (w := ((bfs f p0 T)[j]).2) e
  have key : ∀ (p : α) (w : List Nat) (L : List (α × List Nat)) (n k : Nat), k < n → f p k ∈ (grow f p w L n).map Prod.fst := by
    intro p w L n
    induction n with
    | zero => exact fun k h => absurd h (by omega)
    | succ n ih =>
      intro k h
      show f p k ∈ (add1 f p w (grow f p w L n) n).map Prod.fst
      by_cases c : k = n
      · subst c
        unfold add1
        split
        · assumption
        · rw [List.map_append]
          exact List.mem_append.mpr (.inr (List.mem_singleton.mpr rfl))
      · obtain ⟨y, hy, e⟩ := List.mem_map.mp (ih k (by omega))
        exact List.mem_map.mpr ⟨y, (add1_pre p w _ n).subset hy, e⟩
  have m := key ((bfs f p0 T)[j]).1 ((bfs f p0 T)[j]).2 (bfs f p0 j) 26 k hk
  rw [← e2] at m
  obtain ⟨y, hy, ey⟩ := List.mem_map.mp m
  exact List.mem_map.mpr ⟨y, (bfs_pre p0 (by omega)).subset hy, ey⟩
theorem bfs_has0 (p0 : α) (T : Nat) : p0 ∈ (bfs f p0 T).map Prod.fst := by
  have h := bfs_pre (f := f) p0 (Nat.zero_le T)
  exact List.mem_map.mpr ⟨(p0, []), h.subset (List.mem_singleton.mpr rfl), rfl⟩
end
end NB
set_option Elab.async false
set_option linter.all false
set_option maxRecDepth 100000
set_option maxHeartbeats 1000000
namespace KK
open PySem PySem.Spec PyProof.Rows L2 XV NM XT XA LamX NB
/-! ### two makers side by side -/
abbrev Pr2 := Nat × Nat
def nx (m : Mm) (s c : Nat) : Nat := (prun m s [c]).1
def ot (m : Mm) (s c : Nat) : List Nat := (prun m s [c]).2.flatMap cz
def clN (m : Mm) (s : Nat) : List Nat := cz (m.cl.getD s "")
def stt (m : Mm) (w : List Nat) : Nat := (prun m m.s w).1
def oo (m : Mm) (w : List Nat) : List Nat := (prun m m.s w).2.flatMap cz
theorem stt_snoc (m : Mm) (w : List Nat) (c : Nat) : stt m (w ++ [c]) = nx m (stt m w) c := by
  unfold stt nx
  rw [prun_snoc]
  rfl
theorem oo_snoc (m : Mm) (w : List Nat) (c : Nat) : oo m (w ++ [c]) = oo m w ++ ot m (stt m w) c := by
  unfold oo ot stt
  rw [prun_snoc]
  show ((prun m m.s w).2 ++ _).flatMap cz = _
  rw [List.flatMap_append]
  rfl
theorem made_cz (m : Mm) (y : Str) : cz (Txt.join "" (madeP m y)) = oo m (cz y) ++ clN m (stt m (cz y)) := by
  rw [join0]
  unfold madeP
  rw [List.flatMap_append]
  show _ ++ (cz _ ++ []) = _
  rw [List.append_nil]
  rfl
def Alk (m n : Mm) (w : List Nat) : Prop := oo m w ++ clN m (stt m w) = oo n w ++ clN n (stt n w)
theorem made_alk {m n : Mm} {y : Str} : Alk m n (cz y) ↔ Txt.join "" (madeP m y) = Txt.join "" (madeP n y) := by
  unfold Alk
  rw [← made_cz, ← made_cz]
  constructor
  · intro h
    apply Str.ext'
    exact Array.toList_inj.mp h
  · exact fun h => by rw [h]
def rhoL (c d : List Nat) : List Nat × List Nat := if c.length ≤ d.length then (d.take (d.length - c.length), []) else ([], c.take (c.length - d.length))
theorem rho_of {a b c d : List Nat} (h : a ++ c = b ++ d) (e : a = [] ∨ b = []) : (a, b) = rhoL c d := by
  unfold rhoL
  rcases e with rfl | rfl
  · have h : c = b ++ d := h
    subst h
    by_cases z : b = []
    · subst z
      simp
    · have : 0 < b.length := List.length_pos_iff.mpr z
      rw [List.length_append, if_neg (by omega), show b.length + d.length - d.length = b.length by omega, List.take_left]
  · have h : a ++ c = d := h
    subst h
    rw [List.length_append, if_pos (by omega), show a.length + c.length - c.length = a.length by omega, List.take_left]
theorem cut_eq {M W c d : List Nat} (h : M ++ c = W ++ d) : ∃ Y, M = Y ++ M.drop W.length ∧ W = Y ++ W.drop M.length ∧ (M.drop W.length = [] ∨ W.drop M.length = []) ∧ M.drop W.length ++ c = W.drop M.length ++ d := by
  by_cases l : M.length ≤ W.length
  · have p : M <+: W := List.prefix_of_prefix_length_le (List.prefix_append M c) (h ▸ List.prefix_append W d) l
    obtain ⟨t, rfl⟩ := p
    have e1 : M.drop (M ++ t).length = [] := List.drop_eq_nil_of_le l
    have e2 : (M ++ t).drop M.length = t := List.drop_left
    rw [e1, e2]
    refine ⟨M, (List.append_nil M).symm, rfl, .inl rfl, ?_⟩
    rw [List.append_assoc] at h
    exact List.append_cancel_left h
  · have p : W <+: M := List.prefix_of_prefix_length_le (List.prefix_append W d) (h ▸ List.prefix_append M c) (by omega)
    obtain ⟨t, rfl⟩ := p
    have e1 : W.drop (W ++ t).length = [] := List.drop_eq_nil_of_le (by omega)
    have e2 : (W ++ t).drop W.length = t := List.drop_left
    rw [e1, e2]
    refine ⟨W, rfl, (List.append_nil W).symm, .inr rfl, ?_⟩
    rw [List.append_assoc] at h
    exact List.append_cancel_left h
theorem cut_rho {M W c d : List Nat} (h : M ++ c = W ++ d) : (M.drop W.length, W.drop M.length) = rhoL c d := by
  obtain ⟨_, _, _, e, q⟩ := cut_eq h
  exact rho_of q e
def pst (m n : Mm) (p : Pr2) (k : Nat) : Pr2 := (nx m p.1 (97 + k), nx n p.2 (97 + k))
def rho (m n : Mm) (p : Pr2) : List Nat × List Nat := rhoL (clN m p.1) (clN n p.2)
def mdL (m n : Mm) (p : Pr2) (k : Nat) : List Nat := (rho m n p).1 ++ ot m p.1 (97 + k)
def rvL (m n : Mm) (p : Pr2) (k : Nat) : List Nat := (rho m n p).2 ++ ot n p.2 (97 + k)
def bad (m n : Mm) (p : Pr2) (k : Nat) : Bool := !decide (mdL m n p k ++ clN m (pst m n p k).1 = rvL m n p k ++ clN n (pst m n p k).2)
def prt (m n : Mm) : Option (List Nat) := if clN m m.s = clN n n.s then resE (bad m n) (bfs (pst m n) (m.s, n.s) 151) else some []
structure Inv2 (m n : Mm) (p : Pr2) (w : List Nat) : Prop where
  s1 : stt m w = p.1
  s2 : stt n w = p.2
  x : ∃ X, oo m w = X ++ (rho m n p).1 ∧ oo n w = X ++ (rho m n p).2
  a : (rho m n p).1 ++ clN m p.1 = (rho m n p).2 ++ clN n p.2
theorem Inv2.alk {m n : Mm} {p : Pr2} {w : List Nat} (h : Inv2 m n p w) : Alk m n w := by
  obtain ⟨h1, h2, ⟨X, h3, h4⟩, h5⟩ := h
  unfold Alk
  rw [h1, h2, h3, h4, List.append_assoc, List.append_assoc, h5]
theorem Inv2.start {m n : Mm} (h : clN m m.s = clN n n.s) : Inv2 m n (m.s, n.s) [] := by
  have e : rho m n (m.s, n.s) = ([], []) := by
    unfold rho
    show rhoL (clN m m.s) (clN n n.s) = _
    rw [h]
    exact (rho_of (a := []) (b := []) rfl (.inl rfl)).symm
  exact ⟨rfl, rfl, ⟨[], by rw [e]; rfl, by rw [e]; rfl⟩, by rw [e]; exact h⟩
theorem Inv2.step {m n : Mm} {p : Pr2} {w : List Nat} {k : Nat} (h : Inv2 m n p w) (nb : bad m n p k = false) : Inv2 m n (pst m n p k) (w ++ [97 + k]) := by
  obtain ⟨h1, h2, ⟨X, h3, h4⟩, h5⟩ := h
  have nb : mdL m n p k ++ clN m (pst m n p k).1 = rvL m n p k ++ clN n (pst m n p k).2 := by
    unfold bad at nb
    simpa using nb
  obtain ⟨Y, e1, e2, e3, e4⟩ := cut_eq nb
  have er : (mdL m n p k).drop (rvL m n p k).length = (rho m n (pst m n p k)).1 := congrArg Prod.fst (cut_rho nb)
  have es : (rvL m n p k).drop (mdL m n p k).length = (rho m n (pst m n p k)).2 := congrArg Prod.snd (cut_rho nb)
  rw [er] at e1 e4
  rw [es] at e2 e4
  refine ⟨by rw [stt_snoc, h1]; rfl, by rw [stt_snoc, h2]; rfl, ⟨X ++ Y, ?_, ?_⟩, e4⟩
  · rw [oo_snoc, h3, h1, List.append_assoc, List.append_assoc]
    congr 1
  · rw [oo_snoc, h4, h2, List.append_assoc, List.append_assoc]
    congr 1
theorem Inv2.bad {m n : Mm} {p : Pr2} {w : List Nat} {k : Nat} (h : Inv2 m n p w) (nb : bad m n p k = true) : ¬ Alk m n (w ++ [97 + k]) := by
  obtain ⟨h1, h2, ⟨X, h3, h4⟩, h5⟩ := h
  intro z
  unfold Alk at z
  rw [oo_snoc, oo_snoc, stt_snoc, stt_snoc, h1, h2, h3, h4] at z
  simp only [List.append_assoc] at z
  have z := List.append_cancel_left z
  unfold KK.bad at nb
  rw [Bool.not_eq_true', decide_eq_false_iff_not] at nb
  apply nb
  unfold mdL rvL
  rw [List.append_assoc, List.append_assoc]
  exact z
theorem nx_lt {m : Mm} (ok : MmOk m) {s : Nat} (hs : s < m.R.length) (c : Nat) : nx m s c < m.R.length := (prun_all ok hs [c]).1
def allP (m n : Mm) : List Pr2 := (List.range m.R.length).flatMap fun a => (List.range n.R.length).map fun b => (a, b)
theorem allP_mem {m n : Mm} {p : Pr2} : p ∈ allP m n ↔ p.1 < m.R.length ∧ p.2 < n.R.length := by
  unfold allP
  rw [List.mem_flatMap]
  constructor
  · rintro ⟨a, ha, h⟩
    obtain ⟨b, hb, rfl⟩ := List.mem_map.mp h
    exact ⟨List.mem_range.mp ha, List.mem_range.mp hb⟩
  · rintro ⟨h1, h2⟩
    exact ⟨p.1, List.mem_range.mpr h1, List.mem_map.mpr ⟨p.2, List.mem_range.mpr h2, rfl⟩⟩
theorem sum_const (c : Nat) : ∀ l : List Nat, (l.map fun _ => c).sum = l.length * c
  | [] => by simp
  | x :: l => by
    rw [List.map_cons, List.sum_cons, sum_const c l, List.length_cons, Nat.succ_mul, Nat.add_comm]
theorem allP_len (m n : Mm) : (allP m n).length = m.R.length * n.R.length := by
  unfold allP
  rw [List.length_flatMap]
  rw [show (List.map (fun a => ((List.range n.R.length).map fun b => ((a, b) : Pr2)).length) (List.range m.R.length)) = (List.range m.R.length).map (fun _ => n.R.length) from List.map_congr_left fun a _ => by rw [List.length_map, List.length_range]]
  rw [sum_const, List.length_range]
theorem bfs_small {m n : Mm} (om : MmOk m) (on : MmOk n) (t : Nat) : (bfs (pst m n) (m.s, n.s) t).length ≤ m.R.length * n.R.length := by
  rw [← allP_len]
  refine bfs_size (allP_mem.mpr ⟨om.hs, on.hs⟩) (fun p k hp _ => ?_) t
  obtain ⟨h1, h2⟩ := allP_mem.mp hp
  exact allP_mem.mpr ⟨nx_lt om h1 _, nx_lt on h2 _⟩
theorem bfs_small2 {m n : Mm} (om : MmOk m) (on : MmOk n) (t : Nat) : (bfs (pst m n) (m.s, n.s) t).length ≤ 144 := by
  have h := bfs_small om on t
  have h1 := om.r2
  have h2 := on.r2
  have : m.R.length * n.R.length ≤ 12 * 12 := Nat.mul_le_mul h1 h2
  omega
theorem bfs_lt {m n : Mm} (om : MmOk m) (on : MmOk n) (t : Nat) : ∀ x ∈ bfs (pst m n) (m.s, n.s) t, x.1.1 < m.R.length ∧ x.1.2 < n.R.length :=
  bfs_all (f := pst m n) (Pr := fun p _ => p.1 < m.R.length ∧ p.2 < n.R.length) ⟨om.hs, on.hs⟩ (fun p _ k hp _ => ⟨nx_lt om hp.1 _, nx_lt on hp.2 _⟩) t
/-- what the word told is like -/
theorem prt_some {m n : Mm} (om : MmOk m) (on : MmOk n) {w : List Nat} (h : prt m n = some w) : ¬ Alk m n w ∧ (w = [] ∨ Alk m n w.dropLast) ∧ w.length ≤ m.R.length * n.R.length ∧ ∀ c ∈ w, 97 ≤ c ∧ c < 123 := by
  unfold prt at h
  split at h
  · rename_i h0
    obtain ⟨i, x, k, hx, no, ek, rfl⟩ := resE_inv h
    obtain ⟨k26, hb⟩ := badAt_inv ek
    have hi := bfs_allE (f := pst m n) (b := bad m n) (Pr := fun p w => Inv2 m n p w ∧ ∀ c ∈ w, 97 ≤ c ∧ c < 123) ⟨Inv2.start h0, fun c hc => (by cases hc)⟩ (fun p w k hp hk nb => ⟨hp.1.step nb, fun c hc => (by
      rcases List.mem_append.mp hc with z | z
      · exact hp.2 c z
      · rw [List.mem_singleton.mp z]
        omega)⟩) (i + 1) i (by omega) x hx no
    have l1 := bfs_len (f := pst m n) (m.s, n.s) 151 i x hx
    have l2 := (List.getElem?_eq_some_iff.mp hx).1
    have l3 := bfs_small om on 151
    refine ⟨hi.1.bad hb, .inr ?_, ?_, fun c hc => ?_⟩
    · rw [List.dropLast_concat]
      exact hi.1.alk
    · rw [List.length_append]
      show x.2.length + 1 ≤ _
      omega
    · rcases List.mem_append.mp hc with z | z
      · exact hi.2 c z
      · rw [List.mem_singleton.mp z]
        omega
  · rename_i h0
    cases h
    refine ⟨h0, .inl rfl, Nat.zero_le _, fun c hc => by cases hc⟩
theorem prt_none {m n : Mm} (om : MmOk m) (on : MmOk n) (h : prt m n = none) (w : List Nat) (hw : ∀ c ∈ w, 97 ≤ c ∧ c < 123) : Alk m n w := by
  unfold prt at h
  split at h
  · rename_i h0
    have al := resE_all h
    have hT : (bfs (pst m n) (m.s, n.s) 151).length ≤ 151 := Nat.le_trans (bfs_small2 om on 151) (by decide)
    have key : ∀ (l : List Nat), (∀ c ∈ l, 97 ≤ c ∧ c < 123) → ∃ p, p ∈ (bfs (pst m n) (m.s, n.s) 151).map Prod.fst ∧ Inv2 m n p l.reverse := by
      intro l
      induction l with
      | nil => exact fun _ => ⟨_, bfs_has0 _ 151, Inv2.start h0⟩
      | cons c l ih =>
        intro hl
        obtain ⟨p, hp, hi⟩ := ih fun x hx => hl x (List.mem_cons_of_mem _ hx)
        obtain ⟨x, hx, rfl⟩ := List.mem_map.mp hp
        obtain ⟨c1, c2⟩ := hl c List.mem_cons_self
        have nb := badAt_none.mp (al x hx) (c - 97) (by omega)
        have e : 97 + (c - 97) = c := by omega
        have st := hi.step nb
        rw [e] at st
        rw [List.reverse_cons]
        exact ⟨_, bfs_closed hT hx (by omega), st⟩
    obtain ⟨p, _, hi⟩ := key w.reverse fun c hc => hw c (List.mem_reverse.mp hc)
    rw [List.reverse_reverse] at hi
    exact hi.alk
  · cases h
theorem prt_refl (m : Mm) (om : MmOk m) : prt m m = none := by
  cases h : prt m m with
  | none => rfl
  | some w => exact absurd rfl (prt_some om om h).1
end KK
set_option Elab.async false
set_option linter.all false
set_option maxRecDepth 100000
set_option maxHeartbeats 2000000
/-! for k, v in d.items(), the keys of d tuples. -/
namespace XD
open PySem PySem.Spec PyProof.Rows L2 DT
section
variable {X : Cx} {pins : List (Addr × Obj)} {σ : L2.St} {H : Hp} {s : Shared} {d : Addr} {o : Obj}
theorem frzV {kvs : List (List L2.Key × L2.V)} (I : Inv X pins σ H s) (h : H d = some (.frz o (.dT kvs))) :
    (d == sysModules) = false ∧ s.heap.get? d = some o ∧ o.ExactDict ∧ ∃ (es : Array DictEntry) (ep : Nat), o.data = .dict es ep ∧ es.size = kvs.length ∧
      ∀ (i : Nat) (k : List L2.Key) (v : L2.V), kvs[i]? = some (k, v) → ∃ (en : DictEntry) (q : Addr), es[i]? = some en ∧ en.key = .ref q ∧ H q = some (.tup (k.map kV)) ∧ RelV v en.val := by
  obtain ⟨hd, z, hs, xs, pr, o', es, ep, ho, hx, hdt, he, _⟩ := I.hok d _ h
  cases hd.symm.trans ho
  have l1 : es.size = xs.length := by
    have q := congrArg List.length he
    rw [Array.length_toList, List.length_map] at q
    exact q
  refine ⟨hs, hd, hx, es, ep, hdt, l1.trans (Paired.length pr).symm, fun i k v e => ?_⟩
  obtain ⟨b, hb, e1, e2, e3⟩ := L2.paired_get pr e
  have en : es[i]? = some (entryOfKey (tupleKind (mixKind X.prog X.w)) b) := by
    rw [← Array.getElem?_toList, he, List.getElem?_map, hb]
    rfl
  exact ⟨_, b.2.1, en, rfl, e2, e3⟩
end
/-- the pairs of the locked dict at d, each a new tuple of the key's own tuple and the value -/
def ItiT (d : Addr) (o : Obj) (kvs : List (List L2.Key × L2.V)) : It :=
  ⟨fun i H => H d = some (.frz o (.dT kvs)) ∧ i < kvs.length, fun i H x H' => ∃ T k v q, kvs[i]? = some (k, v) ∧ H q = some (.tup (k.map kV)) ∧ x = .ref T ∧ H T = none ∧ H' = upd H T (.tup [.ref q, v]), fun i H => H d = some (.frz o (.dT kvs)) ∧ kvs.length ≤ i⟩
section
variable {P : Program} {w : World} {K : PySem.W.Frag} {d : Addr} {o : Obj} {es : Array DictEntry} {ep : Nat}
theorem turn_itemsT {kvs : List (List L2.Key × L2.V)} {elts : List Expr} {kk : Nat} {tpos : Pos} (it : Addr) (hod : o.data = .dict es ep) :
    Turn P w K (.Tuple elts kk tpos) (ItiT d o kvs) [it] it (fun i h => ∃ ok ov, IsItemIter h it d i kvs.length ep ok ov) where
  mem := List.mem_singleton.mpr rfl
  obj := fun i h ⟨ok, ov, e⟩ b hb => by
    obtain rfl := List.mem_singleton.mp hb
    exact ⟨_, e, fun v z => nomatch z⟩
  keep := fun i h h' ⟨ok, ov, e⟩ k => ⟨ok, ov, k it (List.mem_singleton.mpr rfl) _ e⟩
  item := by
    intro X hP hw hK hc i pins s σ H E I hf st hg
    subst hP hw hK
    obtain ⟨hd, hi⟩ := hg
    obtain ⟨hs, hgd, hx, es', ep', hdt, hsz, ent⟩ := frzV I hd
    cases hod.symm.trans hdt
    obtain ⟨⟨k, v⟩, hkv⟩ : ∃ p, kvs[i]? = some p := ⟨kvs[i], List.getElem?_eq_getElem hi⟩
    obtain ⟨en, q, hen, hkey, hq, hv⟩ := ent i k v hkv
    obtain ⟨hi2, een⟩ := Array.getElem?_eq_some_iff.mp hen
    obtain ⟨ok, ov, he⟩ := st
    rw [← hsz] at he
    have lt : it < s.heap.objs.size := Heap.lt_size he
    refine nextI he ⟨o, hgd, hx, hdt⟩ hi2 fun h' ho hT hz hk => ?_
    rw [een] at ho hT
    refine ⟨_, rfl, wpAny_letOwnedTupleGo_items (s := { s with heap := h' }) ho fun h2 he2 sb => ?_⟩
    have hT2 : h2.get? s.heap.objs.size = some { cls := .type "tuple", data := .seq #[en.key, en.val] } := (sb.2 _ (Nat.ne_of_gt lt)).trans hT
    have new : ObjOk X.prog X.w (upd H s.heap.objs.size (.tup [.ref q, v])) h2 s.heap.objs.size (.tup [.ref q, v]) :=
      ⟨by show 2 ≤ sizeLine; decide, [en.key, en.val], .cons hkey (.cons hv .nil), ⟨_, hT2, rfl, _, rfl⟩⟩
    have J : Inv X pins σ (upd H s.heap.objs.size (.tup [.ref q, v])) { s with heap := h2 } :=
      I.turnedNew (t' := s.toks) (ch := [it]) (fun b ob hb e => (sb.2 b (fun z => hb (List.mem_singleton.mpr z))).trans (hk b ob (fun z => hb (List.mem_singleton.mpr z)) e)) hf (Nat.le_refl _) new
    refine ⟨.ref s.heap.objs.size, _, J, rfl, ⟨_, k, v, q, hkv, hq, rfl, I.hok.fresh (Nat.le_refl _), rfl⟩, ⟨en.key, en.val, ?_⟩, fun b hb => ?_⟩
    · rw [← hsz]; exact he2
    · obtain rfl := List.mem_singleton.mp hb
      rw [upd_ne (Nat.ne_of_lt lt)]
      exact (hf b (List.mem_singleton.mpr rfl)).1
  done := by
    intro X hP hw hK hc i pins s σ H E I hf st hg
    subst hP hw hK
    obtain ⟨hd, hi⟩ := hg
    obtain ⟨f0, f1, f2, f3, f4, f5⟩ := hf it (List.mem_singleton.mpr rfl)
    obtain ⟨hs, hgd, hx, es', ep', hdt, hsz, ent⟩ := frzV I hd
    cases hod.symm.trans hdt
    obtain ⟨ok, ov, he⟩ := st
    rw [← hsz] at he hi
    exact endI (I.ok.hd hc) he ⟨o, hgd, hx, hdt⟩ hi fun h' eb => ⟨rfl, I.turned (t' := s.toks) (fun b ob hb e => eb b ob hb e) f0 f1 f3 f4 f5⟩
  self := fun A i s Q E st h => let ⟨_, _, e⟩ := st; PySem.W.kcp_self e h
end
def iItemsT (td : TE) : TI := fun σ H R => td σ H fun x H1 => ∃ d o kvs, x = .ref d ∧ H1 d = some (.frz o (.dT kvs)) ∧ R (ItiT d o kvs) H1
section
variable {X : Cx} {e : Expr} {td : TE} {apos cpos : Pos}
theorem pi_itemsT {elts : List Expr} {kk : Nat} {tpos : Pos} (he : PE X e td) (hb : attributeBase e "items" X.env (eval e X.env) = eval e X.env := by rfl) (hl : (apos.endLine == cpos.line) = true := by rfl) :
    PI X (.Tuple elts kk tpos) (.Call (.Attribute e "items" apos) [] [] cpos) (iItemsT td) := by
  refine ⟨fun pins s σ H R I h => ?_⟩
  refine wpAny_Call_method (T := "dict") (id := "dict.items") hb rfl hl F.plainAttrs_dict F.slot_dict_items F.type_dict_items (thn (he.run pins s σ H _ I h) fun u s1 ⟨x, H1, I1, rx, d, o, kvs, ex, hd, q⟩ => ?_)
  subst ex
  obtain rfl : u = Value.ref d := rx
  obtain ⟨hs, hgd, hx, es, ep, hdt, hsz, ent⟩ := frzV I1 hd
  refine ⟨⟨o, hgd, hx.1⟩, fun a e => ?_, ?_⟩
  · cases e
    exact ⟨o, hgd, hx.2.1⟩
  have raw : Raw s1.heap d es ep := ⟨o, hgd, hx, hdt⟩
  have I2 : Inv X pins σ H1 { s1 with heap := s1.heap.push { cls := .type "dict_items", data := .fields #[.ref d] } } := I1.kept (t' := s1.toks) fun b ob q => Heap.get?_push_of_some _ q
  show wpAny _ _ (callWith cpos (.builtin "dict.items") [.ref d] [] []) _ X.xe s1
  refine method_meetsIn F.slot_dict_items F.entry_dict_items rfl (PySem.evalArgs_none ⟨rfl, ⟨o, hgd, hx.1⟩, F.args_dict_items_1 _, _, meetsItems (es := es) (ep := ep) hs, raw, ?_⟩)
  refine iterI (d := d) (es := es) (ep := ep) ⟨_, Heap.get?_push_size _ rfl, rfl, rfl⟩ (raw.push _) (pi_one (tk := s1.toks) I2 _ (turn_itemsT _ hdt) ⟨.none, .none, ?_⟩ q)
  rw [← hsz]
  exact Heap.get?_push_size _ rfl
end
theorem walk_itemsT {d : Addr} {o : Obj} {kvs : List (List L2.Key × L2.V)} : Walk (ItiT d o kvs) kvs.length (fun H => H d = some (.frz o (.dT kvs))) (fun i H x H' => ∃ T k v q, kvs[i]? = some (k, v) ∧ H q = some (.tup (k.map kV)) ∧ x = .ref T ∧ H T = none ∧ H' = upd H T (.tup [.ref q, v])) :=
  ⟨fun _ _ hi q => ⟨q, hi⟩, fun _ q => ⟨q, Nat.le_refl _⟩, fun _ _ _ _ _ _ y => y⟩
end XD
set_option Elab.async false
set_option linter.all false
set_option maxRecDepth 100000
set_option maxHeartbeats 2000000
/-! {k: v}, k a tuple. -/
namespace XD
open PySem PySem.Spec PyProof.Rows L2
def tDisp1T (tk tv : TE) : TE := fun σ H Q => ∀ p, H p = none → tk σ (upd H p (.dT [])) fun y H1 => tv σ H1 fun v H2 => H2 p = some (.dT []) ∧ ∃ (k : List L2.Key) (b : Addr), y = .ref b ∧ H2 b = some (.tup (k.map kV)) ∧ Q (.ref p) (upd H2 p (.dT [(k, v)]))
section
variable {X : Cx} {ke ve : Expr} {tk tv : TE} {pos : Pos}
theorem pe_disp1T (hu : X.A.units < cLine) (hk : PE X ke tk) (hv : PE X ve tv) : PE X (.Dict [some ke] [ve] pos) (tDisp1T tk tv) := by
  refine ⟨fun pins s σ H Q I h => ?_⟩
  have fresh : H s.heap.objs.size = none := I.hok.fresh (Nat.le_refl _)
  have I1 := I.laid (a := s.heap.objs.size) (o := .dT []) (h' := s.heap.push { cls := .type "dict", data := .dict #[] }) (t' := s.toks) (fun _ _ q => Heap.get?_push_of_some _ q) (Nat.le_refl _) (dt_empty s.heap I.big)
  rw [arm_eval_Dict, zip_pairTrees [some ke] [ve] X.env pos rfl rfl, dictDisplay_pairs (pairTrees [some ke] [ve] X.env pos) (fun z => nomatch (show [_] = ([] : List (Sem Value × Sem Value)) from z)) (by show 1 < 17; decide)]
  refine wpAny_bind (wpAny_standAt (wpAny_bind (wpAny_subDictH (knd := tupleKind (mixKind X.prog X.w)) hu (by show 1 ≤ 15; decide) ?_)))
  refine pairTrees_cons_walk (thn (hk.run pins _ σ _ _ I1 (h _ fresh)) fun ku s1 ⟨y, H1, I2, ry, q1⟩ => thn (hv.run pins s1 σ H1 _ I2 q1) fun vu s2 ⟨v, H2, I3, rv, q2⟩ => pairTrees_nil_walk ?_)
  obtain ⟨e, k, b, rfl, eb, q⟩ := q2
  cases (show ku = Value.ref b from ry)
  obtain ⟨z, nd, xs, rl, dict⟩ := dt_of I3.hok e
  cases rl
  refine ⟨[(k, b, vu)], ⟨rfl, rfl, key_of I3.hok eb, trivial⟩, dict, fun h' t' d2 sb => wpAny_pure ?_⟩
  obtain ⟨o, fs, ep, ho, c2, c3, c4, _, c5⟩ := d2
  refine ⟨.ref s.heap.objs.size, upd H2 s.heap.objs.size (.dT [(k, v)]), d_write I3 (by rw [e]; exact True.intro) sb ⟨o, ho⟩ ⟨by show 1 ≤ sizeLine; decide, nd, [(k, b, vu)], .cons ⟨rfl, ?_, rv⟩ .nil, o, fs, ep, ho, c2, c3, c4, c5⟩, rfl, q⟩
  show upd H2 s.heap.objs.size (.dT [(k, v)]) b = _
  rw [upd_ne (ne_of eb e (fun z => nomatch z))]
  exact eb
end
end XD
set_option Elab.async false
set_option linter.all false
set_option maxRecDepth 100000
set_option maxHeartbeats 4000000
namespace KK
open PySem PySem.Spec PyProof.Rows L2 XV NM XT XA XD LamX NB
/-! ### parting_input -/
def IsP (H : Hp) (a : Addr) (p : Pr2) : Prop := H a = some (.tup [.int (p.1 : Int), .int (p.2 : Int)])
theorem IsP.upd' {H : Hp} {b a : Addr} {o : HO} {p : Pr2} (hb : H b = none) (h : IsP H a p) : IsP (L2.upd H b o) a p := by
  unfold IsP
  rw [upd_ne (ne_of_none h hb)]
  exact h
theorem IsP.upd {H : Hp} {b a : Addr} {o u : HO} {p : Pr2} (hb : H b = some u) (nu : ∀ l, u ≠ .tup l) (h : IsP H a p) : IsP (upd H b o) a p := by
  unfold IsP
  rw [upd_ne (ne_of h hb (fun z => nu _ z.symm))]
  exact h
def tx (w : List Nat) : Str := ⟨w.toArray⟩
theorem tx_snoc (w : List Nat) (c : Nat) : tx w ++ (⟨#[c]⟩ : Str) = tx (w ++ [c]) := by
  show (⟨w.toArray ++ #[c]⟩ : Str) = ⟨(w ++ [c]).toArray⟩
  congr 1
  simp
theorem tx_len (w : List Nat) : (tx w).length = w.length := by
  show w.toArray.size = _
  simp
theorem cz_tx (w : List Nat) : cz (tx w) = w := by
  show w.toArray.toList = w
  simp
def kp (p : Pr2) : List Key := [.inl (p.1 : Int), .inl (p.2 : Int)]
theorem kp_inj {p q : Pr2} (h : kp p = kp q) : p = q := by
  unfold kp at h
  simp only [List.cons.injEq, Sum.inl.injEq, Int.natCast_inj, and_true] at h
  exact Prod.ext h.1 h.2
theorem grow_le {α : Type} [DecidableEq α] {f : α → Nat → α} (p : α) (w : List Nat) (L : List (α × List Nat)) {k j : Nat} (h : k ≤ j) : grow f p w L k <+: grow f p w L j := by
  induction j with
  | zero =>
    obtain rfl : k = 0 := by omega
    exact List.prefix_refl _
  | succ j ih =>
    by_cases e : k = j + 1
    · rw [e]
      exact List.prefix_refl _
    · exact (ih (by omega)).trans (add1_pre p w _ j)

def dictB (L : List (Pr2 × List Nat)) : List (List Key × V) := L.map fun x => (kp x.1, V.bl true)
theorem val_none {L : List (Pr2 × List Nat)} {p : Pr2} (h : p ∉ L.map Prod.fst) : valV (dictB L) (kp p) = none := by
  unfold valV
  rw [List.find?_eq_none.mpr]
  · rfl
  · intro x hx
    obtain ⟨y, hy, rfl⟩ := List.mem_map.mp hx
    simp only [decide_eq_true_eq]
    exact fun z => h (List.mem_map.mpr ⟨y, hy, kp_inj z⟩)
theorem val_some {L : List (Pr2 × List Nat)} {p : Pr2} (h : p ∈ L.map Prod.fst) : ∃ v, valV (dictB L) (kp p) = some v := by
  cases e : valV (dictB L) (kp p) with
  | some v => exact ⟨v, rfl⟩
  | none =>
    exfalso
    unfold valV at e
    rw [Option.map_eq_none_iff, List.find?_eq_none] at e
    obtain ⟨x, hx, rfl⟩ := List.mem_map.mp h
    exact e _ (List.mem_map_of_mem (f := fun x : Pr2 × List Nat => (kp x.1, V.bl true)) hx) (decide_eq_true rfl)
def abc : Str := "abcdefghijklmnopqrstuvwxyz"
theorem abc_len : abc.cps.size = 26 := by decide +kernel
theorem abc_at {k c : Nat} (h : abc.cps[k]? = some c) : k < 26 ∧ c = 97 + k := by
  have lk := (Array.getElem?_eq_some_iff.mp h).1
  rw [abc_len] at lk
  refine ⟨lk, ?_⟩
  have e1 : (cz abc)[k]? = some c := by rw [← cz_at]; exact h
  rw [show cz abc = (List.range 26).map (97 + ·) by decide +kernel, List.getElem?_map, List.getElem?_range lk] at e1
  exact (Option.some.inj e1).symm
theorem tx_cz (z : Str) : tx (cz z) = z := by
  show (⟨z.cps.toList.toArray⟩ : Str) = z
  simp
theorem tx_app (a b : List Nat) : tx a ++ tx b = tx (a ++ b) := by
  show (⟨a.toArray ++ b.toArray⟩ : Str) = ⟨(a ++ b).toArray⟩
  congr 1
  simp
theorem tx_inj {a b : List Nat} (h : tx a = tx b) : a = b := by rw [← cz_tx a, h, cz_tx]
theorem tx_join (ps : List Str) : Txt.join "" ps = tx (ps.flatMap cz) := by rw [← join0, tx_cz]
theorem tx_cut (a : List Nat) (n : Nat) : cutS (tx a) (some (n : Int)) none = tx (a.drop n) := by
  have e : cutS (tx a) (some (n : Int)) none = ⟨((a.drop (HT.sIx a.length 0 (some (n : Int)))).take (HT.sIx a.length a.length none - HT.sIx a.length 0 (some (n : Int)))).toArray⟩ := by
    unfold cutS
    rw [tx_len, show (tx a).cps.toList = a from cz_tx a]
  rw [e, HT.sIx_none, show HT.sIx a.length 0 (some (n : Int)) = min n a.length from HT.sIx_nat _ _ n]
  unfold tx
  congr 2
  rcases Nat.le_total n a.length with h | h
  · rw [Nat.min_eq_left h]
    exact List.take_of_length_le (by rw [List.length_drop]; exact Nat.le_refl _)
  · rw [Nat.min_eq_right h, List.drop_of_length_le (Nat.le_refl _), List.drop_of_length_le h, List.take_nil]
def optV : Option (List Nat) → V
  | none => .non
  | some w => .str (tx w)
/-- the entry of a word and a pair in the queue -/
def Qe (m n : Mm) (H : Hp) (v : V) (x : Pr2 × List Nat) : Prop := ∃ a t, v = .ref a ∧ H a = some (.tup [.str (tx x.2), .ref t, .str (tx (rho m n x.1).1), .str (tx (rho m n x.1).2)]) ∧ IsP H t x.1
inductive Qes (m n : Mm) (H : Hp) : List V → List (Pr2 × List Nat) → Prop
  | nil : Qes m n H [] []
  | cons {v : V} {xs : List V} {x : Pr2 × List Nat} {L : List (Pr2 × List Nat)} : Qe m n H v x → Qes m n H xs L → Qes m n H (v :: xs) (x :: L)
theorem Qes.keep {m n : Mm} {H H' : Hp} (s : Same H H') : ∀ {xs : List V} {L : List (Pr2 × List Nat)}, Qes m n H xs L → Qes m n H' xs L
  | _, _, .nil => .nil
  | _, _, .cons ⟨a, t, e, h1, h2⟩ r => .cons ⟨a, t, e, s _ _ h1, s _ _ h2⟩ (Qes.keep s r)
theorem Qes.len {m n : Mm} {H : Hp} : ∀ {xs : List V} {L : List (Pr2 × List Nat)}, Qes m n H xs L → xs.length = L.length
  | _, _, .nil => rfl
  | _, _, .cons _ r => congrArg (· + 1) (Qes.len r)
theorem Qes.get {m n : Mm} {H : Hp} : ∀ {xs : List V} {L : List (Pr2 × List Nat)} {i : Nat} {x : Pr2 × List Nat}, Qes m n H xs L → L[i]? = some x → ∃ v, xs[i]? = some v ∧ Qe m n H v x
  | _, _, i, p, .nil, h => by simp at h
  | _, _, 0, p, .cons a r, h => by
    cases h
    exact ⟨_, rfl, a⟩
  | _, _, i + 1, p, .cons a r, h => by
    obtain ⟨l, e, z⟩ := Qes.get (i := i) r (by simpa using h)
    exact ⟨l, by simpa using e, z⟩
theorem Qes.snoc {m n : Mm} {H : Hp} {v : V} {x : Pr2 × List Nat} (h : Qe m n H v x) : ∀ {xs : List V} {L : List (Pr2 × List Nat)}, Qes m n H xs L → Qes m n H (xs ++ [v]) (L ++ [x])
  | _, _, .nil => .cons h .nil
  | _, _, .cons g r => .cons g (Qes.snoc h r)
theorem Qes.upd {m n : Mm} {H : Hp} {b : Addr} {o u : HO} (hb : H b = some u) (nu : ∀ l, u ≠ .tup l) : ∀ {xs : List V} {L : List (Pr2 × List Nat)}, Qes m n H xs L → Qes m n (L2.upd H b o) xs L
  | _, _, .nil => .nil
  | _, _, .cons ⟨a, t, e, h1, h2⟩ r => .cons ⟨a, t, e, by rw [upd_ne (ne_of h1 hb (fun z => nu _ z.symm))]; exact h1, h2.upd hb nu⟩ (Qes.upd hb nu r)
theorem rho_len {m n : Mm} (om : MmOk m) (on : MmOk n) {p : Pr2} (h1 : p.1 < m.R.length) (h2 : p.2 < n.R.length) : (rho m n p).1.length ≤ 2000 ∧ (rho m n p).2.length ≤ 2000 := by
  have key : ∀ {m : Mm} (ok : MmOk m) {s : Nat}, s < m.R.length → (clN m s).length ≤ 2000 := fun {m} ok {s} hs => by
    have lc := ok.lc
    have e1 : m.cl[s]? = some (m.cl[s]'(by omega)) := List.getElem?_eq_getElem (by omega)
    unfold clN
    rw [List.getD_eq_getElem?_getD, e1, ← cz_len]
    exact short_len (ok.hc _ (List.getElem_mem _))
  have k1 := key om h1
  have k2 := key on h2
  unfold rho rhoL
  split
  · exact ⟨by rw [List.length_take]; omega, Nat.zero_le _⟩
  · exact ⟨Nat.zero_le _, by rw [List.length_take]; omega⟩
theorem ot_len {m : Mm} (ok : MmOk m) {s : Nat} (hs : s < m.R.length) (c : Nat) : (ot m s c).length ≤ 4000 := by
  obtain ⟨_, h2, h3⟩ := prun_all ok hs [c]
  have h := sum_le2 h3
  rw [sum_len] at h
  have h2 : (prun m s [c]).2.length ≤ 2 := h2
  show ((prun m s [c]).2.flatMap cz).length ≤ 4000
  omega
theorem cl_at {m : Mm} (ok : MmOk m) {s : Nat} (hs : s < m.R.length) : (m.cl.map V.str)[s]? = some (.str (tx (clN m s))) ∧ (clN m s).length ≤ 2000 := by
  have lc := ok.lc
  have e1 : m.cl[s]? = some (m.cl[s]'(by omega)) := List.getElem?_eq_getElem (by omega)
  have e2 : m.cl.getD s "" = m.cl[s]'(by omega) := by
    rw [List.getD_eq_getElem?_getD, e1]
    rfl
  unfold clN
  rw [e2, tx_cz, List.getElem?_map, e1, ← cz_len]
  exact ⟨rfl, short_len (ok.hc _ (List.getElem_mem _))⟩
abbrev sPI : Stmt := top 31
abbrev nPI : List Str := ["one", "other", "closing", "mates", "pair", "seen", "queue", "turn", "word", "ahead", "behind", "letter", "first", "parts", "second", "others", "made", "rival"]
theorem scPI : FnScope nPI ["one", "other"] (defScope sPI) := ⟨rfl, rfl, rfl, by decide +kernel, rfl, by decide +kernel, by decide +kernel⟩
def spPI (K : PySem.W.Frag) (C : Addr) : Sp := fun vs H Q E => ∃ u v, vs = [u, v] ∧ ((NoA K H u ∧ Rz E H (CF K 4) u) ∨ ∃ x m, u = .ref x ∧ Ma C H x m ∧ ((NoA K H v ∧ Rz E H (CF K 4) v) ∨ ∃ y n, v = .ref y ∧ Ma C H y n ∧ MmOk m ∧ MmOk n ∧ ∀ H', Same H H' → Q (optV (prt m n)) H'))
section
variable {P : Program} {w : World} {K : PySem.W.Frag} {mg : Str → Option Value} {base : Heap} {f : Addr} {fd : FuncData} {CM : Addr}
theorem ok_pi (F : FnP K "parting_input" sPI f fd) (TM : MT K mg CM) (o_reqM : OkX P w K mg base "require_maker" 3 ["maker"] (spReqM K CM)) (o_parts : Ok P w K mg base "parts_made" 3 ["maker", "state", "word"] (spParts CM)) (o_startM : OkMa P w K mg base CM "start" (spStartM CM)) (o_closM : OkMa P w K mg base CM "closing" (spClosM CM))
    (z_len : mg "len" = none) {tM : Tok} (h_A : mg "ALPHABET" = some (.str abc tM)) : FnOk P w K mg base (L2.CX P w) 4 f fd ["one", "other"] (spPI K CM) := by
  have nd := scPI.nd
  refine F.ok scPI (fun vs H Q E h => ?_) (fun cdv A outer s H vs Q E hr h => ?_)
  · obtain ⟨u, v, rfl, _⟩ := h
    rfl
  · obtain ⟨u, v, rfl, h⟩ := h
    have r3 : Room 3 (A.deeper (envOfC "parting_input" (defScope sPI) s.heap.objs.size f cdv)) := hr
    have r1 := r3.mono (by decide : 1 ≤ 3)
    have hu1 : (A.deeper (envOfC "parting_input" (defScope sPI) s.heap.objs.size f cdv)).units + 1 < cLine := by have := hr.un; omega
    have hu0 : (A.deeper (envOfC "parting_input" (defScope sPI) s.heap.objs.size f cdv)).units < cLine := by omega
    have szl := sizeLine_eq
    refine ⟨_, (pss_cons (ps_expr (pe_callX (E := E) o_reqM (takes_of rfl rfl rfl rfl) r3 (by rfl) (pa_cons (pv 0) pa_nil)))
      (pss_cons (ps_expr (pe_callX (E := E) o_reqM (takes_of rfl rfl rfl rfl) r3 (by rfl) (pa_cons (pv 1) pa_nil)))
      (pss_cons (ps_par (i := 2) (j := 3) rfl nd rfl rfl (by decide) rfl rfl (pa_cons (pe_closM o_closM TM (pv 0) r1) (pa_cons (pe_closM o_closM TM (pv 1) r1) pa_nil)) (by rfl))
      (pss_cons (ps_set (i := 4) nd rfl (Or.inl rfl) (pe_tup (pa_cons (pe_startM o_startM TM (pv 0) r1) (pa_cons (pe_startM o_startM TM (pv 1) r1) pa_nil))))
      (C8.pss_cut (ps_if (pt_cmpR op_ne (pe_ix (ix_listK (K := K) rfl) (pv 2) (pe_ix (ix_tupK (K := K) rfl) (pv 4) pe_int (fun _ _ => rfl)) (fun _ _ => rfl)) (pe_ix (ix_listK (K := K) rfl) (pv 3) (pe_ix (ix_tupK (K := K) rfl) (pv 4) pe_int (fun _ _ => rfl)) (fun _ _ => rfl)) (nomark _)) (pss_one (ps_ret pe_str)) pss_nil)
      (pss_cons (ps_par3 (i := 5) (j := 6) (l := 7) rfl nd rfl rfl rfl (by decide) (by decide) (by decide) rfl rfl rfl (pa_cons (pe_disp1T hu0 (pv 4) pe_bl) (pa_cons (pe_lst (pa_cons (pe_tup (pa_cons pe_str (pa_cons (pv 4) (pa_cons pe_str (pa_cons pe_str pa_nil))))) pa_nil)) (pa_cons pe_int pa_nil))) (by rfl))
      (pss_cons (ps_while (passes_of rfl) (pt_cmpR op_lt (pv 7) (pe_callB call_len (by rfl) z_len boot_len (pa_cons (pv 6) pa_nil)) (nomark _))
        (pss_cons (ps_asg (pe_ix (ix_listK (K := K) rfl) (pv 6) (pv 7) (fun _ _ => rfl)) (pg_tup rfl (pgs_cons (pg_name (i := 8) nd rfl (Or.inl rfl)) (pgs_cons (pg_name (i := 4) nd rfl (Or.inl rfl)) (pgs_cons (pg_name (i := 9) nd rfl (Or.inl rfl)) (pgs_cons (pg_name (i := 10) nd rfl (Or.inl rfl)) pgs_nil))))))
        (pss_cons (ps_for (passes_of rfl) rfl (pi_str (pe_glob (v := .str abc) (by rfl) h_A ⟨_, rfl⟩)) (pg_name (i := 11) nd rfl (Or.inl rfl))
          (pss_cons (ps_asg (pe_callO o_parts r3 (by rfl) (pa_cons (pv 0) (pa_cons (pe_ix (ix_tupK (K := K) rfl) (pv 4) pe_int (fun _ _ => rfl)) (pa_cons (pv 11) pa_nil)))) (pg_tup rfl (pgs_cons (pg_name (i := 12) nd rfl (Or.inl rfl)) (pgs_cons (pg_name (i := 13) nd rfl (Or.inl rfl)) pgs_nil))))
          (C8.pss_cut (ps_asg (pe_callO o_parts r3 (by rfl) (pa_cons (pv 1) (pa_cons (pe_ix (ix_tupK (K := K) rfl) (pv 4) pe_int (fun _ _ => rfl)) (pa_cons (pv 11) pa_nil)))) (pg_tup rfl (pgs_cons (pg_name (i := 14) nd rfl (Or.inl rfl)) (pgs_cons (pg_name (i := 15) nd rfl (Or.inl rfl)) pgs_nil))))
          (C8.pss_cut (ps_par (i := 16) (j := 17) rfl nd rfl rfl (by decide) rfl rfl (pa_cons (pe_op op_add_str (pv 9) (pe_join pe_str (pv 13))) (pa_cons (pe_op op_add_str (pv 10) (pe_join pe_str (pv 15))) pa_nil)) (by rfl))
          (C8.pss_cut (ps_if (pt_cmpR op_ne (pe_op op_add_str (pv 16) (pe_ix (ix_listK (K := K) rfl) (pv 2) (pv 12) (fun _ _ => rfl))) (pe_op op_add_str (pv 17) (pe_ix (ix_listK (K := K) rfl) (pv 3) (pv 14) (fun _ _ => rfl))) (nomark _)) (pss_one (ps_ret (pe_op op_add_str (pv 8) (pv 11)))) pss_nil)
          (pss_one (ps_if (pt_cmp (pc_dnotin hu1 (pe_tup (pa_cons (pv 12) (pa_cons (pv 14) pa_nil))) (pv 5)))
            (C8.pss_cut (ps_asg pe_bl (pg_sub (pv 5) (pe_tup (pa_cons (pv 12) (pa_cons (pv 14) pa_nil))) (set_dict hu1)))
            (pss_one (ps_expr (pe_bm PySem.F.plainAttrs_list PySem.F.slot_list_append PySem.F.type_list_append mt_append (pv 6) (pa_cons (pe_tup (pa_cons (pe_op op_add_str (pv 8) (pv 11)) (pa_cons (pe_tup (pa_cons (pv 12) (pa_cons (pv 14) pa_nil))) (pa_cons (pe_slice sl_str (pv 16) (po_some (pe_callB call_len_str (by rfl) z_len boot_len (pa_cons (pv 17) pa_nil))) po_none) (pa_cons (pe_slice sl_str (pv 17) (po_some (pe_callB call_len_str (by rfl) z_len boot_len (pa_cons (pv 16) pa_nil))) po_none) pa_nil))))) pa_nil))))) pss_nil)))))))
        (pss_one (ps_aug (i := 7) nd rfl (Or.inl rfl) pe_int ip_add)))))
      (pss_one (ps_ret pe_non))))))))), ?_⟩
    rcases h with ⟨n, r⟩ | ⟨x, m, rfl, hx, h⟩
    · exact ⟨_, rfl, _, rfl, .inr ⟨n, r⟩⟩
    refine ⟨_, rfl, _, rfl, .inl ⟨x, m, rfl, hx, ?_⟩⟩
    rcases h with ⟨n, r⟩ | ⟨y, n, rfl, hy, om, on, q⟩
    · exact ⟨_, rfl, _, rfl, .inr ⟨n, r⟩⟩
    refine ⟨_, rfl, _, rfl, .inl ⟨y, n, rfl, hy, ?_⟩⟩
    refine ⟨_, rfl, x, m, rfl, hx, fun ca nca => ?_⟩
    have s1 := same_new (o := .lst (m.cl.map V.str)) nca
    refine ⟨_, rfl, y, n, rfl, hy.keep s1, fun cb ncb => ⟨_, _, rfl, ?_⟩⟩
    have s2 := same_new (o := .lst (n.cl.map V.str)) ncb
    have s12 := s1.trans s2
    refine ⟨_, rfl, x, m, rfl, hx.keep s12, _, rfl, y, n, rfl, hy.keep s12, (by show 2 ≤ sizeLine; omega), fun pa npa => ?_⟩
    have s3 := same_new (o := .tup [.int (m.s : Int), .int (n.s : Int)]) npa
    have hca := s3 _ _ (s2 _ _ (upd_same (H := H) (a := ca) (o := .lst (m.cl.map V.str))))
    have hcb := s3 _ _ (upd_same (H := upd H ca (.lst (m.cl.map V.str))) (a := cb) (o := .lst (n.cl.map V.str)))
    have hpa : IsP _ pa (m.s, n.s) := upd_same (H := upd (upd H ca (.lst (m.cl.map V.str))) cb (.lst (n.cl.map V.str))) (a := pa) (o := .tup [.int (m.s : Int), .int (n.s : Int)])
    have s03 := s12.trans s3
    have hx3 := hx.keep s03
    have hy3 := hy.keep s03
    generalize upd (upd (upd H ca (.lst (m.cl.map V.str))) cb (.lst (n.cl.map V.str))) pa (.tup [.int (m.s : Int), .int (n.s : Int)]) = H3 at *
    obtain ⟨cm1, cm2⟩ := cl_at om om.hs
    obtain ⟨cn1, cn2⟩ := cl_at on on.hs
    refine ⟨fun σ' H' => σ' = [some (.ref x), some (.ref y), some (.ref ca), some (.ref cb), some (.ref pa), none, none, none, none, none, none, none, none, none, none, none, none, none] ∧ H3 = H' ∧ clN m m.s = clN n n.s, ?_, ?_⟩
    · refine ⟨_, rfl, _, rfl, pa, _, _, _, rfl, rfl, SqT.of hpa, rfl, ca, _, _, _, rfl, rfl, SqL.of hca, atI_nat cm1, _, rfl, _, rfl, pa, _, _, _, rfl, rfl, SqT.of hpa, rfl, cb, _, _, _, rfl, rfl, SqL.of hcb, atI_nat cn1, rfl, _, rfl, ite2 (fun c => ?_) (fun c => ⟨rfl, rfl, ?_⟩)⟩
      · have c : ¬ clN m m.s = clN n n.s := fun z => by
          rw [z] at c
          simp at c
        have e : prt m n = some [] := by
          unfold prt
          rw [if_neg c]
        have q := q H3 s03
        rw [e] at q
        exact q
      · by_cases z : clN m m.s = clN n n.s
        · exact z
        · exact absurd (by rw [Bool.not_eq_true', decide_eq_false_iff_not]; exact fun w => z (tx_inj (V.str.inj w))) c
    rintro σ' _ ⟨rfl, rfl, h0⟩
    have e0 : rho m n (m.s, n.s) = ([], []) := by
      unfold rho
      show rhoL (clN m m.s) (clN n n.s) = _
      rw [h0]
      exact (rho_of (a := []) (b := []) rfl (.inl rfl)).symm
    have ep0 : prt m n = resE (bad m n) (bfs (pst m n) (m.s, n.s) 151) := by
      unfold prt
      rw [if_pos h0]
    have hT151 : (bfs (pst m n) (m.s, n.s) 151).length ≤ 151 := Nat.le_trans (bfs_small2 om on 151) (by decide)
    refine fun w0 nw => ⟨_, rfl, upd_same, kp (m.s, n.s), pa, rfl, IsP.upd' nw hpa, _, rfl, (by show 4 ≤ sizeLine; omega), fun qt nqt => ⟨(by show 1 ≤ sizeLine; omega), fun qa nq => ⟨_, _, _, rfl, ?_⟩⟩⟩
    have ew : upd (upd H3 w0 (.dT [])) w0 (.dT [(kp (m.s, n.s), V.bl true)]) = upd H3 w0 (.dT [(kp (m.s, n.s), V.bl true)]) := by
      funext b
      by_cases hb : b = w0
      · rw [hb, upd_same, upd_same]
      · rw [upd_ne hb, upd_ne hb, upd_ne hb]
    rw [ew] at nqt nq ⊢
    have t1 := same_new (o := .dT [(kp (m.s, n.s), V.bl true)]) nw
    have t2 := same_new (o := .tup [.str "", .ref pa, .str "", .str ""]) nqt
    have t3 := same_new (o := .lst [V.ref qt]) nq
    have nqH := was_none t1 (was_none t2 nq)
    have wq : w0 ≠ qa := ne_of_none (t2 _ _ (upd_same (H := H3) (a := w0) (o := .dT [(kp (m.s, n.s), V.bl true)]))) nq
    have hw0 := t3 _ _ (t2 _ _ (upd_same (H := H3) (a := w0) (o := .dT [(kp (m.s, n.s), V.bl true)])))
    have hqt := t3 _ _ (upd_same (H := upd H3 w0 (.dT [(kp (m.s, n.s), V.bl true)])) (a := qt) (o := .tup [.str "", .ref pa, .str "", .str ""]))
    have hqa := upd_same (H := upd (upd H3 w0 (.dT [(kp (m.s, n.s), V.bl true)])) qt (.tup [.str "", .ref pa, .str "", .str ""])) (a := qa) (o := .lst [V.ref qt])
    have t13 := (t1.trans t2).trans t3
    have hpq : IsP _ pa (m.s, n.s) := t13 _ _ hpa
    generalize upd (upd (upd H3 w0 (.dT [(kp (m.s, n.s), V.bl true)])) qt (.tup [.str "", .ref pa, .str "", .str ""])) qa (.lst [V.ref qt]) = H6 at *
    have etx : tx [] = ("" : Str) := by decide +kernel
    have hQ0 : Qes m n H6 [V.ref qt] (bfs (pst m n) (m.s, n.s) 0) := .cons ⟨qt, pa, rfl, by
      show H6 qt = some (.tup [.str (tx []), .ref pa, .str (tx (rho m n (m.s, n.s)).1), .str (tx (rho m n (m.s, n.s)).2)])
      rw [e0, etx]
      exact hqt, hpq⟩ .nil
    have bd := bfs_small2 om on
    refine ⟨fun mm σ H1 => ∃ t qs pp x8 x9 x10 x11 x12 x13 x14 x15 x16 x17, mm + t = 151 ∧ σ = [some (.ref x), some (.ref y), some (.ref ca), some (.ref cb), pp, some (.ref w0), some (.ref qa), some (.int ((t : Nat) : Int)), x8, x9, x10, x11, x12, x13, x14, x15, x16, x17] ∧ Same H3 H1 ∧ H1 w0 = some (.dT (dictB (bfs (pst m n) (m.s, n.s) t))) ∧ H1 qa = some (.lst qs) ∧ Qes m n H1 qs (bfs (pst m n) (m.s, n.s) t) ∧ t ≤ (bfs (pst m n) (m.s, n.s) t).length ∧ (∀ j z, j < t → (bfs (pst m n) (m.s, n.s) j)[j]? = some z → badAt (bad m n) z.1 = none),
      ⟨151, 0, [V.ref qt], _, _, _, _, _, _, _, _, _, _, _, rfl, rfl, t13, hw0, hqa, hQ0, Nat.zero_le _, fun j z hj => absurd hj (by omega)⟩, ?_⟩
    rintro mm σ H1 ⟨t, qs, pp, x8, x9, x10, x11, x12, x13, x14, x15, x16, x17, em, rfl, sm, hw, hq, hQ, lt, no⟩
    have lq := hQ.len
    have bt := bd t
    refine ⟨_, rfl, _, rfl, _, (bfs (pst m n) (m.s, n.s) t).length, rfl, .inl ⟨_, SqL.of hq, lq.symm⟩, _, _, rfl, rfl, _, rfl, ?_⟩
    by_cases c : t < (bfs (pst m n) (m.s, n.s) t).length
    · rw [decide_eq_true (show ((t : Nat) : Int) < ((bfs (pst m n) (m.s, n.s) t).length : Int) by omega)]
      refine iteT ⟨_, fun σ' H' z => ⟨mm - 1, by omega, z⟩, ?_⟩
      obtain ⟨⟨p, wd⟩, hp⟩ : ∃ x, (bfs (pst m n) (m.s, n.s) t)[t]? = some x := ⟨_, List.getElem?_eq_getElem c⟩
      obtain ⟨ve, eve, ae, te, rfl, hae, hte⟩ := hQ.get hp
      obtain ⟨p1, p2⟩ : p.1 < m.R.length ∧ p.2 < n.R.length := bfs_lt om on t _ (List.mem_of_getElem? hp)
      have lw : wd.length ≤ t := bfs_len (f := pst m n) (m.s, n.s) t t _ hp
      obtain ⟨lr1, lr2⟩ : (rho m n p).1.length ≤ 2000 ∧ (rho m n p).2.length ≤ 2000 := rho_len om on p1 p2
      refine ⟨_, rfl, _, rfl, qa, qs, _, _, rfl, rfl, SqL.of hq, atI_nat eve, ae, _, rfl, SqT.of hae, rfl, _, _, rfl, _, _, rfl, _, _, rfl, _, _, rfl, rfl, ?_⟩
      refine ⟨abc, rfl, for_it walk_str (fun k σ H2 => ∃ qs x11 x12 x13 x14 x15 x16 x17, σ = [some (.ref x), some (.ref y), some (.ref ca), some (.ref cb), some (.ref te), some (.ref w0), some (.ref qa), some (.int ((t : Nat) : Int)), some (.str (tx wd)), some (.str (tx (rho m n p).1)), some (.str (tx (rho m n p).2)), x11, x12, x13, x14, x15, x16, x17] ∧ Same H3 H2 ∧ H2 w0 = some (.dT (dictB (grow (pst m n) p wd (bfs (pst m n) (m.s, n.s) t) k))) ∧ H2 qa = some (.lst qs) ∧ Qes m n H2 qs (grow (pst m n) p wd (bfs (pst m n) (m.s, n.s) t) k) ∧ IsP H2 te p ∧ ∀ j, j < k → bad m n p j = false)
        ⟨qs, _, _, _, _, _, _, _, rfl, sm, hw, hq, hQ, hte, fun j hj => absurd hj (by omega)⟩ (fun _ _ _ _ _ => trivial) ?_ ?_⟩
      · rintro k v σ H20 H2 hk ⟨qs2, x11, x12, x13, x14, x15, x16, x17, rfl, sm2, hw2, hq2, hQ2, hte2, nb⟩ ⟨rfl, cc, ec, rfl⟩
        obtain ⟨k26, rfl⟩ := abc_at ec
        have hx2 := hx3.keep sm2
        have hy2 := hy3.keep sm2
        -- what both make of the letter
        refine ⟨_, rfl, _, rfl, te, _, _, _, rfl, rfl, SqT.of hte2, rfl, _, rfl, x, m, p.1, ⟨#[97 + k]⟩, rfl, hx2, om, p1, (by show 1 ≤ 20001; decide), fun H4 ta la s4 hta nla hla => ⟨ta, _, rfl, SqT.of hta, rfl, _, _, rfl, _, _, rfl, rfl, ?_⟩⟩
        have hta : H4 ta = some (.tup [.int (nx m p.1 (97 + k) : Nat), .ref la]) := hta
        have hla : H4 la = some (.lst ((prun m p.1 [97 + k]).2.map V.str)) := hla
        refine ⟨fun σ' H' => ∃ lb, σ' = [some (.ref x), some (.ref y), some (.ref ca), some (.ref cb), some (.ref te), some (.ref w0), some (.ref qa), some (.int ((t : Nat) : Int)), some (.str (tx wd)), some (.str (tx (rho m n p).1)), some (.str (tx (rho m n p).2)), some (.str ⟨#[97 + k]⟩), some (.int (nx m p.1 (97 + k) : Nat)), some (.ref la), some (.int (nx n p.2 (97 + k) : Nat)), some (.ref lb), x16, x17] ∧ Same H2 H' ∧ H' la = some (.lst ((prun m p.1 [97 + k]).2.map V.str)) ∧ H' lb = some (.lst ((prun n p.2 [97 + k]).2.map V.str)), ?_, ?_⟩
        · refine ⟨_, rfl, _, rfl, te, _, _, _, rfl, rfl, SqT.of (s4 _ _ hte2), rfl, _, rfl, y, n, p.2, ⟨#[97 + k]⟩, rfl, hy2.keep s4, on, p2, (by show 1 ≤ 20001; decide), fun H5 tb lb s5 htb nlb hlb => ⟨tb, _, rfl, SqT.of htb, rfl, _, _, rfl, _, _, rfl, rfl, ?_⟩⟩
          exact ⟨lb, rfl, s4.trans s5, s5 _ _ hla, hlb⟩
        clear hla hta s4
        rintro σ' H5 ⟨lb, rfl, s5, hla, hlb⟩
        have sm5 := sm2.trans s5
        have lo1 := ot_len om p1 (97 + k)
        have lo2 := ot_len on p2 (97 + k)
        have lm : (mdL m n p k).length ≤ 6000 := by
          show ((rho m n p).1 ++ ot m p.1 (97 + k)).length ≤ 6000
          rw [List.length_append]
          omega
        have lv : (rvL m n p k).length ≤ 6000 := by
          show ((rho m n p).2 ++ ot n p.2 (97 + k)).length ≤ 6000
          rw [List.length_append]
          omega
        refine ⟨fun σ' H' => H5 = H' ∧ σ' = [some (.ref x), some (.ref y), some (.ref ca), some (.ref cb), some (.ref te), some (.ref w0), some (.ref qa), some (.int ((t : Nat) : Int)), some (.str (tx wd)), some (.str (tx (rho m n p).1)), some (.str (tx (rho m n p).2)), some (.str ⟨#[97 + k]⟩), some (.int (nx m p.1 (97 + k) : Nat)), some (.ref la), some (.int (nx n p.2 (97 + k) : Nat)), some (.ref lb), some (.str (tx (mdL m n p k))), some (.str (tx (rvL m n p k)))], ?_, ?_⟩
        · have l1 := sum_len (prun m p.1 [97 + k]).2
          have l2 := sum_len (prun n p.2 [97 + k]).2
          have g1 : ((prun m p.1 [97 + k]).2.flatMap cz).length ≤ 4000 := lo1
          have g2 : ((prun n p.2 [97 + k]).2.flatMap cz).length ≤ 4000 := lo2
          have z0 : ("" : Str).length = 0 := by decide +kernel
          refine ⟨_, rfl, ⟨_, rfl⟩, _, rfl, _, la, (prun m p.1 [97 + k]).2, rfl, rfl, .inl (SqL.of hla), (by rw [l1, z0]; omega), _, _, rfl, rfl, ?_, ?_⟩
          · rw [tx_join, tx_len, tx_len]
            omega
          refine ⟨_, rfl, ⟨_, rfl⟩, _, rfl, _, lb, (prun n p.2 [97 + k]).2, rfl, rfl, .inl (SqL.of hlb), (by rw [l2, z0]; omega), _, _, rfl, rfl, ?_, ?_⟩
          · rw [tx_join, tx_len, tx_len]
            omega
          rw [tx_join, tx_join, tx_app, tx_app]
          exact ⟨_, _, rfl, rfl, rfl⟩
        rintro σ' _ ⟨rfl, rfl⟩
        have q1 := nx_lt om p1 (97 + k)
        have q2 := nx_lt on p2 (97 + k)
        obtain ⟨c1, c2⟩ := cl_at om q1
        obtain ⟨d1, d2⟩ := cl_at on q2
        have hca5 := sm5 _ _ hca
        have hcb5 := sm5 _ _ hcb
        have el : (⟨#[97 + k]⟩ : Str).length = 1 := rfl
        refine ⟨fun σ' H' => H5 = H' ∧ bad m n p k = false ∧ σ' = [some (.ref x), some (.ref y), some (.ref ca), some (.ref cb), some (.ref te), some (.ref w0), some (.ref qa), some (.int ((t : Nat) : Int)), some (.str (tx wd)), some (.str (tx (rho m n p).1)), some (.str (tx (rho m n p).2)), some (.str ⟨#[97 + k]⟩), some (.int (nx m p.1 (97 + k) : Nat)), some (.ref la), some (.int (nx n p.2 (97 + k) : Nat)), some (.ref lb), some (.str (tx (mdL m n p k))), some (.str (tx (rvL m n p k)))], ?_, ?_⟩
        · refine ⟨_, rfl, _, rfl, _, rfl, ca, _, _, _, rfl, rfl, SqL.of hca5, atI_nat c1, _, _, rfl, rfl, (by rw [tx_len, tx_len]; omega), _, rfl, _, rfl, _, rfl, cb, _, _, _, rfl, rfl, SqL.of hcb5, atI_nat d1, _, _, rfl, rfl, (by rw [tx_len, tx_len]; omega), rfl, _, rfl, ?_⟩
          rw [tx_app, tx_app]
          have eb : (!decide (V.str (tx (mdL m n p k ++ clN m (nx m p.1 (97 + k)))) = V.str (tx (rvL m n p k ++ clN n (nx n p.2 (97 + k)))))) = bad m n p k := by
            unfold bad
            congr 1
            exact decide_eq_decide.mpr ⟨fun h => tx_inj (V.str.inj h), fun h => congrArg (fun l => V.str (tx l)) h⟩
          rw [eb]
          cases hb : bad m n p k with
          | false => exact iteF ⟨rfl, rfl, rfl⟩
          | true =>
            refine iteT ⟨_, rfl, _, rfl, _, _, rfl, rfl, (by rw [tx_len, el]; omega), ?_⟩
            rw [tx_snoc]
            have e := resE_step hT151 hp no (badAt_some k26 hb nb)
            have q := q H5 (s03.trans sm5)
            rw [ep0, e] at q
            exact q
        rintro σ' _ ⟨rfl, nbk, rfl⟩
        have er := cut_rho (by
          unfold bad at nbk
          simpa using nbk : mdL m n p k ++ clN m (pst m n p k).1 = rvL m n p k ++ clN n (pst m n p k).2)
        have er1 : (mdL m n p k).drop (rvL m n p k).length = (rho m n (pst m n p k)).1 := congrArg Prod.fst er
        have er2 : (rvL m n p k).drop (mdL m n p k).length = (rho m n (pst m n p k)).2 := congrArg Prod.snd er
        have hw5 := s5 _ _ hw2
        have hq5 := s5 _ _ hq2
        have hQ5 := hQ2.keep s5
        have hte5 : IsP H5 te p := s5 _ _ hte2
        have nbk1 : ∀ j, j < k + 1 → bad m n p j = false := fun j hj => by
          by_cases z : j = k
          · rw [z]
            exact nbk
          · exact nb j (by omega)
        have gl : (grow (pst m n) p wd (bfs (pst m n) (m.s, n.s) t) k).length ≤ 144 := by
          have h1 : (grow (pst m n) p wd (bfs (pst m n) (m.s, n.s) t) k) <+: (bfs (pst m n) (m.s, n.s) (t + 1)) := by
            rw [bfs_succ hp]
            exact grow_le p wd _ (by omega : k ≤ 26)
          have h2 := h1.length_le
          have := bd (t + 1)
          omega
        refine ⟨_, rfl, _, rfl, (by show 2 ≤ sizeLine; omega), fun tt ntt => ?_⟩
        have s6 := same_new (o := .tup [.int (nx m p.1 (97 + k) : Nat), .int (nx n p.2 (97 + k) : Nat)]) ntt
        have htt : IsP (upd H5 tt (.tup [.int (nx m p.1 (97 + k) : Nat), .int (nx n p.2 (97 + k) : Nat)])) tt (pst m n p k) := upd_same
        have sm6 := sm5.trans s6
        have hw6 := s6 _ _ hw5
        have hq6 := s6 _ _ hq5
        have hQ6 := hQ5.keep s6
        have hte6 : IsP _ te p := s6 _ _ hte5
        generalize upd H5 tt (.tup [.int (nx m p.1 (97 + k) : Nat), .int (nx n p.2 (97 + k) : Nat)]) = H6' at *
        refine ⟨_, rfl, w0, _, rfl, DGet.t hw6 (k := kp (pst m n p k)) htt, ?_⟩
        by_cases cm : pst m n p k ∈ (grow (pst m n) p wd (bfs (pst m n) (m.s, n.s) t) k).map Prod.fst
        · obtain ⟨vv, ev⟩ := val_some cm
          rw [ev]
          have eg : grow (pst m n) p wd (bfs (pst m n) (m.s, n.s) t) (k + 1) = grow (pst m n) p wd (bfs (pst m n) (m.s, n.s) t) k := by
            show add1 (pst m n) p wd (grow (pst m n) p wd (bfs (pst m n) (m.s, n.s) t) k) k = _
            unfold add1
            rw [if_pos cm]
          refine ⟨_, rfl, iteF ⟨qs2, _, _, _, _, _, _, _, rfl, sm6, ?_, hq6, ?_, hte6, nbk1⟩⟩
          · rw [eg]
            exact hw6
          · rw [eg]
            exact hQ6
        · rw [val_none cm]
          have eg : grow (pst m n) p wd (bfs (pst m n) (m.s, n.s) t) (k + 1) = grow (pst m n) p wd (bfs (pst m n) (m.s, n.s) t) k ++ [(pst m n p k, wd ++ [97 + k])] := by
            show add1 (pst m n) p wd (grow (pst m n) p wd (bfs (pst m n) (m.s, n.s) t) k) k = _
            unfold add1
            rw [if_neg cm]
          refine ⟨_, rfl, iteT ?_⟩
          refine ⟨fun σ' H' => σ' = [some (.ref x), some (.ref y), some (.ref ca), some (.ref cb), some (.ref te), some (.ref w0), some (.ref qa), some (.int ((t : Nat) : Int)), some (.str (tx wd)), some (.str (tx (rho m n p).1)), some (.str (tx (rho m n p).2)), some (.str ⟨#[97 + k]⟩), some (.int (nx m p.1 (97 + k) : Nat)), some (.ref la), some (.int (nx n p.2 (97 + k) : Nat)), some (.ref lb), some (.str (tx (mdL m n p k))), some (.str (tx (rvL m n p k)))] ∧ Same H3 H' ∧ H' w0 = some (.dT (dictB (grow (pst m n) p wd (bfs (pst m n) (m.s, n.s) t) (k + 1)))) ∧ H' qa = some (.lst qs2) ∧ Qes m n H' qs2 (grow (pst m n) p wd (bfs (pst m n) (m.s, n.s) t) k) ∧ IsP H' te p, ?_, ?_⟩
          · refine ⟨_, rfl, _, rfl, _, rfl, (by show 2 ≤ sizeLine; omega), fun t7 nt7 => ?_⟩
            have s7 := same_new (o := .tup [.int (nx m p.1 (97 + k) : Nat), .int (nx n p.2 (97 + k) : Nat)]) nt7
            have ht7 : IsP (upd H6' t7 (.tup [.int (nx m p.1 (97 + k) : Nat), .int (nx n p.2 (97 + k) : Nat)])) t7 (pst m n p k) := upd_same
            have sm7 := sm6.trans s7
            have hw7 := s7 _ _ hw6
            have hq7 := s7 _ _ hq6
            have hQ7 := hQ6.keep s7
            have hte7 : IsP _ te p := s7 _ _ hte6
            generalize upd H6' t7 (.tup [.int (nx m p.1 (97 + k) : Nat), .int (nx n p.2 (97 + k) : Nat)]) = H7 at *
            refine ⟨w0, _, rfl, DPut.t hw7 (k := kp (pst m n p k)) ht7 (by unfold dictB; rw [List.length_map]; omega), ?_⟩
            rw [putK_new _ (val_none cm)]
            refine ⟨rfl, fun b o e => ?_, ?_, ?_, Qes.upd hw7 (fun l z => by cases z) hQ7, IsP.upd hw7 (fun l z => by cases z) hte7⟩
            · rw [upd_ne (ne_of_none e nw)]
              exact sm7 _ _ e
            · rw [upd_same, eg]
              unfold dictB
              rw [List.map_append]
              rfl
            · rw [upd_ne (Ne.symm wq)]
              exact hq7
          rintro σ' H7 ⟨rfl, sm7, hw7, hq7, hQ7, hte7⟩
          have lq2 := hQ7.len
          refine ⟨_, rfl, .inl ⟨rfl, _, SqL.of hq7⟩, _, rfl, _, rfl, _, _, rfl, rfl, (by rw [tx_len, el]; omega), _, rfl, _, rfl, (by show 2 ≤ sizeLine; omega), fun t8 nt8 => ?_⟩
          have s8 := same_new (o := .tup [.int (nx m p.1 (97 + k) : Nat), .int (nx n p.2 (97 + k) : Nat)]) nt8
          have ht8 : IsP (upd H7 t8 (.tup [.int (nx m p.1 (97 + k) : Nat), .int (nx n p.2 (97 + k) : Nat)])) t8 (pst m n p k) := upd_same
          refine ⟨_, rfl, _, rfl, _, rfl, (by rw [tx_len]; omega), _, rfl, _, rfl, (by rw [tx_len]; omega), _, rfl, _, rfl, _, rfl, (by rw [tx_len]; omega), _, rfl, _, rfl, (by rw [tx_len]; omega), (by show 4 ≤ sizeLine; omega), fun e9 ne9 => ?_⟩
          rw [tx_snoc, tx_len, tx_len, tx_cut, tx_cut, er1, er2] at *
          have s9 := same_new (o := .tup [.str (tx (wd ++ [97 + k])), .ref t8, .str (tx (rho m n (pst m n p k)).1), .str (tx (rho m n (pst m n p k)).2)]) ne9
          have s89 := s8.trans s9
          have hq9 := s89 _ _ hq7
          have hQe : Qe m n _ (.ref e9) (pst m n p k, wd ++ [97 + k]) := ⟨e9, t8, rfl, upd_same, s9 _ _ ht8⟩
          have hQ9 := Qes.snoc hQe (hQ7.keep s89)
          refine ⟨qa, qs2, .ref e9, rfl, rfl, hq9, small1000 (by omega), ?_⟩
          refine ⟨qs2 ++ [.ref e9], _, _, _, _, _, _, _, rfl, fun b o e => ?_, ?_, upd_same, ?_, IsP.upd hq9 (fun l z => by cases z) (s89 _ _ hte7), nbk1⟩
          · rw [upd_ne (ne_of_none e nqH)]
            exact s89 _ _ (sm7 _ _ e)
          · rw [upd_ne wq]
            exact s89 _ _ hw7
          · rw [eg]
            exact Qes.upd hq9 (fun l z => by cases z) hQ9
      · rintro σ H2 ⟨qs2, x11, x12, x13, x14, x15, x16, x17, rfl, sm2, hw2, hq2, hQ2, hte2, nb⟩
        rw [abc_len, ← bfs_succ hp] at hw2 hQ2
        rw [abc_len] at nb
        have l1 := (bfs_pre1 (f := pst m n) (m.s, n.s) t).length_le
        have bt1 := bd (t + 1)
        refine ⟨_, rfl, _, _, rfl, rfl, ?_⟩
        refine ⟨t + 1, qs2, _, _, _, _, _, _, _, _, _, _, _, by omega, rfl, sm2, hw2, hq2, hQ2, by omega, fun j z hj hz => ?_⟩
        by_cases e : j = t
        · subst e
          rw [hp] at hz
          cases hz
          exact badAt_none.mpr nb
        · exact no j z (by omega) hz
    · rw [decide_eq_false (show ¬ ((t : Nat) : Int) < ((bfs (pst m n) (m.s, n.s) t).length : Int) by omega)]
      refine iteF ?_
      have e := resE_none hT151 (by omega : (bfs (pst m n) (m.s, n.s) t).length ≤ t) no
      have q := q H1 (s03.trans sm)
      rw [ep0, e] at q
      exact q
end
end KK
set_option Elab.async false
set_option linter.all false
set_option maxRecDepth 100000
set_option maxHeartbeats 1000000
namespace KK
open PySem PySem.Spec PyProof.Rows L2 XV NM XT XA XD LamX NB
/-! ### the law's own way: one entry, the rests, whether they are alike -/
abbrev sEn : Stmt := top 42
abbrev nEn : List Str := ["_law_drawn", "_law_state", "_law_letter", "_law_at", "_law_word_here", "_law_itself"]
theorem scEn : FnScope nEn ["_law_drawn", "_law_state", "_law_letter"] (defScope sEn) := ⟨rfl, rfl, rfl, by decide +kernel, rfl, by decide +kernel, by decide +kernel⟩
abbrev sRs : Stmt := top 43
theorem scRs : FnScope ["_law_one", "_law_other"] ["_law_one", "_law_other"] (defScope sRs) := ⟨rfl, rfl, rfl, by decide +kernel, rfl, by decide +kernel, by decide +kernel⟩
abbrev sAl : Stmt := top 44
abbrev nAl : List Str := ["_law_one", "_law_other", "_law_pair", "_law_rests_here"]
theorem scAl : FnScope nAl nAl (defScope sAl) := ⟨rfl, rfl, rfl, by decide +kernel, rfl, by decide +kernel, by decide +kernel⟩
/-- what a maker is made of, in a list -/
def Dw (H : Hp) (a : Addr) (m : Mm) : Prop := ∃ ra ca, H a = some (.lst [.str m.z, .ref ra, .int (m.s : Int), .ref ca]) ∧ Da H (.ref ra) (rsD m.R) ∧ H ca = some (.lst (m.cl.map V.str))
theorem Dw.keep {H H' : Hp} (s : Same H H') {a : Addr} {m : Mm} (h : Dw H a m) : Dw H' a m := by
  obtain ⟨ra, ca, h1, h2, h3⟩ := h
  exact ⟨ra, ca, s _ _ h1, h2.keep s, s _ _ h3⟩
def spEn : Sp := fun vs H Q _ => ∃ (a : Addr) (m : Mm) (s c : Nat), vs = [.ref a, .int s, .str ⟨#[c]⟩] ∧ Dw H a m ∧ MmOk m ∧ s < m.R.length ∧ ∀ (H' : Hp) (p : Addr), Same H H' → H p = none → H' p = some (.lst [.int (nx m s c : Nat), .str (tx (ot m s c))]) → Q (.ref p) H'
def spRs : Sp := fun vs H Q _ => ∃ a b : List Nat, vs = [.str (tx a), .str (tx b)] ∧ a.length ≤ 100000 ∧ b.length ≤ 100000 ∧ ∀ (H' : Hp) (v : V), Same H H' → ((∃ p, v = .ref p ∧ H p = none ∧ H' p = some (.lst [.str (tx (a.drop b.length)), .str (tx (b.drop a.length))])) ∧ (a <+: b ∨ b <+: a)) ∨ (v = .non ∧ ¬ (a <+: b) ∧ ¬ (b <+: a)) → Q v H'
def spAl : Sp := fun vs H Q _ => ∃ (a b pr : Addr) (v : V) (m n : Mm) (p : Pr2), vs = [.ref a, .ref b, .ref pr, v] ∧ Dw H a m ∧ Dw H b n ∧ MmOk m ∧ MmOk n ∧ H pr = some (.lst [.int (p.1 : Nat), .int (p.2 : Nat)]) ∧ p.1 < m.R.length ∧ p.2 < n.R.length ∧
  ((∃ r r1 r2, v = .ref r ∧ H r = some (.lst [.str (tx r1), .str (tx r2)]) ∧ r1.length ≤ 100000 ∧ r2.length ≤ 100000 ∧ Q (.bl (decide (r1 ++ clN m p.1 = r2 ++ clN n p.2))) H) ∨ (v = .non ∧ Q (.bl false) H))
theorem ot_tx {m : Mm} {s c : Nat} : tx (ot m s c) = (enAt m.R s ((cz m.z).idxOf c)).w ++ (if (enAt m.R s ((cz m.z).idxOf c)).b then (⟨#[c]⟩ : Str) else ("" : Str)) := by
  have e : ot m s c = ((enAt m.R s ((cz m.z).idxOf c)).w :: if (enAt m.R s ((cz m.z).idxOf c)).b then [(⟨#[c]⟩ : Str)] else []).flatMap cz := rfl
  rw [e, ← tx_cz ((enAt m.R s ((cz m.z).idxOf c)).w ++ _)]
  congr 1
  rw [show cz ((enAt m.R s ((cz m.z).idxOf c)).w ++ (if (enAt m.R s ((cz m.z).idxOf c)).b then (⟨#[c]⟩ : Str) else ("" : Str))) = cz (enAt m.R s ((cz m.z).idxOf c)).w ++ cz (if (enAt m.R s ((cz m.z).idxOf c)).b then (⟨#[c]⟩ : Str) else ("" : Str)) from NP.cs_app _ _]
  cases (enAt m.R s ((cz m.z).idxOf c)).b with
  | false =>
    show cz _ ++ [] = _
    rw [if_neg (by decide : ¬ false = true), show cz ("" : Str) = [] by decide +kernel]
  | true => rfl
theorem tx_cut2 (a : List Nat) (n : Nat) : cutS (tx a) none (some (n : Int)) = tx (a.take n) := by
  have e : cutS (tx a) none (some (n : Int)) = ⟨((a.drop (HT.sIx a.length 0 none)).take (HT.sIx a.length a.length (some (n : Int)) - HT.sIx a.length 0 none)).toArray⟩ := by
    unfold cutS
    rw [tx_len, show (tx a).cps.toList = a from cz_tx a]
  rw [e, HT.sIx_none, show HT.sIx a.length a.length (some (n : Int)) = min n a.length from HT.sIx_nat _ _ n, List.drop_zero, Nat.sub_zero]
  unfold tx
  congr 2
  rcases Nat.le_total n a.length with h | h
  · rw [Nat.min_eq_left h]
  · rw [Nat.min_eq_right h, List.take_of_length_le (Nat.le_refl _), List.take_of_length_le h]
theorem pre_iff {a b : List Nat} : a.take b.length = b ↔ b <+: a := by
  constructor
  · intro h
    rw [← h]
    exact List.take_prefix _ _
  · exact fun h => (List.prefix_iff_eq_take.mp h).symm
section
variable {P : Program} {w : World} {K : PySem.W.Frag} {mg : Str → Option Value} {base : Heap} {f : Addr} {fd : FuncData}
theorem ok_entry (F : FnP K "_law_entry" sEn f fd) (z_len : mg "len" = none) : FnOk P w K mg base CX0 1 f fd ["_law_drawn", "_law_state", "_law_letter"] spEn := by
  have nd := scEn.nd
  refine F.ok scEn (fun vs H Q E h => ?_) (fun cdv A outer s H vs Q E hr h => ?_)
  · obtain ⟨a, m, s, c, rfl, _⟩ := h
    rfl
  · obtain ⟨a, m, s, c, rfl, ⟨ra, ca, ha, hR, hC⟩, ok, hs, q⟩ := h
    have szl := sizeLine_eq
    refine ⟨_, PSs.nox (pss_cons (ps_set (i := 3) nd rfl (Or.inl rfl) (pe_bm PySem.F.plainAttrs_str PySem.F.slot_str_find PySem.F.type_str_find mt_find (pe_ix ix_list (pv 0) pe_int (fun _ _ => rfl)) (pa_cons (pv 2) pa_nil)))
      (C8.pss_cut (ps_asg (pe_ix ix_list (pe_ix ix_list (pe_ix ix_list (pv 0) pe_int (fun _ _ => rfl)) (pv 1) (fun _ _ => rfl)) (pe_ifExp (pt_cmpR op_ge (pv 3) pe_int (nomark _)) (pv 3) (pe_callB call_len_str (by rfl) z_len boot_len (pa_cons (pe_ix ix_list (pv 0) pe_int (fun _ _ => rfl)) pa_nil))) (fun _ _ => rfl)) (pg_tup rfl (pgs_cons (pg_name (i := 1) nd rfl (Or.inl rfl)) (pgs_cons (pg_name (i := 4) nd rfl (Or.inl rfl)) (pgs_cons (pg_name (i := 5) nd rfl (Or.inl rfl)) pgs_nil)))))
      (pss_one (ps_ret (pe_lst (pa_cons (pv 1) (pa_cons (pe_op op_add_str (pv 4) (pe_ifExp (pt_val (pv 5)) (pv 2) pe_str)) pa_nil))))))), ?_⟩
    have lz := ok.lz
    have lz2 := cz_len m.z
    have fo := NP.find_one m.z c
    obtain ⟨row, er, ee, es, ew2⟩ := en_get ok hs c
    obtain ⟨p', xs, ep, hxs, hP, lx⟩ := da_rs hR
    cases ep
    have ex : xs[s]? = some (xs[s]'(by omega)) := List.getElem?_eq_getElem (by omega)
    obtain ⟨b, row', ys, eb, er', hb, hy⟩ := rs_at hP ex
    rw [er] at er'
    cases er'
    rw [eb] at ex
    obtain ⟨t, ey, ht⟩ := en_at hy ee
    refine ⟨_, rfl, a, _, _, _, rfl, rfl, SqL.of ha, rfl, rfl, _, rfl, m.z, ⟨#[c]⟩, rfl, rfl, ?_⟩
    rw [fo]
    refine ⟨fun σ' H' => ∃ x3, σ' = [some (.ref a), some (.int (nx m s c : Nat)), some (.str ⟨#[c]⟩), x3, some (.str (enAt m.R s ((cz m.z).idxOf c)).w), some (.bl (enAt m.R s ((cz m.z).idxOf c)).b)] ∧ H = H', ?_, ?_⟩
    · by_cases h : (cz m.z).idxOf c < (cz m.z).length
      · rw [if_pos h]
        refine ⟨_, rfl, a, _, _, _, rfl, rfl, SqL.of ha, rfl, _, rfl, ra, xs, _, _, rfl, rfl, SqL.of hxs, atI_nat ex, _, rfl, _, _, rfl, rfl, _, rfl, ite2 (fun _ => ?_) (fun n => absurd (decide_eq_true (Int.natCast_nonneg _)) n)⟩
        exact ⟨_, rfl, b, ys, _, _, rfl, rfl, SqL.of hb, atI_nat ey, t, _, rfl, SqT.of ht, rfl, _, _, rfl, _, _, rfl, _, _, rfl, rfl, _, rfl, rfl⟩
      · rw [if_neg h]
        have e2 : (cz m.z).idxOf c = (cz m.z).length := by
          have := List.idxOf_le_length (a := c) (l := cz m.z)
          omega
        refine ⟨_, rfl, a, _, _, _, rfl, rfl, SqL.of ha, rfl, _, rfl, ra, xs, _, _, rfl, rfl, SqL.of hxs, atI_nat ex, _, rfl, _, _, rfl, rfl, _, rfl, ite2 (fun n => absurd n (by decide)) (fun _ => ?_)⟩
        refine ⟨_, rfl, a, _, _, _, rfl, rfl, SqL.of ha, rfl, m.z, rfl, by omega, ?_⟩
        have ey2 : ys[m.z.length]? = some (.ref t) := by rw [lz2, ← e2]; exact ey
        exact ⟨b, ys, _, _, rfl, rfl, SqL.of hb, atI_nat ey2, t, _, rfl, SqT.of ht, rfl, _, _, rfl, _, _, rfl, _, _, rfl, rfl, _, rfl, rfl⟩
    rintro σ' _ ⟨x3, rfl, rfl⟩
    have lw := short_len ew2
    have el : (⟨#[c]⟩ : Str).length = 1 := rfl
    have e0 : ("" : Str).length = 0 := by decide +kernel
    refine ⟨_, rfl, _, rfl, _, rfl, (enAt m.R s ((cz m.z).idxOf c)).b, rfl, ?_⟩
    have et := ot_tx (m := m) (s := s) (c := c)
    cases hb2 : (enAt m.R s ((cz m.z).idxOf c)).b with
    | true =>
      rw [hb2, if_pos rfl] at et
      refine iteT ⟨_, rfl, _, _, rfl, rfl, (by rw [el]; omega), (by show 2 ≤ sizeLine; omega), fun p np => q _ p (same_new np) np ?_⟩
      rw [upd_same, et]
    | false =>
      rw [hb2, if_neg (by decide)] at et
      refine iteF ⟨_, _, rfl, rfl, (by rw [e0]; omega), (by show 2 ≤ sizeLine; omega), fun p np => q _ p (same_new np) np ?_⟩
      rw [upd_same, et]
theorem ok_rests (F : FnP K "_law_rests" sRs f fd) (z_len : mg "len" = none) : FnOk P w K mg base CX0 1 f fd ["_law_one", "_law_other"] spRs := by
  have nd := scRs.nd
  refine F.ok scRs (fun vs H Q E h => ?_) (fun cdv A outer s H vs Q E hr h => ?_)
  · obtain ⟨a, b, rfl, _⟩ := h
    rfl
  · obtain ⟨a, b, rfl, la, lb, q⟩ := h
    have szl := sizeLine_eq
    refine ⟨_, PSs.nox (pss_cons (ps_if (pt_cmpR op_eq (pe_slice sl_str (pv 0) po_none (po_some (pe_callB call_len_str (by rfl) z_len boot_len (pa_cons (pv 1) pa_nil)))) (pv 1) (nomark _)) (pss_one (ps_ret (pe_lst (pa_cons (pe_slice sl_str (pv 0) (po_some (pe_callB call_len_str (by rfl) z_len boot_len (pa_cons (pv 1) pa_nil))) po_none) (pa_cons pe_str pa_nil))))) pss_nil)
      (pss_cons (ps_if (pt_cmpR op_eq (pe_slice sl_str (pv 1) po_none (po_some (pe_callB call_len_str (by rfl) z_len boot_len (pa_cons (pv 0) pa_nil)))) (pv 0) (nomark _)) (pss_one (ps_ret (pe_lst (pa_cons pe_str (pa_cons (pe_slice sl_str (pv 1) (po_some (pe_callB call_len_str (by rfl) z_len boot_len (pa_cons (pv 0) pa_nil))) po_none) pa_nil))))) pss_nil)
      (pss_one (ps_ret pe_non)))), ?_⟩
    have ca : (tx a).length ≤ sizeLine := by rw [tx_len]; omega
    have cb : (tx b).length ≤ sizeLine := by rw [tx_len]; omega
    have etx : tx [] = ("" : Str) := by decide +kernel
    refine ⟨_, rfl, _, rfl, _, rfl, cb, _, rfl, _, rfl, ca, _, rfl, rfl, _, rfl, ?_⟩
    rw [tx_len, tx_cut2]
    by_cases h : b <+: a
    · rw [pre_iff.mpr h, decide_eq_true rfl]
      refine iteT ⟨_, rfl, _, rfl, _, rfl, cb, _, rfl, _, rfl, ca, (by show 2 ≤ sizeLine; omega), fun p np => q _ _ (same_new np) (.inl ⟨⟨p, rfl, np, ?_⟩, .inr h⟩)⟩
      rw [upd_same, tx_len, tx_cut, List.drop_of_length_le (l := b) h.length_le, etx]
    · rw [decide_eq_false (fun z => h (pre_iff.mp (tx_inj (V.str.inj z))))]
      refine iteF ⟨_, rfl, _, rfl, _, rfl, ca, _, rfl, _, rfl, cb, _, rfl, rfl, _, rfl, ?_⟩
      rw [tx_len, tx_cut2]
      by_cases h2 : a <+: b
      · rw [pre_iff.mpr h2, decide_eq_true rfl]
        refine iteT ⟨_, rfl, _, rfl, _, rfl, ca, _, rfl, _, rfl, cb, (by show 2 ≤ sizeLine; omega), fun p np => q _ _ (same_new np) (.inl ⟨⟨p, rfl, np, ?_⟩, .inl h2⟩)⟩
        rw [upd_same, tx_len, tx_cut, List.drop_of_length_le (l := a) h2.length_le, etx]
      · rw [decide_eq_false (fun z => h2 (pre_iff.mp (tx_inj (V.str.inj z))))]
        exact iteF (q H _ (Same.refl _) (.inr ⟨rfl, h2, h⟩))
theorem ok_alike (F : FnP K "_law_alike" sAl f fd) : FnOk P w K mg base CX0 1 f fd nAl spAl := by
  have nd := scAl.nd
  refine F.ok scAl (fun vs H Q E h => ?_) (fun cdv A outer s H vs Q E hr h => ?_)
  · obtain ⟨a, b, pr, v, m, n, p, rfl, _⟩ := h
    rfl
  · obtain ⟨a, b, pr, v, m, n, p, rfl, ⟨ra, ca, ha, _, hC⟩, ⟨rb, cb, hb, _, hD⟩, om, on, hp, p1, p2, h⟩ := h
    have szl := sizeLine_eq
    refine ⟨_, PSs.nox (pss_one (ps_ret (pe_and (pe_cmp (pc_notN (pv 3))) (pe_one (pe_cmpR op_eq (pe_op op_add_str (pe_ix ix_list (pv 3) pe_int (fun _ _ => rfl)) (pe_ix ix_list (pe_ix ix_list (pv 0) pe_int (fun _ _ => rfl)) (pe_ix ix_list (pv 2) pe_int (fun _ _ => rfl)) (fun _ _ => rfl)))
      (pe_op op_add_str (pe_ix ix_list (pv 3) pe_int (fun _ _ => rfl)) (pe_ix ix_list (pe_ix ix_list (pv 1) pe_int (fun _ _ => rfl)) (pe_ix ix_list (pv 2) pe_int (fun _ _ => rfl)) (fun _ _ => rfl))) (nomark _)))))), ?_⟩
    obtain ⟨c1, c2⟩ := cl_at om p1
    obtain ⟨d1, d2⟩ := cl_at on p2
    rcases h with ⟨r, r1, r2, rfl, hr2, l1, l2, q⟩ | ⟨rfl, q⟩
    · refine ⟨_, rfl, true, rfl, iteT ?_⟩
      refine ⟨_, rfl, r, _, _, _, rfl, rfl, SqL.of hr2, rfl, _, rfl, a, _, _, _, rfl, rfl, SqL.of ha, rfl, _, rfl, pr, _, _, _, rfl, rfl, SqL.of hp, rfl, ca, _, _, _, rfl, rfl, SqL.of hC, atI_nat c1, _, _, rfl, rfl, (by rw [tx_len, tx_len]; omega), ?_⟩
      refine ⟨_, rfl, r, _, _, _, rfl, rfl, SqL.of hr2, rfl, _, rfl, b, _, _, _, rfl, rfl, SqL.of hb, rfl, _, rfl, pr, _, _, _, rfl, rfl, SqL.of hp, rfl, cb, _, _, _, rfl, rfl, SqL.of hD, atI_nat d1, _, _, rfl, rfl, (by rw [tx_len, tx_len]; omega), rfl, ?_⟩
      rw [tx_app, tx_app]
      have e : decide (V.str (tx (r1 ++ clN m p.1)) = V.str (tx (r2 ++ clN n p.2))) = decide (r1 ++ clN m p.1 = r2 ++ clN n p.2) := decide_eq_decide.mpr ⟨fun h => tx_inj (V.str.inj h), fun h => congrArg (fun l => V.str (tx l)) h⟩
      rw [e]
      exact q
    · exact ⟨_, rfl, false, rfl, iteF q⟩
end
end KK
set_option Elab.async false
set_option linter.all false
set_option maxRecDepth 100000
set_option maxHeartbeats 4000000
namespace KK
open PySem PySem.Spec PyProof.Rows L2 XV NM XT XA XD LamX NB
/-! ### the law's search -/
def R3 (a b c : Addr) (H : Hp) : Hp := fun x => if x = a ∨ x = b ∨ x = c then none else H x
theorem r3_s {a b c : Addr} {H : Hp} : Same (R3 a b c H) H := fun x o e => by
  unfold R3 at e
  split at e
  · cases e
  · exact e
theorem r3_same {a b c : Addr} {H H' : Hp} (s : Same H H') : Same (R3 a b c H) (R3 a b c H') := fun x o e => by
  unfold R3 at e ⊢
  split at e
  · cases e
  · rename_i n
    rw [if_neg n]
    exact s _ _ e
theorem r3_upd {a b c y : Addr} {H : Hp} {v : HO} (h : y = a ∨ y = b ∨ y = c) : Same (R3 a b c H) (R3 a b c (upd H y v)) := fun x o e => by
  unfold R3 at e ⊢
  split at e
  · cases e
  · rename_i n
    rw [if_neg n, upd_ne (fun z => n (by rw [z]; exact h))]
    exact e
theorem r3_at {a b c y : Addr} {H : Hp} {o : HO} (h1 : y ≠ a) (h2 : y ≠ b) (h3 : y ≠ c) (e : H y = some o) : R3 a b c H y = some o := by
  unfold R3
  rw [if_neg (fun z => z.elim h1 fun z => z.elim h2 h3)]
  exact e
def pI (p : Pr2) : List Int := [(p.1 : Int), (p.2 : Int)]
theorem pI_inj {p q : Pr2} (h : pI p = pI q) : p = q := by
  unfold pI at h
  simp only [List.cons.injEq, Int.natCast_inj, and_true] at h
  exact Prod.ext h.1 h.2
theorem pI_mem {p : Pr2} {L : List (Pr2 × List Nat)} : pI p ∈ L.map (fun x => pI x.1) ↔ p ∈ L.map Prod.fst := by
  constructor
  · intro h
    obtain ⟨x, hx, e⟩ := List.mem_map.mp h
    exact List.mem_map.mpr ⟨x, hx, pI_inj e⟩
  · intro h
    obtain ⟨x, hx, e⟩ := List.mem_map.mp h
    exact List.mem_map.mpr ⟨x, hx, by rw [e]⟩
def Bts (m n : Mm) (G : Hp) (ys : List V) (L : List (Pr2 × List Nat)) : Prop := ys.length = L.length ∧ ∀ (i : Nat) x, L[i]? = some x → ∃ a, ys[i]? = some (.ref a) ∧ G a = some (.lst [.str (tx (rho m n x.1).1), .str (tx (rho m n x.1).2)])
theorem Bts.keep {m n : Mm} {G G' : Hp} (s : Same G G') {ys : List V} {L : List (Pr2 × List Nat)} (h : Bts m n G ys L) : Bts m n G' ys L := by
  refine ⟨h.1, fun i x e => ?_⟩
  obtain ⟨a, e1, e2⟩ := h.2 i x e
  exact ⟨a, e1, s _ _ e2⟩
theorem Bts.snoc {m n : Mm} {G : Hp} {ys : List V} {L : List (Pr2 × List Nat)} {x : Pr2 × List Nat} {a : Addr} (h : Bts m n G ys L) (ha : G a = some (.lst [.str (tx (rho m n x.1).1), .str (tx (rho m n x.1).2)])) : Bts m n G (ys ++ [.ref a]) (L ++ [x]) := by
  refine ⟨by rw [List.length_append, List.length_append, h.1]; rfl, fun i y e => ?_⟩
  by_cases c : i < L.length
  · rw [List.getElem?_append_left c] at e
    obtain ⟨b, e1, e2⟩ := h.2 i y e
    exact ⟨b, by rw [List.getElem?_append_left (by rw [h.1]; exact c)]; exact e1, e2⟩
  · rw [List.getElem?_append_right (by omega)] at e
    have := (List.getElem?_eq_some_iff.mp e).1
    have z : i - L.length = 0 := by simpa using this
    rw [z] at e
    cases e
    refine ⟨a, ?_, ha⟩
    rw [List.getElem?_append_right (by rw [h.1]; omega), h.1, z]
    rfl
def FI (m n : Mm) (ra rb rw : Addr) (H : Hp) (L : List (Pr2 × List Nat)) : Prop := ∃ xs ys, H ra = some (.lst xs) ∧ H rb = some (.lst ys) ∧ H rw = some (.lst (L.map fun x => V.str (tx x.2))) ∧ Pts (R3 ra rb rw H) xs (L.map fun x => pI x.1) ∧ Bts m n (R3 ra rb rw H) ys L
theorem FI.keep {m n : Mm} {ra rb rw : Addr} {H H' : Hp} {L : List (Pr2 × List Nat)} (h : FI m n ra rb rw H L) (s : Same H H') : FI m n ra rb rw H' L := by
  obtain ⟨xs, ys, h1, h2, h3, h4, h5⟩ := h
  exact ⟨xs, ys, s _ _ h1, s _ _ h2, s _ _ h3, h4.keep (r3_same s), h5.keep (r3_same s)⟩
theorem comp_iff {M W c d : List Nat} (h : M <+: W ∨ W <+: M) : (M.drop W.length ++ c = W.drop M.length ++ d) ↔ (M ++ c = W ++ d) := by
  rcases h with ⟨t, rfl⟩ | ⟨t, rfl⟩
  · rw [List.drop_left, List.drop_of_length_le (by rw [List.length_append]; omega), List.append_assoc]
    exact ⟨fun h => by rw [show c = t ++ d from h], fun h => List.append_cancel_left h⟩
  · rw [List.drop_left, List.drop_of_length_le (by rw [List.length_append]; omega), List.append_assoc]
    exact ⟨fun h => by rw [show t ++ c = d from h], fun h => List.append_cancel_left h⟩
theorem comp_of {M W c d : List Nat} (h : M ++ c = W ++ d) : M <+: W ∨ W <+: M := by
  rcases Nat.le_total M.length W.length with l | l
  · exact .inl (List.prefix_of_prefix_length_le (List.prefix_append M c) (h ▸ List.prefix_append W d) l)
  · exact .inr (List.prefix_of_prefix_length_le (List.prefix_append W d) (h ▸ List.prefix_append M c) l)
abbrev sFi : Stmt := top 45
abbrev nFi : List Str := ["_law_one", "_law_other", "_law_reached", "_law_behind", "_law_words", "_law_at", "_law_letter", "_law_low", "_law_high", "_law_pair", "_law_rests_here"]
theorem scFi : FnScope nFi ["_law_one", "_law_other"] (defScope sFi) := ⟨rfl, rfl, rfl, by decide +kernel, rfl, by decide +kernel, by decide +kernel⟩
def spFi : Sp := fun vs H Q _ => ∃ (a b : Addr) (m n : Mm), vs = [.ref a, .ref b] ∧ Dw H a m ∧ Dw H b n ∧ MmOk m ∧ MmOk n ∧ m.R.length * n.R.length ≤ 39 ∧ ∀ H', Same H H' → Q (optV (prt m n)) H'
section
variable {P : Program} {w : World} {K : PySem.W.Frag} {mg : Str → Option Value} {base : Heap} {f : Addr} {fd : FuncData}
theorem ok_first (F : FnP K "_law_first" sFi f fd) (o_entry : Ok P w K mg base "_law_entry" 1 ["_law_drawn", "_law_state", "_law_letter"] spEn) (o_rests : Ok P w K mg base "_law_rests" 1 ["_law_one", "_law_other"] spRs) (o_alike : Ok P w K mg base "_law_alike" 1 ["_law_one", "_law_other", "_law_pair", "_law_rests_here"] spAl) (z_range : mg "range" = none) (z_len : mg "len" = none) : FnOk P w K mg base CX0 2 f fd ["_law_one", "_law_other"] spFi := by
  have nd := scFi.nd
  refine F.ok scFi (fun vs H Q E h => ?_) (fun cdv A outer s H vs Q E hr h => ?_)
  · obtain ⟨a, b, m, n, rfl, _⟩ := h
    rfl
  · obtain ⟨a, b, m, n, rfl, dm, dn, om, on, l39, q⟩ := h
    have szl := sizeLine_eq
    have r1 : Room 1 (A.deeper (envOfC "_law_first" (defScope sFi) s.heap.objs.size f cdv)) := hr
    have hu65 : (A.deeper (envOfC "_law_first" (defScope sFi) s.heap.objs.size f cdv)).units + 65 < cLine := by have := hr.un; have := hr.units; omega
    refine ⟨_, PSs.nox (pss_cons (ps_par3 (i := 2) (j := 3) (l := 4) rfl nd rfl rfl rfl (by decide) (by decide) (by decide) rfl rfl rfl (pa_cons (pe_lst (pa_cons (pe_lst (pa_cons (pe_ix (ix_listK (K := K) rfl) (pv 0) (pe_int) (fun _ _ => rfl)) (pa_cons (pe_ix (ix_listK (K := K) rfl) (pv 1) (pe_int) (fun _ _ => rfl)) pa_nil))) pa_nil)) (pa_cons (pe_lst (pa_cons (pe_lst (pa_cons (pe_str) (pa_cons (pe_str) pa_nil))) pa_nil)) (pa_cons (pe_lst (pa_cons (pe_str) pa_nil)) pa_nil))) (by rfl))
      (C8.pss_cut (ps_if (pt_not (pt_val (pe_callO o_alike r1 (by rfl) (pa_cons (pv 0) (pa_cons (pv 1) (pa_cons (pe_ix (ix_listK (K := K) rfl) (pv 2) (pe_int) (fun _ _ => rfl)) (pa_cons (pe_ix (ix_listK (K := K) rfl) (pv 3) (pe_int) (fun _ _ => rfl)) pa_nil))))))) (pss_one (ps_ret pe_str)) pss_nil)
      (pss_cons (ps_for PassesOwn.never rfl (pi_range1 (by rfl) z_range (pa_cons pe_int pa_nil)) (pg_name (i := 5) nd rfl (Or.inl rfl))
        (pss_cons (ps_if (pt_cmpR op_ge (pv 5) (pe_callB call_len (by rfl) z_len boot_len (pa_cons (pv 2) pa_nil)) (nomark _)) (pss_one (ps_ret pe_non)) pss_nil)
        (pss_one (ps_for PassesOwn.never rfl (pi_str pe_str) (pg_name (i := 6) nd rfl (Or.inl rfl))
          (C8.pss_cut (ps_par (i := 7) (j := 8) rfl nd rfl rfl (by decide) rfl rfl (pa_cons (pe_callO o_entry r1 (by rfl) (pa_cons (pv 0) (pa_cons (pe_ix (ix_listK (K := K) rfl) (pe_ix (ix_listK (K := K) rfl) (pv 2) (pv 5) (fun _ _ => rfl)) (pe_int) (fun _ _ => rfl)) (pa_cons (pv 6) pa_nil)))) (pa_cons (pe_callO o_entry r1 (by rfl) (pa_cons (pv 1) (pa_cons (pe_ix (ix_listK (K := K) rfl) (pe_ix (ix_listK (K := K) rfl) (pv 2) (pv 5) (fun _ _ => rfl)) (pe_int) (fun _ _ => rfl)) (pa_cons (pv 6) pa_nil)))) pa_nil)) (by rfl))
          (C8.pss_cut (ps_par (i := 9) (j := 10) rfl nd rfl rfl (by decide) rfl rfl (pa_cons (pe_lst (pa_cons (pe_ix (ix_listK (K := K) rfl) (pv 7) (pe_int) (fun _ _ => rfl)) (pa_cons (pe_ix (ix_listK (K := K) rfl) (pv 8) (pe_int) (fun _ _ => rfl)) pa_nil))) (pa_cons (pe_callO o_rests r1 (by rfl) (pa_cons (pe_op op_add_str (pe_ix (ix_listK (K := K) rfl) (pe_ix (ix_listK (K := K) rfl) (pv 3) (pv 5) (fun _ _ => rfl)) (pe_int) (fun _ _ => rfl)) (pe_ix (ix_listK (K := K) rfl) (pv 7) (pe_int) (fun _ _ => rfl))) (pa_cons (pe_op op_add_str (pe_ix (ix_listK (K := K) rfl) (pe_ix (ix_listK (K := K) rfl) (pv 3) (pv 5) (fun _ _ => rfl)) (pe_int) (fun _ _ => rfl)) (pe_ix (ix_listK (K := K) rfl) (pv 8) (pe_int) (fun _ _ => rfl))) pa_nil))) pa_nil)) (by rfl))
          (C8.pss_cut (ps_if (pt_not (pt_val (pe_callO o_alike r1 (by rfl) (pa_cons (pv 0) (pa_cons (pv 1) (pa_cons (pv 9) (pa_cons (pv 10) pa_nil))))))) (pss_one (ps_ret (pe_op op_add_str (pe_ix (ix_listK (K := K) rfl) (pv 4) (pv 5) (fun _ _ => rfl)) (pv 6)))) pss_nil)
          (pss_one (ps_if (pt_cmpR (op_notInD hu65) (pv 9) (pv 2) (by with_unfolding_all rfl))
            (pss_cons (ps_expr (pe_bm PySem.F.plainAttrs_list PySem.F.slot_list_append PySem.F.type_list_append mt_append (pv 2) (pa_cons (pv 9) pa_nil)))
            (pss_cons (ps_expr (pe_bm PySem.F.plainAttrs_list PySem.F.slot_list_append PySem.F.type_list_append mt_append (pv 3) (pa_cons (pv 10) pa_nil)))
            (pss_one (ps_expr (pe_bm PySem.F.plainAttrs_list PySem.F.slot_list_append PySem.F.type_list_append mt_append (pv 4) (pa_cons (pe_op op_add_str (pe_ix (ix_listK (K := K) rfl) (pv 4) (pv 5) (fun _ _ => rfl)) (pv 6)) pa_nil)))))) pss_nil)))))))))
      (pss_one (ps_ret pe_non))))), ?_⟩
    obtain ⟨rm1, cm1, ha, hRm, hCm⟩ := id dm
    obtain ⟨rn1, cn1, hb, hRn, hCn⟩ := id dn
    have e0' : tx [] = ("" : Str) := by decide +kernel
    refine ⟨_, rfl, a, _, _, _, rfl, rfl, SqL.of ha, rfl, _, rfl, b, _, _, _, rfl, rfl, SqL.of hb, rfl, (by show 2 ≤ sizeLine; omega), fun p0 np0 => ⟨(by show 1 ≤ sizeLine; omega), fun ra nra => ⟨(by show 2 ≤ sizeLine; omega), fun q0 nq0 => ⟨(by show 1 ≤ sizeLine; omega), fun rb nrb => ⟨(by show 1 ≤ sizeLine; omega), fun rw nrw => ⟨_, _, _, rfl, ?_⟩⟩⟩⟩⟩⟩
    have s1 := same_new (o := .lst [V.int (m.s : Int), .int (n.s : Int)]) np0
    have s2 := same_new (o := .lst [V.ref p0]) nra
    have s3 := same_new (o := .lst [V.str "", .str ""]) nq0
    have s4 := same_new (o := .lst [V.ref q0]) nrb
    have s5 := same_new (o := .lst [V.str ""]) nrw
    have k1 := s5 _ _ (s4 _ _ (s3 _ _ (s2 _ _ (upd_same (H := H) (a := p0) (o := .lst [V.int (m.s : Int), .int (n.s : Int)])))))
    have k2 := s5 _ _ (s4 _ _ (s3 _ _ (upd_same (H := upd H p0 (.lst [V.int (m.s : Int), .int (n.s : Int)])) (a := ra) (o := .lst [V.ref p0]))))
    have k3 := s5 _ _ (s4 _ _ (upd_same (H := upd (upd H p0 (.lst [V.int (m.s : Int), .int (n.s : Int)])) ra (.lst [V.ref p0])) (a := q0) (o := .lst [V.str "", .str ""])))
    have k4 := s5 _ _ (upd_same (H := upd (upd (upd H p0 (.lst [V.int (m.s : Int), .int (n.s : Int)])) ra (.lst [V.ref p0])) q0 (.lst [V.str "", .str ""])) (a := rb) (o := .lst [V.ref q0]))
    have nraH := was_none s1 nra
    have nrbH := was_none s1 (was_none s2 (was_none s3 nrb))
    have nrwH := was_none s1 (was_none s2 (was_none s3 (was_none s4 nrw)))
    have p0ra : p0 ≠ ra := ne_of_none upd_same nra
    have p0rb : p0 ≠ rb := ne_of_none (s3 _ _ (s2 _ _ (upd_same (H := H) (a := p0) (o := .lst [V.int (m.s : Int), .int (n.s : Int)])))) nrb
    have p0rw : p0 ≠ rw := ne_of_none (s4 _ _ (s3 _ _ (s2 _ _ (upd_same (H := H) (a := p0) (o := .lst [V.int (m.s : Int), .int (n.s : Int)]))))) nrw
    have rab : ra ≠ rb := ne_of_none (s3 _ _ (upd_same (H := upd H p0 (.lst [V.int (m.s : Int), .int (n.s : Int)])) (a := ra) (o := .lst [V.ref p0]))) nrb
    have raw : ra ≠ rw := ne_of_none (s4 _ _ (s3 _ _ (upd_same (H := upd H p0 (.lst [V.int (m.s : Int), .int (n.s : Int)])) (a := ra) (o := .lst [V.ref p0])))) nrw
    have rbw : rb ≠ rw := ne_of_none (upd_same (H := upd (upd (upd H p0 (.lst [V.int (m.s : Int), .int (n.s : Int)])) ra (.lst [V.ref p0])) q0 (.lst [V.str "", .str ""])) (a := rb) (o := .lst [V.ref q0])) nrw
    have q0ra : q0 ≠ ra := Ne.symm (ne_of_none (upd_same (H := upd H p0 (.lst [V.int (m.s : Int), .int (n.s : Int)])) (a := ra) (o := .lst [V.ref p0])) nq0)
    have q0rb : q0 ≠ rb := ne_of_none upd_same nrb
    have q0rw : q0 ≠ rw := ne_of_none (s4 _ _ (upd_same (H := upd (upd H p0 (.lst [V.int (m.s : Int), .int (n.s : Int)])) ra (.lst [V.ref p0])) (a := q0) (o := .lst [V.str "", .str ""]))) nrw
    have s15 := (((s1.trans s2).trans s3).trans s4).trans s5
    have k5 : upd (upd (upd (upd (upd H p0 (.lst [V.int (m.s : Int), .int (n.s : Int)])) ra (.lst [V.ref p0])) q0 (.lst [V.str "", .str ""])) rb (.lst [V.ref q0])) rw (.lst [V.str ""]) rw = some (.lst [V.str ""]) := upd_same
    generalize upd (upd (upd (upd (upd H p0 (.lst [V.int (m.s : Int), .int (n.s : Int)])) ra (.lst [V.ref p0])) q0 (.lst [V.str "", .str ""])) rb (.lst [V.ref q0])) rw (.lst [V.str ""]) = H5 at *
    clear s1 s2 s3 s4 s5 np0 nra nq0 nrb nrw
    obtain ⟨cc1, cc2⟩ := cl_at om om.hs
    refine ⟨fun σ' H' => σ' = [some (.ref a), some (.ref b), some (.ref ra), some (.ref rb), some (.ref rw), none, none, none, none, none, none] ∧ H5 = H' ∧ clN m m.s = clN n n.s, ?_, ?_⟩
    · refine ⟨_, rfl, _, rfl, _, rfl, ra, _, _, _, rfl, rfl, SqL.of k2, rfl, _, rfl, rb, _, _, _, rfl, rfl, SqL.of k4, rfl, a, b, p0, .ref q0, m, n, (m.s, n.s), rfl, dm.keep s15, dn.keep s15, om, on, k1, om.hs, on.hs, .inl ⟨q0, [], [], rfl, (by rw [e0']; exact k3), (by show 0 ≤ 100000; omega), (by show 0 ≤ 100000; omega), ?_⟩⟩
      by_cases c : clN m m.s = clN n n.s
      · rw [decide_eq_true (show ([] : List Nat) ++ clN m m.s = [] ++ clN n n.s from c)]
        exact ⟨true, rfl, iteF ⟨rfl, rfl, c⟩⟩
      · rw [decide_eq_false (fun z : ([] : List Nat) ++ clN m m.s = [] ++ clN n n.s => c (by simpa using z))]
        refine ⟨false, rfl, iteT ?_⟩
        have e : prt m n = some [] := by
          unfold prt
          rw [if_neg c]
        have q := q H5 s15
        rw [e] at q
        show Q (.str "") H5
        rw [← e0']
        exact q
    rintro σ' _ ⟨rfl, rfl, h0⟩
    have e0 : rho m n (m.s, n.s) = ([], []) := by
      unfold rho
      show rhoL (clN m m.s) (clN n n.s) = _
      rw [h0]
      exact (rho_of (a := []) (b := []) rfl (.inl rfl)).symm
    have ep0 : prt m n = resE (bad m n) (bfs (pst m n) (m.s, n.s) 151) := by
      unfold prt
      rw [if_pos h0]
    have hT151 : (bfs (pst m n) (m.s, n.s) 151).length ≤ 151 := Nat.le_trans (bfs_small2 om on 151) (by decide)
    have bd : ∀ t, (bfs (pst m n) (m.s, n.s) t).length ≤ 39 := fun t => Nat.le_trans (bfs_small om on t) l39
    have f0 : FI m n ra rb rw H5 (bfs (pst m n) (m.s, n.s) 0) := by
      refine ⟨[.ref p0], [.ref q0], k2, k4, ?_, ?_, ?_⟩
      · show H5 rw = some (.lst [V.str (tx [])])
        rw [e0']
        exact k5
      · refine .cons ⟨p0, rfl, r3_at p0ra p0rb p0rw k1⟩ .nil
      · refine ⟨rfl, fun i x e => ?_⟩
        cases i with
        | zero =>
          cases e
          refine ⟨q0, rfl, ?_⟩
          show R3 ra rb rw H5 q0 = some (.lst [V.str (tx (rho m n (m.s, n.s)).1), V.str (tx (rho m n (m.s, n.s)).2)])
          rw [e0, e0']
          exact r3_at q0ra q0rb q0rw k3
        | succ i => cases e
    refine ⟨40, rfl, by decide, by decide, for_range (lo := 0) (n := 40) (fun t σ H' => (∃ x5 x6 x7 x8 x9 x10, σ = [some (.ref a), some (.ref b), some (.ref ra), some (.ref rb), some (.ref rw), x5, x6, x7, x8, x9, x10]) ∧ Same H H' ∧ FI m n ra rb rw H' (bfs (pst m n) (m.s, n.s) t) ∧ t ≤ (bfs (pst m n) (m.s, n.s) t).length ∧ (∀ j z, j < t → (bfs (pst m n) (m.s, n.s) j)[j]? = some z → badAt (bad m n) z.1 = none)) ⟨⟨_, _, _, _, _, _, rfl⟩, s15, f0, Nat.zero_le _, fun j z hj => absurd hj (by omega)⟩ ?_ (fun σ' H' z => ?_)⟩
    · rintro t σ H1 ht ⟨⟨x5, x6, x7, x8, x9, x10, rfl⟩, sm, fi, lt, no⟩
      rw [Int.zero_add]
      have bt := bd t
      obtain ⟨xs, ys, hxs, hys, hws, hP, hB⟩ := id fi
      have lx := hP.len
      rw [List.length_map] at lx
      refine ⟨_, rfl, _, rfl, _, (bfs (pst m n) (m.s, n.s) t).length, rfl, .inl ⟨_, SqL.of hxs, lx.symm⟩, _, _, rfl, rfl, _, rfl, ?_⟩
      by_cases c : ¬ t < (bfs (pst m n) (m.s, n.s) t).length
      · rw [decide_eq_true (show ((t : Nat) : Int) ≥ ((bfs (pst m n) (m.s, n.s) t).length : Int) by omega)]
        refine iteT ?_
        have e := resE_none hT151 (by omega : (bfs (pst m n) (m.s, n.s) t).length ≤ t) no
        have q := q H1 sm
        rw [ep0, e] at q
        exact q
      rw [decide_eq_false (show ¬ ((t : Nat) : Int) ≥ ((bfs (pst m n) (m.s, n.s) t).length : Int) by omega)]
      refine iteF ?_
      obtain ⟨⟨p, wd⟩, hp⟩ : ∃ x, (bfs (pst m n) (m.s, n.s) t)[t]? = some x := ⟨_, List.getElem?_eq_getElem (by omega)⟩
      obtain ⟨p1, p2⟩ : p.1 < m.R.length ∧ p.2 < n.R.length := bfs_lt om on t _ (List.mem_of_getElem? hp)
      have lw : wd.length ≤ t := bfs_len (f := pst m n) (m.s, n.s) t t _ hp
      obtain ⟨lr1, lr2⟩ : (rho m n p).1.length ≤ 2000 ∧ (rho m n p).2.length ≤ 2000 := rho_len om on p1 p2
      refine ⟨abc, rfl, for_it walk_str (fun k σ H2 => (∃ x6 x7 x8 x9 x10, σ = [some (.ref a), some (.ref b), some (.ref ra), some (.ref rb), some (.ref rw), some (.int ((t : Nat) : Int)), x6, x7, x8, x9, x10]) ∧ Same H H2 ∧ FI m n ra rb rw H2 (grow (pst m n) p wd (bfs (pst m n) (m.s, n.s) t) k) ∧ ∀ j, j < k → bad m n p j = false)
        ⟨⟨_, _, _, _, _, rfl⟩, sm, fi, fun j hj => absurd hj (by omega)⟩ (fun _ _ _ _ _ => trivial) ?_ ?_⟩
      · rintro k v σ H20 H2 hk ⟨⟨x6, x7, x8, x9, x10, rfl⟩, sm2, fi2, nb⟩ ⟨rfl, cc, ec, rfl⟩
        obtain ⟨k26, rfl⟩ := abc_at ec
        obtain ⟨xs, ys, hxs, hys, hws, hP, hB⟩ := id fi2
        have gp : (grow (pst m n) p wd (bfs (pst m n) (m.s, n.s) t) k)[t]? = some (p, wd) := pre_get (grow_pre p wd _ k) hp
        obtain ⟨pa, exs, hpa⟩ : ∃ pa, xs[t]? = some (.ref pa) ∧ R3 ra rb rw H2 pa = some (.lst ((pI p).map V.int)) := by
          have lx2 := hP.len
          have lt2 := (List.getElem?_eq_some_iff.mp gp).1
          rw [List.length_map] at lx2
          have ex : xs[t]? = some (xs[t]'(by omega)) := List.getElem?_eq_getElem (by omega)
          obtain ⟨pp, ep, pa, e1, e2⟩ := hP.get ex
          rw [List.getElem?_map, gp] at ep
          cases ep
          exact ⟨pa, by rw [ex, e1], e2⟩
        obtain ⟨qb, eys, hqb⟩ := hB.2 t _ gp
        have hpa : H2 pa = some (.lst [V.int (p.1 : Int), .int (p.2 : Int)]) := r3_s _ _ hpa
        have hqb : H2 qb = some (.lst [V.str (tx (rho m n p).1), .str (tx (rho m n p).2)]) := r3_s _ _ hqb
        refine ⟨fun σ' H' => ∃ lo hi, σ' = [some (.ref a), some (.ref b), some (.ref ra), some (.ref rb), some (.ref rw), some (.int ((t : Nat) : Int)), some (.str ⟨#[97 + k]⟩), some (.ref lo), some (.ref hi), x9, x10] ∧ Same H2 H' ∧ H' lo = some (.lst [.int (nx m p.1 (97 + k) : Nat), .str (tx (ot m p.1 (97 + k)))]) ∧ H' hi = some (.lst [.int (nx n p.2 (97 + k) : Nat), .str (tx (ot n p.2 (97 + k)))]), ?_, ?_⟩
        · refine ⟨_, rfl, _, rfl, _, rfl, ra, xs, _, _, rfl, rfl, SqL.of hxs, atI_nat exs, pa, _, _, _, rfl, rfl, SqL.of hpa, rfl, _, rfl, a, m, p.1, 97 + k, rfl, dm.keep sm2, om, p1, fun H4 lo s4 nlo hlo => ?_⟩
          refine ⟨_, rfl, _, rfl, _, rfl, ra, xs, _, _, rfl, rfl, SqL.of (s4 _ _ hxs), atI_nat exs, pa, _, _, _, rfl, rfl, SqL.of (s4 _ _ hpa), rfl, _, rfl, b, n, p.2, 97 + k, rfl, dn.keep (sm2.trans s4), on, p2, fun H5 hi s5 nhi hhi => ⟨_, _, rfl, ?_⟩⟩
          exact ⟨lo, hi, rfl, s4.trans s5, s5 _ _ hlo, hhi⟩
        rintro σ' H5 ⟨lo, hi, rfl, s5, hlo, hhi⟩
        have o1 := ot_len om p1 (97 + k)
        have o2 := ot_len on p2 (97 + k)
        have lm : (mdL m n p k).length ≤ 6000 := by
          show ((rho m n p).1 ++ ot m p.1 (97 + k)).length ≤ 6000
          rw [List.length_append]
          omega
        have lv : (rvL m n p k).length ≤ 6000 := by
          show ((rho m n p).2 ++ ot n p.2 (97 + k)).length ≤ 6000
          rw [List.length_append]
          omega
        have hys5 := s5 _ _ hys
        have hqb5 := s5 _ _ hqb
        refine ⟨fun σ' H' => ∃ pr v, σ' = [some (.ref a), some (.ref b), some (.ref ra), some (.ref rb), some (.ref rw), some (.int ((t : Nat) : Int)), some (.str ⟨#[97 + k]⟩), some (.ref lo), some (.ref hi), some (.ref pr), some v] ∧ Same H5 H' ∧ H5 pr = none ∧ H' pr = some (.lst [.int (nx m p.1 (97 + k) : Nat), .int (nx n p.2 (97 + k) : Nat)]) ∧ (((∃ r, v = .ref r ∧ H5 r = none ∧ H' r = some (.lst [.str (tx ((mdL m n p k).drop (rvL m n p k).length)), .str (tx ((rvL m n p k).drop (mdL m n p k).length))])) ∧ (mdL m n p k <+: rvL m n p k ∨ rvL m n p k <+: mdL m n p k)) ∨ (v = .non ∧ ¬ (mdL m n p k <+: rvL m n p k) ∧ ¬ (rvL m n p k <+: mdL m n p k))), ?_, ?_⟩
        · refine ⟨_, rfl, lo, _, _, _, rfl, rfl, SqL.of hlo, rfl, _, rfl, hi, _, _, _, rfl, rfl, SqL.of hhi, rfl, (by show 2 ≤ sizeLine; omega), fun pr npr => ?_⟩
          have s6 := same_new (o := .lst [V.int (nx m p.1 (97 + k) : Nat), .int (nx n p.2 (97 + k) : Nat)]) npr
          refine ⟨_, rfl, _, rfl, rb, ys, _, _, rfl, rfl, SqL.of (s6 _ _ hys5), atI_nat eys, qb, _, _, _, rfl, rfl, SqL.of (s6 _ _ hqb5), rfl, _, rfl, lo, _, _, _, rfl, rfl, SqL.of (s6 _ _ hlo), rfl, _, _, rfl, rfl, (by rw [tx_len, tx_len]; omega), ?_⟩
          refine ⟨_, rfl, _, rfl, rb, ys, _, _, rfl, rfl, SqL.of (s6 _ _ hys5), atI_nat eys, qb, _, _, _, rfl, rfl, SqL.of (s6 _ _ hqb5), rfl, _, rfl, hi, _, _, _, rfl, rfl, SqL.of (s6 _ _ hhi), rfl, _, _, rfl, rfl, (by rw [tx_len, tx_len]; omega), ?_⟩
          refine ⟨mdL m n p k, rvL m n p k, (by rw [tx_app, tx_app]; rfl), by omega, by omega, fun H7 v s7 hv => ⟨_, _, rfl, ?_⟩⟩
          refine ⟨pr, v, rfl, s6.trans s7, npr, s7 _ _ upd_same, ?_⟩
          rcases hv with ⟨⟨r, e, nr, hr⟩, co⟩ | h
          · exact .inl ⟨⟨r, e, was_none s6 nr, hr⟩, co⟩
          · exact .inr h
        rintro σ' H7 ⟨pr, v, rfl, s7, npr, hpr, hv⟩
        have s27 := s5.trans s7
        have sm7 := sm2.trans s27
        have q1 := nx_lt om p1 (97 + k)
        have q2 := nx_lt on p2 (97 + k)
        have hws7 := s27 _ _ hws
        have ewt : ((grow (pst m n) p wd (bfs (pst m n) (m.s, n.s) t) k).map fun x => V.str (tx x.2))[t]? = some (.str (tx wd)) := by
          rw [List.getElem?_map, gp]
          rfl
        have el : (⟨#[97 + k]⟩ : Str).length = 1 := rfl
        refine ⟨fun σ' H' => ∃ r, σ' = [some (.ref a), some (.ref b), some (.ref ra), some (.ref rb), some (.ref rw), some (.int ((t : Nat) : Int)), some (.str ⟨#[97 + k]⟩), some (.ref lo), some (.ref hi), some (.ref pr), some (.ref r)] ∧ H7 = H' ∧ bad m n p k = false ∧ H5 r = none ∧ H7 r = some (.lst [.str (tx (rho m n (pst m n p k)).1), .str (tx (rho m n (pst m n p k)).2)]), ?_, ?_⟩
        · have eb : (!bad m n p k) = decide (mdL m n p k ++ clN m (pst m n p k).1 = rvL m n p k ++ clN n (pst m n p k).2) := by
            unfold bad
            rw [Bool.not_not]
          have yes : bad m n p k = true → Q (.str (tx (wd ++ [97 + k]))) H7 := fun hb => by
            have e := resE_step hT151 hp no (badAt_some k26 hb nb)
            have q := q H7 sm7
            rw [ep0, e] at q
            exact q
          rcases hv with ⟨⟨r, rfl, nr, hr⟩, co⟩ | ⟨rfl, c1, c2⟩
          · have ed : decide ((mdL m n p k).drop (rvL m n p k).length ++ clN m (pst m n p k).1 = (rvL m n p k).drop (mdL m n p k).length ++ clN n (pst m n p k).2) = !bad m n p k := by
              rw [eb]
              exact decide_eq_decide.mpr (comp_iff co)
            refine ⟨_, rfl, _, rfl, _, rfl, _, rfl, a, b, pr, .ref r, m, n, pst m n p k, rfl, dm.keep sm7, dn.keep sm7, om, on, hpr, q1, q2, .inl ⟨r, _, _, rfl, hr, (by rw [List.length_drop]; omega), (by rw [List.length_drop]; omega), ?_⟩⟩
            rw [ed]
            cases hb : bad m n p k with
            | true =>
              refine ⟨false, rfl, iteT ⟨_, rfl, _, rfl, rw, _, _, _, rfl, rfl, SqL.of hws7, atI_nat ewt, _, rfl, _, _, rfl, rfl, (by rw [tx_len, el]; omega), ?_⟩⟩
              rw [tx_snoc]
              exact yes hb
            | false =>
              refine ⟨true, rfl, iteF ?_⟩
              have nbk : mdL m n p k ++ clN m (pst m n p k).1 = rvL m n p k ++ clN n (pst m n p k).2 := by
                unfold bad at hb
                simpa using hb
              have er := cut_rho nbk
              have er1 : (mdL m n p k).drop (rvL m n p k).length = (rho m n (pst m n p k)).1 := congrArg Prod.fst er
              have er2 : (rvL m n p k).drop (mdL m n p k).length = (rho m n (pst m n p k)).2 := congrArg Prod.snd er
              rw [er1, er2] at hr
              exact ⟨r, rfl, rfl, rfl, nr, hr⟩
          · have hb : bad m n p k = true := by
              have z : decide (mdL m n p k ++ clN m (pst m n p k).1 = rvL m n p k ++ clN n (pst m n p k).2) = false := decide_eq_false (fun z => (comp_of z).elim c1 c2)
              rw [z] at eb
              simpa using eb
            refine ⟨_, rfl, _, rfl, _, rfl, _, rfl, a, b, pr, .non, m, n, pst m n p k, rfl, dm.keep sm7, dn.keep sm7, om, on, hpr, q1, q2, .inr ⟨rfl, ?_⟩⟩
            refine ⟨false, rfl, iteT ⟨_, rfl, _, rfl, rw, _, _, _, rfl, rfl, SqL.of hws7, atI_nat ewt, _, rfl, _, _, rfl, rfl, (by rw [tx_len, el]; omega), ?_⟩⟩
            rw [tx_snoc]
            exact yes hb
        clear hv
        rintro σ' _ ⟨r, rfl, rfl, nbk, nr, hr⟩
        have nbk1 : ∀ j, j < k + 1 → bad m n p j = false := fun j hj => by
          by_cases z : j = k
          · rw [z]
            exact nbk
          · exact nb j (by omega)
        have fi7 := fi2.keep s27
        obtain ⟨xs, ys, hxs, hys, hws, hP, hB⟩ := id fi7
        have lx := hP.len
        have ly := hB.1
        rw [List.length_map] at lx
        have gl : (grow (pst m n) p wd (bfs (pst m n) (m.s, n.s) t) k).length ≤ 39 := by
          have h1 : (grow (pst m n) p wd (bfs (pst m n) (m.s, n.s) t) k) <+: (bfs (pst m n) (m.s, n.s) (t + 1)) := by
            rw [bfs_succ hp]
            exact grow_le p wd _ (by omega : k ≤ 26)
          have h2 := h1.length_le
          have := bd (t + 1)
          omega
        obtain ⟨_, _, hxs2, hys2, hws2, _, _⟩ := id fi2
        have nOf : ∀ {y : Addr}, H5 y = none → y ≠ ra ∧ y ≠ rb ∧ y ≠ rw := fun ny => ⟨Ne.symm (ne_of_none (s5 _ _ hxs2) ny), Ne.symm (ne_of_none (s5 _ _ hys2) ny), Ne.symm (ne_of_none (s5 _ _ hws2) ny)⟩
        obtain ⟨pa1, pa2, pa3⟩ := nOf npr
        obtain ⟨ra1, ra2, ra3⟩ := nOf nr
        have dpx : Dp K H7 (.ref ra) (.list (((grow (pst m n) p wd (bfs (pst m n) (m.s, n.s) t) k).map fun x => pI x.1).map ptD)) := .lst (SqL.of hxs) (hP.keep r3_s).dp
        have dps : Dp K H7 (.ref pr) (ptD (pI (pst m n p k))) := .lst (SqL.of hpr) (dp_ints (pI (pst m n p k)))
        refine ⟨_, rfl, _, rfl, _, _, dps, dpx, pt_shaped _, shaped_P _, ?_⟩
        rw [any_pts]
        refine ⟨_, rfl, ?_⟩
        by_cases cm : pst m n p k ∈ (grow (pst m n) p wd (bfs (pst m n) (m.s, n.s) t) k).map Prod.fst
        · rw [decide_eq_true (pI_mem.mpr cm)]
          have eg : grow (pst m n) p wd (bfs (pst m n) (m.s, n.s) t) (k + 1) = grow (pst m n) p wd (bfs (pst m n) (m.s, n.s) t) k := by
            show add1 (pst m n) p wd (grow (pst m n) p wd (bfs (pst m n) (m.s, n.s) t) k) k = _
            unfold add1
            rw [if_pos cm]
          refine iteF ⟨⟨_, _, _, _, _, rfl⟩, sm7, ?_, nbk1⟩
          rw [eg]
          exact fi7
        · rw [decide_eq_false (fun z => cm (pI_mem.mp z))]
          have eg : grow (pst m n) p wd (bfs (pst m n) (m.s, n.s) t) (k + 1) = grow (pst m n) p wd (bfs (pst m n) (m.s, n.s) t) k ++ [(pst m n p k, wd ++ [97 + k])] := by
            show add1 (pst m n) p wd (grow (pst m n) p wd (bfs (pst m n) (m.s, n.s) t) k) k = _
            unfold add1
            rw [if_neg cm]
          refine iteT ⟨_, rfl, .inl ⟨rfl, _, SqL.of hxs⟩, _, rfl, ra, xs, .ref pr, rfl, rfl, hxs, small1000 (by omega), ?_⟩
          have hys8 : upd H7 ra (.lst (xs ++ [.ref pr])) rb = some (.lst ys) := by rw [upd_ne (Ne.symm rab)]; exact hys
          have hws8 : upd H7 ra (.lst (xs ++ [.ref pr])) rw = some (.lst ((grow (pst m n) p wd (bfs (pst m n) (m.s, n.s) t) k).map fun x => V.str (tx x.2))) := by rw [upd_ne (Ne.symm raw)]; exact hws
          have hxs8 : upd H7 ra (.lst (xs ++ [.ref pr])) ra = some (.lst (xs ++ [.ref pr])) := upd_same
          have r8 := r3_upd (H := H7) (a := ra) (b := rb) (c := rw) (v := .lst (xs ++ [.ref pr])) (.inl rfl)
          have sm8 : Same H (upd H7 ra (.lst (xs ++ [.ref pr]))) := fun y o e => by
            rw [upd_ne (ne_of_none e nraH)]
            exact sm7 _ _ e
          generalize upd H7 ra (.lst (xs ++ [.ref pr])) = H8 at *
          refine ⟨_, rfl, .inl ⟨rfl, _, SqL.of hys8⟩, _, rfl, rb, ys, .ref r, rfl, rfl, hys8, small1000 (by omega), ?_⟩
          have hxs9 : upd H8 rb (.lst (ys ++ [.ref r])) ra = some (.lst (xs ++ [.ref pr])) := by rw [upd_ne rab]; exact hxs8
          have hws9 : upd H8 rb (.lst (ys ++ [.ref r])) rw = some (.lst ((grow (pst m n) p wd (bfs (pst m n) (m.s, n.s) t) k).map fun x => V.str (tx x.2))) := by rw [upd_ne (Ne.symm rbw)]; exact hws8
          have hys9 : upd H8 rb (.lst (ys ++ [.ref r])) rb = some (.lst (ys ++ [.ref r])) := upd_same
          have r9 := r8.trans (r3_upd (H := H8) (a := ra) (b := rb) (c := rw) (v := .lst (ys ++ [.ref r])) (.inr (.inl rfl)))
          have sm9 : Same H (upd H8 rb (.lst (ys ++ [.ref r]))) := fun y o e => by
            rw [upd_ne (ne_of_none e nrbH)]
            exact sm8 _ _ e
          generalize upd H8 rb (.lst (ys ++ [.ref r])) = H9 at *
          refine ⟨_, rfl, .inl ⟨rfl, _, SqL.of hws9⟩, _, rfl, _, rfl, rw, _, _, _, rfl, rfl, SqL.of hws9, atI_nat ewt, _, rfl, _, _, rfl, rfl, (by rw [tx_len, el]; omega), ?_⟩
          rw [tx_snoc]
          refine ⟨rw, _, .str (tx (wd ++ [97 + k])), rfl, rfl, hws9, (by rw [List.length_map]; exact small1000 (by omega)), ?_⟩
          have r10 := r9.trans (r3_upd (H := H9) (a := ra) (b := rb) (c := rw) (v := .lst (((grow (pst m n) p wd (bfs (pst m n) (m.s, n.s) t) k).map fun x => V.str (tx x.2)) ++ [.str (tx (wd ++ [97 + k]))])) (.inr (.inr rfl)))
          refine ⟨⟨_, _, _, _, _, rfl⟩, fun y o e => ?_, ?_, nbk1⟩
          · rw [upd_ne (ne_of_none e nrwH)]
            exact sm9 _ _ e
          · refine ⟨xs ++ [.ref pr], ys ++ [.ref r], ?_, ?_, ?_, ?_, ?_⟩
            · rw [upd_ne raw]
              exact hxs9
            · rw [upd_ne rbw]
              exact hys9
            · rw [upd_same, eg, List.map_append]
              rfl
            · rw [eg, List.map_append]
              exact Pts.snoc ⟨pr, rfl, r10 _ _ (r3_at pa1 pa2 pa3 (show H7 pr = some (.lst ((pI (pst m n p k)).map V.int)) from hpr))⟩ (hP.keep r10)
            · rw [eg]
              exact (hB.keep r10).snoc (r10 _ _ (r3_at ra1 ra2 ra3 hr))
      · rintro σ H2 ⟨⟨x6, x7, x8, x9, x10, rfl⟩, sm2, fi2, nb⟩
        rw [abc_len, ← bfs_succ hp] at fi2
        rw [abc_len] at nb
        have l1 := (bfs_pre1 (f := pst m n) (m.s, n.s) t).length_le
        refine ⟨⟨_, _, _, _, _, _, rfl⟩, sm2, fi2, by omega, fun j z hj hz => ?_⟩
        by_cases e : j = t
        · subst e
          rw [hp] at hz
          cases hz
          exact badAt_none.mpr nb
        · exact no j z (by omega) hz
    · obtain ⟨_, _, _, lt, _⟩ := z
      have := bd 40
      omega
end
end KK
set_option Elab.async false
set_option linter.all false
set_option maxRecDepth 100000
set_option maxHeartbeats 1000000
namespace KK
open PySem PySem.Spec PyProof.Rows L2 XV NM XT XA XD LamX NB
/-! ### what is drawn -/
def DwG (g : Addr) (H : Hp) (a : Addr) (m : Mm) : Prop := a ≠ g ∧ ∃ p q, H a = some (.lst [.str m.z, .ref p, .int (m.s : Int), .ref q]) ∧ RG2 H p g m.R ∧ q ≠ g ∧ H q = some (.lst (m.cl.map V.str))
theorem DwG.keep {g : Addr} {H H' : Hp} (s : Same H H') {a : Addr} {m : Mm} (h : DwG g H a m) : DwG g H' a m := by
  obtain ⟨n, p, q, h1, h2, h3, h4⟩ := h
  exact ⟨n, p, q, s _ _ h1, h2.keep s, h3, s _ _ h4⟩
theorem DwG.but {g : Addr} {H H' : Hp} {ws : List V} (hg : H g = some (.lst ws)) (b : But H H' g) {a : Addr} {m : Mm} (h : DwG g H a m) : DwG g H' a m := by
  obtain ⟨n, p, q, h1, h2, h3, h4⟩ := h
  exact ⟨n, p, q, b _ _ n h1, h2.but hg b, h3, b _ _ h3 h4⟩
theorem DwG.dw {g : Addr} {H : Hp} {a : Addr} {m : Mm} (h : DwG g H a m) : Dw H a m := by
  obtain ⟨n, p, q, h1, h2, h3, h4⟩ := h
  exact ⟨p, q, h1, h2.da, h4⟩
structure Lo2 (m : Mm) (k : Nat) : Prop where
  r : ∀ r ∈ m.R, ∀ e ∈ r, LO e.w ∧ e.w.length ≤ k
  c : ∀ y ∈ m.cl, LO y ∧ y.length ≤ k
theorem Lo2.mono {m : Mm} {k j : Nat} (h : Lo2 m k) (l : k ≤ j) : Lo2 m j :=
  ⟨fun r hr e he => ⟨(h.r r hr e he).1, Nat.le_trans (h.r r hr e he).2 l⟩, fun y hy => ⟨(h.c y hy).1, Nat.le_trans (h.c y hy).2 l⟩⟩
theorem lo_short {y : Str} (h : LO y) (l : y.length ≤ 2000) : shortV (.str y) = true := by
  show (lowS y && decide (y.length ≤ 2000)) = true
  rw [lo_low h, decide_eq_true l]
  rfl
theorem menu_mm : ∀ z ∈ menu, alphV (.str z) = true ∧ z.cps.all (· < 128) = true ∧ z.length ≤ 3 ∧ (cz z).all loB = true := by decide +kernel
abbrev sDr : Stmt := top 39
abbrev nDr : List Str := ["_law_generator_here", "_law_letters", "_law_states", "_law_rows", "_law_state"]
theorem scDr : FnScope nDr ["_law_generator_here"] (defScope sDr) := ⟨rfl, rfl, rfl, by decide +kernel, rfl, by decide +kernel, by decide +kernel⟩
def spDr : Sp := fun vs H Q _ => ∃ (g : Addr) (n : Nat), vs = [.ref g] ∧ Dr H g n ∧ n ≤ 300000 ∧ ∀ (H' : Hp) (p : Addr) (m : Mm), But H H' g → Dr H' g (n + 40000) → DwG g H' p m → MmOk m → Lo2 m 2 → m.z ∈ menu → m.R.length ≤ 4 → Q (.ref p) H'
abbrev sMk : Stmt := top 46
theorem scMk : FnScope ["_law_drawn"] ["_law_drawn"] (defScope sMk) := ⟨rfl, rfl, rfl, by decide +kernel, rfl, by decide +kernel, by decide +kernel⟩
def spMk (C : Addr) : Sp := fun vs H Q _ => ∃ (a : Addr) (m : Mm), vs = [.ref a] ∧ Dw H a m ∧ MmOk m ∧ ∀ (H' : Hp) (y : Addr), Same H H' → MaZ C H' y m (fun a => ∃ xs, H a = some (.lst xs)) → Q (.ref y) H'
section
variable {P : Program} {w : World} {K : PySem.W.Frag} {mg : Str → Option Value} {base : Heap} {f : Addr} {fd : FuncData} {CM : Addr}
theorem ok_draw (F : FnP K "_law_draw" sDr f fd) (o_rand : Ok P w K mg base "_law_random" 2 ["_law_generator_here", "_law_bound"] spRand) (o_signs : Ok P w K mg base "_law_signs" 3 ["_law_generator_here"] spSigns) (o_mrows : Ok P w K mg base "_law_maker_rows" 4 ["_law_generator_here", "_law_letters", "_law_states", "_law_signs_here"] spMRows) (o_word : Ok P w K mg base "_law_word" 3 ["_law_generator_here", "_law_signs_here", "_law_most"] spWord) (z_range : mg "range" = none) : FnOk P w K mg base CX0 5 f fd ["_law_generator_here"] spDr := by
  have nd := scDr.nd
  refine F.ok scDr (fun vs H Q E h => ?_) (fun cdv A outer s H vs Q E hr h => ?_)
  · obtain ⟨g, n, rfl, _⟩ := h
    rfl
  · obtain ⟨g, n, rfl, d0, hn, q⟩ := h
    have szl := sizeLine_eq
    have r4 : Room 4 (A.deeper (envOfC "_law_draw" (defScope sDr) s.heap.objs.size f cdv)) := hr
    have r3 := r4.mono (by decide : 3 ≤ 4)
    have r2 := r4.mono (by decide : 2 ≤ 4)
    refine ⟨_, PSs.nox (C8.pss_cut (ps_par (i := 1) (j := 2) rfl nd rfl rfl (by decide) rfl rfl (pa_cons (pe_callO o_signs r3 (by rfl) (pa_cons (pv 0) pa_nil)) (pa_cons (pe_op op_add pe_int (pe_callO o_rand r2 (by rfl) (pa_cons (pv 0) (pa_cons pe_int pa_nil)))) pa_nil)) (by rfl))
      (pss_cons (ps_set (i := 3) nd rfl (Or.inl rfl) (pe_callO o_mrows r4 (by rfl) (pa_cons (pv 0) (pa_cons (pv 1) (pa_cons (pv 2) (pa_cons pe_str pa_nil))))))
      (pss_one (ps_ret (pe_lst (pa_cons (pv 1) (pa_cons (pv 3) (pa_cons (pe_callO o_rand r2 (by rfl) (pa_cons (pv 0) (pa_cons (pv 2) pa_nil))) (pa_cons (pe_lc (own := [("_law_state", 4)]) (g := gName 4) (by rfl) nd (pi_range1 (by rfl) z_range (pa_cons (pv 2) pa_nil)) (blkOk_by (N := nDr) (sc := defScope sDr) (own := [("_law_state", 4)]) (by decide +kernel)) (fun _ _ _ _ _ => pg_name (i := 4) nd rfl (Or.inl rfl)) (fun _ _ _ _ _ => pts_nil)
          (fun _ _ _ _ _ => pe_callO o_word r3 (by rfl) (pa_cons (pv 0) (pa_cons pe_str (pa_cons pe_int pa_nil))))) pa_nil))))))))), ?_⟩
    refine ⟨fun σ' H' => ∃ (z : Str) (st : Nat), σ' = [some (.ref g), some (.str z), some (.int (st : Int)), none, none] ∧ But H H' g ∧ Dr H' g (n + 40) ∧ z ∈ menu ∧ 1 ≤ st ∧ st ≤ 4, ?_, ?_⟩
    · refine ⟨_, rfl, g, n, rfl, d0, by omega, fun H3 z mz b3 d3 => ⟨_, rfl, g, n + 20, 4, rfl, d3, by omega, by decide, by decide +kernel, fun H4 r r0 rb b4 d4 => ⟨_, _, rfl, rfl, _, _, rfl, ?_⟩⟩⟩
      obtain ⟨r, rfl⟩ := Int.eq_ofNat_of_zero_le r0
      refine ⟨z, 1 + r, ?_, fun b o nb e => b4 _ _ nb (b3 _ _ nb e), d4.mono (by omega), mz, by omega, by omega⟩
      rw [show ((1 + r : Nat) : Int) = 1 + (r : Int) by omega]
      rfl
    rintro σ' H3 ⟨z, st, rfl, b3, d3, mz, st1, st4⟩
    refine ⟨_, rfl, _, rfl, _, rfl, g, _, st, z, "ab", rfl, d3, by omega, (menu_mm z mz).2.2.1, st1, by omega, LO.of (by decide +kernel), by decide +kernel, fun H4 p R np hR lR hr b4 d4 => ?_⟩
    refine ⟨_, rfl, _, rfl, _, rfl, _, rfl, g, _, (st : Int), rfl, d4, by omega, by omega, Int.lt_of_le_of_lt (b := 12) (by omega) (by decide +kernel), fun H5 k0 k1 k2 b5 d5 => ?_⟩
    obtain ⟨k0, rfl⟩ := Int.eq_ofNat_of_zero_le k1
    obtain ⟨ws, hg4⟩ := dr_lst d4
    have hR5 := hR.but hg4 b5
    have d5 : Dr H5 g (n + 30060) := d5.mono (by omega)
    have b05 : But H H5 g := fun b o nb e => b5 _ _ nb (b4 _ _ nb (b3 _ _ nb e))
    refine ⟨_, rfl, (st : Int), rfl, by omega, by omega, fun D nD => lc_range (lo := 0) (n := (st : Int).toNat) (fun j H' => But H5 H' g ∧ Dr H' g (n + 30060 + 400 * j) ∧ D ≠ g ∧ ∃ cl : List Str, H' D = some (.lst (cl.map V.str)) ∧ cl.length = j ∧ ∀ y ∈ cl, LO y ∧ y.length ≤ 2) ?_ ?_ ?_⟩
    · have gD := dr_neK d5 nD
      exact ⟨Same.but (same_new nD), dr_newK d5 nD, Ne.symm gD, [], upd_same, rfl, fun x hx => (by cases hx)⟩
    · rintro j H6 hj ⟨b6, d6, gD, cl, hD, le, lo⟩
      have hj : j < st := hj
      refine ⟨rfl, _, rfl, g, _, 2, "ab", rfl, by decide, d6, by omega, LO.of (by decide +kernel), by decide +kernel, fun H7 y loy ly b7 d7 => ?_⟩
      have hD7 := b7 _ _ gD hD
      refine ⟨_, hD7, ?_, fun b o nb e => ?_, dr_updK (d7.mono (by omega)) (Ne.symm gD), gD, cl ++ [y], ?_, ?_, fun x hx => ?_⟩
      · rw [List.length_map]
        exact small1000 (by omega)
      · rw [upd_ne (ne_of_none e nD)]
        exact b7 _ _ nb (b6 _ _ nb e)
      · rw [upd_same, List.map_append]
        rfl
      · rw [List.length_append]
        show cl.length + 1 = j + 1
        omega
      · rcases List.mem_append.mp hx with h | h
        · exact lo x h
        · rw [List.mem_singleton.mp h]
          exact ⟨loy, ly⟩
    · rintro H6 ⟨b6, d6, gD, cl, hD, le, lo⟩
      have le : cl.length = st := le
      subst lR
      obtain ⟨ws5, hg5⟩ := dr_lst d5
      obtain ⟨ws6, hg6⟩ := dr_lst d6
      obtain ⟨m1, m2, m3, m4⟩ := menu_mm z mz
      refine ⟨(by show 4 ≤ sizeLine; omega), fun a na => ?_⟩
      have s7 := same_new (o := .lst [V.str z, .ref p, .int (k0 : Nat), .ref D]) na
      have ag : a ≠ g := Ne.symm (ne_of_none hg6 na)
      have d6 : Dr H6 g (n + 40000) := d6.mono (by have : (R.length : Int).toNat = R.length := rfl; omega)
      refine q _ a ⟨z, R, k0, cl⟩ (fun b o nb e => s7 _ _ (b6 _ _ nb (b05 _ _ nb e))) (Dr.keepS s7 d6) ⟨ag, p, D, upd_same, (hR5.but hg5 b6).keep s7, gD, s7 _ _ hD⟩ ⟨m1, m2, ?_, st1, ?_, fun r hr2 => ⟨(hr r hr2).1, fun e he => ?_⟩, ?_, le, fun y hy => lo_short (lo y hy).1 (by have := (lo y hy).2; omega)⟩ ⟨fun r hr2 e he => ?_, lo⟩ mz st4
      · show z.length ≤ 26
        omega
      · show R.length ≤ 12
        omega
      · obtain ⟨e1, e2, e3⟩ := (hr r hr2).2 e he
        exact ⟨e1, lo_short e2 (by omega)⟩
      · show k0 < R.length
        omega
      · obtain ⟨e1, e2, e3⟩ := (hr r hr2).2 e he
        exact ⟨e2, e3⟩
theorem ok_maker (F : FnP K "_law_maker" sMk f fd) (o_mkM : OkMkM P w K mg base CM) : FnOk P w K mg base CX0 8 f fd ["_law_drawn"] (spMk CM) := by
  have nd := scMk.nd
  refine F.ok scMk (fun vs H Q E h => ?_) (fun cdv A outer s H vs Q E hr h => ?_)
  · obtain ⟨a, m, rfl, _⟩ := h
    rfl
  · obtain ⟨a, m, rfl, ⟨p, c, ha, hR, hC⟩, ok, q⟩ := h
    have r7 : Room 7 (A.deeper (envOfC "_law_maker" (defScope sMk) s.heap.objs.size f cdv)) := hr
    refine ⟨_, PSs.nox (pss_one (ps_ret (pe_mkMC1 o_mkM r7 (by rfl) (pa_cons (pe_ix ix_list (pv 0) pe_int (fun _ _ => rfl)) (pa_cons (pe_ix ix_list (pv 0) pe_int (fun _ _ => rfl)) pa_nil)) (pk_cons (pe_ix ix_list (pv 0) pe_int (fun _ _ => rfl)) (pk_cons (pe_ix ix_list (pv 0) pe_int (fun _ _ => rfl)) pk_nil))))), ?_⟩
    refine ⟨_, rfl, a, _, _, _, rfl, rfl, SqL.of ha, rfl, _, rfl, a, _, _, _, rfl, rfl, SqL.of ha, rfl, _, rfl, a, _, _, _, rfl, rfl, SqL.of ha, rfl, _, rfl, a, _, _, _, rfl, rfl, SqL.of ha, rfl, rfl, rfl, fun y dy ny ndy ne => mk_spM (m := m) rfl rfl ny ndy ne hC hR ok fun H7 s7 hm => ⟨rfl, q H7 y s7 hm⟩⟩
end
end KK
set_option Elab.async false
set_option linter.all false
set_option maxRecDepth 100000
set_option maxHeartbeats 2000000
namespace KK
open PySem PySem.Spec PyProof.Rows L2 XV NM XT XA XD LamX NB
/-! ### a maker that puts its words off -/
abbrev sPO : Stmt := top 40
abbrev nPO : List Str := ["_law_one", "_law_letters", "_law_rows", "_law_first_here", "_law_last", "_law_states", "_law_new", "_law_led", "_law_row", "_law_entry_here", "_law_word_here"]
theorem scPO : FnScope nPO ["_law_one"] (defScope sPO) := ⟨rfl, rfl, rfl, by decide +kernel, rfl, by decide +kernel, by decide +kernel⟩
abbrev scPO1 : Scope := { kind := .function, names := [(Str.ofString ".0", .local), (Str.ofString "_law_row", .local)], isGenerator := false, isCoroutine := false }
abbrev scPI1 : Scope := { kind := .function, names := [(Str.ofString ".0", .local), (Str.ofString "_law_entry_here", .local)], isGenerator := false, isCoroutine := false }
abbrev scPO2 : Scope := { kind := .function, names := [(Str.ofString ".0", .local), (Str.ofString "_law_row", .local), (Str.ofString "_law_states", .cell)], isGenerator := false, isCoroutine := false }
abbrev scPI2 : Scope := { kind := .function, names := [(Str.ofString ".0", .local), (Str.ofString "_law_entry_here", .local), (Str.ofString "_law_states", .free)], isGenerator := false, isCoroutine := false }
theorem blkP1 : BlkOk nPO scPO1 scPI1 [("_law_entry_here", 9)] := blkOk_by (by decide +kernel)
theorem blkP2 : BlkOk nPO scPO2 scPI2 [("_law_entry_here", 9)] := blkOk_by (by decide +kernel)
def ph1 (e : En) : En := ⟨e.s, e.w ++ ("a" : Str), false⟩
def ph2 (k : Nat) (e : En) : En := ⟨e.s + k, e.w, false⟩
def ph3 (k : Nat) (e : En) : En := ⟨e.s + k, ("a" : Str) ++ e.w, false⟩
def mOff (m : Mm) : Mm := ⟨m.z, m.R.map fun r => r.map ph1, m.s, m.cl⟩
def mLed (m : Mm) : Mm := ⟨m.z, (m.R.map fun r => r.map (ph2 m.R.length)) ++ (m.R.map fun r => r.map (ph3 m.R.length)), m.s, m.cl ++ m.cl.map fun y => ("a" : Str) ++ y⟩
theorem ens_upd1 {H : Hp} {b : Addr} {ws zs : List V} {o : HO} (hb : H b = some (.lst ws)) {row : List En} (h : DaAll H zs (row.map enD)) : DaAll (upd H b o) zs (row.map enD) := ens_upd hb h
theorem RA.app {S : List Addr} {H : Hp} : ∀ {xs ys : List V} {R T : List (List En)}, RA S H xs R → RA S H ys T → RA S H (xs ++ ys) (R ++ T)
  | _, _, _, _, .nil, r => r
  | _, _, _, _, .cons n h a r, t => .cons n h a (RA.app r t)
def spPO : Sp := fun vs H Q _ => ∃ (a g : Addr) (m : Mm) (ws : List V), vs = [.ref a] ∧ DwG g H a m ∧ H g = some (.lst ws) ∧ MmOk m ∧ ∀ (H' : Hp) (l p0 p1 : Addr), Same H H' → H' l = some (.lst [.ref p0, .ref p1]) → l ≠ g → DwG g H' p0 (mOff m) → DwG g H' p1 (mLed m) → Q (.ref l) H'
section
variable {P : Program} {w : World} {K : PySem.W.Frag} {mg : Str → Option Value} {base : Heap} {f : Addr} {fd : FuncData}
theorem ok_putoff (F : FnP K "_law_put_off" sPO f fd) (z_len : mg "len" = none) : FnOk P w K mg base CX0 1 f fd ["_law_one"] spPO := by
  have nd := scPO.nd
  refine F.ok scPO (fun vs H Q E h => ?_) (fun cdv A outer s H vs Q E hr h => ?_)
  · obtain ⟨a, g, m, ws, rfl, _⟩ := h
    rfl
  · obtain ⟨a, g, m, ws, rfl, ⟨ag, p, c, ha, hR, cg, hc⟩, hg, ok, q⟩ := h
    have szl := sizeLine_eq
    have ea : ("a" : Str).length = 1 := by decide +kernel
    obtain ⟨p', xs, ep, hp, hP, lx⟩ := da_rs hR.da
    cases ep
    have r12 := ok.r2
    have lz := ok.lz
    have lc := ok.lc
    refine ⟨_, PSs.nox (pss_cons (ps_asg (pv 0) (pg_lst rfl (pgs_cons (pg_name (i := 1) nd rfl (Or.inl rfl)) (pgs_cons (pg_name (i := 2) nd rfl (Or.inl rfl)) (pgs_cons (pg_name (i := 3) nd rfl (Or.inl rfl)) (pgs_cons (pg_name (i := 4) nd rfl (Or.inl rfl)) pgs_nil))))))
      (pss_cons (ps_set (i := 5) nd rfl (Or.inr rfl) (pe_callB call_len (by rfl) z_len boot_len (pa_cons (pv 2) pa_nil)))
      (C8.pss_cut (ps_setLc (i := 6) (own := [("_law_row", 8)]) (g := gName 8) (by rfl) nd rfl rfl (sw_true rfl rfl rfl (by decide +kernel)) (pi_list (pv 2)) (blkOk_by (N := nPO) (sc := defScope sPO) (own := [("_law_row", 8)]) (by decide +kernel)) (fun _ _ _ _ _ => pg_name (i := 8) nd rfl (Or.inl rfl)) (fun _ _ _ _ _ => pts_nil)
        (fun _ _ _ _ _ => pe_lc (own := [("_law_entry_here", 9)]) (g := gName 9) (by rfl) nd (pi_listK (K := K) rfl (pv 8)) blkP1 (fun _ _ _ _ _ => pg_name (i := 9) nd rfl (Or.inl rfl)) (fun _ _ _ _ _ => pts_nil)
          (fun _ _ _ _ _ => pe_tup (pa_cons (pe_ix (ix_tupK (K := K) rfl) (pv 9) pe_int (fun _ _ => rfl)) (pa_cons (pe_op op_add_str (pe_ix (ix_tupK (K := K) rfl) (pv 9) pe_int (fun _ _ => rfl)) pe_str) (pa_cons pe_bl pa_nil))))))
      (C8.pss_cut (ps_setLc (i := 7) (own := [("_law_row", 8)]) (g := gName 8) (by rfl) nd rfl rfl (sw_true rfl rfl rfl (by decide +kernel)) (pi_list (pv 2)) (blkOk_by (N := nPO) (sc := defScope sPO) (own := [("_law_row", 8)]) (by decide +kernel)) (fun _ _ _ _ _ => pg_name (i := 8) nd rfl (Or.inl rfl)) (fun _ _ _ _ _ => pts_nil)
        (fun _ _ _ _ _ => pe_lc (own := [("_law_entry_here", 9)]) (g := gName 9) (by rfl) nd (pi_listK (K := K) rfl (pv 8)) blkP2 (fun _ _ _ _ _ => pg_name (i := 9) nd rfl (Or.inl rfl)) (fun _ _ _ _ _ => pts_nil)
          (fun _ _ _ _ _ => pe_tup (pa_cons (pe_op op_add (pe_ix (ix_tupK (K := K) rfl) (pv 9) pe_int (fun _ _ => rfl)) (pv 5)) (pa_cons (pe_ix (ix_tupK (K := K) rfl) (pv 9) pe_int (fun _ _ => rfl)) (pa_cons pe_bl pa_nil))))))
      (C8.pss_cut (ps_set (i := 7) nd rfl (Or.inl rfl) (pe_op op_cat (pv 7) (pe_lc (own := [("_law_row", 8)]) (g := gName 8) (by rfl) nd (pi_list (pv 2)) (blkOk_by (N := nPO) (sc := defScope sPO) (own := [("_law_row", 8)]) (by decide +kernel)) (fun _ _ _ _ _ => pg_name (i := 8) nd rfl (Or.inl rfl)) (fun _ _ _ _ _ => pts_nil)
        (fun _ _ _ _ _ => pe_lc (own := [("_law_entry_here", 9)]) (g := gName 9) (by rfl) nd (pi_listK (K := K) rfl (pv 8)) blkP2 (fun _ _ _ _ _ => pg_name (i := 9) nd rfl (Or.inl rfl)) (fun _ _ _ _ _ => pts_nil)
          (fun _ _ _ _ _ => pe_tup (pa_cons (pe_op op_add (pe_ix (ix_tupK (K := K) rfl) (pv 9) pe_int (fun _ _ => rfl)) (pv 5)) (pa_cons (pe_op op_add_str pe_str (pe_ix (ix_tupK (K := K) rfl) (pv 9) pe_int (fun _ _ => rfl))) (pa_cons pe_bl pa_nil))))))))
      (pss_one (ps_ret (pe_lst (pa_cons (pe_lst (pa_cons (pv 1) (pa_cons (pv 6) (pa_cons (pv 3) (pa_cons (pv 4) pa_nil))))) (pa_cons (pe_lst (pa_cons (pv 1) (pa_cons (pv 7) (pa_cons (pv 3) (pa_cons (pe_op op_cat (pv 4) (pe_lc (own := [("_law_word_here", 10)]) (g := gName 10) (by rfl) nd (pi_list (pv 4)) (blkOk_by (N := nPO) (sc := defScope sPO) (own := [("_law_word_here", 10)]) (by decide +kernel)) (fun _ _ _ _ _ => pg_name (i := 10) nd rfl (Or.inl rfl)) (fun _ _ _ _ _ => pts_nil)
          (fun _ _ _ _ _ => pe_op op_add_str pe_str (pv 10)))) pa_nil))))) pa_nil)))))))))), ?_⟩
    refine ⟨_, rfl, a, _, rfl, SqL.of ha, rfl, _, _, rfl, _, _, rfl, _, _, rfl, _, _, rfl, rfl, ?_⟩
    refine ⟨_, rfl, _, m.R.length, rfl, .inl ⟨_, SqL.of hp, lx.symm⟩, ?_⟩
    refine ⟨fun σ' H' => ∃ D1, σ' = [some (.ref a), some (.str m.z), some (.ref p), some (.int (m.s : Int)), some (.ref c), some (.int (m.R.length : Int)), some (.ref D1), none, none, none, none] ∧ Same H H' ∧ RG2 H' D1 g (m.R.map fun r => r.map ph1), ?_, ?_⟩
    · have hg0 := hg
      refine ⟨_, rfl, p, rfl, ⟨_, SqL.of hp⟩, fun D nD => lc_list (K := K) (a := p) (xs := xs) (fun i H' => Same H H' ∧ ∃ acc, H' D = some (.lst acc) ∧ RA [D, g] H' acc ((m.R.take i).map fun r => r.map ph1)) ⟨same_new nD, [], upd_same, .nil⟩ (fun i H' _ p => SqL.of (p.1 _ _ hp)) ?_ ?_⟩
      · rintro i y H' hi ⟨sm, acc, hD, hA⟩
        obtain ⟨b, row, ys, rfl, er, hb, hy⟩ := rs_at hP hi
        have li := (List.getElem?_eq_some_iff.mp er).1
        have lacc := hA.len
        rw [List.length_map, List.length_take] at lacc
        have hb' := sm _ _ hb
        have hg' := sm _ _ hg0
        obtain ⟨lrow, hrow⟩ := ok.rw row (List.mem_of_getElem? er)
        refine ⟨rfl, _, rfl, b, rfl, ⟨_, SqL.of hb'⟩, fun D2 nD2 => lc_list (K := K) (a := b) (xs := ys) (fun k Hk => Same H' Hk ∧ ∃ zs, Hk D2 = some (.lst zs) ∧ DaAll Hk zs (((row.take k).map ph1).map enD)) ⟨same_new nD2, [], upd_same, .nil⟩ (fun k Hk _ p => SqL.of (p.1 _ _ hb')) ?_ ?_⟩
        · rintro k u Hk hk ⟨s2, zs, hD2, hZ⟩
          obtain ⟨d, ed, hd⟩ := hy.get hk
          rw [List.getElem?_map] at ed
          obtain ⟨e, ee, rfl⟩ := Option.map_eq_some_iff.mp ed
          obtain ⟨t, rfl, ht⟩ := da_en hd
          have lk := (List.getElem?_eq_some_iff.mp ee).1
          have ht2 := s2 _ _ (sm _ _ ht)
          have lew := short_len (hrow e (List.mem_of_getElem? ee)).2
          have lz := da_len hZ
          rw [List.length_map, List.length_map, List.length_take] at lz
          refine ⟨rfl, _, rfl, t, _, _, _, rfl, rfl, SqT.of ht2, rfl, _, rfl, t, _, _, _, rfl, rfl, SqT.of ht2, rfl, _, _, rfl, rfl, (by rw [ea]; omega), (by show 3 ≤ sizeLine; omega), fun T nT => ?_⟩
          have s3 := same_new (o := .tup [.int (e.s : Int), .str (e.w ++ ("a" : Str)), .bl false]) nT
          refine ⟨_, s3 _ _ hD2, small1000 (by omega), fun q o e0 => ?_, zs ++ [.ref T], upd_same, ?_⟩
          · rw [upd_ne (ne_of_none e0 nD2)]
            exact s3 _ _ (s2 _ _ e0)
          · rw [List.take_add_one, ee, List.map_append]
            have hT : Da (upd Hk T (.tup [.int (e.s : Int), .str (e.w ++ ("a" : Str)), .bl false])) (.ref T) (enD (ph1 e)) := .tup upd_same (.cons (.int _) (.cons (.str _) (.cons (.bl _) .nil)))
            have hZ2 : DaAll (upd Hk T (.tup [.int (e.s : Int), .str (e.w ++ ("a" : Str)), .bl false])) (zs ++ [.ref T]) (((row.take k).map ph1 ++ [ph1 e]).map enD) := by
              rw [List.map_append]
              exact DaAll.app (DaAll.keep s3 hZ) (.cons hT .nil)
            exact ens_upd1 (s3 _ _ hD2) hZ2
        · rintro Hk ⟨s2, zs, hD2, hZ⟩
          have lys := da_len hy
          rw [List.length_map] at lys
          rw [lys, List.take_length] at hZ
          have hDD := s2 _ _ hD
          have n2 : D2 ∉ [D, g] := fun z => by
            rcases List.mem_cons.mp z with z | z
            · rw [z, hD] at nD2
              cases nD2
            · rw [List.mem_singleton.mp z, hg'] at nD2
              cases nD2
          refine ⟨acc, hDD, small1000 (by omega), fun q o e0 => ?_, acc ++ [.ref D2], upd_same, ?_⟩
          · rw [upd_ne (ne_of_none (H := H) e0 nD)]
            exact s2 _ _ (sm _ _ e0)
          · rw [List.take_add_one, er, List.map_append]
            exact RA.upd hDD List.mem_cons_self (RA.snoc n2 hD2 hZ (hA.keep s2))
      · rintro H1 ⟨sm, acc, hD, hA⟩
        rw [lx, List.take_length] at hA
        have Dg : D ≠ g := fun z => by
          rw [z, hg0] at nD
          cases nD
        exact ⟨D, rfl, sm, Dg, acc, hD, hA.sub fun x hx => List.mem_cons_of_mem _ hx⟩
    rintro σ' H1 ⟨D1, rfl, s1, hR1⟩
    refine ⟨fun σ' H' => ∃ D2, σ' = [some (.ref a), some (.str m.z), some (.ref p), some (.int (m.s : Int)), some (.ref c), some (.int (m.R.length : Int)), some (.ref D1), some (.ref D2), none, none, none] ∧ Same H1 H' ∧ RG2 H' D2 g (m.R.map fun r => r.map (ph2 m.R.length)), ?_, ?_⟩
    · have hg0 := s1 _ _ hg
      have hp1 := s1 _ _ hp
      refine ⟨_, rfl, p, rfl, ⟨_, SqL.of hp1⟩, fun D nD => lc_list (K := K) (a := p) (xs := xs) (fun i H' => Same H1 H' ∧ ∃ acc, H' D = some (.lst acc) ∧ RA [D, g] H' acc ((m.R.take i).map fun r => r.map (ph2 m.R.length))) ⟨same_new nD, [], upd_same, .nil⟩ (fun i H' _ p => SqL.of (p.1 _ _ hp1)) ?_ ?_⟩
      · rintro i y H' hi ⟨sm, acc, hD, hA⟩
        obtain ⟨b, row, ys, rfl, er, hb, hy⟩ := rs_at (DaAll.keep s1 hP) hi
        have li := (List.getElem?_eq_some_iff.mp er).1
        have lacc := hA.len
        rw [List.length_map, List.length_take] at lacc
        have hb' := sm _ _ hb
        have hg' := sm _ _ hg0
        obtain ⟨lrow, hrow⟩ := ok.rw row (List.mem_of_getElem? er)
        refine ⟨rfl, _, rfl, b, rfl, ⟨_, SqL.of hb'⟩, fun D2 nD2 => lc_list (K := K) (a := b) (xs := ys) (fun k Hk => Same H' Hk ∧ ∃ zs, Hk D2 = some (.lst zs) ∧ DaAll Hk zs (((row.take k).map (ph2 m.R.length)).map enD)) ⟨same_new nD2, [], upd_same, .nil⟩ (fun k Hk _ p => SqL.of (p.1 _ _ hb')) ?_ ?_⟩
        · rintro k u Hk hk ⟨s2, zs, hD2, hZ⟩
          obtain ⟨d, ed, hd⟩ := hy.get hk
          rw [List.getElem?_map] at ed
          obtain ⟨e, ee, rfl⟩ := Option.map_eq_some_iff.mp ed
          obtain ⟨t, rfl, ht⟩ := da_en hd
          have lk := (List.getElem?_eq_some_iff.mp ee).1
          have ht2 := s2 _ _ (sm _ _ ht)
          have lew := short_len (hrow e (List.mem_of_getElem? ee)).2
          have lz := da_len hZ
          rw [List.length_map, List.length_map, List.length_take] at lz
          refine ⟨rfl, _, rfl, t, _, _, _, rfl, rfl, SqT.of ht2, rfl, _, rfl, _, _, rfl, rfl, _, rfl, t, _, _, _, rfl, rfl, SqT.of ht2, rfl, (by show 3 ≤ sizeLine; omega), fun T nT => ?_⟩
          have s3 := same_new (o := .tup [.int ((e.s : Int) + (m.R.length : Int)), .str e.w, .bl false]) nT
          refine ⟨_, s3 _ _ hD2, small1000 (by omega), fun q o e0 => ?_, zs ++ [.ref T], upd_same, ?_⟩
          · rw [upd_ne (ne_of_none e0 nD2)]
            exact s3 _ _ (s2 _ _ e0)
          · rw [List.take_add_one, ee, List.map_append]
            have hT : Da (upd Hk T (.tup [.int ((e.s : Int) + (m.R.length : Int)), .str e.w, .bl false])) (.ref T) (enD ((ph2 m.R.length) e)) := .tup upd_same (.cons (.int _) (.cons (.str _) (.cons (.bl _) .nil)))
            have hZ2 : DaAll (upd Hk T (.tup [.int ((e.s : Int) + (m.R.length : Int)), .str e.w, .bl false])) (zs ++ [.ref T]) (((row.take k).map (ph2 m.R.length) ++ [(ph2 m.R.length) e]).map enD) := by
              rw [List.map_append]
              exact DaAll.app (DaAll.keep s3 hZ) (.cons hT .nil)
            exact ens_upd1 (s3 _ _ hD2) hZ2
        · rintro Hk ⟨s2, zs, hD2, hZ⟩
          have lys := da_len hy
          rw [List.length_map] at lys
          rw [lys, List.take_length] at hZ
          have hDD := s2 _ _ hD
          have n2 : D2 ∉ [D, g] := fun z => by
            rcases List.mem_cons.mp z with z | z
            · rw [z, hD] at nD2
              cases nD2
            · rw [List.mem_singleton.mp z, hg'] at nD2
              cases nD2
          refine ⟨acc, hDD, small1000 (by omega), fun q o e0 => ?_, acc ++ [.ref D2], upd_same, ?_⟩
          · rw [upd_ne (ne_of_none (H := H1) e0 nD)]
            exact s2 _ _ (sm _ _ e0)
          · rw [List.take_add_one, er, List.map_append]
            exact RA.upd hDD List.mem_cons_self (RA.snoc n2 hD2 hZ (hA.keep s2))
      · rintro H1 ⟨sm, acc, hD, hA⟩
        rw [lx, List.take_length] at hA
        have Dg : D ≠ g := fun z => by
          rw [z, hg0] at nD
          cases nD
        exact ⟨D, rfl, sm, Dg, acc, hD, hA.sub fun x hx => List.mem_cons_of_mem _ hx⟩
    rintro σ' H2 ⟨D2, rfl, s2, hR2⟩
    have s12 := s1.trans s2
    refine ⟨fun σ' H' => ∃ D3, σ' = [some (.ref a), some (.str m.z), some (.ref p), some (.int (m.s : Int)), some (.ref c), some (.int (m.R.length : Int)), some (.ref D1), some (.ref D3), none, none, none] ∧ Same H2 H' ∧ RG2 H' D3 g ((m.R.map fun r => r.map (ph2 m.R.length)) ++ (m.R.map fun r => r.map (ph3 m.R.length))), ?_, ?_⟩
    · have hg0 := s12 _ _ hg
      have hp2 := s12 _ _ hp
      refine ⟨_, rfl, _, rfl, p, rfl, ⟨_, SqL.of hp2⟩, fun D nD => lc_list (K := K) (a := p) (xs := xs) (fun i H' => Same H2 H' ∧ ∃ acc, H' D = some (.lst acc) ∧ RA [D, g] H' acc ((m.R.take i).map fun r => r.map (ph3 m.R.length))) ⟨same_new nD, [], upd_same, .nil⟩ (fun i H' _ p => SqL.of (p.1 _ _ hp2)) ?_ ?_⟩
      · rintro i y H' hi ⟨sm, acc, hD, hA⟩
        obtain ⟨b, row, ys, rfl, er, hb, hy⟩ := rs_at (DaAll.keep s12 hP) hi
        have li := (List.getElem?_eq_some_iff.mp er).1
        have lacc := hA.len
        rw [List.length_map, List.length_take] at lacc
        have hb' := sm _ _ hb
        have hg' := sm _ _ hg0
        obtain ⟨lrow, hrow⟩ := ok.rw row (List.mem_of_getElem? er)
        refine ⟨rfl, _, rfl, b, rfl, ⟨_, SqL.of hb'⟩, fun D2 nD2 => lc_list (K := K) (a := b) (xs := ys) (fun k Hk => Same H' Hk ∧ ∃ zs, Hk D2 = some (.lst zs) ∧ DaAll Hk zs (((row.take k).map (ph3 m.R.length)).map enD)) ⟨same_new nD2, [], upd_same, .nil⟩ (fun k Hk _ p => SqL.of (p.1 _ _ hb')) ?_ ?_⟩
        · rintro k u Hk hk ⟨s2, zs, hD2, hZ⟩
          obtain ⟨d, ed, hd⟩ := hy.get hk
          rw [List.getElem?_map] at ed
          obtain ⟨e, ee, rfl⟩ := Option.map_eq_some_iff.mp ed
          obtain ⟨t, rfl, ht⟩ := da_en hd
          have lk := (List.getElem?_eq_some_iff.mp ee).1
          have ht2 := s2 _ _ (sm _ _ ht)
          have lew := short_len (hrow e (List.mem_of_getElem? ee)).2
          have lz := da_len hZ
          rw [List.length_map, List.length_map, List.length_take] at lz
          refine ⟨rfl, _, rfl, t, _, _, _, rfl, rfl, SqT.of ht2, rfl, _, rfl, _, _, rfl, rfl, _, rfl, t, _, _, _, rfl, rfl, SqT.of ht2, rfl, _, _, rfl, rfl, (by rw [ea]; omega), (by show 3 ≤ sizeLine; omega), fun T nT => ?_⟩
          have s3 := same_new (o := .tup [.int ((e.s : Int) + (m.R.length : Int)), .str (("a" : Str) ++ e.w), .bl false]) nT
          refine ⟨_, s3 _ _ hD2, small1000 (by omega), fun q o e0 => ?_, zs ++ [.ref T], upd_same, ?_⟩
          · rw [upd_ne (ne_of_none e0 nD2)]
            exact s3 _ _ (s2 _ _ e0)
          · rw [List.take_add_one, ee, List.map_append]
            have hT : Da (upd Hk T (.tup [.int ((e.s : Int) + (m.R.length : Int)), .str (("a" : Str) ++ e.w), .bl false])) (.ref T) (enD ((ph3 m.R.length) e)) := .tup upd_same (.cons (.int _) (.cons (.str _) (.cons (.bl _) .nil)))
            have hZ2 : DaAll (upd Hk T (.tup [.int ((e.s : Int) + (m.R.length : Int)), .str (("a" : Str) ++ e.w), .bl false])) (zs ++ [.ref T]) (((row.take k).map (ph3 m.R.length) ++ [(ph3 m.R.length) e]).map enD) := by
              rw [List.map_append]
              exact DaAll.app (DaAll.keep s3 hZ) (.cons hT .nil)
            exact ens_upd1 (s3 _ _ hD2) hZ2
        · rintro Hk ⟨s2, zs, hD2, hZ⟩
          have lys := da_len hy
          rw [List.length_map] at lys
          rw [lys, List.take_length] at hZ
          have hDD := s2 _ _ hD
          have n2 : D2 ∉ [D, g] := fun z => by
            rcases List.mem_cons.mp z with z | z
            · rw [z, hD] at nD2
              cases nD2
            · rw [List.mem_singleton.mp z, hg'] at nD2
              cases nD2
          refine ⟨acc, hDD, small1000 (by omega), fun q o e0 => ?_, acc ++ [.ref D2], upd_same, ?_⟩
          · rw [upd_ne (ne_of_none (H := H2) e0 nD)]
            exact s2 _ _ (sm _ _ e0)
          · rw [List.take_add_one, er, List.map_append]
            exact RA.upd hDD List.mem_cons_self (RA.snoc n2 hD2 hZ (hA.keep s2))
      · rintro H3 ⟨sm, acc, hD, hA⟩
        rw [lx, List.take_length] at hA
        obtain ⟨D2g, xs2, hxs2, hA2⟩ := hR2.keep sm
        have l2 := hA2.len
        have l3 := hA.len
        rw [List.length_map] at l2 l3
        refine ⟨D2, D, xs2, acc, rfl, rfl, hxs2, hD, by omega, fun D3 nD3 => ?_⟩
        have s3 := same_new (o := .lst (xs2 ++ acc)) nD3
        have D3g : D3 ≠ g := fun z => by
          rw [z, sm _ _ hg0] at nD3
          cases nD3
        exact ⟨D3, rfl, sm.trans s3, D3g, _, upd_same, (RA.app hA2 (hA.sub fun x hx => List.mem_cons_of_mem _ hx)).keep s3⟩
    rintro σ' H3 ⟨D3, rfl, s3, hR3⟩
    have s13 := s12.trans s3
    have hc3 := s13 _ _ hc
    refine ⟨_, rfl, _, rfl, _, rfl, _, rfl, (by show 4 ≤ sizeLine; omega), fun p0 np0 => ?_⟩
    have t1 := same_new (o := .lst [V.str m.z, .ref D1, .int (m.s : Int), .ref c]) np0
    have hp0 : upd H3 p0 (.lst [V.str m.z, .ref D1, .int (m.s : Int), .ref c]) p0 = some (.lst [V.str m.z, .ref D1, .int (m.s : Int), .ref c]) := upd_same
    have p0g : p0 ≠ g := fun z => by
      rw [z, s13 _ _ hg] at np0
      cases np0
    have hc4 := t1 _ _ hc3
    have s14 := s13.trans t1
    have hR1' := (((hR1.keep s2).keep s3).keep t1)
    have hR3' := hR3.keep t1
    generalize upd H3 p0 (.lst [V.str m.z, .ref D1, .int (m.s : Int), .ref c]) = H4 at *
    refine ⟨_, rfl, _, rfl, _, rfl, _, rfl, _, rfl, c, rfl, ⟨_, SqL.of hc4⟩, fun D nD => lc_list (K := K) (a := c) (xs := m.cl.map V.str) (fun i H' => Same H4 H' ∧ H' D = some (.lst (((m.cl.take i).map fun y => ("a" : Str) ++ y).map V.str))) ⟨same_new nD, upd_same⟩ (fun i H' _ p => SqL.of (p.1 _ _ hc4)) ?_ ?_⟩
    · rintro i u H' hi ⟨sm, hD⟩
      rw [List.getElem?_map] at hi
      obtain ⟨y, ey, rfl⟩ := Option.map_eq_some_iff.mp hi
      have li := (List.getElem?_eq_some_iff.mp ey).1
      have ly := short_len (ok.hc y (List.mem_of_getElem? ey))
      refine ⟨rfl, _, rfl, _, _, rfl, rfl, (by rw [ea]; omega), _, hD, ?_, fun q o e0 => ?_, ?_⟩
      · rw [List.length_map, List.length_map, List.length_take]
        exact small1000 (by omega)
      · rw [upd_ne (ne_of_none e0 nD)]
        exact sm _ _ e0
      · rw [upd_same, List.take_add_one, ey, List.map_append, List.map_append]
        rfl
    rintro H5 ⟨sm, hD⟩
    rw [List.length_map, List.take_length] at hD
    have hc5 := sm _ _ hc4
    refine ⟨c, D, _, _, rfl, rfl, hc5, hD, (by rw [List.length_map, List.length_map, List.length_map]; omega), fun D5 nD5 => ?_⟩
    have t2 := same_new (o := .lst (m.cl.map V.str ++ (m.cl.map fun y => ("a" : Str) ++ y).map V.str)) nD5
    have D5g : D5 ≠ g := fun z => by
      rw [z, sm _ _ (s14 _ _ hg)] at nD5
      cases nD5
    refine ⟨(by show 4 ≤ sizeLine; omega), fun p1 np1 => ?_⟩
    have t3 := same_new (o := .lst [V.str m.z, .ref D3, .int (m.s : Int), .ref D5]) np1
    have p1g : p1 ≠ g := fun z => by
      rw [z, t2 _ _ (sm _ _ (s14 _ _ hg))] at np1
      cases np1
    refine ⟨(by show 2 ≤ sizeLine; omega), fun l nl => ?_⟩
    have t4 := same_new (o := .lst [V.ref p0, .ref p1]) nl
    have lg : l ≠ g := fun z => by
      rw [z, t3 _ _ (t2 _ _ (sm _ _ (s14 _ _ hg)))] at nl
      cases nl
    have T4 := ((sm.trans t2).trans t3).trans t4
    refine q _ l p0 p1 (s14.trans T4) upd_same lg ⟨p0g, D1, c, T4 _ _ hp0, hR1'.keep T4, cg, T4 _ _ hc4⟩ ⟨p1g, D3, D5, t4 _ _ upd_same, hR3'.keep T4, D5g, ?_⟩
    rw [t4 _ _ (t3 _ _ upd_same)]
    show _ = some (HO.lst ((m.cl ++ m.cl.map fun y => ("a" : Str) ++ y).map V.str))
    rw [List.map_append]
end
end KK
set_option Elab.async false
set_option linter.all false
set_option maxRecDepth 100000
set_option maxHeartbeats 1000000
namespace KK
open PySem PySem.Spec PyProof.Rows L2 XV NM XT XA XD LamX NB
/-! ### makers turned otherwise -/
def gR (m : Mm) (i : Nat) : List En := m.R.getD i []
def rotE (k b : Nat) (e : En) : En := ⟨(e.s + k - b) % k, e.w, e.b⟩
def rotR (m : Mm) (b i : Nat) : List En := (gR m ((i + b) % m.R.length)).map (rotE m.R.length b)
def mRot (m : Mm) (b : Nat) : Mm := ⟨m.z, (List.range m.R.length).map (rotR m b), (m.s + m.R.length - b) % m.R.length, (List.range m.R.length).map fun i => m.cl.getD ((i + b) % m.R.length) ""⟩
theorem gR_at {m : Mm} {i : Nat} (h : i < m.R.length) : m.R[i]? = some (gR m i) ∧ gR m i ∈ m.R := by
  have e : m.R[i]? = some m.R[i] := List.getElem?_eq_getElem h
  have g : gR m i = m.R[i] := by
    unfold gR
    rw [List.getD_eq_getElem?_getD, e]
    rfl
  rw [g]
  exact ⟨e, List.getElem_mem h⟩
theorem gC_at {m : Mm} (ok : MmOk m) {i : Nat} (h : i < m.R.length) : m.cl[i]? = some (m.cl.getD i "") ∧ m.cl.getD i "" ∈ m.cl := by
  have lc := ok.lc
  have e : m.cl[i]? = some (m.cl[i]'(by omega)) := List.getElem?_eq_getElem (by omega)
  have g : m.cl.getD i "" = m.cl[i]'(by omega) := by
    rw [List.getD_eq_getElem?_getD, e]
    rfl
  rw [g]
  exact ⟨e, List.getElem_mem _⟩
theorem rot_ok {m : Mm} (ok : MmOk m) {b : Nat} (hb : b < m.R.length) {k : Nat} (lo : Lo2 m k) : MmOk (mRot m b) ∧ Lo2 (mRot m b) k ∧ (mRot m b).R.length = m.R.length := by
  have l : (mRot m b).R.length = m.R.length := by
    show ((List.range m.R.length).map _).length = _
    rw [List.length_map, List.length_range]
  have row : ∀ r ∈ (mRot m b).R, r.length = m.z.length + 1 ∧ ∀ e ∈ r, e.s < m.R.length ∧ shortV (.str e.w) = true ∧ LO e.w ∧ e.w.length ≤ k := fun r hr => by
    obtain ⟨i, hi, rfl⟩ := List.mem_map.mp hr
    obtain ⟨_, hm⟩ := gR_at (m := m) (i := (i + b) % m.R.length) (Nat.mod_lt _ (by omega))
    obtain ⟨h1, h2⟩ := ok.rw _ hm
    refine ⟨by unfold rotR; rw [List.length_map]; exact h1, fun e he => ?_⟩
    obtain ⟨e0, he0, rfl⟩ := List.mem_map.mp he
    exact ⟨Nat.mod_lt _ (by omega), (h2 e0 he0).2, (lo.r _ hm e0 he0).1, (lo.r _ hm e0 he0).2⟩
  have cl : ∀ y ∈ (mRot m b).cl, y ∈ m.cl := fun y hy => by
    obtain ⟨i, hi, rfl⟩ := List.mem_map.mp hy
    exact (gC_at ok (Nat.mod_lt _ (by omega))).2
  refine ⟨⟨ok.al, ok.ascii, ok.lz, by rw [l]; exact ok.r1, by rw [l]; exact ok.r2, fun r hr => ⟨(row r hr).1, fun e he => ⟨by rw [l]; exact ((row r hr).2 e he).1, ((row r hr).2 e he).2.1⟩⟩, ?_, ?_, fun y hy => ok.hc y (cl y hy)⟩, ⟨fun r hr e he => ((row r hr).2 e he).2.2, fun y hy => lo.c y (cl y hy)⟩, l⟩
  · rw [l]
    exact Nat.mod_lt _ (by omega)
  · rw [l]
    show ((List.range m.R.length).map _).length = _
    rw [List.length_map, List.length_range]
/-- a letter more, its column written out -/
def lastE (r : List En) : En := r.getD (r.length - 1) ⟨0, "", false⟩
def qE (e : En) : En := ⟨e.s, e.w ++ (if e.b then ("q" : Str) else ("" : Str)), false⟩
def qR (r : List En) : List En := r.take (r.length - 1) ++ [qE (lastE r), lastE r]
def mQq (m : Mm) : Mm := ⟨m.z ++ ("q" : Str), m.R.map qR, m.s, m.cl⟩
def ltQ (z : Str) : Bool := decide ((cutS z (some (-1)) none).cps.toList < ("q" : Str).cps.toList)
theorem menu_q : ∀ z ∈ menu, ltQ z = true → alphV (.str (z ++ ("q" : Str))) = true ∧ (z ++ ("q" : Str)).cps.all (· < 128) = true ∧ (z ++ ("q" : Str)).length ≤ 4 ∧ (z ++ ("q" : Str)).length = z.length + 1 := by decide +kernel
theorem lastE_at {m : Mm} (ok : MmOk m) {r : List En} (hr : r ∈ m.R) : r[r.length - 1]? = some (lastE r) ∧ lastE r ∈ r := by
  have h := (ok.rw r hr).1
  have e : r[r.length - 1]? = some (r[r.length - 1]'(by omega)) := List.getElem?_eq_getElem (by omega)
  have g : lastE r = r[r.length - 1]'(by omega) := by
    unfold lastE
    rw [List.getD_eq_getElem?_getD, e]
    rfl
  rw [g]
  exact ⟨e, List.getElem_mem _⟩
theorem lo_app {a b : Str} (h : LO a) (k : LO b) : LO (a ++ b) := fun c hc => by
  have e : cz (a ++ b) = cz a ++ cz b := NP.cs_app a b
  rw [e] at hc
  rcases List.mem_append.mp hc with z | z
  · exact h c z
  · exact k c z
theorem q_ok {m : Mm} (ok : MmOk m) (mz : m.z ∈ menu) (hq : ltQ m.z = true) {k : Nat} (k10 : k ≤ 10) (lo : Lo2 m k) : MmOk (mQq m) ∧ Lo2 (mQq m) (k + 1) ∧ (mQq m).R.length = m.R.length := by
  obtain ⟨z1, z2, z3, z4⟩ := menu_q _ mz hq
  have l : (mQq m).R.length = m.R.length := List.length_map _
  have eq1 : ("q" : Str).length = 1 := by decide +kernel
  have e01 : ("" : Str).length = 0 := by decide +kernel
  have ap : ∀ a b : Str, (a ++ b).length = a.length + b.length := fun a b => by
    have e : cz (a ++ b) = cz a ++ cz b := NP.cs_app a b
    rw [cz_len, e, List.length_append, ← cz_len, ← cz_len]
  have row : ∀ r ∈ (mQq m).R, r.length = (mQq m).z.length + 1 ∧ ∀ e ∈ r, e.s < m.R.length ∧ LO e.w ∧ e.w.length ≤ k + 1 := fun r hr => by
    obtain ⟨r0, h0, rfl⟩ := List.mem_map.mp hr
    obtain ⟨h1, h2⟩ := ok.rw r0 h0
    obtain ⟨_, hl⟩ := lastE_at ok h0
    have hL := h2 _ hl
    have lL := lo.r r0 h0 _ hl
    refine ⟨?_, fun e he => ?_⟩
    · show (r0.take (r0.length - 1) ++ [qE (lastE r0), lastE r0]).length = (m.z ++ ("q" : Str)).length + 1
      rw [z4, List.length_append, List.length_take]
      show min (r0.length - 1) r0.length + 2 = _
      omega
    · rcases List.mem_append.mp he with h | h
      · have hm := List.mem_of_mem_take h
        exact ⟨(h2 e hm).1, (lo.r r0 h0 e hm).1, Nat.le_succ_of_le (lo.r r0 h0 e hm).2⟩
      · rcases List.mem_cons.mp h with h | h
        · rw [h]
          refine ⟨hL.1, ?_, ?_⟩
          · show LO ((lastE r0).w ++ (if (lastE r0).b then ("q" : Str) else ("" : Str)))
            refine lo_app lL.1 ?_
            split
            · exact LO.of (by decide +kernel)
            · exact LO.of (by decide +kernel)
          · show ((lastE r0).w ++ (if (lastE r0).b then ("q" : Str) else ("" : Str))).length ≤ k + 1
            rw [ap]
            split
            · rw [eq1]
              omega
            · rw [e01]
              omega
        · rw [List.mem_singleton.mp h]
          exact ⟨hL.1, lL.1, Nat.le_succ_of_le lL.2⟩
  refine ⟨⟨z1, z2, ?_, by rw [l]; exact ok.r1, by rw [l]; exact ok.r2, fun r hr => ⟨(row r hr).1, fun e he => ⟨by rw [l]; exact ((row r hr).2 e he).1, lo_short ((row r hr).2 e he).2.1 (by have := ((row r hr).2 e he).2.2; omega)⟩⟩, by rw [l]; exact ok.hs, by rw [l]; exact ok.lc, ok.hc⟩, ⟨fun r hr e he => ((row r hr).2 e he).2, fun y hy => ⟨(lo.c y hy).1, Nat.le_succ_of_le (lo.c y hy).2⟩⟩, l⟩
  show (m.z ++ ("q" : Str)).length ≤ 26
  omega
/-- one closing word changed -/
def mC (m : Mm) (i : Nat) (y : Str) : Mm := ⟨m.z, m.R, m.s, m.cl.take i ++ [y] ++ m.cl.drop (i + 1)⟩
theorem mC_ok {m : Mm} (ok : MmOk m) {i : Nat} (hi : i < m.R.length) {y : Str} (ly : LO y) (l2 : y.length ≤ 2) {k : Nat} (k2 : 2 ≤ k) (lo : Lo2 m k) : MmOk (mC m i y) ∧ Lo2 (mC m i y) k := by
  have lc := ok.lc
  have cl : ∀ x ∈ (mC m i y).cl, x ∈ m.cl ∨ x = y := fun x hx => by
    rcases List.mem_append.mp hx with h | h
    · rcases List.mem_append.mp h with h | h
      · exact .inl (List.mem_of_mem_take h)
      · exact .inr (List.mem_singleton.mp h)
    · exact .inl (List.mem_of_mem_drop h)
  refine ⟨⟨ok.al, ok.ascii, ok.lz, ok.r1, ok.r2, ok.rw, ok.hs, ?_, fun x hx => ?_⟩, ⟨lo.r, fun x hx => ?_⟩⟩
  · show (m.cl.take i ++ [y] ++ m.cl.drop (i + 1)).length = m.R.length
    rw [List.length_append, List.length_append, List.length_take, List.length_drop]
    show min i m.cl.length + 1 + _ = _
    omega
  · rcases cl x hx with h | h
    · exact ok.hc x h
    · rw [h]
      exact lo_short ly (by omega)
  · rcases cl x hx with h | h
    · exact lo.c x h
    · rw [h]
      exact ⟨ly, by omega⟩
/-- one word of an entry changed -/
def mE (m : Mm) (i j : Nat) (y : Str) : Mm := ⟨m.z, m.R.set i ((gR m i).set j ⟨((gR m i).getD j ⟨0, "", false⟩).s, y, ((gR m i).getD j ⟨0, "", false⟩).b⟩), m.s, m.cl⟩
theorem mE_ok {m : Mm} (ok : MmOk m) {i j : Nat} (hi : i < m.R.length) (hj : j < m.z.length + 1) {y : Str} (ly : LO y) (l2 : y.length ≤ 2) {k : Nat} (k2 : 2 ≤ k) (lo : Lo2 m k) : MmOk (mE m i j y) ∧ Lo2 (mE m i j y) k ∧ (mE m i j y).R.length = m.R.length := by
  have l : (mE m i j y).R.length = m.R.length := List.length_set
  obtain ⟨_, hm⟩ := gR_at hi
  obtain ⟨h1, h2⟩ := ok.rw _ hm
  have ej : (gR m i).getD j ⟨0, "", false⟩ ∈ gR m i := by
    have e : (gR m i)[j]? = some ((gR m i)[j]'(by omega)) := List.getElem?_eq_getElem (by omega)
    rw [List.getD_eq_getElem?_getD, e]
    exact List.getElem_mem _
  have row : ∀ r ∈ (mE m i j y).R, r.length = m.z.length + 1 ∧ ∀ e ∈ r, e.s < m.R.length ∧ shortV (.str e.w) = true ∧ LO e.w ∧ e.w.length ≤ k := fun r hr => by
    rcases List.mem_or_eq_of_mem_set hr with h | rfl
    · exact ⟨(ok.rw r h).1, fun e he => ⟨((ok.rw r h).2 e he).1, ((ok.rw r h).2 e he).2, (lo.r r h e he).1, (lo.r r h e he).2⟩⟩
    · refine ⟨by rw [List.length_set]; exact h1, fun e he => ?_⟩
      rcases List.mem_or_eq_of_mem_set he with h | rfl
      · exact ⟨(h2 e h).1, (h2 e h).2, (lo.r _ hm e h).1, (lo.r _ hm e h).2⟩
      · exact ⟨(h2 _ ej).1, lo_short ly (by show y.length ≤ 2000; omega), ly, by show y.length ≤ k; omega⟩
  exact ⟨⟨ok.al, ok.ascii, ok.lz, by rw [l]; exact ok.r1, by rw [l]; exact ok.r2, fun r hr => ⟨(row r hr).1, fun e he => ⟨by rw [l]; exact ((row r hr).2 e he).1, ((row r hr).2 e he).2.1⟩⟩, by rw [l]; exact ok.hs, by rw [l]; exact ok.lc, ok.hc⟩, ⟨fun r hr e he => ((row r hr).2 e he).2.2, lo.c⟩, l⟩
/-- put off -/
theorem str_app_len (a b : Str) : (a ++ b).length = a.length + b.length := by
  have e : cz (a ++ b) = cz a ++ cz b := NP.cs_app a b
  rw [cz_len, e, List.length_append, ← cz_len, ← cz_len]
theorem off_ok {m : Mm} (ok : MmOk m) (lo : Lo2 m 2) (l4 : m.R.length ≤ 4) : MmOk (mOff m) ∧ Lo2 (mOff m) 3 ∧ (mOff m).R.length = m.R.length := by
  have l : (mOff m).R.length = m.R.length := List.length_map _
  have ea : ("a" : Str).length = 1 := by decide +kernel
  have row : ∀ r ∈ (mOff m).R, r.length = m.z.length + 1 ∧ ∀ e ∈ r, e.s < m.R.length ∧ LO e.w ∧ e.w.length ≤ 3 := fun r hr => by
    obtain ⟨r0, h0, rfl⟩ := List.mem_map.mp hr
    refine ⟨by rw [List.length_map]; exact (ok.rw r0 h0).1, fun e he => ?_⟩
    obtain ⟨e0, he0, rfl⟩ := List.mem_map.mp he
    have lw := lo.r r0 h0 e0 he0
    refine ⟨((ok.rw r0 h0).2 e0 he0).1, lo_app lw.1 (LO.of (by decide +kernel)), ?_⟩
    show (e0.w ++ ("a" : Str)).length ≤ 3
    rw [str_app_len, ea]
    omega
  exact ⟨⟨ok.al, ok.ascii, ok.lz, by rw [l]; exact ok.r1, by rw [l]; exact ok.r2, fun r hr => ⟨(row r hr).1, fun e he => ⟨by rw [l]; exact ((row r hr).2 e he).1, lo_short ((row r hr).2 e he).2.1 (by have := ((row r hr).2 e he).2.2; omega)⟩⟩, by rw [l]; exact ok.hs, by rw [l]; exact ok.lc, ok.hc⟩, ⟨fun r hr e he => ((row r hr).2 e he).2, fun y hy => ⟨(lo.c y hy).1, Nat.le_succ_of_le (lo.c y hy).2⟩⟩, l⟩
theorem led_ok {m : Mm} (ok : MmOk m) (lo : Lo2 m 2) (l4 : m.R.length ≤ 4) : MmOk (mLed m) ∧ Lo2 (mLed m) 3 ∧ (mLed m).R.length = 2 * m.R.length := by
  have ea : ("a" : Str).length = 1 := by decide +kernel
  have l : (mLed m).R.length = 2 * m.R.length := by
    show ((m.R.map _) ++ (m.R.map _)).length = _
    rw [List.length_append, List.length_map, List.length_map]
    omega
  have r1 := ok.r1
  have hs := ok.hs
  have lc := ok.lc
  have row : ∀ r ∈ (mLed m).R, r.length = m.z.length + 1 ∧ ∀ e ∈ r, e.s < 2 * m.R.length ∧ LO e.w ∧ e.w.length ≤ 3 := fun r hr => by
    rcases List.mem_append.mp hr with h | h
    · obtain ⟨r0, h0, rfl⟩ := List.mem_map.mp h
      refine ⟨by rw [List.length_map]; exact (ok.rw r0 h0).1, fun e he => ?_⟩
      obtain ⟨e0, he0, rfl⟩ := List.mem_map.mp he
      have lw := lo.r r0 h0 e0 he0
      have := ((ok.rw r0 h0).2 e0 he0).1
      exact ⟨by show e0.s + m.R.length < _; omega, lw.1, by show e0.w.length ≤ 3; omega⟩
    · obtain ⟨r0, h0, rfl⟩ := List.mem_map.mp h
      refine ⟨by rw [List.length_map]; exact (ok.rw r0 h0).1, fun e he => ?_⟩
      obtain ⟨e0, he0, rfl⟩ := List.mem_map.mp he
      have lw := lo.r r0 h0 e0 he0
      have := ((ok.rw r0 h0).2 e0 he0).1
      refine ⟨by show e0.s + m.R.length < _; omega, lo_app (LO.of (by decide +kernel)) lw.1, ?_⟩
      show (("a" : Str) ++ e0.w).length ≤ 3
      rw [str_app_len, ea]
      omega
  have cl : ∀ y ∈ (mLed m).cl, LO y ∧ y.length ≤ 3 := fun y hy => by
    rcases List.mem_append.mp hy with h | h
    · exact ⟨(lo.c y h).1, Nat.le_succ_of_le (lo.c y h).2⟩
    · obtain ⟨y0, h0, rfl⟩ := List.mem_map.mp h
      refine ⟨lo_app (LO.of (by decide +kernel)) (lo.c y0 h0).1, ?_⟩
      have := (lo.c y0 h0).2
      rw [str_app_len, ea]
      omega
  refine ⟨⟨ok.al, ok.ascii, ok.lz, by rw [l]; omega, by rw [l]; omega, fun r hr => ⟨(row r hr).1, fun e he => ⟨by rw [l]; exact ((row r hr).2 e he).1, lo_short ((row r hr).2 e he).2.1 (by have := ((row r hr).2 e he).2.2; omega)⟩⟩, by rw [l]; show m.s < _; omega, ?_, fun y hy => lo_short (cl y hy).1 (by have := (cl y hy).2; omega)⟩, ⟨fun r hr e he => ((row r hr).2 e he).2, cl⟩, l⟩
  rw [l]
  show (m.cl ++ m.cl.map _).length = _
  rw [List.length_append, List.length_map]
  omega
end KK
set_option Elab.async false
set_option linter.all false
set_option maxRecDepth 100000
set_option maxHeartbeats 1000000
namespace KK
open PySem PySem.Spec PyProof.Rows L2 XV NM XT XA XD LamX NB
/-! ### slices, rows that are new -/
theorem cut_init (xs : List V) : cutV xs none (some (-1)) = xs.take (xs.length - 1) := by
  unfold cutV
  rw [HT.sIx_none, show HT.sIx xs.length xs.length (some (-1)) = xs.length - 1 from by
    show (if (-1 : Int) < 0 then ((-1 : Int) + (xs.length : Int)).toNat else min (-1 : Int).toNat xs.length) = _
    rw [if_pos (by decide)]
    omega, Nat.sub_zero, List.drop_zero]
theorem cut_tail (xs : List V) : cutV xs (some 1) none = xs.drop 1 := by
  unfold cutV
  rw [HT.sIx_none, show HT.sIx xs.length 0 (some 1) = min 1 xs.length from HT.sIx_nat _ _ 1]
  cases xs with
  | nil => rfl
  | cons x xs =>
    rw [List.length_cons, Nat.min_eq_left (by omega)]
    exact List.take_of_length_le (by simp)
theorem at_last {α : Type} {xs : List α} {x : α} (h : xs[xs.length - 1]? = some x) : atI xs (-1) = some x := by
  have l := (List.getElem?_eq_some_iff.mp h).1
  unfold atI ixN
  rw [if_neg (by decide), if_pos (by omega)]
  show xs[((-1 : Int) + (xs.length : Int)).toNat]? = some x
  rw [show ((-1 : Int) + (xs.length : Int)).toNat = xs.length - 1 by omega]
  exact h
theorem ixN_natF {n j : Nat} (hj : j < n) : ixN n (j : Int) = some j := by
  unfold ixN
  rw [if_pos (by omega), if_pos (by omega)]
  rfl
theorem DaAll.setAt {H : Hp} {v : V} {d : PyData} (h : Da H v d) : ∀ {xs : List V} {ds : List PyData} (i : Nat), DaAll H xs ds → DaAll H (xs.set i v) (ds.set i d)
  | _, _, _, .nil => .nil
  | _, _, 0, .cons _ r => .cons h r
  | _, _, i + 1, .cons a r => .cons a (DaAll.setAt h i r)
theorem DaAll.takeN {H : Hp} : ∀ {xs : List V} {ds : List PyData} (i : Nat), DaAll H xs ds → DaAll H (xs.take i) (ds.take i)
  | _, _, i, .nil => by
    rw [List.take_nil, List.take_nil]
    exact .nil
  | _, _, 0, .cons _ _ => .nil
  | _, _, i + 1, .cons a r => .cons a (DaAll.takeN i r)
theorem cut_lo (xs : List V) (n : Nat) : cutV xs none (some (n : Int)) = xs.take n := by
  unfold cutV
  rw [HT.sIx_none, show HT.sIx xs.length xs.length (some (n : Int)) = min n xs.length from HT.sIx_nat _ _ n, List.drop_zero, Nat.sub_zero]
  rcases Nat.le_total n xs.length with h | h
  · rw [Nat.min_eq_left h]
  · rw [Nat.min_eq_right h, List.take_of_length_le (Nat.le_refl _), List.take_of_length_le h]
theorem cut_hi (xs : List V) (n : Nat) : cutV xs (some (n : Int)) none = xs.drop n := by
  unfold cutV
  rw [HT.sIx_none, show HT.sIx xs.length 0 (some (n : Int)) = min n xs.length from HT.sIx_nat _ _ n]
  rcases Nat.le_total n xs.length with h | h
  · rw [Nat.min_eq_left h]
    exact List.take_of_length_le (by rw [List.length_drop]; exact Nat.le_refl _)
  · rw [Nat.min_eq_right h, List.drop_of_length_le (Nat.le_refl _), List.drop_of_length_le h, List.take_nil]
theorem RA.ofGet {S : List Addr} {H : Hp} : ∀ {xs : List V} {R : List (List En)}, xs.length = R.length → (∀ (j : Nat) row, R[j]? = some row → ∃ b ys, xs[j]? = some (.ref b) ∧ b ∉ S ∧ H b = some (.lst ys) ∧ DaAll H ys (row.map enD)) → RA S H xs R
  | [], [], _, _ => .nil
  | [], _ :: _, l, _ => by cases l
  | _ :: _, [], l, _ => by cases l
  | x :: xs, r :: R, l, h => by
    obtain ⟨b, ys, e1, e2, e3, e4⟩ := h 0 r rfl
    cases e1
    exact .cons e2 e3 e4 (RA.ofGet (by simpa using l) fun j row e => by
      obtain ⟨b, ys, f1, f2, f3, f4⟩ := h (j + 1) row (by simpa using e)
      exact ⟨b, ys, by simpa using f1, f2, f3, f4⟩)
/-- rows each at a place of its own, apart from g -/
def NWg (g : Addr) (H0 H : Hp) (D : Addr) (R : List (List En)) : Prop := D ≠ g ∧ ∃ xs, H D = some (.lst xs) ∧ xs.length = R.length ∧ xs.Nodup ∧ ∀ (j : Nat) row, R[j]? = some row → ∃ b ys, xs[j]? = some (.ref b) ∧ b ≠ g ∧ b ≠ D ∧ H0 b = none ∧ H b = some (.lst ys) ∧ DaAll H ys (row.map enD)
theorem NWg.but {g : Addr} {H0 H H' : Hp} {ws : List V} (hg : H g = some (.lst ws)) (b : But H H' g) {D : Addr} {R : List (List En)} (h : NWg g H0 H D R) : NWg g H0 H' D R := by
  obtain ⟨n, xs, h1, h2, h3, h4⟩ := h
  refine ⟨n, xs, b _ _ n h1, h2, h3, fun j row e => ?_⟩
  obtain ⟨b0, ys, e1, e2, e3, e0, e4, e5⟩ := h4 j row e
  exact ⟨b0, ys, e1, e2, e3, e0, b _ _ e2 e4, ens_but hg b e5⟩
theorem NWg.keep {g : Addr} {H0 H H' : Hp} (s : Same H H') {D : Addr} {R : List (List En)} (h : NWg g H0 H D R) : NWg g H0 H' D R := by
  obtain ⟨n, xs, h1, h2, h3, h4⟩ := h
  refine ⟨n, xs, s _ _ h1, h2, h3, fun j row e => ?_⟩
  obtain ⟨b0, ys, e1, e2, e3, e0, e4, e5⟩ := h4 j row e
  exact ⟨b0, ys, e1, e2, e3, e0, s _ _ e4, DaAll.keep s e5⟩
theorem NWg.rg {g : Addr} {H0 H : Hp} {D : Addr} {R : List (List En)} (h : NWg g H0 H D R) : RG2 H D g R := by
  obtain ⟨n, xs, h1, h2, h3, h4⟩ := h
  refine ⟨n, xs, h1, RA.ofGet h2 fun j row e => ?_⟩
  obtain ⟨b0, ys, e1, e2, e3, e0, e4, e5⟩ := h4 j row e
  exact ⟨b0, ys, e1, fun z => e2 (List.mem_singleton.mp z), e4, e5⟩
theorem RwN.nwg {g : Addr} {H0 H : Hp} {D : Addr} {R : List (List En)} {ws : List V} (hg : H0 g = some (.lst ws)) (s : Same H0 H) (h : RwN H0 H D R) : NWg g H0 H D R := by
  obtain ⟨xs, h1, h2, h3, h4, h5, h6⟩ := h
  refine ⟨fun z => (by rw [z, hg] at h2; cases h2), xs, h1, h3, h4, fun j row ej => ?_⟩
  obtain ⟨b, ys, a1, a2, a3, a4⟩ := h6 j row (List.getElem?_eq_some_iff.mp ej).1 ej
  exact ⟨b, ys, a1, fun z => (by rw [z, hg] at a2; cases a2), fun z => (h5 _ (List.mem_of_getElem? a1)).1 (by rw [z]), a2, a3, DaAll.keep s a4⟩
theorem NWg.set {g : Addr} {H0 H : Hp} {D b t : Addr} {R : List (List En)} {row : List En} {xs ys : List V} {e : En} {i j : Nat} (h : NWg g H0 H D R) (er : R[i]? = some row) (hD : H D = some (.lst xs)) (hb0 : xs[i]? = some (.ref b)) (hb : H b = some (.lst ys)) (ht : Da H (.ref t) (enD e)) : NWg g H0 (upd H b (.lst (ys.set j (.ref t)))) D (R.set i (row.set j e)) := by
  obtain ⟨n, xs', h1, h3, h4, h5⟩ := h
  rw [hD] at h1
  cases h1
  obtain ⟨b', ys', a1, a2, a3, a0, a4, a5⟩ := h5 i row er
  rw [hb0] at a1
  cases a1
  rw [hb] at a4
  cases a4
  refine ⟨n, xs, ?_, by rw [List.length_set, h3], h4, fun k r ej => ?_⟩
  · rw [upd_ne (Ne.symm a3)]
    exact hD
  · by_cases c : k = i
    · subst c
      have lR := (List.getElem?_eq_some_iff.mp er).1
      rw [List.getElem?_set_self lR] at ej
      cases ej
      refine ⟨b, _, hb0, a2, a3, a0, upd_same, ?_⟩
      have a6 := DaAll.setAt ht j a5
      rw [← List.map_set] at a6
      exact ens_upd1 hb a6
    · rw [List.getElem?_set_ne (fun z => c z.symm)] at ej
      obtain ⟨b2, zs, d1, d2, d3, d0, d4, d5⟩ := h5 k r ej
      refine ⟨b2, zs, d1, d2, d3, d0, ?_, ens_upd1 hb d5⟩
      rw [upd_ne fun z => ?_]
      · exact d4
      · subst z
        exact c ((List.getElem?_inj (by have := (List.getElem?_eq_some_iff.mp d1).1; exact this) h4).mp (d1.trans hb0.symm))
end KK
set_option Elab.async false
set_option linter.all false
set_option maxRecDepth 100000
set_option maxHeartbeats 4000000
namespace KK
open PySem PySem.Spec PyProof.Rows L2 XV NM XT XA XD LamX NB
/-! ### _law_turned -/
abbrev sTu : Stmt := top 41
abbrev nTu : List Str := ["_law_generator_here", "_law_one", "_law_letters", "_law_rows", "_law_first_here", "_law_last", "_law_states", "_law_way", "_law_by", "_law_new", "_law_state", "_law_row", "_law_word_here", "_law_itself", "_law_at", "_law_place", "_law_entry_here"]
theorem scTu : FnScope nTu ["_law_generator_here", "_law_one"] (defScope sTu) := ⟨rfl, rfl, rfl, by decide +kernel, rfl, by decide +kernel, by decide +kernel⟩
def spTu : Sp := fun vs H Q _ => ∃ (g a : Addr) (n : Nat) (m : Mm), vs = [.ref g, .ref a] ∧ Dr H g n ∧ n ≤ 200000 ∧ DwG g H a m ∧ MmOk m ∧ Lo2 m 3 ∧ m.z ∈ menu ∧ m.R.length ≤ 8 ∧ ∀ (H' : Hp) (p : Addr) (m' : Mm), But H H' g → Dr H' g (n + 50000) → DwG g H' p m' → MmOk m' → Lo2 m' 4 → m'.R.length ≤ 8 → Q (.ref p) H'
section
variable {P : Program} {w : World} {K : PySem.W.Frag} {mg : Str → Option Value} {base : Heap} {f : Addr} {fd : FuncData}
theorem ok_turned (F : FnP K "_law_turned" sTu f fd) (o_rand : Ok P w K mg base "_law_random" 2 ["_law_generator_here", "_law_bound"] spRand) (o_word : Ok P w K mg base "_law_word" 3 ["_law_generator_here", "_law_signs_here", "_law_most"] spWord) (o_draw : Ok P w K mg base "_law_draw" 5 ["_law_generator_here"] spDr) (z_range : mg "range" = none) (z_len : mg "len" = none) (z_list : mg "list" = none) (z_int : mg "int" = none) : FnOk P w K mg base CX0 6 f fd ["_law_generator_here", "_law_one"] spTu := by
  have nd := scTu.nd
  refine F.ok scTu (fun vs H Q E h => ?_) (fun cdv A outer s H vs Q E hr h => ?_)
  · obtain ⟨g, a, n, m, rfl, _⟩ := h
    rfl
  · obtain ⟨g, a, n, m, rfl, d0, hn, ⟨ag, p, c, ha, hR, cg, hc⟩, ok, lo, mz, l8, q⟩ := h
    have szl := sizeLine_eq
    have r5 : Room 5 (A.deeper (envOfC "_law_turned" (defScope sTu) s.heap.objs.size f cdv)) := hr
    have r3 := r5.mono (by decide : 3 ≤ 5)
    have r2 := r5.mono (by decide : 2 ≤ 5)
    refine ⟨_, PSs.nox (pss_cons (ps_asg (pv 1) (pg_lst rfl (pgs_cons (pg_name (i := 2) nd rfl (Or.inl rfl)) (pgs_cons (pg_name (i := 3) nd rfl (Or.inl rfl)) (pgs_cons (pg_name (i := 4) nd rfl (Or.inl rfl)) (pgs_cons (pg_name (i := 5) nd rfl (Or.inr rfl)) pgs_nil))))))
      (C8.pss_cut (ps_asg (pe_tup (pa_cons (pe_callB call_len (by rfl) z_len boot_len (pa_cons (pv 3) pa_nil)) (pa_cons (pe_callO o_rand r2 (by rfl) (pa_cons (pv 0) (pa_cons (pe_int) pa_nil))) pa_nil))) (pg_tup rfl (pgs_cons (pg_name (i := 6) nd rfl (Or.inr rfl)) (pgs_cons (pg_name (i := 7) nd rfl (Or.inl rfl)) pgs_nil))))
      (C8.pss_cut (ps_if (pt_cmpR op_eq (pv 7) pe_int (nomark _)) (pss_one (ps_ret (pe_callO o_draw r5 (by rfl) (pa_cons (pv 0) pa_nil)))) pss_nil)
      (C8.pss_cut (ps_if (pt_cmpR op_eq (pv 7) pe_int (nomark _)) (C8.pss_cut (ps_asg (pe_tup (pa_cons (pe_callO o_rand r2 (by rfl) (pa_cons (pv 0) (pa_cons (pv 6) pa_nil))) (pa_cons (pe_lst pa_nil) pa_nil))) (pg_tup rfl (pgs_cons (pg_name (i := 8) nd rfl (Or.inr rfl)) (pgs_cons (pg_name (i := 9) nd rfl (Or.inl rfl)) pgs_nil))))
      (C8.pss_cut (ps_for PassesOwn.never rfl (pi_range1 (by rfl) z_range (pa_cons (pv 6) pa_nil)) (pg_name (i := 10) nd rfl (Or.inl rfl))
        (pss_cons (ps_set (i := 11) nd rfl (Or.inl rfl) (pe_ix (ix_listK (K := K) rfl) (pv 3) (pe_op op_mod (pe_callTy call_int1 (by rfl) z_int (by decide +kernel) (pa_cons (pe_op op_add (pv 10) (pv 8)) pa_nil)) (pv 6)) (fun _ _ => rfl)))
      (pss_one (ps_expr (pe_bm PySem.F.plainAttrs_list PySem.F.slot_list_append PySem.F.type_list_append mt_append (pv 9) (pa_cons (pe_lc (own := [("_law_entry_here", 16)]) (g := gName 16) (by rfl) nd (pi_list (pv 11)) (blkOk_by (N := nTu) (sc := defScope sTu) (own := [("_law_entry_here", 16)]) (by decide +kernel)) (fun _ _ _ _ _ => pg_name (i := 16) nd rfl (Or.inl rfl)) (fun _ _ _ _ _ => pts_nil)
            (fun _ _ _ _ _ => pe_tup (pa_cons (pe_op op_mod (pe_callTy call_int1 (by rfl) z_int (by decide +kernel) (pa_cons (pe_op op_sub (pe_op op_add (pe_ix (ix_tupK (K := K) rfl) (pv 16) pe_int (fun _ _ => rfl)) (pv 6)) (pv 8)) pa_nil)) (pv 6)) (pa_cons (pe_ix (ix_tupK (K := K) rfl) (pv 16) pe_int (fun _ _ => rfl)) (pa_cons (pe_ix (ix_tupK (K := K) rfl) (pv 16) pe_int (fun _ _ => rfl)) pa_nil))))) pa_nil))))))
      (pss_one (ps_ret (pe_lst (pa_cons (pv 2) (pa_cons (pv 9) (pa_cons (pe_op op_mod (pe_callTy call_int1 (by rfl) z_int (by decide +kernel) (pa_cons (pe_op op_sub (pe_op op_add (pv 4) (pv 6)) (pv 8)) pa_nil)) (pv 6)) (pa_cons (pe_lc (own := [("_law_state", 10)]) (g := gName 10) (by rfl) nd (pi_range1 (by rfl) z_range (pa_cons (pv 6) pa_nil)) (blkOk_by (N := nTu) (sc := defScope sTu) (own := [("_law_state", 10)]) (by decide +kernel)) (fun _ _ _ _ _ => pg_name (i := 10) nd rfl (Or.inl rfl)) (fun _ _ _ _ _ => pts_nil)
            (fun _ _ _ _ _ => pe_ix (ix_listK (K := K) rfl) (pv 5) (pe_op op_mod (pe_callTy call_int1 (by rfl) z_int (by decide +kernel) (pa_cons (pe_op op_add (pv 10) (pv 8)) pa_nil)) (pv 6)) (fun _ _ => rfl))) pa_nil))))))))) pss_nil)
      (C8.pss_cut (ps_if (PW.pt (pw_and (pt_cmpR op_eq (pv 7) pe_int (nomark _)) (pw_and1 (pt_cmpR op_lt_str (pe_slice sl_str (pv 2) (po_some (pe_un un_neg pe_int)) po_none) pe_str (nomark _))))) (pss_cons (ps_set (i := 9) nd rfl (Or.inl rfl) (pe_lst pa_nil))
      (C8.pss_cut (ps_for PassesOwn.never rfl (pi_list (pv 3)) (pg_name (i := 11) nd rfl (Or.inl rfl))
        (pss_cons (ps_asg (pe_ix (ix_listK (K := K) rfl) (pv 11) (pe_un un_neg pe_int) (fun _ _ => rfl)) (pg_tup rfl (pgs_cons (pg_name (i := 10) nd rfl (Or.inl rfl)) (pgs_cons (pg_name (i := 12) nd rfl (Or.inl rfl)) (pgs_cons (pg_name (i := 13) nd rfl (Or.inl rfl)) pgs_nil)))))
      (pss_one (ps_expr (pe_bm PySem.F.plainAttrs_list PySem.F.slot_list_append PySem.F.type_list_append mt_append (pv 9) (pa_cons (pe_op op_cat (pe_slice sl_list (pv 11) po_none (po_some (pe_un un_neg pe_int))) (pe_lst (pa_cons (pe_tup (pa_cons (pv 10) (pa_cons (pe_op op_add_str (pv 12) (pe_ifExp (pt_val (pv 13)) pe_str pe_str)) (pa_cons (pe_bl) pa_nil)))) (pa_cons (pe_ix (ix_listK (K := K) rfl) (pv 11) (pe_un un_neg pe_int) (fun _ _ => rfl)) pa_nil)))) pa_nil))))))
      (pss_one (ps_ret (pe_lst (pa_cons (pe_op op_add_str (pv 2) (pe_str)) (pa_cons (pv 9) (pa_cons (pv 4) (pa_cons (pv 5) pa_nil))))))))) pss_nil)
      (C8.pss_cut (ps_par (i := 9) (j := 14) rfl nd rfl rfl (by decide) rfl rfl (pa_cons (pe_lc (own := [("_law_row", 11)]) (g := gName 11) (by rfl) nd (pi_list (pv 3)) (blkOk_by (N := nTu) (sc := defScope sTu) (own := [("_law_row", 11)]) (by decide +kernel)) (fun _ _ _ _ _ => pg_name (i := 11) nd rfl (Or.inl rfl)) (fun _ _ _ _ _ => pts_nil)
            (fun _ _ _ _ _ => pe_callTy (call_list_ofK (K := K) rfl) (by rfl) z_list (by decide +kernel) (pa_cons (pv 11) pa_nil))) (pa_cons (pe_callO o_rand r2 (by rfl) (pa_cons (pv 0) (pa_cons (pv 6) pa_nil))) pa_nil)) (by rfl))
      (C8.pss_cut (ps_if (pt_cmpR op_eq (pv 7) pe_int (nomark _)) (pss_one (ps_ret (pe_lst (pa_cons (pv 2) (pa_cons (pv 9) (pa_cons (pv 4) (pa_cons (pe_op op_cat (pe_op op_cat (pe_slice sl_list (pv 5) po_none (po_some (pv 14))) (pe_lst (pa_cons (pe_callO o_word r3 (by rfl) (pa_cons (pv 0) (pa_cons pe_str (pa_cons pe_int pa_nil)))) pa_nil))) (pe_slice sl_list (pv 5) (po_some (pe_op op_add (pv 14) (pe_int))) po_none)) pa_nil))))))) pss_nil)
      (C8.pss_cut (ps_set (i := 15) nd rfl (Or.inl rfl) (pe_callO o_rand r2 (by rfl) (pa_cons (pv 0) (pa_cons (pe_op op_add (pe_callB call_len_str (by rfl) z_len boot_len (pa_cons (pv 2) pa_nil)) (pe_int)) pa_nil))))
      (C8.pss_cut (ps_asg (pe_ix (ix_listK (K := K) rfl) (pe_ix (ix_listK (K := K) rfl) (pv 9) (pv 14) (fun _ _ => rfl)) (pv 15) (fun _ _ => rfl)) (pg_tup rfl (pgs_cons (pg_name (i := 10) nd rfl (Or.inl rfl)) (pgs_cons (pg_name (i := 12) nd rfl (Or.inl rfl)) (pgs_cons (pg_name (i := 13) nd rfl (Or.inl rfl)) pgs_nil)))))
      (C8.pss_cut (ps_asg (pe_tup (pa_cons (pv 10) (pa_cons (pe_callO o_word r3 (by rfl) (pa_cons (pv 0) (pa_cons pe_str (pa_cons pe_int pa_nil)))) (pa_cons (pv 13) pa_nil)))) (pg_sub (pe_ix (ix_listK (K := K) rfl) (pv 9) (pv 14) (fun _ _ => rfl)) (pv 15) set_list))
      (pss_one (ps_ret (pe_lst (pa_cons (pv 2) (pa_cons (pv 9) (pa_cons (pv 4) (pa_cons (pv 5) pa_nil))))))))))))))))), ?_⟩
    obtain ⟨ws, hg⟩ := dr_lst d0
    obtain ⟨_, xs0, hp0, hA0⟩ := id hR
    have lx0 := hA0.len
    have ok1 := ok.r1
    have ok2 := ok.r2
    have lz := ok.lz
    have lc := ok.lc
    refine ⟨_, rfl, a, _, rfl, SqL.of ha, rfl, _, _, rfl, _, _, rfl, _, _, rfl, _, _, rfl, rfl, ?_⟩
    refine ⟨fun σ' H' => ∃ wy : Nat, σ' = [some (.ref g), some (.ref a), some (.str m.z), some (.ref p), some (.int (m.s : Int)), some (.ref c), some (.int (m.R.length : Int)), some (.int (wy : Int)), none, none, none, none, none, none, none, none, none] ∧ But H H' g ∧ Dr H' g (n + 20), ?_, ?_⟩
    · refine ⟨_, rfl, _, m.R.length, rfl, .inl ⟨_, SqL.of hp0, lx0.symm⟩, _, rfl, g, n, 5, rfl, d0, by omega, by decide, by decide +kernel, fun H1 w0 w1 w2 b1 d1 => ⟨(by show 2 ≤ sizeLine; omega), fun t nt => ⟨t, _, rfl, SqT.of upd_same, rfl, _, _, rfl, _, _, rfl, rfl, ?_⟩⟩⟩
      obtain ⟨w0, rfl⟩ := Int.eq_ofNat_of_zero_le w1
      exact ⟨w0, rfl, fun b o nb e => same_new nt _ _ (b1 _ _ nb e), dr_newK d1 nt⟩
    rintro σ' H1 ⟨wy, rfl, b1, d1⟩
    have hR1 := hR.but hg b1
    have hc1 := b1 _ _ cg hc
    obtain ⟨ws1, hg1⟩ := dr_lst d1
    obtain ⟨_, xs, hp, hA⟩ := id hR1
    have hP := hA.da
    have lx := hA.len
    clear hA0 hp0 lx0 hR hc hg xs0 ws d0
    -- drawn anew
    refine ⟨fun σ' H' => σ' = [some (.ref g), some (.ref a), some (.str m.z), some (.ref p), some (.int (m.s : Int)), some (.ref c), some (.int (m.R.length : Int)), some (.int (wy : Int)), none, none, none, none, none, none, none, none, none] ∧ H1 = H', ?_, ?_⟩
    · refine ⟨_, rfl, rfl, _, rfl, ite2 (fun _ => ?_) (fun _ => ⟨rfl, rfl⟩)⟩
      exact ⟨_, rfl, g, n + 20, rfl, d1, by omega, fun H2 p' m' b2 d2 dw ok' lo' mz' l4 => q H2 p' m' (b1.trans b2) (d2.mono (by omega)) dw ok' (lo'.mono (by omega)) (by omega)⟩
    rintro σ' _ ⟨rfl, rfl⟩
    -- turned round
    refine ⟨fun σ' H' => σ' = [some (.ref g), some (.ref a), some (.str m.z), some (.ref p), some (.int (m.s : Int)), some (.ref c), some (.int (m.R.length : Int)), some (.int (wy : Int)), none, none, none, none, none, none, none, none, none] ∧ H1 = H', ?_, ?_⟩
    · refine ⟨_, rfl, rfl, _, rfl, ite2 (fun _ => ?_) (fun _ => ⟨rfl, rfl⟩)⟩
      refine ⟨fun σ' H' => ∃ (bb : Nat) (D : Addr), σ' = [some (.ref g), some (.ref a), some (.str m.z), some (.ref p), some (.int (m.s : Int)), some (.ref c), some (.int (m.R.length : Int)), some (.int (wy : Int)), some (.int (bb : Int)), some (.ref D), none, none, none, none, none, none, none] ∧ bb < m.R.length ∧ ∃ H2, But H1 H2 g ∧ Dr H2 g (n + 60) ∧ H2 D = none ∧ Same H2 H' ∧ H' D = some (.lst []), ?_, ?_⟩
      · refine ⟨_, rfl, _, rfl, g, _, (m.R.length : Int), rfl, d1, by omega, by omega, Int.lt_of_le_of_lt (b := 12) (by omega) (by decide +kernel), fun H2 k0 k1 k2 b2 d2 => ⟨(by show 0 ≤ sizeLine; omega), fun D nD => ⟨(by show 2 ≤ sizeLine; omega), fun t nt => ⟨t, _, rfl, SqT.of upd_same, rfl, _, _, rfl, _, _, rfl, rfl, ?_⟩⟩⟩⟩
        obtain ⟨k0, rfl⟩ := Int.eq_ofNat_of_zero_le k1
        exact ⟨k0, D, rfl, by omega, H2, b2, d2.mono (by omega), nD, (same_new nD).trans (same_new nt), same_new nt _ _ upd_same⟩
      rintro σ' H3 ⟨bb, D, rfl, lb, H2, b2, d2, nD, s23, hD3⟩
      have hR2 := hR1.but hg1 b2
      have hc2 := b2 _ _ cg hc1
      obtain ⟨ws2, hg2⟩ := dr_lst d2
      obtain ⟨_, xs, hp, hA⟩ := id hR2
      have hP := hA.da
      have lx := hA.len
      have Dg : D ≠ g := fun z => by
        rw [z, hg2] at nD
        cases nD
      have ev : ∀ x : Nat, ((x : Int) + (m.R.length : Int) - (bb : Int)) % (m.R.length : Int) = (((x + m.R.length - bb) % m.R.length : Nat) : Int) := fun x => by
        rw [show ((x : Int) + (m.R.length : Int) - (bb : Int)) = ((x + m.R.length - bb : Nat) : Int) by omega]
        rfl
      refine ⟨fun σ' H' => (∃ x10 x11, σ' = [some (.ref g), some (.ref a), some (.str m.z), some (.ref p), some (.int (m.s : Int)), some (.ref c), some (.int (m.R.length : Int)), some (.int (wy : Int)), some (.int (bb : Int)), some (.ref D), x10, x11, none, none, none, none, none]) ∧ Same H2 H' ∧ ∃ acc, H' D = some (.lst acc) ∧ RA [D, g] H' acc ((List.range m.R.length).map (rotR m bb)), ?_, ?_⟩
      · refine ⟨_, rfl, (m.R.length : Int), rfl, by omega, by omega, for_range (lo := 0) (n := (m.R.length : Int).toNat) (fun i σ H' => (∃ x10 x11, σ = [some (.ref g), some (.ref a), some (.str m.z), some (.ref p), some (.int (m.s : Int)), some (.ref c), some (.int (m.R.length : Int)), some (.int (wy : Int)), some (.int (bb : Int)), some (.ref D), x10, x11, none, none, none, none, none]) ∧ Same H2 H' ∧ ∃ acc, H' D = some (.lst acc) ∧ RA [D, g] H' acc ((List.range i).map (rotR m bb))) ⟨⟨_, _, rfl⟩, s23, [], hD3, .nil⟩ ?_ (fun σ' H' z => z)⟩
        rintro i σ H4 hi ⟨⟨x10, x11, rfl⟩, s4, acc, hD, hA4⟩
        rw [Int.zero_add]
        have hi : i < m.R.length := hi
        have lacc := hA4.len
        rw [List.length_map, List.length_range] at lacc
        have lm : (i + bb) % m.R.length < m.R.length := Nat.mod_lt _ (by omega)
        obtain ⟨er, hm⟩ := gR_at lm
        have ex : xs[(i + bb) % m.R.length]? = some (xs[(i + bb) % m.R.length]'(by omega)) := List.getElem?_eq_getElem (by omega)
        obtain ⟨b, row, ys, eb, er', hb, hy⟩ := rs_at hP ex
        rw [er] at er'
        cases er'
        rw [eb] at ex
        have hb4 := s4 _ _ hb
        have hg4 := s4 _ _ hg2
        refine ⟨_, rfl, _, rfl, _, rfl, _, _, rfl, rfl, .inl ⟨_, rfl, _, rfl, _, _, rfl, rfl, by omega, p, xs, _, _, rfl, rfl, SqL.of (s4 _ _ hp), (show atI xs (((i + bb) % m.R.length : Nat) : Int) = _ from atI_nat ex), ?_⟩⟩
        obtain ⟨lrow, hrow⟩ := ok.rw _ hm
        have lys := da_len hy
        rw [List.length_map] at lys
        refine ⟨_, rfl, .inl ⟨rfl, _, SqL.of hD⟩, _, rfl, b, rfl, ⟨_, SqL.of hb4⟩, fun D2 nD2 => lc_list (K := K) (a := b) (xs := ys) (fun k Hk => Same H4 Hk ∧ ∃ zs, Hk D2 = some (.lst zs) ∧ DaAll Hk zs ((((gR m ((i + bb) % m.R.length)).take k).map (rotE m.R.length bb)).map enD)) ⟨same_new nD2, [], upd_same, .nil⟩ (fun k Hk _ p => SqL.of (p.1 _ _ hb4)) ?_ ?_⟩
        · rintro k u Hk hk ⟨s2, zs, hD2, hZ⟩
          obtain ⟨d, ed, hd⟩ := hy.get hk
          rw [List.getElem?_map] at ed
          obtain ⟨e, ee, rfl⟩ := Option.map_eq_some_iff.mp ed
          obtain ⟨t, rfl, ht⟩ := da_en hd
          have lk := (List.getElem?_eq_some_iff.mp ee).1
          have ht2 := s2 _ _ (s4 _ _ ht)
          have lz2 := da_len hZ
          rw [List.length_map, List.length_map, List.length_take] at lz2
          refine ⟨rfl, _, rfl, t, _, _, _, rfl, rfl, SqT.of ht2, rfl, _, rfl, _, _, rfl, rfl, _, rfl, _, _, rfl, rfl, .inl ⟨_, rfl, _, rfl, _, _, rfl, rfl, by omega, _, rfl, t, _, _, _, rfl, rfl, SqT.of ht2, rfl, _, rfl, t, _, _, _, rfl, rfl, SqT.of ht2, rfl, (by show 3 ≤ sizeLine; omega), fun T nT => ?_⟩⟩
          have s3 := same_new (o := .tup [.int (((e.s : Int) + (m.R.length : Int) - (bb : Int)) % (m.R.length : Int)), .str e.w, .bl e.b]) nT
          refine ⟨_, s3 _ _ hD2, small1000 (by omega), fun q o e0 => ?_, zs ++ [.ref T], upd_same, ?_⟩
          · rw [upd_ne (ne_of_none e0 nD2)]
            exact s3 _ _ (s2 _ _ e0)
          · rw [List.take_add_one, ee, List.map_append]
            have hT : Da (upd Hk T (.tup [.int (((e.s : Int) + (m.R.length : Int) - (bb : Int)) % (m.R.length : Int)), .str e.w, .bl e.b])) (.ref T) (enD (rotE m.R.length bb e)) := .tup (by rw [upd_same, ev]; rfl) (.cons (.int _) (.cons (.str _) (.cons (.bl _) .nil)))
            have hZ2 : DaAll (upd Hk T (.tup [.int (((e.s : Int) + (m.R.length : Int) - (bb : Int)) % (m.R.length : Int)), .str e.w, .bl e.b])) (zs ++ [.ref T]) (((((gR m ((i + bb) % m.R.length)).take k).map (rotE m.R.length bb)) ++ [rotE m.R.length bb e]).map enD) := by
              rw [List.map_append]
              exact DaAll.app (DaAll.keep s3 hZ) (.cons hT .nil)
            exact ens_upd1 (s3 _ _ hD2) hZ2
        · rintro Hk ⟨s2, zs, hD2, hZ⟩
          rw [lys, List.take_length] at hZ
          have hDD := s2 _ _ hD
          have n2 : D2 ∉ [D, g] := fun z => by
            rcases List.mem_cons.mp z with z | z
            · rw [z, hD] at nD2
              cases nD2
            · rw [List.mem_singleton.mp z, hg4] at nD2
              cases nD2
          refine ⟨D, acc, .ref D2, rfl, rfl, hDD, small1000 (by omega), ⟨_, _, rfl⟩, fun q o e0 => ?_, acc ++ [.ref D2], upd_same, ?_⟩
          · rw [upd_ne (ne_of_none e0 nD)]
            exact s2 _ _ (s4 _ _ e0)
          · rw [List.range_succ, List.map_append]
            exact RA.upd hDD List.mem_cons_self (RA.snoc n2 hD2 hZ (hA4.keep s2))
      rintro σ' H4 ⟨⟨x10, x11, rfl⟩, s4, acc, hD, hA4⟩
      have hc4 := s4 _ _ hc2
      have hs := ok.hs
      refine ⟨_, rfl, _, rfl, _, rfl, _, rfl, _, _, rfl, rfl, _, rfl, _, _, rfl, rfl, .inl ⟨_, rfl, _, rfl, _, _, rfl, rfl, by omega, _, rfl, (m.R.length : Int), rfl, by omega, by omega, fun D2 nD2 => lc_range (lo := 0) (n := (m.R.length : Int).toNat) (fun i H' => Same H4 H' ∧ H' D2 = some (.lst (((List.range i).map fun i => m.cl.getD ((i + bb) % m.R.length) "").map V.str))) ⟨same_new nD2, upd_same⟩ ?_ ?_⟩⟩
      · rintro i H5 hi ⟨s5, hD2⟩
        have hi : i < m.R.length := hi
        obtain ⟨ec, _⟩ := gC_at ok (i := (i + bb) % m.R.length) (Nat.mod_lt _ (by omega))
        have ec2 : (m.cl.map V.str)[(i + bb) % m.R.length]? = some (.str (m.cl.getD ((i + bb) % m.R.length) "")) := by
          rw [List.getElem?_map, ec]
          rfl
        refine ⟨rfl, _, rfl, _, rfl, _, rfl, _, _, rfl, rfl, .inl ⟨_, rfl, _, rfl, _, _, rfl, rfl, by omega, c, _, _, _, rfl, rfl, SqL.of (s5 _ _ hc4), (by rw [Int.zero_add]; exact (show atI _ (((i + bb) % m.R.length : Nat) : Int) = _ from atI_nat ec2)), _, hD2, ?_, fun q o e0 => ?_, ?_⟩⟩
        · rw [List.length_map, List.length_map, List.length_range]
          exact small1000 (by omega)
        · rw [upd_ne (ne_of_none e0 nD2)]
          exact s5 _ _ e0
        · rw [upd_same, List.range_succ, List.map_append, List.map_append]
          rfl
      rintro H5 ⟨s5, hD2⟩
      have D2g : D2 ≠ g := fun z => by
        rw [z, s4 _ _ hg2] at nD2
        cases nD2
      refine ⟨(by show 4 ≤ sizeLine; omega), fun a' na => ?_⟩
      have s6 := same_new (o := .lst [V.str m.z, .ref D, .int (((m.s : Int) + (m.R.length : Int) - (bb : Int)) % (m.R.length : Int)), .ref D2]) na
      have ag' : a' ≠ g := fun z => by
        rw [z, s5 _ _ (s4 _ _ hg2)] at na
        cases na
      obtain ⟨ro1, ro2, ro3⟩ := rot_ok ok lb lo
      have S6 := (s4.trans s5).trans s6
      refine q _ a' (mRot m bb) ((b1.trans b2).trans (Same.but S6)) (Dr.keepS S6 (d2.mono (by omega))) ⟨ag', D, D2, (by rw [upd_same]; exact congrArg (fun z : Int => some (HO.lst [V.str m.z, V.ref D, V.int z, V.ref D2])) (ev m.s)), ⟨Dg, acc, s6 _ _ (s5 _ _ hD), ((hA4.keep s5).keep s6).sub fun x hx => List.mem_cons_of_mem _ hx⟩, D2g, s6 _ _ hD2⟩ ro1 (ro2.mono (by omega)) (by omega)
    rintro σ' _ ⟨rfl, rfl⟩
    -- a letter more
    refine ⟨fun σ' H' => σ' = [some (.ref g), some (.ref a), some (.str m.z), some (.ref p), some (.int (m.s : Int)), some (.ref c), some (.int (m.R.length : Int)), some (.int (wy : Int)), none, none, none, none, none, none, none, none, none] ∧ H1 = H', ?_, ?_⟩
    · refine ⟨_, rfl, rfl, _, rfl, ite2 (fun _ => ?_) (fun _ => ⟨rfl, rfl⟩)⟩
      refine ⟨_, rfl, _, rfl, _, rfl, _, rfl, by omega, _, _, rfl, rfl, _, rfl, ite2 (fun hq => ?_) (fun _ => ⟨rfl, rfl⟩)⟩
      have hq : ltQ m.z = true := hq
      refine ⟨(by show 0 ≤ sizeLine; omega), fun D nD => ?_⟩
      have Dg : D ≠ g := fun z => by
        rw [z, hg1] at nD
        cases nD
      refine ⟨fun σ' H' => (∃ x10 x11 x12 x13, σ' = [some (.ref g), some (.ref a), some (.str m.z), some (.ref p), some (.int (m.s : Int)), some (.ref c), some (.int (m.R.length : Int)), some (.int (wy : Int)), none, some (.ref D), x10, x11, x12, x13, none, none, none]) ∧ Same H1 H' ∧ ∃ acc, H' D = some (.lst acc) ∧ RA [D, g] H' acc (m.R.map qR), ?_, ?_⟩
      · have s0 := same_new (o := .lst []) nD
        refine ⟨_, rfl, p, rfl, ⟨_, SqL.of (s0 _ _ hp)⟩, for_list (K := K) (a := p) (xs := xs) (fun i σ H' => (∃ x10 x11 x12 x13, σ = [some (.ref g), some (.ref a), some (.str m.z), some (.ref p), some (.int (m.s : Int)), some (.ref c), some (.int (m.R.length : Int)), some (.int (wy : Int)), none, some (.ref D), x10, x11, x12, x13, none, none, none]) ∧ Same H1 H' ∧ ∃ acc, H' D = some (.lst acc) ∧ RA [D, g] H' acc ((m.R.take i).map qR)) ⟨⟨_, _, _, _, rfl⟩, s0, [], upd_same, .nil⟩ (fun i σ H' _ p => SqL.of (p.2.1 _ _ hp)) ?_ ?_⟩
        · rintro i u σ H4 hi ⟨⟨x10, x11, x12, x13, rfl⟩, s4, acc, hD, hA4⟩
          obtain ⟨b, row, ys, rfl, er, hb, hy⟩ := rs_at hP hi
          have li := (List.getElem?_eq_some_iff.mp er).1
          have lacc := hA4.len
          rw [List.length_map, List.length_take] at lacc
          have hm := List.mem_of_getElem? er
          obtain ⟨lrow, hrow⟩ := ok.rw row hm
          obtain ⟨el, ml⟩ := lastE_at ok hm
          obtain ⟨t, ey, ht⟩ := en_at hy el
          have lys := da_len hy
          rw [List.length_map] at lys
          have hb4 := s4 _ _ hb
          have ht4 := s4 _ _ ht
          have hg4 := s4 _ _ hg1
          have el2 : atI ys (-1) = some (.ref t) := at_last (by rw [lys]; exact ey)
          refine ⟨_, rfl, _, rfl, b, ys, _, _, rfl, rfl, SqL.of hb4, el2, t, _, rfl, SqT.of ht4, rfl, _, _, rfl, _, _, rfl, _, _, rfl, rfl, ?_⟩
          have lew := short_len (hrow _ ml).2
          have eq1 : ("q" : Str).length = 1 := by decide +kernel
          have e01 : ("" : Str).length = 0 := by decide +kernel
          refine ⟨_, rfl, .inl ⟨rfl, _, SqL.of hD⟩, _, rfl, _, rfl, _, rfl, b, ys, rfl, SqL.of hb4, fun l1 nl1 => ?_⟩
          have t1 := same_new (o := .lst (cutV ys none (some (-1)))) nl1
          refine ⟨_, rfl, _, rfl, _, rfl, (lastE row).b, rfl, ?_⟩
          cases hb3 : (lastE row).b with
          | true =>
            have ew : (qE (lastE row)).w = (lastE row).w ++ ("q" : Str) := by
              unfold qE
              rw [hb3]
              rfl
            refine iteT ⟨_, _, rfl, rfl, (by rw [eq1]; omega), (by show 3 ≤ sizeLine; omega), fun T nT => ?_⟩
            have t2 := same_new (o := .tup [.int ((lastE row).s : Int), .str ((lastE row).w ++ ("q" : Str)), .bl false]) nT
            refine ⟨_, rfl, _, rfl, b, ys, _, _, rfl, rfl, SqL.of (t2 _ _ (t1 _ _ hb4)), el2, (by show 2 ≤ sizeLine; omega), fun l2 nl2 => ?_⟩
            have t3 := same_new (o := .lst [V.ref T, .ref t]) nl2
            refine ⟨l1, l2, _, _, rfl, rfl, t3 _ _ (t2 _ _ upd_same), upd_same, (by have := cutV_length ys none (some (-1)); show _ + 2 ≤ sizeLine; omega), fun l3 nl3 => ?_⟩
            have t4 := same_new (o := .lst (cutV ys none (some (-1)) ++ [V.ref T, .ref t])) nl3
            have T4 := ((t1.trans t2).trans t3).trans t4
            have n3 : l3 ∉ [D, g] := fun z => by
              rcases List.mem_cons.mp z with z | z
              · rw [z, t3 _ _ (t2 _ _ (t1 _ _ hD))] at nl3
                cases nl3
              · rw [List.mem_singleton.mp z, t3 _ _ (t2 _ _ (t1 _ _ hg4))] at nl3
                cases nl3
            refine ⟨D, acc, .ref l3, rfl, rfl, T4 _ _ hD, small1000 (by omega), ⟨_, _, _, _, rfl⟩, fun q o e0 => ?_, acc ++ [.ref l3], upd_same, ?_⟩
            · rw [upd_ne (ne_of_none e0 nD)]
              exact T4 _ _ (s4 _ _ e0)
            · rw [List.take_add_one, er, List.map_append]
              have hT := t4 _ _ (t3 _ _ (upd_same (H := upd H4 l1 (.lst (cutV ys none (some (-1))))) (a := T) (o := .tup [.int ((lastE row).s : Int), .str ((lastE row).w ++ ("q" : Str)), .bl false])))
              have h3 := upd_same (H := upd (upd (upd H4 l1 (.lst (cutV ys none (some (-1))))) T (.tup [.int ((lastE row).s : Int), .str ((lastE row).w ++ ("q" : Str)), .bl false])) l2 (.lst [V.ref T, .ref t])) (a := l3) (o := .lst (cutV ys none (some (-1)) ++ [V.ref T, .ref t]))
              have hA8 := hA4.keep T4
              have hD8 := T4 _ _ hD
              have hy8 := hy.keep (s4.trans T4)
              have ht8 := T4 _ _ ht4
              generalize upd (upd (upd (upd H4 l1 (.lst (cutV ys none (some (-1))))) T (.tup [.int ((lastE row).s : Int), .str ((lastE row).w ++ ("q" : Str)), .bl false])) l2 (.lst [V.ref T, .ref t])) l3 (.lst (cutV ys none (some (-1)) ++ [V.ref T, .ref t])) = H8 at *
              have dT : Da H8 (.ref T) (enD (qE (lastE row))) := by
                show Da H8 (.ref T) (.tuple [.int ((lastE row).s : Int), .str (qE (lastE row)).w, .bool false])
                rw [ew]
                exact .tup hT (.cons (.int _) (.cons (.str _) (.cons (.bl _) .nil)))
              have dt : Da H8 (.ref t) (enD (lastE row)) := .tup ht8 (.cons (.int _) (.cons (.str _) (.cons (.bl _) .nil)))
              have hZ : DaAll H8 (cutV ys none (some (-1)) ++ [V.ref T, .ref t]) ((qR row).map enD) := by
                rw [cut_init, lys]
                unfold qR
                rw [List.map_append, List.map_take]
                exact DaAll.app (DaAll.takeN _ hy8) (.cons dT (.cons dt .nil))
              exact RA.upd hD8 List.mem_cons_self (RA.snoc n3 h3 hZ hA8)
          | false =>
            have ew : (qE (lastE row)).w = (lastE row).w ++ ("" : Str) := by
              unfold qE
              rw [hb3]
              rfl
            refine iteF ⟨_, _, rfl, rfl, (by rw [e01]; omega), (by show 3 ≤ sizeLine; omega), fun T nT => ?_⟩
            have t2 := same_new (o := .tup [.int ((lastE row).s : Int), .str ((lastE row).w ++ ("" : Str)), .bl false]) nT
            refine ⟨_, rfl, _, rfl, b, ys, _, _, rfl, rfl, SqL.of (t2 _ _ (t1 _ _ hb4)), el2, (by show 2 ≤ sizeLine; omega), fun l2 nl2 => ?_⟩
            have t3 := same_new (o := .lst [V.ref T, .ref t]) nl2
            refine ⟨l1, l2, _, _, rfl, rfl, t3 _ _ (t2 _ _ upd_same), upd_same, (by have := cutV_length ys none (some (-1)); show _ + 2 ≤ sizeLine; omega), fun l3 nl3 => ?_⟩
            have t4 := same_new (o := .lst (cutV ys none (some (-1)) ++ [V.ref T, .ref t])) nl3
            have T4 := ((t1.trans t2).trans t3).trans t4
            have n3 : l3 ∉ [D, g] := fun z => by
              rcases List.mem_cons.mp z with z | z
              · rw [z, t3 _ _ (t2 _ _ (t1 _ _ hD))] at nl3
                cases nl3
              · rw [List.mem_singleton.mp z, t3 _ _ (t2 _ _ (t1 _ _ hg4))] at nl3
                cases nl3
            refine ⟨D, acc, .ref l3, rfl, rfl, T4 _ _ hD, small1000 (by omega), ⟨_, _, _, _, rfl⟩, fun q o e0 => ?_, acc ++ [.ref l3], upd_same, ?_⟩
            · rw [upd_ne (ne_of_none e0 nD)]
              exact T4 _ _ (s4 _ _ e0)
            · rw [List.take_add_one, er, List.map_append]
              have hT := t4 _ _ (t3 _ _ (upd_same (H := upd H4 l1 (.lst (cutV ys none (some (-1))))) (a := T) (o := .tup [.int ((lastE row).s : Int), .str ((lastE row).w ++ ("" : Str)), .bl false])))
              have h3 := upd_same (H := upd (upd (upd H4 l1 (.lst (cutV ys none (some (-1))))) T (.tup [.int ((lastE row).s : Int), .str ((lastE row).w ++ ("" : Str)), .bl false])) l2 (.lst [V.ref T, .ref t])) (a := l3) (o := .lst (cutV ys none (some (-1)) ++ [V.ref T, .ref t]))
              have hA8 := hA4.keep T4
              have hD8 := T4 _ _ hD
              have hy8 := hy.keep (s4.trans T4)
              have ht8 := T4 _ _ ht4
              generalize upd (upd (upd (upd H4 l1 (.lst (cutV ys none (some (-1))))) T (.tup [.int ((lastE row).s : Int), .str ((lastE row).w ++ ("" : Str)), .bl false])) l2 (.lst [V.ref T, .ref t])) l3 (.lst (cutV ys none (some (-1)) ++ [V.ref T, .ref t])) = H8 at *
              have dT : Da H8 (.ref T) (enD (qE (lastE row))) := by
                show Da H8 (.ref T) (.tuple [.int ((lastE row).s : Int), .str (qE (lastE row)).w, .bool false])
                rw [ew]
                exact .tup hT (.cons (.int _) (.cons (.str _) (.cons (.bl _) .nil)))
              have dt : Da H8 (.ref t) (enD (lastE row)) := .tup ht8 (.cons (.int _) (.cons (.str _) (.cons (.bl _) .nil)))
              have hZ : DaAll H8 (cutV ys none (some (-1)) ++ [V.ref T, .ref t]) ((qR row).map enD) := by
                rw [cut_init, lys]
                unfold qR
                rw [List.map_append, List.map_take]
                exact DaAll.app (DaAll.takeN _ hy8) (.cons dT (.cons dt .nil))
              exact RA.upd hD8 List.mem_cons_self (RA.snoc n3 h3 hZ hA8)
        · rintro σ H4 ⟨⟨x10, x11, x12, x13, rfl⟩, s4, acc, hD, hA4⟩
          rw [lx, List.take_length] at hA4
          exact ⟨⟨_, _, _, _, rfl⟩, s4, acc, hD, hA4⟩
      rintro σ' H4 ⟨⟨x10, x11, x12, x13, rfl⟩, s4, acc, hD, hA4⟩
      have eq1 : ("q" : Str).length = 1 := by decide +kernel
      refine ⟨_, rfl, _, _, rfl, rfl, (by rw [eq1]; omega), _, rfl, _, rfl, _, rfl, (by show 4 ≤ sizeLine; omega), fun a' na => ?_⟩
      have s6 := same_new (o := .lst [V.str (m.z ++ ("q" : Str)), .ref D, .int (m.s : Int), .ref c]) na
      have ag' : a' ≠ g := fun z => by
        rw [z, s4 _ _ hg1] at na
        cases na
      obtain ⟨ro1, ro2, ro3⟩ := q_ok ok mz hq (by omega) lo
      have S6 := s4.trans s6
      refine q _ a' (mQq m) (b1.trans (Same.but S6)) (Dr.keepS S6 (d1.mono (by omega))) ⟨ag', D, c, upd_same, ⟨Dg, acc, s6 _ _ hD, (hA4.keep s6).sub fun x hx => List.mem_cons_of_mem _ hx⟩, cg, S6 _ _ hc1⟩ ro1 ro2 (by omega)
    rintro σ' _ ⟨rfl, rfl⟩
    refine ⟨fun σ' H' => ∃ (D : Addr) (ia : Nat), σ' = [some (.ref g), some (.ref a), some (.str m.z), some (.ref p), some (.int (m.s : Int)), some (.ref c), some (.int (m.R.length : Int)), some (.int (wy : Int)), none, some (.ref D), none, none, none, none, some (.int (ia : Int)), none, none] ∧ ia < m.R.length ∧ But H1 H' g ∧ Dr H' g (n + 60) ∧ NWg g H1 H' D m.R, ?_, ?_⟩
    · refine ⟨_, rfl, p, rfl, ⟨_, SqL.of hp⟩, fun D nD => lc_list (K := K) (a := p) (xs := xs) (CpM H1 D m.R) (cm_0 nD) (fun i H' _ p => SqL.of (p.1 _ _ hp)) ?_ ?_⟩
      · rintro i y H' hi pc
        obtain ⟨b, row, ys, rfl, er, hb, hy⟩ := rs_at hP hi
        exact ⟨rfl, _, rfl, b, _, rfl, .inl (SqL.of (pc.1 _ _ hb)), fun l nl => cm_s pc nD er hy (by omega) nl⟩
      · intro H2 pc
        have rn := cm_e pc nD lx
        have s2 := pc.1
        refine ⟨_, rfl, _, rfl, g, _, (m.R.length : Int), rfl, Dr.keepS s2 d1, by omega, by omega, Int.lt_of_le_of_lt (b := 12) (by omega) (by decide +kernel), fun H3 k0 k1 k2 b3 d3 => ⟨_, _, rfl, ?_⟩⟩
        obtain ⟨k0, rfl⟩ := Int.eq_ofNat_of_zero_le k1
        exact ⟨D, k0, rfl, by omega, fun b o nb e => b3 _ _ nb (s2 _ _ e), d3.mono (by omega), (rn.nwg hg1 s2).but (s2 _ _ hg1) b3⟩
    rintro σ' H2 ⟨D, ia, rfl, li, b2, d2, nw⟩
    have hc2 := b2 _ _ cg hc1
    obtain ⟨ws2, hg2⟩ := dr_lst d2
    -- one closing word
    refine ⟨fun σ' H' => σ' = [some (.ref g), some (.ref a), some (.str m.z), some (.ref p), some (.int (m.s : Int)), some (.ref c), some (.int (m.R.length : Int)), some (.int (wy : Int)), none, some (.ref D), none, none, none, none, some (.int (ia : Int)), none, none] ∧ H2 = H', ?_, ?_⟩
    · refine ⟨_, rfl, rfl, _, rfl, ite2 (fun _ => ?_) (fun _ => ⟨rfl, rfl⟩)⟩
      refine ⟨_, rfl, _, rfl, _, rfl, _, rfl, _, rfl, _, rfl, c, _, rfl, SqL.of hc2, fun l1 nl1 => ?_⟩
      have t1 := same_new (o := .lst (cutV (m.cl.map V.str) none (some (ia : Int)))) nl1
      have l1g : l1 ≠ g := fun z => by
        rw [z, hg2] at nl1
        cases nl1
      refine ⟨_, rfl, g, _, 2, "ab", rfl, by decide, dr_newK d2 nl1, by omega, LO.of (by decide +kernel), by decide +kernel, fun H4 y loy ly b4 d4 => ⟨(by show 1 ≤ sizeLine; omega), fun l2 nl2 => ?_⟩⟩
      have h1 := b4 _ _ l1g (upd_same (H := H2) (a := l1) (o := .lst (cutV (m.cl.map V.str) none (some (ia : Int)))))
      have b24 : But H2 H4 g := fun b o nb e => b4 _ _ nb (t1 _ _ e)
      obtain ⟨ws4, hg4⟩ := dr_lst d4
      have t2 := same_new (o := .lst [V.str y]) nl2
      have lcu := cutV_length (m.cl.map V.str) none (some (ia : Int))
      have lcu2 := cutV_length (m.cl.map V.str) (some ((ia : Int) + 1)) none
      rw [List.length_map] at lcu lcu2
      refine ⟨l1, l2, _, _, rfl, rfl, t2 _ _ h1, upd_same, (by show _ + 1 ≤ sizeLine; omega), fun l3 nl3 => ?_⟩
      have t3 := same_new (o := .lst (cutV (m.cl.map V.str) none (some (ia : Int)) ++ [V.str y])) nl3
      refine ⟨_, rfl, _, rfl, _, _, rfl, rfl, _, rfl, c, _, rfl, SqL.of (t3 _ _ (t2 _ _ (b24 _ _ cg hc2))), fun l4 nl4 => ?_⟩
      have t4 := same_new (o := .lst (cutV (m.cl.map V.str) (some ((ia : Int) + 1)) none)) nl4
      refine ⟨l3, l4, _, _, rfl, rfl, t4 _ _ upd_same, upd_same, (by rw [List.length_append]; show _ + 1 + _ ≤ sizeLine; omega), fun l5 nl5 => ?_⟩
      have t5 := same_new (o := .lst ((cutV (m.cl.map V.str) none (some (ia : Int)) ++ [V.str y]) ++ cutV (m.cl.map V.str) (some ((ia : Int) + 1)) none)) nl5
      have l5g : l5 ≠ g := fun z => by
        rw [z, t4 _ _ (t3 _ _ (t2 _ _ hg4))] at nl5
        cases nl5
      refine ⟨(by show 4 ≤ sizeLine; omega), fun a' na => ?_⟩
      have t6 := same_new (o := .lst [V.str m.z, .ref D, .int (m.s : Int), .ref l5]) na
      have ag' : a' ≠ g := fun z => by
        rw [z, t5 _ _ (t4 _ _ (t3 _ _ (t2 _ _ hg4)))] at na
        cases na
      have T26 := (((t2.trans t3).trans t4).trans t5).trans t6
      have B : But H2 _ g := b24.trans (Same.but T26)
      obtain ⟨ro1, ro2⟩ := mC_ok ok li loy ly (by omega : 2 ≤ 3) lo
      refine q _ a' (mC m ia y) (b1.trans (b2.trans B)) (Dr.keepS T26 (d4.mono (by omega))) ⟨ag', D, l5, upd_same, (nw.but hg2 B).rg, l5g, ?_⟩ ro1 (ro2.mono (by omega)) l8
      rw [t6 _ _ upd_same, cut_lo, show ((ia : Int) + 1) = ((ia + 1 : Nat) : Int) from rfl, cut_hi]
      show _ = some (HO.lst ((m.cl.take ia ++ [y] ++ m.cl.drop (ia + 1)).map V.str))
      rw [List.map_append, List.map_append, List.map_take, List.map_drop]
      rfl
    rintro σ' _ ⟨rfl, rfl⟩
    -- one word of an entry
    refine ⟨fun σ' H' => ∃ ip : Nat, σ' = [some (.ref g), some (.ref a), some (.str m.z), some (.ref p), some (.int (m.s : Int)), some (.ref c), some (.int (m.R.length : Int)), some (.int (wy : Int)), none, some (.ref D), none, none, none, none, some (.int (ia : Int)), some (.int (ip : Int)), none] ∧ ip < m.z.length + 1 ∧ But H2 H' g ∧ Dr H' g (n + 80), ?_, ?_⟩
    · refine ⟨_, rfl, _, rfl, m.z, rfl, by omega, _, _, rfl, rfl, g, _, ((m.z.length : Int) + 1), rfl, d2, by omega, by omega, Int.lt_of_le_of_lt (b := 30) (by omega) (by decide +kernel), fun H3 k0 k1 k2 b3 d3 => ?_⟩
      obtain ⟨k0, rfl⟩ := Int.eq_ofNat_of_zero_le k1
      exact ⟨k0, rfl, by omega, b3, d3.mono (by omega)⟩
    rintro σ' H3 ⟨ip, rfl, lp, b3, d3⟩
    have nw3 := nw.but hg2 b3
    obtain ⟨ws3, hg3⟩ := dr_lst d3
    have hc3 := b3 _ _ cg hc2
    obtain ⟨Dg, xs3, hD3, lx3, nd3, at3⟩ := id nw3
    obtain ⟨er, hm⟩ := gR_at li
    obtain ⟨lrow, hrow⟩ := ok.rw _ hm
    obtain ⟨b, ys, exb, bg, bD, b0n, hb, hy⟩ := at3 _ _ er
    have ee : (gR m ia)[ip]? = some ((gR m ia).getD ip ⟨0, "", false⟩) := by
      have e : (gR m ia)[ip]? = some ((gR m ia)[ip]'(by omega)) := List.getElem?_eq_getElem (by omega)
      rw [List.getD_eq_getElem?_getD, e]
      rfl
    obtain ⟨t, ey, ht⟩ := en_at hy ee
    have lys := da_len hy
    rw [List.length_map] at lys
    refine ⟨fun σ' H' => σ' = [some (.ref g), some (.ref a), some (.str m.z), some (.ref p), some (.int (m.s : Int)), some (.ref c), some (.int (m.R.length : Int)), some (.int (wy : Int)), none, some (.ref D), some (.int (((gR m ia).getD ip ⟨0, "", false⟩).s : Int)), none, some (.str ((gR m ia).getD ip ⟨0, "", false⟩).w), some (.bl ((gR m ia).getD ip ⟨0, "", false⟩).b), some (.int (ia : Int)), some (.int (ip : Int)), none] ∧ H3 = H', ?_, ?_⟩
    · exact ⟨_, rfl, _, rfl, D, xs3, _, _, rfl, rfl, SqL.of hD3, atI_nat exb, _, rfl, b, ys, _, _, rfl, rfl, SqL.of hb, atI_nat ey, t, _, rfl, SqT.of ht, rfl, _, _, rfl, _, _, rfl, _, _, rfl, rfl, rfl, rfl⟩
    rintro σ' _ ⟨rfl, rfl⟩
    refine ⟨fun σ' H' => ∃ y : Str, σ' = [some (.ref g), some (.ref a), some (.str m.z), some (.ref p), some (.int (m.s : Int)), some (.ref c), some (.int (m.R.length : Int)), some (.int (wy : Int)), none, some (.ref D), some (.int (((gR m ia).getD ip ⟨0, "", false⟩).s : Int)), none, some (.str ((gR m ia).getD ip ⟨0, "", false⟩).w), some (.bl ((gR m ia).getD ip ⟨0, "", false⟩).b), some (.int (ia : Int)), some (.int (ip : Int)), none] ∧ LO y ∧ y.length ≤ 2 ∧ But H1 H' g ∧ Dr H' g (n + 1000) ∧ NWg g H1 H' D (mE m ia ip y).R, ?_, ?_⟩
    · refine ⟨_, rfl, _, rfl, g, _, 2, "ab", rfl, by decide, d3, by omega, LO.of (by decide +kernel), by decide +kernel, fun H4 y loy ly b4 d4 => ⟨_, rfl, (by show 3 ≤ sizeLine; omega), fun T nT => ?_⟩⟩
      have t5 := same_new (o := .tup [.int (((gR m ia).getD ip ⟨0, "", false⟩).s : Int), .str y, .bl ((gR m ia).getD ip ⟨0, "", false⟩).b]) nT
      obtain ⟨ws4, hg4⟩ := dr_lst d4
      have nw5 := (nw3.but hg3 b4).keep t5
      have hD5 := t5 _ _ (b4 _ _ Dg hD3)
      have hb5 := t5 _ _ (b4 _ _ bg hb)
      refine ⟨_, rfl, _, rfl, D, xs3, _, _, rfl, rfl, SqL.of hD5, atI_nat exb, _, rfl, b, ys, _, ip, rfl, rfl, hb5, ixN_natF (by omega), ?_⟩
      refine ⟨y, rfl, loy, ly, fun b' o nb e => ?_, ?_, ?_⟩
      · rw [upd_ne (ne_of_none e b0n)]
        exact t5 _ _ (b4 _ _ nb (b3 _ _ nb (b2 _ _ nb e)))
      · exact dr_updK (dr_newK (d4.mono (by omega)) nT) (Ne.symm bg)
      · exact nw5.set er hD5 exb hb5 (.tup upd_same (.cons (.int _) (.cons (.str _) (.cons (.bl _) .nil))))
    rintro σ' H5 ⟨y, rfl, loy, ly, b5, d5, nw5⟩
    obtain ⟨ws5, hg5⟩ := dr_lst d5
    obtain ⟨ro1, ro2, ro3⟩ := mE_ok ok li lp loy ly (by omega : 2 ≤ 3) lo
    refine ⟨_, rfl, _, rfl, _, rfl, _, rfl, (by show 4 ≤ sizeLine; omega), fun a' na => ?_⟩
    have t6 := same_new (o := .lst [V.str m.z, .ref D, .int (m.s : Int), .ref c]) na
    have ag' : a' ≠ g := fun z => by
      rw [z, hg5] at na
      cases na
    exact q _ a' (mE m ia ip y) (b1.trans (b5.trans (Same.but t6))) (Dr.keepS t6 (d5.mono (by omega))) ⟨ag', D, c, upd_same, (nw5.keep t6).rg, cg, t6 _ _ (b5 _ _ cg hc1)⟩ ro1 (ro2.mono (by omega)) (by omega)
end
end KK
set_option Elab.async false
set_option linter.all false
set_option maxRecDepth 100000
set_option maxHeartbeats 1000000
namespace KK
open PySem PySem.Spec PyProof.Rows L2 XV NM XT XA XD LamX NB
/-! ### words over all letters -/
def AZ (w : List Nat) : Prop := ∀ c ∈ w, 97 ≤ c ∧ c < 123
def azL : List Nat := (List.range 26).map (97 + ·)
theorem az_mem {c : Nat} (h : 97 ≤ c ∧ c < 123) : c ∈ azL := List.mem_map.mpr ⟨c - 97, List.mem_range.mpr (by omega), by omega⟩
theorem az_all {z : Str} (h : AZ (cz z)) {p : Nat → Bool} (h1 : azL.all p = true) : z.cps.all p = true := by
  rw [show z.cps.all p = (cz z).all p by simp, List.all_eq_true]
  exact fun c hc => List.all_eq_true.mp h1 c (az_mem (h c hc))
theorem az_any {z : Str} (h : AZ (cz z)) {p : Nat → Bool} (h1 : azL.any p = false) : z.cps.any p = false := by
  rw [show z.cps.any p = (cz z).any p by simp, List.any_eq_false]
  exact fun c hc => List.any_eq_false.mp h1 c (az_mem (h c hc))
theorem az_low {z : Str} (h : AZ (cz z)) : lowS z = true := by
  unfold lowS
  by_cases e : z = ""
  · rw [decide_eq_true e]
    rfl
  rw [decide_eq_false e, Bool.false_or]
  have n : cz z ≠ [] := fun q => e (Str.ext' (Array.toList_inj.mp (q.trans (by decide +kernel))))
  have l : 0 < z.length := by
    rw [cz_len]
    exact List.length_pos_iff.mpr n
  have a1 : Txt.isascii z = true := az_all h (by decide +kernel)
  have a2 : Txt.isalpha z = true := by
    unfold Txt.isalpha
    rw [az_all h (by decide +kernel), Bool.and_true]
    exact decide_eq_true l
  have a3 : Txt.islower z = true := by
    unfold Txt.islower
    rw [az_any h (p := fun c => Unicode.isUpper c || Unicode.isTitle c) (by decide +kernel)]
    have e : z.cps.any Unicode.isLower = true := by
      rw [show z.cps.any Unicode.isLower = (cz z).any Unicode.isLower by simp, List.any_eq_true]
      obtain ⟨c, r, hc⟩ := List.exists_cons_of_ne_nil n
      refine ⟨c, by rw [hc]; exact List.mem_cons_self, ?_⟩
      exact List.all_eq_true.mp (by decide +kernel : azL.all Unicode.isLower = true) c (az_mem (h c (by rw [hc]; exact List.mem_cons_self)))
    rw [e]
    rfl
  rw [a1, a2, a3]
  rfl
theorem az_word {w : List Nat} (h : AZ w) (l : w.length ≤ 20000) : wordV (.str (tx w)) = true := by
  show (lowS (tx w) && decide ((tx w).length ≤ 20000)) = true
  rw [az_low (by rw [cz_tx]; exact h), tx_len, decide_eq_true l]
  rfl
theorem fold_az (q : Nat) (hq : azL.all (fun c => decide (Builtin.Str.reprChar q c = [c])) = true) : ∀ (l : List Nat) (acc : Array Nat), AZ l → (l.foldl (fun out c => out ++ (Builtin.Str.reprChar q c).toArray) acc).toList = acc.toList ++ l
  | [], acc, _ => by simp
  | c :: l, acc, h => by
    have hc : Builtin.Str.reprChar q c = [c] := of_decide_eq_true (List.all_eq_true.mp hq c (az_mem (h c List.mem_cons_self)))
    rw [List.foldl_cons, fold_az q hq l _ (fun d hd => h d (List.mem_cons_of_mem _ hd)), hc]
    simp
theorem repr_az {z : Str} (h : AZ (cz z)) : (reprText z).cps.toList = 39 :: (cz z ++ [39]) := by
  have e : reprQuote z = 39 := by
    unfold reprQuote
    have : z.cps.contains 39 = false := by
      cases c : z.cps.contains 39 with
      | false => rfl
      | true =>
        have := h 39 (by simpa using c)
        omega
    rw [this]
    rfl
  unfold reprText
  rw [e]
  show ((z.cps.foldl (fun out c => out ++ (Builtin.Str.reprChar 39 c).toArray) #[39]).push 39).toList = _
  rw [Array.toList_push, ← Array.foldl_toList, fold_az 39 (by decide +kernel) _ _ h]
  rfl
theorem sh_az {z : Str} (h : AZ (cz z)) (l : z.length ≤ 50000) : ShOk (.str z) := by
  have e : (PyData.str z).shown = reprText z := by simp [PyData.shown]
  have r := repr_az h
  refine ⟨by simp [PyData.showable], by simp [PyData.hasDict], by simp [PyData.depth], ?_, ?_⟩
  · rw [e, cz_len, show cz (reprText z) = _ from r]
    simp only [List.length_cons, List.length_append, List.length_singleton]
    rw [← cz_len]
    simp
    omega
  · rw [e]
    unfold PyData.strOk
    rw [show (reprText z).cps.all (fun x => decide (x < 0x110000)) = ((reprText z).cps.toList).all (fun x => decide (x < 0x110000)) by simp, r, List.all_eq_true]
    intro c hc
    rcases List.mem_cons.mp hc with rfl | hc
    · decide
    · rcases List.mem_append.mp hc with hc | hc
      · have := h c hc
        exact decide_eq_true (by omega)
      · rw [List.mem_singleton.mp hc]
        decide
def optD : Option (List Nat) → PyData
  | none => .none
  | some w => .str (tx w)
theorem opt_da {H : Hp} (o : Option (List Nat)) : Da H (optV o) (optD o) := by
  cases o with
  | none => exact .non
  | some w => exact .str _
theorem opt_sh {m n : Mm} (om : MmOk m) (on : MmOk n) : ShOk (optD (prt m n)) := by
  cases h : prt m n with
  | none => exact shB_ok (by decide +kernel)
  | some w =>
    obtain ⟨_, _, l, az⟩ := prt_some om on h
    have h1 := om.r2
    have h2 := on.r2
    have : m.R.length * n.R.length ≤ 12 * 12 := Nat.mul_le_mul h1 h2
    exact sh_az (by rw [cz_tx]; exact az) (by rw [tx_len]; omega)
/-! ### the same the other way round -/
theorem rho_swap (c d : List Nat) : rhoL d c = (rhoL c d).swap := by
  unfold rhoL
  by_cases h : c.length = d.length
  · rw [if_pos (by omega), if_pos (by omega), h, Nat.sub_self, List.take_zero, List.take_zero]
    rfl
  · by_cases h2 : c.length ≤ d.length
    · rw [if_neg (by omega), if_pos h2]
      rfl
    · rw [if_pos (by omega), if_neg h2]
      rfl
theorem bad_swap (m n : Mm) (p : Pr2) (k : Nat) : bad n m p.swap k = bad m n p k := by
  have e : rho n m p.swap = (rho m n p).swap := rho_swap _ _
  have e1 : mdL n m p.swap k = rvL m n p k := by
    unfold mdL rvL
    rw [e]
    rfl
  have e2 : rvL n m p.swap k = mdL m n p k := by
    unfold mdL rvL
    rw [e]
    rfl
  unfold bad
  rw [e1, e2]
  congr 1
  exact decide_eq_decide.mpr ⟨fun h => h.symm, fun h => h.symm⟩
theorem resE_map {α β : Type} [DecidableEq α] [DecidableEq β] {u : α → Nat → Bool} {v : β → Nat → Bool} {h : α → β} (hu : ∀ a, badAt v (h a) = badAt u a) (L : List (α × List Nat)) : resE v (L.map fun x => (h x.1, x.2)) = resE u L := by
  unfold resE
  induction L with
  | nil => rfl
  | cons x L ih =>
    rw [List.map_cons, List.find?_cons, List.find?_cons]
    show Option.bind (match (badAt v (h x.1)).isSome with | true => _ | false => _) _ = _
    rw [hu]
    cases e : (badAt u x.1).isSome with
    | true =>
      show (badAt v (h x.1)).map _ = (badAt u x.1).map _
      rw [hu]
    | false => exact ih
theorem resE_sym (m n : Mm) (T : Nat) : resE (bad n m) (bfs (pst n m) (n.s, m.s) T) = resE (bad m n) (bfs (pst m n) (m.s, n.s) T) := by
  have e := bfs_map (f := pst m n) (g := pst n m) (h := Prod.swap) (fun a b z => by rw [← Prod.swap_swap a, z, Prod.swap_swap]) (fun a k => rfl) (m.s, n.s) T
  have e2 : bfs (pst n m) (n.s, m.s) T = (bfs (pst m n) (m.s, n.s) T).map fun x => (x.1.swap, x.2) := e.symm
  rw [e2]
  refine resE_map (u := bad m n) (v := bad n m) (h := Prod.swap) (fun p => ?_) (bfs (pst m n) (m.s, n.s) T)
  unfold badAt
  congr 1
  funext k
  exact bad_swap m n p k
theorem prt_symm (m n : Mm) : prt n m = prt m n := by
  unfold prt
  by_cases c : clN m m.s = clN n n.s
  · rw [if_pos c, if_pos c.symm, resE_sym]
  · rw [if_neg c, if_neg (fun z => c z.symm)]
/-! ### what is made is small -/
theorem enAt_mem {R : List (List En)} {s k : Nat} : (∃ r ∈ R, enAt R s k ∈ r) ∨ enAt R s k = ⟨0, "", false⟩ := by
  unfold enAt
  rw [List.getD_eq_getElem?_getD, List.getD_eq_getElem?_getD]
  cases e : R[s]? with
  | none =>
    refine .inr ?_
    simp
  | some r =>
    simp only [Option.getD_some]
    cases e2 : r[k]? with
    | none => exact .inr rfl
    | some x => exact .inl ⟨r, List.mem_of_getElem? e, List.mem_of_getElem? e2⟩
theorem prun_lo {m : Mm} (lo : Lo2 m 4) (s : Nat) : ∀ cs : List Nat, ∀ w ∈ (prun m s cs).2, w.length ≤ 4 := by
  have key : ∀ (cs : List Nat) (st : Nat × List Str), (∀ w ∈ st.2, w.length ≤ 4) → ∀ w ∈ (cs.foldl (pstep m.z m.R) st).2, w.length ≤ 4 := by
    intro cs
    induction cs with
    | nil => exact fun st h => h
    | cons c cs ih =>
      intro st h
      refine ih _ fun w hw => ?_
      rcases List.mem_append.mp hw with hw | hw
      · exact h w hw
      · rcases List.mem_cons.mp hw with e | hw
        · rw [e]
          rcases @enAt_mem m.R st.1 ((cz m.z).idxOf c) with ⟨r, hr, he⟩ | h
          · exact (lo.r r hr _ he).2
          · rw [h]
            decide +kernel
        · split at hw
          · rw [List.mem_singleton.mp hw]
            show 1 ≤ 4
            decide
          · cases hw
  exact fun cs => key cs (s, []) fun w hw => (by cases hw)
theorem sum_le4 {ps : List Str} (h : ∀ w ∈ ps, w.length ≤ 4) : (ps.map (·.length)).sum ≤ ps.length * 4 := by
  induction ps with
  | nil => exact Nat.le_refl 0
  | cons p ps ih =>
    rw [List.map_cons, List.sum_cons, List.length_cons]
    have := h p List.mem_cons_self
    have := ih fun w hw => h w (List.mem_cons_of_mem _ hw)
    omega
theorem tot_lo {m : Mm} (ok : MmOk m) (lo : Lo2 m 4) {y : Str} (ly : y.length ≤ 200) : tot (madeP m y) ≤ 20000 := by
  obtain ⟨h1, h2, h3⟩ := made_small ok y
  have h4 : ∀ w ∈ madeP m y, w.length ≤ 4 := fun w hw => by
    unfold madeP at hw
    rcases List.mem_append.mp hw with h | h
    · exact prun_lo lo _ _ w h
    · rw [List.mem_singleton.mp h]
      have lc := ok.lc
      have e1 : m.cl[(prun m m.s (cz y)).1]? = some (m.cl[(prun m m.s (cz y)).1]'(by omega)) := List.getElem?_eq_getElem (by omega)
      rw [List.getD_eq_getElem?_getD, e1]
      exact (lo.c _ (List.getElem_mem _)).2
  have h5 := sum_le4 h4
  show ((madeP m y).map (·.length)).sum ≤ 20000
  omega
theorem tx_init (w : List Nat) : cutS (tx w) none (some (-1)) = tx w.dropLast := by
  have e : cutS (tx w) none (some (-1)) = ⟨((w.drop (HT.sIx w.length 0 none)).take (HT.sIx w.length w.length (some (-1)) - HT.sIx w.length 0 none)).toArray⟩ := by
    unfold cutS
    rw [tx_len, show (tx w).cps.toList = w from cz_tx w]
  have c := cut_init (w.map fun c => V.int (c : Nat))
  unfold cutV at c
  rw [List.length_map, HT.sIx_none, List.drop_zero, Nat.sub_zero, ← List.map_take, ← List.map_take] at c
  have c2 : w.take (HT.sIx w.length w.length (some (-1))) = w.take (w.length - 1) := by
    have := congrArg List.length c
    rw [List.length_map, List.length_map, List.length_take, List.length_take] at this
    rw [List.take_eq_take_iff]
    omega
  rw [e, HT.sIx_none, List.drop_zero, Nat.sub_zero, c2, ← List.dropLast_eq_take]
  rfl
end KK
set_option Elab.async false
set_option linter.all false
set_option maxRecDepth 100000
set_option maxHeartbeats 4000000
/-! The end of a law whose def is told of where nothing guards, with tables of code objects. -/
namespace XV
open PySem PySem.Spec PyProof.Rows L2 LamX
/-- H tells of the script and the tables ts alone -/
def OnlyT (H : Hp) (ts : List Addr) : Prop := ∀ b, H b = none ∨ (b ∈ ts ∧ H b = some (.tbl #[])) ∨ ∃ o xs, H b = some (.frz o (.lst xs))
theorem law_gT {P : Program} {w : World} {K : PySem.W.Frag} {mg mb : Str → Option Value} {k : Nat} {fa a : Addr} {cs : List (Addr × Addr)} {fd : FuncData} {x : Str} {sp : Sp} {s : Shared} {us : List Value} {ns : List Int}
    (KX : K.In s.heap) (gn : s.heap.Ns mainGlobals mg) (bn : s.heap.Ns builtinsNs mb) (bb : ∀ y : Str, y ≠ "__name__" → mb y = bootBuiltins y) (nl : s.heap.NoLimit) (g0 : s.gens = #[])
    (hT : ∀ p ∈ cs, s.heap.get? p.2 = some { cls := .none, data := .fields #[] }) (nT : ∀ p ∈ cs, K.lookup p.2 = none) (hC : ∀ p ∈ cs, PySem.W.CodeHd s.heap p.1 p.2)
    (hbm : ∃ (bm : Addr) (ob : Obj), mg "__builtins__" = some (.ref bm) ∧ bm ≠ builtinsNs ∧ s.heap.get? bm = some ob ∧ ob.cls = .type "module" ∧ ob.dict = some builtinsNs ∧ ob.data = .plain)
    (ha : s.heap.get? a = some { cls := .type "list", data := .seq us.toArray }) (hi : IntsAre us ns) (hl : ns.length ≤ sizeLine) (hr : Room k callerA)
    (F : ∀ base : Heap, K.In base → base.Ns mainGlobals mg → (∀ p ∈ cs, TabB base mg p.1 p.2) → FnG P w K mg base CX0 k fa fd [x] sp) (hb : ∀ (s' : Shared) (u : Value), BindsTo s' fd ⟨[u], []⟩ [(x, u)])
    (hsp : ∀ H : Hp, (∀ p ∈ cs, H p.2 = some (.tbl #[])) → SqL K H a (ns.map V.int) → sp [.ref a] H (fun v _ => v = .bl true) fun _ _ _ => False) :
    codeAny (model P w) callerA (.call (.ref fa) ⟨[.ref a], []⟩) (fun r s' => r = .ok (.ret (.bool true)) ∧ OldK s.heap s'.heap ∧ s'.os = s.os ∧ AllBare s'.gens) s := by
  have rv := vals_ints hi
  have len := hi.length
  have isT : ∀ b ∈ cs.map (·.2), s.heap.get? b = some { cls := .none, data := .fields #[] } := by
    intro b hb
    obtain ⟨p, hp, rfl⟩ := List.mem_map.mp hb
    exact hT p hp
  have aT : a ∉ cs.map (·.2) := fun z => by
    have q := congrArg Obj.data (Option.some.inj (ha.symm.trans (isT a z)))
    cases q
  have mem : ∀ p ∈ cs, p.2 ∈ cs.map (·.2) := fun p hp => List.mem_map.mpr ⟨p, hp, rfl⟩
  have main : ∀ H : Hp, (∀ p ∈ cs, H p.2 = some (.tbl #[])) → OnlyT H (cs.map (·.2)) → SqL K H a (ns.map V.int) → HOk P w H s.heap → (∀ b, H b ≠ none → b = a ∨ b ∈ cs.map (·.2)) → (H a ≠ none → K.lookup a = none) →
      codeAny (model P w) callerA (.call (.ref fa) ⟨[.ref a], []⟩) (fun r s' => r = .ok (.ret (.bool true)) ∧ OldK s.heap s'.heap ∧ s'.os = s.os ∧ AllBare s'.gens) s := by
    intro H tabs only told ok alone notK
    have part : ∀ {b : Addr} {o : Obj}, s.heap.get? b = some o → H b = none → (hidT s.heap H).get? b = some o := fun e n => hidT_get e n
    -- what is neither a list nor an empty table is not told of
    have off : ∀ {b : Addr} {o : Obj}, s.heap.get? b = some o → (∀ vs n, o.data ≠ .seq vs n) → o.data ≠ .fields #[] → H b = none := by
      intro b o e d1 d2
      by_cases q : H b = none
      · exact q
      · rcases alone b q with rfl | hb
        · rw [ha] at e
          cases e
          exact (d1 _ _ rfl).elim
        · rw [isT b hb] at e
          cases e
          exact (d2 rfl).elim
    have dictN : ∀ {b : Addr} {o : Obj} {es : Array DictEntry} {ep : Nat}, s.heap.get? b = some o → o.data = .dict es ep → H b = none := fun e d =>
      off e (fun vs n z => nomatch (d.symm.trans z)) fun z => nomatch (d.symm.trans z)
    have nsP : ∀ {b : Addr} {m : Str → Option Value}, s.heap.Ns b m → (hidT s.heap H).Ns b m := by
      rintro b m ⟨o, es, ep, e, d, r⟩
      exact ⟨o, es, ep, part e (dictN e d), d, r⟩
    have KP : K.In (hidT s.heap H) := fun b o e => part (KX b o e) (by
      by_cases q : H b = none
      · exact q
      · rcases alone b q with rfl | hb
        · rw [notK q] at e
          cases e
        · obtain ⟨p, hp, rfl⟩ := List.mem_map.mp hb
          rw [nT p hp] at e
          cases e)
    have md : Mod K mg (hidT s.heap H) := ⟨KP, nsP gn, ⟨mb, nsP bn, bb⟩, nl.imp fun _ z => ⟨nsP z.1, z.2⟩⟩
    have TB : ∀ p ∈ cs, TabB (hidT s.heap H) mg p.1 p.2 := by
      intro p hp
      have tp := hT p hp
      obtain ⟨og, esg, epg, eg, dg, _⟩ := id gn
      refine ⟨?_, ?_, fun z => ?_⟩
      · obtain ⟨o, vs, file, tf, flags, tg, inF, text, tt, e1, r1, r2, r3, r4⟩ := hC p hp
        refine ⟨o, vs, file, tf, flags, tg, inF, text, tt, part e1 (off e1 (fun ws n z => nomatch (r2.symm.trans z)) fun z => ?_), r1, r2, r3, r4⟩
        rw [r2] at z
        cases z
        simp at r3
      · obtain ⟨bm, ob, b1, b2, b3, b4, b5, b6⟩ := hbm
        refine ⟨bm, ob, b1, b2, fun q => ?_, fun q => ?_, part b3 (off b3 (fun vs n z => nomatch (b6.symm.trans z)) fun z => nomatch (b6.symm.trans z)), b4, b5, b6⟩
        · subst q
          cases eg.symm.trans b3
          exact nomatch (dg.symm.trans b6)
        · subst q
          cases tp.symm.trans b3
          cases b6
      · rw [← z] at tp
        cases tp.symm.trans eg
        cases dg
    have st : Env0 P w K mg (hidT s.heap H) callerA [] s H := { frames := rfl, mod := md, bs := fun b o e => of_hidT e, bsz := Nat.le_of_eq (hidT_size _ _), funs := trivial, frf := fun b z => absurd (show b ∈ ([] : List Addr) from z) (by simp), hok := ok, bare := .of_eq g0 }
    refine codeAny_mono ((F _ KP (nsP gn) TB).go callerA [] s H ⟨[.ref a], []⟩ [.ref a] [.ref a] _ _ rfl hr st (hb s (.ref a)) (.cons rfl .nil) (hsp H tabs told)) fun r s' h => ?_
    cases r with
    | error er => exact h.elim
    | ok fl => cases fl with
      | next => exact h.elim
      | brk => exact h.elim
      | cont => exact h.elim
      | ret u =>
        obtain ⟨v, H', os, bare, un, ok', r', q⟩ := h
        obtain rfl : v = .bl true := q
        obtain rfl : u = Value.bool true := r'
        have key : ∀ b o, b ∉ cs.map (·.2) → s.heap.get? b = some o → s'.heap.get? b = some o := by
          intro b o nb e
          by_cases q : H b = none
          · exact un.keep b o e q (fun z => nomatch (show b ∈ ([] : List Addr) from z)) (by simp)
          · rcases only b with z | ⟨z, _⟩ | ⟨ob, xs, z⟩
            · exact absurd z q
            · exact absurd z nb
            · obtain ⟨e1, _⟩ := ok b _ z
              obtain ⟨e2, _⟩ := ok' b _ (un.frzs b ob _ z)
              rw [e] at e1
              cases e1
              exact e2
        have more : ∀ p ∈ cs, ∃ m : Array Value, s'.heap.get? p.2 = some { cls := .none, data := .fields m } := fun p hp => by
          obtain ⟨m, z⟩ := un.tbls p.2 #[] (tabs p hp)
          exact ⟨_, ok' p.2 _ z⟩
        refine ⟨rfl, ⟨fun b o e => ?_, fun b o e => ?_⟩, os, bare⟩
        · by_cases hb : b ∈ cs.map (·.2)
          · obtain ⟨p, hp, rfl⟩ := List.mem_map.mp hb
            obtain ⟨m, hm⟩ := more p hp
            cases (hT p hp).symm.trans e
            exact .inr (.inl ⟨((hC p hp).tab (hT p hp)).isCodeTable, rfl, #[], m, rfl, by rw [Array.empty_append]; exact hm⟩)
          · exact .inl (key b o hb e)
        · by_cases hb : b ∈ cs.map (·.2)
          · obtain ⟨p, hp, rfl⟩ := List.mem_map.mp hb
            obtain ⟨m, hm⟩ := more p hp
            exact ⟨_, hm⟩
          · exact ⟨o, key b o hb e⟩
  let o1 : Obj := { cls := .type "list", data := .seq us.toArray }
  cases hk : K.lookup a with
  | some o =>
    obtain rfl := Option.some.inj (ha.symm.trans (KX a o hk))
    have yes : ∀ b ∈ cs.map (·.2), (fun b : Addr => if b ∈ cs.map (·.2) then some (HO.tbl #[]) else none) b = some (.tbl #[]) := fun b e => if_pos e
    have no : ∀ b, b ∉ cs.map (·.2) → (fun b : Addr => if b ∈ cs.map (·.2) then some (HO.tbl #[]) else none) b = none := fun b e => if_neg e
    refine main (fun b => if b ∈ cs.map (·.2) then some (.tbl #[]) else none) (fun p hp => yes _ (mem p hp)) (fun b => ?_) (.inr ⟨_, us.toArray, _, hk, rfl, rfl, rfl, by rw [List.size_toArray, len]; exact hl, by simpa using rv⟩) (fun b u z => ?_) (fun b z => ?_) fun z => absurd (no a aT) z
    · by_cases e : b ∈ cs.map (·.2)
      · exact .inr (.inl ⟨e, yes b e⟩)
      · exact .inl (no b e)
    · by_cases e : b ∈ cs.map (·.2)
      · cases (yes b e).symm.trans z
        exact isT b e
      · cases (no b e).symm.trans z
    · by_cases e : b ∈ cs.map (·.2)
      · exact .inr e
      · exact absurd (no b e) z
  | none =>
    have at_ : ∀ b : Addr, b = a → (fun b : Addr => if b = a then some (HO.frz o1 (.lst (ns.map V.int))) else if b ∈ cs.map (·.2) then some (.tbl #[]) else none) b = some (.frz o1 (.lst (ns.map V.int))) := fun b e => if_pos e
    have yes : ∀ b ∈ cs.map (·.2), (fun b : Addr => if b = a then some (HO.frz o1 (.lst (ns.map V.int))) else if b ∈ cs.map (·.2) then some (.tbl #[]) else none) b = some (.tbl #[]) := fun b e => (if_neg (fun z : b = a => aT (by rw [← z]; exact e))).trans (if_pos e)
    have no : ∀ b, b ≠ a → b ∉ cs.map (·.2) → (fun b : Addr => if b = a then some (HO.frz o1 (.lst (ns.map V.int))) else if b ∈ cs.map (·.2) then some (.tbl #[]) else none) b = none := fun b e e2 => (if_neg e).trans (if_neg e2)
    refine main (fun b => if b = a then some (.frz o1 (.lst (ns.map V.int))) else if b ∈ cs.map (·.2) then some (.tbl #[]) else none) (fun p hp => yes _ (mem p hp)) (fun b => ?_) (.inl (.inr ⟨o1, if_pos rfl⟩)) (fun b u z => ?_) (fun b z => ?_) fun _ => hk
    · by_cases e : b = a
      · exact .inr (.inr ⟨_, _, at_ b e⟩)
      · by_cases e2 : b ∈ cs.map (·.2)
        · exact .inr (.inl ⟨e2, yes b e2⟩)
        · exact .inl (no b e e2)
    · by_cases e : b = a
      · cases (at_ b e).symm.trans z
        subst e
        exact ⟨ha, by rw [List.length_map]; exact hl, us, _, rv, ha⟩
      · by_cases e2 : b ∈ cs.map (·.2)
        · cases (yes b e2).symm.trans z
          exact isT b e2
        · cases (no b e e2).symm.trans z
    · by_cases e : b = a
      · exact .inl e
      · by_cases e2 : b ∈ cs.map (·.2)
        · exact .inr e2
        · exact absurd (no b e e2) z
theorem walk_ofGT {l : PySem.W.OpenLaw} {n k : Nat} {q : Program} {loose : List Str} {XP : (Str → Option Value) → Heap → Prop} {YP : World → Heap → Prop} {d : DefRec} {x : Str}
    (hn : l.most = some n) (hz : n ≤ sizeLine) (hd : d.params.defaults = []) (hr : Room k callerA)
    (F : ∀ (w : World) (mg : Str → Option Value) (fa : Addr) (h : Heap), YP w h → h.Ns mainGlobals mg → mg d.name = some (.ref fa) →
      ∃ (K : PySem.W.Frag) (fd : FuncData) (cs : List (Addr × Addr)) (sp : Sp), K.In h ∧ (∀ p ∈ cs, h.get? p.2 = some { cls := .none, data := .fields #[] }) ∧ (∀ p ∈ cs, K.lookup p.2 = none) ∧ (∀ p ∈ cs, PySem.W.CodeHd h p.1 p.2) ∧ (∀ (s : Shared) (u : Value), BindsTo s fd ⟨[u], []⟩ [(x, u)]) ∧
        (∀ (H : Hp) (a : Addr) (ns : List Int), ns.length ≤ n → (∀ p ∈ cs, H p.2 = some (.tbl #[])) → SqL K H a (ns.map V.int) → sp [.ref a] H (fun v _ => v = .bl true) fun _ _ _ => False) ∧
        ∀ base : Heap, K.In base → base.Ns mainGlobals mg → (∀ p ∈ cs, TabB base mg p.1 p.2) → FnG l.prog w K mg base CX0 k fa fd [x] sp) :
    PySem.W.WalkO q loose XP YP l.row.toRowW d [] (fun f vs => PySem.call f vs) := by
  refine Att.attach_call hn hd fun w s₀ s₁ mg mb fa o pm cd doc a us ns G Y ho hd' hcd hmg hobj hints hlen hg => ?_
  obtain ⟨K, fd, cs, sp, KX, hT, nT, hC, hb, hsp, hF⟩ := F w mg fa _ Y G.T.g hmg
  exact law_gT KX G.T.g G.T.b G.T.builtins G.T.nolimit hg hT nT hC G.T.bmain hobj hints (Nat.le_trans hlen hz) hr hF hb fun H hO hS => hsp H a ns hlen hO hS
end XV
set_option Elab.async false
set_option linter.all false
set_option maxRecDepth 100000
set_option maxHeartbeats 2000000
namespace KK
open PySem PySem.Spec PyProof.Rows L2 XV NM XT XA XD LamX NB
/-! ### two makers, held against each other -/
theorem neFG (v : V) : (!decide (v = v)) = false := by simp
theorem iteNG {p q : Prop} {v : V} (h : q) : if (!decide (v = v)) = true then p else q := by
  rw [neFG]
  exact iteF h
structure OkEqM (P : Program) (w : World) (K : PySem.W.Frag) (mg : Str → Option Value) (base : Heap) (C : Addr) : Prop where
  ex : ∃ g fd, PySem.W.findIn K (.ref C) "__eq__" = some (some (.ref g)) ∧ PySem.W.isFn K (.ref g) = true ∧ FnOk P w K mg base CX0 1 g fd ["self", "other"] (spEqM K C) ∧ Binds K fd ["self", "other"] []
abbrev sPG : Stmt := top 47
abbrev nPG : List Str := ["_law_generator_here", "_law_one", "_law_other", "_law_first_here", "_law_second", "_law_due", "_law_told", "_law_word_here"]
theorem scPG : FnScope nPG ["_law_generator_here", "_law_one", "_law_other"] (defScope sPG) := ⟨rfl, rfl, rfl, by decide +kernel, rfl, by decide +kernel, by decide +kernel⟩
def spPG : Sp := fun vs H Q _ => ∃ (g a b : Addr) (k : Nat) (m n : Mm), vs = [.ref g, .ref a, .ref b] ∧ Dr H g k ∧ k ≤ 300000 ∧ DwG g H a m ∧ DwG g H b n ∧ MmOk m ∧ MmOk n ∧ Lo2 m 4 ∧ Lo2 n 4 ∧ m.R.length * n.R.length ≤ 39 ∧ ∀ H', But H H' g → Dr H' g (k + 1000) → Q (.bl true) H'
section
variable {P : Program} {w : World} {K : PySem.W.Frag} {mg : Str → Option Value} {base : Heap} {f : Addr} {fd : FuncData} {CM : Addr}
theorem ok_pair (F : FnP K "_law_pair_good" sPG f fd) (TM : MT K mg CM) (o_maker : Ok P w K mg base "_law_maker" 8 ["_law_drawn"] (spMk CM)) (o_first : Ok P w K mg base "_law_first" 2 ["_law_one", "_law_other"] spFi) (o_pi : Ok P w K mg base "parting_input" 4 ["one", "other"] (cm (spPI K CM))) (k_pi : OkK P w K mg base "parting_input" 4 ["one", "other"] (cm (spPI K CM))) (o_eqM : OkEqM P w K mg base CM)
    (o_made : Ok P w K mg base "made_word" 4 ["maker", "word"] (cm (spMade K CM))) (o_word : Ok P w K mg base "_law_word" 3 ["_law_generator_here", "_law_signs_here", "_law_most"] spWord) (z_repr : mg "repr" = none) (z_len : mg "len" = none) : FnG P w K mg base CX0 9 f fd ["_law_generator_here", "_law_one", "_law_other"] spPG := by
  have nd := scPG.nd
  obtain ⟨fm, fdm, g1, g2, FG, bg⟩ := o_eqM.ex
  refine okG F scPG (fun vs H Q E h => ?_) (fun cdv A outer s H vs Q E ag hr h => ?_)
  · obtain ⟨g, a, b, k, m, n, rfl, _⟩ := h
    rfl
  · obtain ⟨g, a, b, k, m, n, rfl, d0, hk, dm, dn, om, on, lom, lon, l39, q⟩ := h
    have hu := hr.units
    have r8 : Room 8 (A.deeper (envOfC "_law_pair_good" (defScope sPG) s.heap.objs.size f cdv)) := hr
    have r4 := r8.mono (by decide : 4 ≤ 8)
    have r3 := r8.mono (by decide : 3 ≤ 8)
    have r2 := r8.mono (by decide : 2 ≤ 8)
    have r1 := r8.mono (by decide : 1 ≤ 8)
    refine ⟨_, PSs.nox (C8.pss_cut (ps_par3 (i := 3) (j := 4) (l := 5) rfl nd rfl rfl rfl (by decide) (by decide) (by decide) rfl rfl rfl (pa_cons (pe_callO o_maker r8 (by rfl) (pa_cons (pv 1) pa_nil)) (pa_cons (pe_callO o_maker r8 (by rfl) (pa_cons (pv 2) pa_nil)) (pa_cons (pe_callO o_first r2 (by rfl) (pa_cons (pv 1) (pa_cons (pv 2) pa_nil))) pa_nil))) (by rfl))
      (C8.pss_cut (ps_set (i := 6) nd rfl (Or.inl rfl) (pe_callO o_pi r4 (by rfl) (pa_cons (pv 3) (pa_cons (pv 4) pa_nil))))
      (C8.pss_cut (ps_if (PW.pt (pw_or (pt_cmpR op_ne (pe_callB (call_reprD ag hu) (by rfl) z_repr (by decide +kernel) (pa_cons (pv 6) pa_nil)) (pe_callB (call_reprD ag hu) (by rfl) z_repr (by decide +kernel) (pa_cons (pv 5) pa_nil)) (nomark _)) (pw_or1 (pt_cmpR op_ne (pe_callB (call_reprD ag hu) (by rfl) z_repr (by decide +kernel) (pa_cons (pe_callK k_pi r4 (by rfl) (pk_cons (pv 3) (pk_cons (pv 4) pk_nil))) pa_nil)) (pe_callB (call_reprD ag hu) (by rfl) z_repr (by decide +kernel) (pa_cons (pv 5) pa_nil)) (nomark _))))) (pss_one (ps_ret pe_bl)) pss_nil)
      (C8.pss_cut (ps_if (PW.pt (pw_or (pt_cmpR op_notBl (pe_cmpR (op_ownE g1 g2 FG r1 bg pass0) (pv 3) (pe_callO o_maker r8 (by rfl) (pa_cons (pv 1) pa_nil)) (nomark _)) pe_bl (nomark _)) (pw_or1 (pt_cmpR op_notBl (pe_cmpR (op_ownE g1 g2 FG r1 bg pass0) (pv 4) (pe_callO o_maker r8 (by rfl) (pa_cons (pv 2) pa_nil)) (nomark _)) pe_bl (nomark _))))) (pss_one (ps_ret pe_bl)) pss_nil)
      (C8.pss_cut (ps_if (PW.pt (pw_or (pt_cmp (pc_notN (pe_callO o_pi r4 (by rfl) (pa_cons (pv 3) (pa_cons (pv 3) pa_nil))))) (pw_or1 (pt_cmpR op_ne (pe_callB (call_reprD ag hu) (by rfl) z_repr (by decide +kernel) (pa_cons (pe_callO o_pi r4 (by rfl) (pa_cons (pv 3) (pa_cons (pv 4) pa_nil))) pa_nil)) (pe_callB (call_reprD ag hu) (by rfl) z_repr (by decide +kernel) (pa_cons (pv 5) pa_nil)) (nomark _))))) (pss_one (ps_ret pe_bl)) pss_nil)
      (pss_cons (ps_if (pt_cmp (pc_notN (pv 6))) (pss_cons (ps_if (PW.pt (pw_or (pt_cmpR op_eq (pe_callO o_made r4 (by rfl) (pa_cons (pv 3) (pa_cons (pv 6) pa_nil))) (pe_callO o_made r4 (by rfl) (pa_cons (pv 4) (pa_cons (pv 6) pa_nil))) (nomark _)) (pw_or1 (pt_cmpR op_gt (pe_callB call_len_str (by rfl) z_len boot_len (pa_cons (pv 6) pa_nil)) (pe_op op_mul (pe_callB call_len (by rfl) z_len boot_len (pa_cons (pe_ix ix_list (pv 1) pe_int (fun _ _ => rfl)) pa_nil)) (pe_callB call_len (by rfl) z_len boot_len (pa_cons (pe_ix ix_list (pv 2) pe_int (fun _ _ => rfl)) pa_nil))) (nomark _))))) (pss_one (ps_ret pe_bl)) pss_nil)
        (pss_one (ps_ret (pe_or (pe_cmpR op_eq (pv 6) pe_str (nomark _)) (pe_one (pe_cmpR op_eq (pe_callO o_made r4 (by rfl) (pa_cons (pv 3) (pa_cons (pe_slice sl_str (pv 6) po_none (po_some (pe_un un_neg pe_int))) pa_nil))) (pe_callO o_made r4 (by rfl) (pa_cons (pv 4) (pa_cons (pe_slice sl_str (pv 6) po_none (po_some (pe_un un_neg pe_int))) pa_nil))) (nomark _))))))) pss_nil)
      (pss_cons (ps_set (i := 7) nd rfl (Or.inl rfl) (pe_callO o_word r3 (by rfl) (pa_cons (pv 0) (pa_cons pe_str (pa_cons pe_int pa_nil)))))
      (pss_one (ps_ret (pe_cmpR op_eq (pe_callO o_made r4 (by rfl) (pa_cons (pv 3) (pa_cons (pv 7) pa_nil))) (pe_callO o_made r4 (by rfl) (pa_cons (pv 4) (pa_cons (pv 7) pa_nil))) (nomark _))))))))))), ?_⟩
    have sh := opt_sh om on
    have szl := sizeLine_eq
    obtain ⟨ws, hg⟩ := dr_lst d0
    obtain ⟨_, pa0, ca0, haL, hRa, _, _⟩ := id dm
    obtain ⟨_, pb0, cb0, hbL, hRb, _, _⟩ := id dn
    refine ⟨fun σ' H' => ∃ x y, σ' = [some (.ref g), some (.ref a), some (.ref b), some (.ref x), some (.ref y), some (optV (prt m n)), none, none] ∧ Same H H' ∧ MaZ CM H' x m (fun a => ∃ xs, H a = some (.lst xs)) ∧ MaZ CM H' y n (fun a => ∃ xs, H a = some (.lst xs)), ?_, ?_⟩
    · refine ⟨_, rfl, a, m, rfl, dm.dw, om, fun H1 x s1 hx => ⟨_, rfl, b, n, rfl, (dn.keep s1).dw, on, fun H2 y s2 hy => ⟨_, rfl, _, rfl, a, b, m, n, rfl, (dm.keep (s1.trans s2)).dw, (dn.keep (s1.trans s2)).dw, om, on, l39, fun H3 s3 => ⟨_, _, _, rfl, ?_⟩⟩⟩⟩
      exact ⟨x, y, rfl, (s1.trans s2).trans s3, (hx.keep s2).keep s3, (hy.sub fun a ⟨xs, e⟩ => ⟨xs, s1 _ _ e⟩).keep s3⟩
    rintro σ' H1 ⟨x, y, rfl, s1, hxz, hyz⟩
    have hx := hxz.ma
    have hy := hyz.ma
    refine ⟨fun σ' H' => σ' = [some (.ref g), some (.ref a), some (.ref b), some (.ref x), some (.ref y), some (optV (prt m n)), some (optV (prt m n)), none] ∧ Same H1 H', ?_, ?_⟩
    · exact ⟨_, rfl, _, rfl, .ref x, .ref y, rfl, .inr ⟨x, m, rfl, hx, .inr ⟨y, n, rfl, hy, om, on, fun H2 s2 => ⟨rfl, s2⟩⟩⟩⟩
    rintro σ' H2 ⟨rfl, s2⟩
    refine ⟨fun σ' H' => σ' = [some (.ref g), some (.ref a), some (.ref b), some (.ref x), some (.ref y), some (optV (prt m n)), some (optV (prt m n)), none] ∧ Same H1 H', ?_, ?_⟩
    · refine ⟨_, rfl, _, _, rfl, (opt_da _).dp, sh.s, sh.h, sh.dp, Nat.le_trans sh.l (by omega), _, rfl, _, _, rfl, (opt_da _).dp, sh.s, sh.h, sh.dp, Nat.le_trans sh.l (by omega), rfl, _, rfl, iteNG ?_⟩
      refine ⟨_, rfl, _, rfl, rfl, .ref y, .ref x, rfl, .inr ⟨y, n, rfl, hy.keep s2, .inr ⟨x, m, rfl, hx.keep s2, on, om, fun H3 s3 => ?_⟩⟩⟩
      rw [prt_symm m n]
      exact ⟨_, _, rfl, (opt_da _).dp, sh.s, sh.h, sh.dp, Nat.le_trans sh.l (by omega), _, rfl, _, _, rfl, (opt_da _).dp, sh.s, sh.h, sh.dp, Nat.le_trans sh.l (by omega), rfl, _, rfl, iteNG ⟨rfl, s2.trans s3⟩⟩
    clear s2
    rintro σ' H2 ⟨rfl, s2⟩
    refine ⟨fun σ' H' => σ' = [some (.ref g), some (.ref a), some (.ref b), some (.ref x), some (.ref y), some (optV (prt m n)), some (optV (prt m n)), none] ∧ Same H1 H', ?_, ?_⟩
    · have s12 := s1.trans s2
      refine ⟨_, rfl, _, rfl, a, m, rfl, (dm.keep s12).dw, om, fun H3 z s3 hz => ?_⟩
      obtain ⟨dx, _, _, hx1, _⟩ := id (hx.keep (s2.trans s3))
      obtain ⟨_, _, _, hz1, _⟩ := hz.ma
      refine ⟨x, dx, _, .ref CM, rfl, hx1, TM.ty hz1, AT.nC, x, .ref z, m, rfl, hx.keep (s2.trans s3), om, .inl ⟨z, m, rfl, hz.ma, om, _, _, rfl, rfl, _, rfl, ite2 (fun w => ?_) (fun _ => ?_)⟩⟩
      · rw [decide_eq_true (rfl : m = m)] at w
        cases w
      have s13 := s12.trans s3
      refine ⟨_, rfl, _, rfl, b, n, rfl, (dn.keep s13).dw, on, fun H4 z4 s4 hz4 => ?_⟩
      have s24 := (s2.trans s3).trans s4
      obtain ⟨dy, _, _, hy1, _⟩ := id (hy.keep s24)
      obtain ⟨_, _, _, hz2, _⟩ := hz4.ma
      refine ⟨y, dy, _, .ref CM, rfl, hy1, TM.ty hz2, AT.nC, y, .ref z4, n, rfl, hy.keep s24, on, .inl ⟨z4, n, rfl, hz4.ma, on, _, _, rfl, rfl, _, rfl, ite2 (fun w => ?_) (fun _ => ⟨rfl, s24⟩)⟩⟩
      rw [decide_eq_true (rfl : n = n)] at w
      cases w
    clear s2
    rintro σ' H2 ⟨rfl, s2⟩
    refine ⟨fun σ' H' => σ' = [some (.ref g), some (.ref a), some (.ref b), some (.ref x), some (.ref y), some (optV (prt m n)), some (optV (prt m n)), none] ∧ Same H1 H', ?_, ?_⟩
    · refine ⟨_, rfl, _, rfl, .ref x, .ref x, rfl, .inr ⟨x, m, rfl, hx.keep s2, .inr ⟨x, m, rfl, hx.keep s2, om, om, fun H3 s3 => ?_⟩⟩⟩
      rw [prt_refl m om]
      refine ⟨_, rfl, ite2 (fun w => absurd w (by decide)) (fun _ => ?_)⟩
      refine ⟨_, rfl, _, rfl, .ref x, .ref y, rfl, .inr ⟨x, m, rfl, hx.keep (s2.trans s3), .inr ⟨y, n, rfl, hy.keep (s2.trans s3), om, on, fun H4 s4 => ?_⟩⟩⟩
      exact ⟨_, _, rfl, (opt_da _).dp, sh.s, sh.h, sh.dp, Nat.le_trans sh.l (by omega), _, rfl, _, _, rfl, (opt_da _).dp, sh.s, sh.h, sh.dp, Nat.le_trans sh.l (by omega), rfl, _, rfl, iteNG ⟨rfl, (s2.trans s3).trans s4⟩⟩
    clear s2
    rintro σ' H2 ⟨rfl, s2⟩
    have hx2 := hx.keep s2
    have hy2 := hy.keep s2
    have s12 := s1.trans s2
    have d2 := Dr.keepS s12 d0
    cases hp : prt m n with
    | some w =>
      obtain ⟨nal, al, lw, az⟩ := prt_some om on hp
      have lw : w.length ≤ 39 := by omega
      have kl : ∀ (v : List Nat) y', v.length ≤ 39 → V.str (tx v) = .str y' → y'.length ≤ 100000 := fun v y' hv e => by
        rw [← V.str.inj e, tx_len]
        omega
      refine ⟨_, rfl, _, rfl, ite2 (fun _ => ?_) (fun c => absurd rfl c)⟩
      refine ⟨_, rfl, _, rfl, _, _, rfl, .inr ⟨x, m, rfl, hx2, om, .str _, fun y' e => kl w y' lw e, .inr ⟨az_word az (by omega), fun y' ey => .inr ?_⟩⟩⟩
      obtain rfl := V.str.inj ey
      refine ⟨tot_lo om lom (by rw [tx_len]; omega), fun H3 s3 => ?_⟩
      refine ⟨_, rfl, _, rfl, _, _, rfl, .inr ⟨y, n, rfl, hy2.keep s3, on, .str _, fun y' e => kl w y' lw e, .inr ⟨az_word az (by omega), fun y' ey => .inr ?_⟩⟩⟩
      obtain rfl := V.str.inj ey
      refine ⟨tot_lo on lon (by rw [tx_len]; omega), fun H4 s4 => ?_⟩
      have ne : ¬ Txt.join "" (madeP m (tx w)) = Txt.join "" (madeP n (tx w)) := fun z => nal (by
        have := made_alk.mpr z
        rw [cz_tx] at this
        exact this)
      refine ⟨rfl, _, rfl, ite2 (fun z => absurd (V.str.inj (of_decide_eq_true z)) ne) (fun _ => ?_)⟩
      have s24 := s3.trans s4
      have s14 := s12.trans s24
      obtain ⟨xsa, hxa, lxa⟩ : ∃ xs, H pa0 = some (.lst xs) ∧ xs.length = m.R.length := by
        obtain ⟨_, xs, e, r⟩ := hRa
        exact ⟨xs, e, r.len⟩
      obtain ⟨xsb, hxb, lxb⟩ : ∃ xs, H pb0 = some (.lst xs) ∧ xs.length = n.R.length := by
        obtain ⟨_, xs, e, r⟩ := hRb
        exact ⟨xs, e, r.len⟩
      have l12 := om.r2
      have l12b := on.r2
      refine ⟨_, rfl, tx w, rfl, (by rw [tx_len]; omega), _, rfl, a, _, _, _, rfl, rfl, SqL.of (s14 _ _ haL), rfl, _, m.R.length, rfl, .inl ⟨_, SqL.of (s14 _ _ hxa), lxa.symm⟩, _, rfl, b, _, _, _, rfl, rfl, SqL.of (s14 _ _ hbL), rfl, _, n.R.length, rfl, .inl ⟨_, SqL.of (s14 _ _ hxb), lxb.symm⟩, _, _, rfl, rfl, .inl ⟨by omega, by omega⟩, _, _, rfl, rfl, _, rfl, ite2 (fun z => ?_) (fun _ => ?_)⟩
      · have z := of_decide_eq_true z
        rw [tx_len] at z
        have e : ((m.R.length : Int) * (n.R.length : Int)) = ((m.R.length * n.R.length : Nat) : Int) := rfl
        have lw2 := (prt_some om on hp).2.2.1
        rw [e] at z
        omega
      refine ⟨_, rfl, rfl, decide (V.str (tx w) = V.str ("" : Str)), rfl, ?_⟩
      by_cases c : tx w = ("" : Str)
      · have qq := q H4 (Same.but s14) (Dr.keepS s24 (d2.mono (by omega)))
        rw [decide_eq_true (congrArg V.str c)]
        exact iteT qq
      · rw [decide_eq_false (fun z => c (V.str.inj z))]
        have al : Alk m n w.dropLast := by
          rcases al with z | z
          · exact absurd (by rw [z]; decide +kernel) c
          · exact z
        have azd : AZ w.dropLast := fun c hc => az c (List.dropLast_subset w hc)
        have lwd : w.dropLast.length ≤ 39 := by rw [List.length_dropLast]; omega
        refine iteF ?_
        refine ⟨_, rfl, _, rfl, _, rfl, _, rfl, _, rfl, (by rw [tx_len]; omega), ?_⟩
        rw [tx_init]
        refine ⟨_, _, rfl, .inr ⟨x, m, rfl, hx2.keep s24, om, .str _, fun y' e => kl _ y' lwd e, .inr ⟨az_word azd (by omega), fun y' ey => .inr ?_⟩⟩⟩
        obtain rfl := V.str.inj ey
        refine ⟨tot_lo om lom (by rw [tx_len]; omega), fun H5 s5 => ?_⟩
        refine ⟨_, rfl, _, rfl, _, rfl, _, rfl, _, rfl, (by rw [tx_len]; omega), ?_⟩
        rw [tx_init]
        refine ⟨_, _, rfl, .inr ⟨y, n, rfl, (hy2.keep s24).keep s5, on, .str _, fun y' e => kl _ y' lwd e, .inr ⟨az_word azd (by omega), fun y' ey => .inr ?_⟩⟩⟩
        obtain rfl := V.str.inj ey
        refine ⟨tot_lo on lon (by rw [tx_len]; omega), fun H6 s6 => ⟨rfl, ?_⟩⟩
        have eq : Txt.join "" (madeP m (tx w.dropLast)) = Txt.join "" (madeP n (tx w.dropLast)) := made_alk.mp (by rw [cz_tx]; exact al)
        rw [decide_eq_true (congrArg V.str eq)]
        have s56 := s5.trans s6
        exact q H6 (Same.but (s14.trans s56)) (Dr.keepS (s24.trans s56) (d2.mono (by omega)))
    | none =>
      refine ⟨_, rfl, _, rfl, ite2 (fun c => absurd c (by decide)) (fun _ => ?_)⟩
      refine ⟨_, rfl, g, _, 12, "abqz", rfl, by decide, d2, by omega, LO.of (by decide +kernel), by decide +kernel, fun H3 wy low lw b3 d3 => ?_⟩
      obtain ⟨ws2, hg2⟩ := dr_lst d2
      have hx3 := ((hxz.keep s2).but ⟨_, hg⟩ b3).ma
      have hy3 := ((hyz.keep s2).but ⟨_, hg⟩ b3).ma
      have az : ∀ c ∈ cz wy, 97 ≤ c ∧ c < 123 := fun c hc => by
        have := low c hc
        omega
      have kl : ∀ y', V.str wy = .str y' → y'.length ≤ 100000 := fun y' e => by
        rw [← V.str.inj e]
        omega
      refine ⟨_, rfl, _, rfl, _, _, rfl, .inr ⟨x, m, rfl, hx3, om, .str _, kl, .inr ⟨lo_word low (by omega), fun y' ey => .inr ?_⟩⟩⟩
      obtain rfl := V.str.inj ey
      refine ⟨tot_lo om lom (by omega), fun H4 s4 => ?_⟩
      refine ⟨_, rfl, _, rfl, _, _, rfl, .inr ⟨y, n, rfl, hy3.keep s4, on, .str _, kl, .inr ⟨lo_word low (by omega), fun y' ey => .inr ?_⟩⟩⟩
      obtain rfl := V.str.inj ey
      refine ⟨tot_lo on lon (by omega), fun H5 s5 => ⟨rfl, ?_⟩⟩
      have eq : Txt.join "" (madeP m wy) = Txt.join "" (madeP n wy) := made_alk.mp (prt_none om on hp _ az)
      rw [decide_eq_true (congrArg V.str eq)]
      exact q H5 ((Same.but s12).trans (b3.trans (Same.but (s4.trans s5)))) (Dr.keepS (s4.trans s5) (d3.mono (by omega)))
end
end KK
set_option Elab.async false
set_option linter.all false
set_option maxRecDepth 100000
set_option maxHeartbeats 4000000
namespace KK
open PySem PySem.Spec PyProof.Rows L2 XV NM XT XA XD LamX NB
/-! ### what is refused: one question -/
abbrev sCaught : Stmt := top 48
abbrev nCaught : List Str := ["_law_one", "_law_two", "_law_error", "e"]
theorem scCaught : FnScope nCaught ["_law_one", "_law_two"] (defScope sCaught) := ⟨rfl, rfl, rfl, by decide +kernel, rfl, by decide +kernel, by decide +kernel⟩
/-- the first of the two that is none -/
inductive AskP (K : PySem.W.Frag) (C : Addr) (H : Hp) : V → V → V → Prop
  | a {u v : V} : NoA K H u → AskP K C H u v u
  | b {x : Addr} {m : Mm} {v : V} : Ma C H x m → NoA K H v → AskP K C H (.ref x) v v
def spCaught (K : PySem.W.Frag) (C : Addr) : Sp := fun vs H Q _ => ∃ (u v x : V) (d : PyData), vs = [u, v] ∧ AskP K C H u v x ∧ Da H x d ∧ ShOk d ∧ ∀ H', Same H H' → Q (.str d.shown) H'
section
variable {P : Program} {w : World} {K : PySem.W.Frag} {mg : Str → Option Value} {base : Heap} {f : Addr} {fd : FuncData} {C : Addr}
theorem ok_caught (F : FnP K "_law_caught" sCaught f fd) (Z : ClF P w K mg base) (o_pw : OkX P w K mg base "parting_input" 4 ["one", "other"] (spPI K C)) (z_isinstance : mg "isinstance" = none) (z_repr : mg "repr" = none) :
    FnG P w K mg base CX0 5 f fd ["_law_one", "_law_two"] (spCaught K C) := by
  have nd := scCaught.nd
  have g0 : mg "InvalidMaker" = some (.ref (CF K 4)) := Z.g 4 (by decide)
  have gE : mg "LoopError" = some (.ref (CF K 5)) := Z.g 5 (by decide)
  refine okG F scCaught (fun vs H Q E h => ?_) (fun cdv A outer s H vs Q E ag hr h => ?_)
  · obtain ⟨u, v, x, d, rfl, _⟩ := h
    rfl
  · obtain ⟨u, v, x, d, rfl, ask, hx, sh, q⟩ := h
    have hu := hr.units
    have szl := sizeLine_eq
    refine ⟨_, PSs.nox (pss_cons (ps_set (i := 2) nd rfl (Or.inl rfl) pe_non)
      (C8.pss_cut (ps_try_keep (i := 3) rfl rfl rfl nd rfl rfl ⟨by rfl, by decide, .inl gE⟩ L2.takes0
        (fun W pn xe tk _ => pss_one (ps_expr (pe_callT o_pw tk hr (by rfl) (pa_cons (pv 0) (pa_cons (pv 1) pa_nil)))))
        (fun a oe cls d pn hz hf => pss_one (ps_set (i := 2) nd rfl (Or.inl rfl) (pv 3))))
      (pss_one (ps_ret (pe_ifExp (pt_val (pe_callB call_isZ (by rfl) z_isinstance (by decide +kernel) (pa_cons (pv 2) (pa_cons (pe_glob (v := .ref (CF K 4)) (by rfl) g0 rfl) pa_nil)))) (pe_callB (call_reprD ag hu) (by rfl) z_repr (by decide +kernel) (pa_cons (pe_zget (pv 2)) pa_nil)) pe_str))))), ?_⟩
    refine ⟨fun σ' H' => ∃ (a dx : Addr), σ' = [some u, some v, some (.ref a), none] ∧ Same H H' ∧ H' a = some (exz a (.ref (CF K 4)) (some dx)) ∧ H' dx = some (.xd [("value", x)]), ?_, ?_⟩
    · have wish : Rz (WE (wKeep K (.ref (CF K 5)) 3 (fun a cls d => tAsg (tVar 3) (gName 2)) (fun _ _ _ _ => False)
          { nx := fun σ' H' => ∃ (a dx : Addr), σ' = [some u, some v, some (.ref a), none] ∧ Same H H' ∧ H' a = some (exz a (.ref (CF K 4)) (some dx)) ∧ H' dx = some (.xd [("value", x)]), rt := Q })
          [some u, some v, some .non, none]) H (CF K 4) x := fun H' dx sm nd => by
        refine ⟨true, Z.exm 4 (by decide), fun _ a na => ?_, fun z => nomatch z⟩
        refine ⟨_, rfl, fun na2 => ⟨a, dx, rfl, (sm.trans (same_new nd)).trans (same_new na2), upd_same, ?_⟩⟩
        rw [upd_ne (ne_of_none upd_same na2)]
        exact upd_same
      cases ask with
      | a n => exact ⟨_, rfl, _, rfl, _, _, rfl, .inl ⟨n, wish⟩⟩
      | b ha n => exact ⟨_, rfl, _, rfl, _, _, rfl, .inr ⟨_, _, rfl, ha, .inl ⟨n, wish⟩⟩⟩
    · rintro σ' H1 ⟨a, dx, rfl, sm, ha, hdx⟩
      refine ⟨_, rfl, _, _, _, _, _, _, _, rfl, ha, hdx, Z.e 4 (by decide), (fun u r => r), Z.kit 4 (by decide) 4 (by decide), _, rfl, ite2 (fun _ => ?_) (fun c => absurd rfl c)⟩
      refine ⟨_, rfl, a, _, dx, _, x, rfl, ha, hdx, Z.f 4 (by decide), look_v _ _, ?_⟩
      refine ⟨x, d, rfl, (hx.keep sm).dp, sh.s, sh.h, sh.dp, Nat.le_trans sh.l (by omega), ?_⟩
      exact q _ sm
end
end KK
set_option Elab.async false
set_option linter.all false
set_option maxRecDepth 100000
set_option maxHeartbeats 2000000
namespace KK
open PySem PySem.Spec PyProof.Rows L2 XV NM XT XA XD LamX NB
/-! ### what is put off writes the same -/
theorem snoc_ind {α : Type} {p : List α → Prop} (h0 : p []) (h1 : ∀ w c, p w → p (w ++ [c])) (w : List α) : p w := by
  have key : ∀ l : List α, p l.reverse := by
    intro l
    induction l with
    | nil => exact h0
    | cons c l ih =>
      rw [List.reverse_cons]
      exact h1 _ _ ih
  have := key w.reverse
  rwa [List.reverse_reverse] at this
theorem en_at' {m : Mm} (ok : MmOk m) {s : Nat} (hs : s < m.R.length) (c : Nat) : ∃ row, m.R[s]? = some row ∧ row[(cz m.z).idxOf c]? = some (enAt m.R s ((cz m.z).idxOf c)) := by
  obtain ⟨row, h1, h2, _⟩ := en_get ok hs c
  exact ⟨row, h1, h2⟩
theorem enAt_of {R : List (List En)} {s k : Nat} {row : List En} {e : En} (h1 : R[s]? = some row) (h2 : row[k]? = some e) : enAt R s k = e := by
  unfold enAt
  rw [List.getD_eq_getElem?_getD, List.getD_eq_getElem?_getD, h1]
  show (row[k]?).getD _ = e
  rw [h2]
  rfl
theorem off_at {m : Mm} (ok : MmOk m) {s : Nat} (hs : s < m.R.length) (c : Nat) : enAt (mOff m).R s ((cz m.z).idxOf c) = ph1 (enAt m.R s ((cz m.z).idxOf c)) := by
  obtain ⟨row, h1, h2⟩ := en_at' ok hs c
  refine enAt_of (row := row.map ph1) ?_ ?_
  · show (m.R.map fun r => r.map ph1)[s]? = _
    rw [List.getElem?_map, h1]
    rfl
  · rw [List.getElem?_map, h2]
    rfl
theorem led_at1 {m : Mm} (ok : MmOk m) {s : Nat} (hs : s < m.R.length) (c : Nat) : enAt (mLed m).R s ((cz m.z).idxOf c) = ph2 m.R.length (enAt m.R s ((cz m.z).idxOf c)) := by
  obtain ⟨row, h1, h2⟩ := en_at' ok hs c
  refine enAt_of (row := row.map (ph2 m.R.length)) ?_ ?_
  · show ((m.R.map fun r => r.map (ph2 m.R.length)) ++ _)[s]? = _
    rw [List.getElem?_append_left (by rw [List.length_map]; exact hs), List.getElem?_map, h1]
    rfl
  · rw [List.getElem?_map, h2]
    rfl
theorem led_at2 {m : Mm} (ok : MmOk m) {s : Nat} (hs : s < m.R.length) (c : Nat) : enAt (mLed m).R (s + m.R.length) ((cz m.z).idxOf c) = ph3 m.R.length (enAt m.R s ((cz m.z).idxOf c)) := by
  obtain ⟨row, h1, h2⟩ := en_at' ok hs c
  refine enAt_of (row := row.map (ph3 m.R.length)) ?_ ?_
  · show ((m.R.map fun r => r.map (ph2 m.R.length)) ++ _)[s + m.R.length]? = _
    rw [List.getElem?_append_right (by rw [List.length_map]; omega), List.length_map, Nat.add_sub_cancel, List.getElem?_map, h1]
    rfl
  · rw [List.getElem?_map, h2]
    rfl
theorem nx_e (m : Mm) (s c : Nat) : nx m s c = (enAt m.R s ((cz m.z).idxOf c)).s := rfl
theorem ot_e (m : Mm) (s c : Nat) : ot m s c = cz (enAt m.R s ((cz m.z).idxOf c)).w ++ (if (enAt m.R s ((cz m.z).idxOf c)).b then [c] else []) := by
  show (([] ++ (_ :: if _ then _ else _)) : List Str).flatMap cz = _
  rw [List.nil_append, List.flatMap_cons]
  congr 1
  cases (enAt m.R s ((cz m.z).idxOf c)).b
  · rfl
  · rfl
theorem cz_app (a b : Str) : cz (a ++ b) = cz a ++ cz b := by
  show (a.cps ++ b.cps).toList = _
  simp [cz]
theorem cz_a : cz ("a" : Str) = [97] := by decide +kernel
structure OffI (m : Mm) (w : List Nat) : Prop where
  lt : stt (mOff m) w < m.R.length
  h : (stt (mLed m) w = stt (mOff m) w ∧ oo (mOff m) w = oo (mLed m) w) ∨ (stt (mLed m) w = stt (mOff m) w + m.R.length ∧ oo (mOff m) w = oo (mLed m) w ++ [97])
theorem off_inv {m : Mm} (ok : MmOk m) (w : List Nat) : OffI m w := by
  refine snoc_ind (p := OffI m) ⟨ok.hs, .inl ⟨rfl, rfl⟩⟩ (fun w c ⟨lt, h⟩ => ?_) w
  have e1 := off_at ok lt c
  obtain ⟨_, _, _, els, _⟩ := en_get ok lt c
  have n1 : nx (mOff m) (stt (mOff m) w) c = (enAt m.R (stt (mOff m) w) ((cz m.z).idxOf c)).s := by
    rw [nx_e, show (mOff m).z = m.z from rfl, e1]
    rfl
  have o1 : ot (mOff m) (stt (mOff m) w) c = cz (enAt m.R (stt (mOff m) w) ((cz m.z).idxOf c)).w ++ [97] := by
    rw [ot_e, show (mOff m).z = m.z from rfl, e1]
    show cz (_ ++ ("a" : Str)) ++ [] = _
    rw [cz_app, cz_a, List.append_nil]
  refine ⟨by rw [stt_snoc, n1]; exact els, .inr ?_⟩
  rcases h with ⟨hs, ho⟩ | ⟨hs, ho⟩
  · have e2 := led_at1 ok lt c
    have n2 : nx (mLed m) (stt (mLed m) w) c = (enAt m.R (stt (mOff m) w) ((cz m.z).idxOf c)).s + m.R.length := by
      rw [nx_e, hs, show (mLed m).z = m.z from rfl, e2]
      rfl
    have o2 : ot (mLed m) (stt (mLed m) w) c = cz (enAt m.R (stt (mOff m) w) ((cz m.z).idxOf c)).w := by
      rw [ot_e, hs, show (mLed m).z = m.z from rfl, e2]
      show cz _ ++ [] = _
      rw [List.append_nil]
      rfl
    refine ⟨by rw [stt_snoc, stt_snoc, n1, n2], ?_⟩
    rw [oo_snoc, oo_snoc, o1, o2, ho, List.append_assoc]
  · have e2 := led_at2 ok lt c
    have n2 : nx (mLed m) (stt (mLed m) w) c = (enAt m.R (stt (mOff m) w) ((cz m.z).idxOf c)).s + m.R.length := by
      rw [nx_e, hs, show (mLed m).z = m.z from rfl, e2]
      rfl
    have o2 : ot (mLed m) (stt (mLed m) w) c = [97] ++ cz (enAt m.R (stt (mOff m) w) ((cz m.z).idxOf c)).w := by
      rw [ot_e, hs, show (mLed m).z = m.z from rfl, e2]
      show cz (("a" : Str) ++ _) ++ [] = _
      rw [cz_app, cz_a, List.append_nil]
    refine ⟨by rw [stt_snoc, stt_snoc, n1, n2], ?_⟩
    rw [oo_snoc, oo_snoc, o1, o2, ho]
    simp only [List.append_assoc]
theorem off_alk {m : Mm} (ok : MmOk m) (w : List Nat) : Alk (mOff m) (mLed m) w := by
  obtain ⟨lt, h⟩ := off_inv ok w
  have lc := ok.lc
  have ec : m.cl[stt (mOff m) w]? = some (m.cl[stt (mOff m) w]'(by omega)) := List.getElem?_eq_getElem (by omega)
  have c1 : clN (mOff m) (stt (mOff m) w) = cz (m.cl[stt (mOff m) w]'(by omega)) := by
    show cz (m.cl.getD _ "") = _
    rw [List.getD_eq_getElem?_getD, ec]
    rfl
  unfold Alk
  rw [c1]
  rcases h with ⟨hs, ho⟩ | ⟨hs, ho⟩
  · have c2 : clN (mLed m) (stt (mLed m) w) = cz (m.cl[stt (mOff m) w]'(by omega)) := by
      rw [hs]
      show cz ((m.cl ++ m.cl.map fun y => ("a" : Str) ++ y).getD _ "") = _
      rw [List.getD_eq_getElem?_getD, List.getElem?_append_left (by omega), ec]
      rfl
    rw [c2, ho]
  · have c2 : clN (mLed m) (stt (mLed m) w) = [97] ++ cz (m.cl[stt (mOff m) w]'(by omega)) := by
      rw [hs]
      show cz ((m.cl ++ m.cl.map fun y => ("a" : Str) ++ y).getD _ "") = _
      rw [List.getD_eq_getElem?_getD, List.getElem?_append_right (by omega), List.getElem?_map, show stt (mOff m) w + m.R.length - m.cl.length = stt (mOff m) w by omega, ec]
      show cz (("a" : Str) ++ _) = _
      rw [cz_app, cz_a]
    rw [c2, ho, List.append_assoc]
theorem prt_off {m : Mm} (ok : MmOk m) (lo : Lo2 m 2) (l4 : m.R.length ≤ 4) : prt (mOff m) (mLed m) = none := by
  cases h : prt (mOff m) (mLed m) with
  | none => rfl
  | some w => exact absurd (off_alk ok w) (prt_some (off_ok ok lo l4).1 (led_ok ok lo l4).1 h).1
/-! ### the makers that are written -/
def everyS : Str := "abcdefghijklmnopqrstuvwxyz"
def mSt : Mm := ⟨"", [[⟨0, "", true⟩]], 0, [""]⟩
def mLa : Mm := ⟨"", [[⟨0, "b", false⟩]], 0, [""]⟩
def mLc : Mm := ⟨"c", [[⟨0, "b", false⟩, ⟨0, "b", false⟩]], 0, [""]⟩
def mPa : Mm := ⟨"", [[⟨0, "ab", false⟩]], 0, [""]⟩
def mBe (y : Str) : Mm := ⟨"", [[⟨1, "a", false⟩], [⟨1, "ba", false⟩]], 0, ["", y]⟩
def mPb : Mm := ⟨"", [[⟨0, "ab", false⟩]], 0, ["a"]⟩
def mFu : Mm := ⟨everyS, [List.replicate 26 ⟨0, "", true⟩ ++ [⟨0, "x", false⟩]], 0, [""]⟩
def mLz : Mm := ⟨everyS, [List.replicate 25 ⟨0, "", true⟩ ++ [⟨0, "q", false⟩, ⟨0, "", true⟩]], 0, [""]⟩
def a2000 : Str := Txt.mul "a" 2000
def mFar (y : Str) : Mm := ⟨"", (List.range 12).map fun i => [⟨(i + 1) % 12, a2000, false⟩], 0, List.replicate 11 ("" : Str) ++ [y]⟩
def okB (m : Mm) : Bool := alphV (.str m.z) && (m.z.cps.all (· < 128) && (decide (m.z.length ≤ 26) && (decide (1 ≤ m.R.length) && (decide (m.R.length ≤ 12) && ((m.R.all fun r => decide (r.length = m.z.length + 1) && r.all fun e => decide (e.s < m.R.length) && shortV (.str e.w)) && (decide (m.s < m.R.length) && (decide (m.cl.length = m.R.length) && m.cl.all fun y => shortV (.str y))))))))
theorem okB_ok {m : Mm} (h : okB m = true) : MmOk m := by
  unfold okB at h
  simp only [Bool.and_eq_true, decide_eq_true_eq, List.all_eq_true] at h
  obtain ⟨h1, h2, h3, h4, h5, h6, h7, h8, h9⟩ := h
  exact ⟨h1, h2, h3, h4, h5, fun r hr => ⟨(h6 r hr).1, fun e he => (h6 r hr).2 e he⟩, h7, h8, h9⟩
theorem okSt : MmOk mSt := okB_ok (by decide +kernel)
theorem okLa : MmOk mLa := okB_ok (by decide +kernel)
theorem okLc : MmOk mLc := okB_ok (by decide +kernel)
theorem okPa : MmOk mPa := okB_ok (by decide +kernel)
theorem okPb : MmOk mPb := okB_ok (by decide +kernel)
theorem okFu : MmOk mFu := okB_ok (by decide +kernel)
theorem okLz : MmOk mLz := okB_ok (by decide +kernel)
theorem okBe1 : MmOk (mBe "b") := okB_ok (by decide +kernel)
theorem okBe2 : MmOk (mBe "bb") := okB_ok (by decide +kernel)
theorem okBe3 : MmOk (mBe "") := okB_ok (by decide +kernel)
theorem prt1 : prt mSt mLa = some [97] := by decide +kernel
theorem prt2 : prt mLa mLc = none := by decide +kernel
theorem prt3 : prt mPa (mBe "b") = none := by decide +kernel
theorem prt4 : prt mPa (mBe "bb") = some [97] := by decide +kernel
theorem prt5 : prt mPa (mBe "") = some [97] := by decide +kernel
theorem prt6 : prt mPa mPb = some [] := by decide +kernel
theorem prt7 : prt mFu mSt = none := by decide +kernel
theorem prt8 : prt mLz mFu = some [122] := by decide +kernel
theorem pv1 : optV (prt mSt mLa) = .str "a" := by rw [prt1]; exact congrArg V.str (by decide +kernel)
theorem pv4 : optV (prt mPa (mBe "bb")) = .str "a" := by rw [prt4]; exact congrArg V.str (by decide +kernel)
theorem pv5 : optV (prt mPa (mBe "")) = .str "a" := by rw [prt5]; exact congrArg V.str (by decide +kernel)
theorem pv6 : optV (prt mPa mPb) = .str "" := by rw [prt6]; exact congrArg V.str (by decide +kernel)
theorem pv8 : optV (prt mLz mFu) = .str "z" := by rw [prt8]; exact congrArg V.str (by decide +kernel)
end KK
set_option Elab.async false
set_option linter.all false
set_option maxRecDepth 100000
set_option maxHeartbeats 2000000
namespace KK
open PySem PySem.Spec PyProof.Rows L2 XV NM XT XA XD LamX NB
/-! ### makers with long pieces -/
theorem mul_cz (z : Str) (n : Nat) : cz (Txt.mul z (n : Int)) = NP.pw (cz z) n := NP.cs_mul z (Int.natCast_nonneg n)
theorem mul_len' (c : Nat) (z : Str) (hz : cz z = [c]) (n : Nat) : (Txt.mul z (n : Int)).length = n := by
  have e := mul_cz z n
  rw [cz_len, e, hz, NP.pw_len]
  exact Nat.mul_one n
theorem a2000_len : a2000.length = 2000 := mul_len' 97 "a" (by decide +kernel) 2000
theorem a2000_lo : LO a2000 := fun c hc => by
  have e : cz a2000 = NP.pw (cz ("a" : Str)) 2000 := mul_cz "a" 2000
  rw [e] at hc
  unfold NP.pw at hc
  obtain ⟨l, hl, h⟩ := List.mem_flatten.mp hc
  rw [(List.mem_replicate.mp hl).2] at h
  exact LO.of (z := "a") (by decide +kernel) c h
theorem okA : shortV (.str a2000) = true := lo_short a2000_lo (by rw [a2000_len]; exact Nat.le_refl _)
theorem far_R (y : Str) {i : Nat} (h : i < 12) : (mFar y).R[i]? = some [⟨(i + 1) % 12, a2000, false⟩] := by
  show ((List.range 12).map fun i => ([⟨(i + 1) % 12, a2000, false⟩] : List En))[i]? = _
  rw [List.getElem?_map, List.getElem?_range h]
  rfl
theorem far_cl (y : Str) : (mFar y).cl.length = 12 := rfl
theorem okFar {y : Str} (hy : shortV (.str y) = true) : MmOk (mFar y) := by
  refine ⟨show alphV (.str "") = true by decide +kernel, show ("" : Str).cps.all (· < 128) = true by decide +kernel, show ("" : Str).length ≤ 26 by decide +kernel, show 1 ≤ 12 by decide, show 12 ≤ 12 by decide, fun r hr => ?_, show 0 < 12 by decide, rfl, fun v hv => ?_⟩
  · obtain ⟨i, hi, rfl⟩ := List.mem_map.mp (show r ∈ (List.range 12).map fun i => ([⟨(i + 1) % 12, a2000, false⟩] : List En) from hr)
    refine ⟨rfl, fun e he => ?_⟩
    rw [List.mem_singleton.mp he]
    exact ⟨Nat.mod_lt _ (by decide), okA⟩
  · rcases List.mem_append.mp hv with h | h
    · rw [(List.mem_replicate.mp h).2]
      decide +kernel
    · rw [List.mem_singleton.mp h]
      exact hy
theorem far_en (y : Str) {i : Nat} (h : i < 12) (c : Nat) : enAt (mFar y).R i ((cz (mFar y).z).idxOf c) = ⟨(i + 1) % 12, a2000, false⟩ := enAt_of (far_R y h) rfl
theorem far_ot (y : Str) {i : Nat} (h : i < 12) (c : Nat) : ot (mFar y) i c = cz a2000 := by
  rw [ot_e, far_en y h]
  exact List.append_nil _
theorem far_nx (y : Str) {i : Nat} (h : i < 12) (c : Nat) : nx (mFar y) i c = (i + 1) % 12 := by
  rw [nx_e, far_en y h]
theorem far_c1 (y : Str) {i : Nat} (h : i < 11) : clN (mFar y) i = [] := by
  show cz ((List.replicate 11 ("" : Str) ++ [y]).getD i "") = []
  rw [List.getD_eq_getElem?_getD, List.getElem?_append_left (by rw [List.length_replicate]; exact h), List.getElem?_replicate, if_pos h]
  rfl
theorem far_c2 (y : Str) : clN (mFar y) 11 = cz y := rfl
theorem resE_congr {α : Type} {u v : α → Nat → Bool} {L : List (α × List Nat)} (h : ∀ x ∈ L, ∀ k, u x.1 k = v x.1 k) : resE u L = resE v L := by
  have e : ∀ x ∈ L, badAt u x.1 = badAt v x.1 := fun x hx => by
    unfold badAt
    congr 1
    funext k
    exact h x hx k
  unfold resE
  have f : L.find? (fun x => (badAt u x.1).isSome) = L.find? (fun x => (badAt v x.1).isSome) := by
    clear h
    induction L with
    | nil => rfl
    | cons x L ih =>
      rw [List.find?_cons, List.find?_cons, e x List.mem_cons_self, ih fun z hz => e z (List.mem_cons_of_mem _ hz)]
  rw [f]
  cases q : L.find? (fun x => (badAt v x.1).isSome) with
  | none => rfl
  | some x =>
    show (badAt u x.1).map _ = (badAt v x.1).map _
    rw [e x (List.mem_of_find?_eq_some q)]
def farL : List (Pr2 × List Nat) := (List.range 12).map fun i => ((i, i), List.replicate i 97)
def stF (p : Pr2) (_ : Nat) : Pr2 := ((p.1 + 1) % 12, (p.2 + 1) % 12)
theorem bfs_congr {α : Type} [DecidableEq α] {u v : α → Nat → α} {p0 : α} {L : List (α × List Nat)} (h : ∀ x ∈ L, ∀ k, u x.1 k = v x.1 k) : ∀ t, bfs v p0 t ⊆ L → bfs u p0 t = bfs v p0 t
  | 0, _ => rfl
  | t + 1, s => by
    have s' : bfs v p0 t ⊆ L := fun x hx => s ((bfs_pre1 p0 t).subset hx)
    have ih := bfs_congr h t s'
    show (match (bfs u p0 t)[t]? with | some (p, w) => grow u p w (bfs u p0 t) 26 | none => bfs u p0 t) = (match (bfs v p0 t)[t]? with | some (p, w) => grow v p w (bfs v p0 t) 26 | none => bfs v p0 t)
    rw [ih]
    cases e : (bfs v p0 t)[t]? with
    | none => rfl
    | some q =>
      obtain ⟨p, w⟩ := q
      have hp : ∀ k, u p k = v p k := h (p, w) (s' (List.mem_of_getElem? e))
      have g : ∀ k, grow u p w (bfs v p0 t) k = grow v p w (bfs v p0 t) k := fun k => by
        induction k with
        | zero => rfl
        | succ k ihk =>
          show add1 u p w (grow u p w _ k) k = add1 v p w (grow v p w _ k) k
          rw [ihk]
          unfold add1
          rw [hp k]
      exact g 26
theorem far_bfs : bfs stF ((0, 0) : Pr2) 151 = farL := by decide +kernel
theorem far_mem {x : Pr2 × List Nat} (h : x ∈ farL) : ∃ i, i < 12 ∧ x.1 = (i, i) := by
  obtain ⟨i, hi, rfl⟩ := List.mem_map.mp h
  exact ⟨i, List.mem_range.mp hi, rfl⟩
theorem far_bad {i : Nat} (h : i < 12) (k : Nat) : bad (mFar "") (mFar "b") (i, i) k = decide (10 ≤ i) := by
  have e0 : clN (mFar "") ((i + 1) % 12) = [] := by
    by_cases c : (i + 1) % 12 < 11
    · exact far_c1 _ c
    · have : (i + 1) % 12 = 11 := by omega
      rw [this]
      exact far_c2 _
  have e1 : clN (mFar "") i = [] := by
    by_cases c : i < 11
    · exact far_c1 _ c
    · have : i = 11 := by omega
      rw [this]
      exact far_c2 _
  unfold bad mdL rvL pst rho
  dsimp only
  rw [far_ot _ h, far_ot _ h, far_nx _ h, far_nx _ h, e0, e1]
  by_cases c : i < 10
  · rw [far_c1 "b" (show (i + 1) % 12 < 11 by omega), far_c1 "b" (show i < 11 by omega)]
    rw [decide_eq_false (show ¬ 10 ≤ i by omega), decide_eq_true (by rfl)]
    rfl
  · rw [decide_eq_true (show 10 ≤ i by omega)]
    rw [decide_eq_false]
    · rfl
    intro z
    have z := congrArg List.length z
    by_cases d : i = 10
    · subst d
      rw [far_c1 "b" (show 10 < 11 by omega), show (10 + 1) % 12 = 11 from rfl, far_c2, show cz ("b" : Str) = [98] by decide +kernel] at z
      unfold rhoL at z
      simp at z
    · have : i = 11 := by omega
      subst this
      rw [far_c1 "b" (show (11 + 1) % 12 < 11 by omega), far_c2, show cz ("b" : Str) = [98] by decide +kernel] at z
      unfold rhoL at z
      simp at z
theorem prt9 : prt (mFar "") (mFar "b") = some (List.replicate 11 97) := by
  have b : bfs (pst (mFar "") (mFar "b")) ((mFar "").s, (mFar "b").s) 151 = farL := by
    have := bfs_congr (u := pst (mFar "") (mFar "b")) (v := stF) (p0 := ((0, 0) : Pr2)) (L := farL) (fun x hx k => by
      obtain ⟨i, hi, e⟩ := far_mem hx
      rw [e]
      show (nx _ _ _, nx _ _ _) = _
      rw [far_nx _ hi, far_nx _ hi]
      rfl) 151 (by rw [far_bfs]; exact fun x h => h)
    exact this.trans far_bfs
  unfold prt
  rw [if_pos (show clN (mFar "") (mFar "").s = clN (mFar "b") (mFar "b").s from (far_c1 "" (by decide)).trans (far_c1 "b" (by decide)).symm), b]
  rw [resE_congr (v := fun p _ => decide (10 ≤ p.1)) (fun x hx k => by
    obtain ⟨i, hi, e⟩ := far_mem hx
    rw [e]
    exact far_bad hi k)]
  decide +kernel
theorem prt10 : prt (mFar "") (mFar "") = none := prt_refl _ (okFar (by decide +kernel))
theorem pv9 : optV (prt (mFar "") (mFar "b")) = .str (Txt.mul "a" 11) := by rw [prt9]; exact congrArg V.str (by decide +kernel)
end KK
set_option Elab.async false
set_option linter.all false
set_option maxRecDepth 100000
set_option maxHeartbeats 1000000
namespace KK
open PySem PySem.Spec PyProof.Rows L2 XV NM XT XA XD LamX NB
/-! ### lists of makers -/
structure MkL (C : Addr) (H : Hp) (Z : Addr → Prop) (M : Str → Mm) (ws : List Str) (acc : List V) (n : Nat) : Prop where
  len : acc.length = n
  el : ∀ (j : Nat) y, acc[j]? = some y → ∃ w x, ws[j]? = some w ∧ y = .ref x ∧ MaZ C H x (M w) Z
theorem MkL.nil {C : Addr} {H : Hp} {Z : Addr → Prop} {M : Str → Mm} {ws : List Str} : MkL C H Z M ws [] 0 := ⟨rfl, fun j y h => by cases h⟩
theorem MkL.at {C : Addr} {H : Hp} {Z : Addr → Prop} {M : Str → Mm} {ws : List Str} {acc : List V} {n j : Nat} {y : V} (h : MkL C H Z M ws acc n) (e : acc[j]? = some y) : ∃ w x, ws[j]? = some w ∧ y = .ref x ∧ MaZ C H x (M w) Z := h.el j y e
theorem MkL.keep {C : Addr} {H H' : Hp} {Z : Addr → Prop} {M : Str → Mm} {ws : List Str} {acc : List V} {n : Nat} (h : MkL C H Z M ws acc n) (s : Same H H') : MkL C H' Z M ws acc n :=
  ⟨h.len, fun j y e => by
    obtain ⟨w, x, e1, e2, e3⟩ := h.el j y e
    exact ⟨w, x, e1, e2, e3.keep s⟩⟩
theorem MkL.upd {C : Addr} {H : Hp} {Z : Addr → Prop} {M : Str → Mm} {ws : List Str} {acc : List V} {n : Nat} {o : Addr} {v : HO} (h : MkL C H Z M ws acc n) (zo : Z o) : MkL C (L2.upd H o v) Z M ws acc n :=
  ⟨h.len, fun j y e => by
    obtain ⟨w, x, e1, e2, e3⟩ := h.el j y e
    exact ⟨w, x, e1, e2, e3.upd zo⟩⟩
theorem MkL.sub {C : Addr} {H : Hp} {Z Z' : Addr → Prop} {M : Str → Mm} {ws : List Str} {acc : List V} {n : Nat} (h : MkL C H Z M ws acc n) (i : ∀ a, Z' a → Z a) : MkL C H Z' M ws acc n :=
  ⟨h.len, fun j y e => by
    obtain ⟨w, x, e1, e2, e3⟩ := h.el j y e
    exact ⟨w, x, e1, e2, e3.sub i⟩⟩
theorem MkL.snoc {C : Addr} {H : Hp} {Z : Addr → Prop} {M : Str → Mm} {ws : List Str} {acc : List V} {n : Nat} {w : Str} {x : Addr} (h : MkL C H Z M ws acc n) (ew : ws[n]? = some w) (hx : MaZ C H x (M w) Z) : MkL C H Z M ws (acc ++ [.ref x]) (n + 1) := by
  refine ⟨by rw [List.length_append, h.len]; rfl, fun j y e => ?_⟩
  have hl := h.len
  by_cases c : j < acc.length
  · rw [List.getElem?_append_left c] at e
    exact h.el j y e
  · rw [List.getElem?_append_right (by omega)] at e
    have lj := (List.getElem?_eq_some_iff.mp e).1
    have lj : j - acc.length < 1 := lj
    obtain rfl : j = n := by omega
    rw [hl, Nat.sub_self] at e
    have e : some (V.ref x) = some y := e
    cases e
    exact ⟨w, x, ew, rfl, hx⟩
def wBe : List Str := ["b", "bb", ""]
def ansBe : List V := [.non, .str "a", .str "a"]
theorem okBe {w : Str} (h : w ∈ wBe) : MmOk (mBe w) := by
  rcases List.mem_cons.mp h with e | h
  · rw [e]; exact okBe1
  rcases List.mem_cons.mp h with e | h
  · rw [e]; exact okBe2
  rw [List.mem_singleton.mp h]
  exact okBe3
theorem ans_at {i : Nat} {w : Str} (h : wBe[i]? = some w) : ansBe[i]? = some (optV (prt mPa (mBe w))) := by
  match i, h with
  | 0, h =>
    cases h
    rw [prt3]
    rfl
  | 1, h =>
    cases h
    rw [pv4]
    rfl
  | 2, h =>
    cases h
    rw [pv5]
    rfl
theorem ans_da {H : Hp} {L : Addr} (h : H L = some (.lst (ansBe.take 3))) : Da H (.ref L) (.list [.none, .str "a", .str "a"]) := .lst h (.cons .non (.cons (.str _) (.cons (.str _) .nil)))
theorem da_lstL {H : Hp} {v : V} {ds : List PyData} (h : Da H v (.list ds)) : ∃ l us, v = .ref l ∧ H l = some (.lst us) ∧ DaAll H us ds ∧ us.length = ds.length := by
  cases h with
  | lst h ha => exact ⟨_, _, rfl, h, ha, ha.length⟩
theorem da_one {H : Hp} {v : V} {d : PyData} (h : Da H v (.list [d])) : ∃ l u, v = .ref l ∧ H l = some (.lst [u]) ∧ Da H u d := by
  obtain ⟨l, us, rfl, hl, ha, _⟩ := da_lstL h
  cases ha with
  | cons h1 h2 =>
    cases h2
    exact ⟨l, _, rfl, hl, h1⟩
theorem rep_flat {α : Type} (u : α) : ∀ n : Nat, (List.replicate n [u]).flatten = List.replicate n u
  | 0 => rfl
  | n + 1 => by
    rw [List.replicate_succ, List.flatten_cons, rep_flat u n]
    rfl
def farR (i : Nat) : List En := [⟨(i + 1) % 12, a2000, false⟩]
def wFar : List Str := ["", "b"]
theorem wFar_ok {w : Str} (h : w ∈ wFar) : shortV (.str w) = true := by
  rcases List.mem_cons.mp h with e | h
  · rw [e]; decide +kernel
  rw [List.mem_singleton.mp h]
  decide +kernel
theorem MkL.two {C : Addr} {H : Hp} {Z : Addr → Prop} {M : Str → Mm} {acc : List V} {w1 w2 : Str} (h : MkL C H Z M [w1, w2] acc 2) : ∃ f0 f1, acc = [.ref f0, .ref f1] ∧ Ma C H f0 (M w1) ∧ Ma C H f1 (M w2) := by
  match acc, h with
  | [], h => cases h.len
  | [_], h => cases h.len
  | [y0, y1], h =>
    obtain ⟨w, x, e1, rfl, e3⟩ := h.el 0 y0 rfl
    obtain ⟨w', x', e1', rfl, e3'⟩ := h.el 1 y1 rfl
    cases e1
    cases e1'
    exact ⟨x, x', rfl, e3.ma, e3'.ma⟩
  | _ :: _ :: _ :: _, h =>
    have := h.len
    simp only [List.length_cons] at this
    omega
theorem mul2000 : MulOk "a" 2000 := ⟨by decide +kernel, fun _ _ => by decide +kernel, fun _ _ => by decide +kernel⟩
theorem mul11 : MulOk "a" 11 := ⟨by decide +kernel, fun _ _ => by decide +kernel, fun _ _ => by decide +kernel⟩
end KK
set_option Elab.async false
set_option linter.all false
set_option maxRecDepth 100000
set_option maxHeartbeats 2000000
namespace KK
open PySem PySem.Spec PyProof.Rows L2 XV NM XT XA XD LamX NB
/-! ### the law -/
abbrev sLaw : Stmt := top 49
abbrev nLaw : List Str := ["_law_script", "_law_index", "_law_generator_here", "_law_one", "_law_off", "_law_stays", "_law_late", "_law_pair", "_law_begun", "_law_every", "_law_full", "_law_last", "_law_wide", "_law_far", "_law_bad", "_law_word_here", "_law_maker_here", "_law_state"]
theorem scLaw : FnScope nLaw ["_law_script"] (defScope sLaw) := ⟨rfl, rfl, rfl, by decide +kernel, rfl, by decide +kernel, by decide +kernel⟩
def badL : List PyData := [.none, .str "a", .int 3, .list [.list [.int 0]]]
theorem badL_ok : ∀ d ∈ badL, ShOk d ∧ ∀ b, d ≠ .bool b := fun d hd => by
  have h : badL.all (fun d => shB d && (match d with | .bool _ => false | _ => true)) = true := by decide +kernel
  have h := List.all_eq_true.mp h d hd
  rw [Bool.and_eq_true] at h
  refine ⟨shB_ok h.1, fun b e => ?_⟩
  rw [e] at h
  exact absurd h.2 (by simp)
theorem sqS {K : PySem.W.Frag} {H H' : Hp} {a : Addr} {xs : List V} (e : Same H H') (h : SqL K H a xs) : SqL K H' a xs := by
  rcases h with (h | ⟨o, h⟩) | h
  · exact .inl (.inl (e _ _ h))
  · exact .inl (.inr ⟨o, e _ _ h⟩)
  · exact .inr h
theorem pe_mkMC0K {X : Cx} {K : PySem.W.Frag} {C : Addr} {e1 e2 : Expr} {kws : List Keyword} {t tk : TA} {pos p : Pos} (eK : X.K = K) (o : OkMkM X.prog X.w K X.mg X.base C) (hr : Room 7 X.A) (hg : Gl X "Maker") (ha : PA X [e1, e2] t) (hk : PK X kws tk)
    (hall : (backToKw pos (keywordEach kws X.env)).all (·.1.isSome) = true := by rfl) (hks : (backToKw pos (keywordEach kws X.env)).filterMap (·.1) = (["closing"] : List Str) := by rfl)
    (he : starEach [e1, e2] X.env = (false, eval e1 X.env) :: starEach [e2] X.env := by rfl) (hpl : ((backTo pos (starEach [e1, e2] X.env)).any (·.1) || (backToKw pos (keywordEach kws X.env)).any (·.1.isNone)) = false := by rfl) :
    PE X (.Call (.Name "Maker" p) [e1, e2] kws pos) (tMakeK C 2 1 (cm (spInitM K C)) (fun vs zs => vs ++ [V.int 0] ++ zs) E0 t tk) := by
  subst eK
  exact pe_mkMC0 o hr hg ha hk hall hks he hpl
def spLaw (K : PySem.W.Frag) : Sp := fun vs H Q _ => ∃ (a : Addr) (ns : List Int), vs = [.ref a] ∧ SqL K H a (ns.map L2.V.int) ∧ ns.length ≤ 63 ∧ ∀ H' : Hp, Q (.bl true) H'
section
variable {P : Program} {w : World} {K : PySem.W.Frag} {mg : Str → Option Value} {base : Heap} {f : Addr} {fd : FuncData} {CM : Addr}
theorem ok_law (F : FnP K "law" sLaw f fd) (TM : MT K mg CM) (o_mkM : OkMkM P w K mg base CM) (o_gen : Ok P w K mg base "_law_generator" 1 ["_law_script", "_law_index"] (spGen K)) (o_draw : Ok P w K mg base "_law_draw" 5 ["_law_generator_here"] spDr) (o_turned : Ok P w K mg base "_law_turned" 6 ["_law_generator_here", "_law_one"] spTu)
    (o_off : Ok P w K mg base "_law_put_off" 1 ["_law_one"] spPO) (o_maker : Ok P w K mg base "_law_maker" 8 ["_law_drawn"] (spMk CM)) (o_pi : Ok P w K mg base "parting_input" 4 ["one", "other"] (cm (spPI K CM))) (o_pair : OkG P w K mg base "_law_pair_good" 9 ["_law_generator_here", "_law_one", "_law_other"] spPG)
    (o_caught : OkG P w K mg base "_law_caught" 5 ["_law_one", "_law_two"] (spCaught K CM)) (z_range : mg "range" = none) (z_int : mg "int" = none) (z_repr : mg "repr" = none) : FnG P w K mg base CX0 10 f fd ["_law_script"] (spLaw K) := by
  have nd := scLaw.nd
  refine okG F scLaw (fun vs H Q E h => ?_) (fun cdv A outer s H vs Q E ag hr h => ?_)
  · obtain ⟨a, ns, rfl, _⟩ := h
    rfl
  · obtain ⟨a, ns, rfl, hS, hlen, q⟩ := h
    have szl := sizeLine_eq
    have hu := hr.units
    have r9 : Room 9 (A.deeper (envOfC "law" (defScope sLaw) s.heap.objs.size f cdv)) := hr
    have r8 := r9.mono (by decide : 8 ≤ 9)
    have r7 := r9.mono (by decide : 7 ≤ 9)
    have r6 := r9.mono (by decide : 6 ≤ 9)
    have r5 := r9.mono (by decide : 5 ≤ 9)
    have r4 := r9.mono (by decide : 4 ≤ 9)
    have r1 := r9.mono (by decide : 1 ≤ 9)
    refine ⟨_, PSs.nox (C8.pss_cut (ps_for PassesOwn.never rfl (pi_range1 (by rfl) z_range (pa_cons pe_int pa_nil)) (pg_name (i := 1) nd rfl (Or.inl rfl))
        (C8.pss_cut (ps_set (i := 2) nd rfl (Or.inl rfl) (pe_callO o_gen r1 (by rfl) (pa_cons (pv 0) (pa_cons (pv 1) pa_nil))))
        (C8.pss_cut (ps_set (i := 3) nd rfl (Or.inl rfl) (pe_callO o_draw r5 (by rfl) (pa_cons (pv 2) pa_nil)))
        (C8.pss_cut (ps_if (PW.pt (pw_or (pt_not (pt_val (pe_callG o_pair ag r9 (by rfl) (pa_cons (pv 2) (pa_cons (pv 3) (pa_cons (pe_callO o_turned r6 (by rfl) (pa_cons (pv 2) (pa_cons (pv 3) pa_nil))) pa_nil)))))) (pw_or1 (pt_not (pt_val (pe_callG o_pair ag r9 (by rfl) (pa_cons (pv 2) (pa_cons (pv 3) (pa_cons (pv 3) pa_nil))))))))) (pss_one (ps_ret pe_bl)) pss_nil)
        (C8.pss_cut (ps_set (i := 4) nd rfl (Or.inl rfl) (pe_callO o_off r1 (by rfl) (pa_cons (pv 3) pa_nil)))
        (C8.pss_cut (ps_if (PW.pt (pw_or (pt_not (pt_val (pe_callG o_pair ag r9 (by rfl) (pa_cons (pv 2) (pa_cons (pe_ix ix_list (pv 4) pe_int (fun _ _ => rfl)) (pa_cons (pe_ix ix_list (pv 4) pe_int (fun _ _ => rfl)) pa_nil)))))) (pw_or1 (pt_cmp (pc_notN (pe_callO o_pi r4 (by rfl) (pa_cons (pe_callO o_maker r8 (by rfl) (pa_cons (pe_ix ix_list (pv 4) pe_int (fun _ _ => rfl)) pa_nil)) (pa_cons (pe_callO o_maker r8 (by rfl) (pa_cons (pe_ix ix_list (pv 4) pe_int (fun _ _ => rfl)) pa_nil)) pa_nil)))))))) (pss_one (ps_ret pe_bl)) pss_nil)
        (pss_one (ps_if (pt_not (pt_val (pe_callG o_pair ag r9 (by rfl) (pa_cons (pv 2) (pa_cons (pe_ix ix_list (pv 4) pe_int (fun _ _ => rfl)) (pa_cons (pe_callO o_turned r6 (by rfl) (pa_cons (pv 2) (pa_cons (pe_ix ix_list (pv 4) pe_int (fun _ _ => rfl)) pa_nil))) pa_nil)))))) (pss_one (ps_ret pe_bl)) pss_nil))))))))
        (C8.pss_cut (ps_set (i := 5) nd rfl (Or.inl rfl) (pe_mkMC0 o_mkM r7 (by rfl) (pa_cons pe_str (pa_cons (pe_lit 4 (d := rsD mSt.R) rfl) pa_nil)) (pk_cons (pe_lst (pa_cons pe_str pa_nil)) pk_nil)))
        (C8.pss_cut (ps_set (i := 6) nd rfl (Or.inl rfl) (pe_mkMC0 o_mkM r7 (by rfl) (pa_cons pe_str (pa_cons (pe_lit 4 (d := rsD mLa.R) rfl) pa_nil)) (pk_cons (pe_lst (pa_cons pe_str pa_nil)) pk_nil)))
        (C8.pss_cut (ps_if (PW.pt (pw_or (pt_cmpR op_ne (pe_callO o_pi r4 (by rfl) (pa_cons (pv 5) (pa_cons (pv 6) pa_nil))) pe_str (nomark _)) (pw_or1 (pt_cmp (pc_notN (pe_callO o_pi r4 (by rfl) (pa_cons (pv 6) (pa_cons (pe_mkMC0 o_mkM r7 (by rfl) (pa_cons pe_str (pa_cons (pe_lit 4 (d := rsD mLc.R) rfl) pa_nil)) (pk_cons (pe_lst (pa_cons pe_str pa_nil)) pk_nil)) pa_nil)))))))) (pss_one (ps_ret pe_bl)) pss_nil)
        (C8.pss_cut (ps_set (i := 7) nd rfl (Or.inr rfl) (pe_mkMC0 o_mkM r7 (by rfl) (pa_cons pe_str (pa_cons (pe_lit 4 (d := rsD mPa.R) rfl) pa_nil)) (pk_cons (pe_lst (pa_cons pe_str pa_nil)) pk_nil)))
        (C8.pss_cut (ps_setLc (i := 8) (own := [("_law_word_here", 15)]) (g := gName 15) (by rfl) nd rfl rfl (sw_true rfl rfl rfl (by decide +kernel)) (pi_list (pe_lst (pa_cons pe_str (pa_cons pe_str (pa_cons pe_str pa_nil))))) (blkOk_by (N := nLaw) (sc := defScope sLaw) (own := [("_law_word_here", 15)]) (by decide +kernel)) (fun _ _ _ _ _ => pg_name (i := 15) nd rfl (Or.inl rfl)) (fun _ _ _ _ _ => pts_nil)
          (fun _ _ _ _ _ => (pe_mkMC0K (K := K) rfl o_mkM r7 (by rfl) (pa_cons pe_str (pa_cons (pe_lit 4 (d := rsD (mBe "").R) rfl) pa_nil)) (pk_cons (pe_lst (pa_cons pe_str (pa_cons (pv 15) pa_nil))) pk_nil))))
        (C8.pss_cut (ps_if (pt_cmpR (op_neD hu) (pe_lc (own := [("_law_maker_here", 16)]) (g := gName 16) (by rfl) nd (pi_list (pv 8)) (blkOk_by (N := nLaw) (sc := defScope sLaw) (own := [("_law_maker_here", 16)]) (by decide +kernel)) (fun _ _ _ _ _ => pg_name (i := 16) nd rfl (Or.inl rfl)) (fun _ _ _ _ _ => pts_nil)
          (fun _ _ _ _ _ => (pe_callO o_pi r4 (by rfl) (pa_cons (pv 7) (pa_cons (pv 16) pa_nil))))) (pe_lit 4 (d := PyData.list [.none, .str "a", .str "a"]) rfl) (nomark _)) (pss_one (ps_ret pe_bl)) pss_nil)
        (C8.pss_cut (ps_if (pt_cmpR op_ne (pe_callO o_pi r4 (by rfl) (pa_cons (pv 7) (pa_cons (pe_mkMC0 o_mkM r7 (by rfl) (pa_cons pe_str (pa_cons (pe_lit 4 (d := rsD mPb.R) rfl) pa_nil)) (pk_cons (pe_lst (pa_cons pe_str pa_nil)) pk_nil)) pa_nil))) pe_str (nomark _)) (pss_one (ps_ret pe_bl)) pss_nil)
        (C8.pss_cut (ps_set (i := 9) nd rfl (Or.inl rfl) pe_str)
        (C8.pss_cut (ps_set (i := 10) nd rfl (Or.inl rfl) (pe_mkMC0 o_mkM r7 (by rfl) (pa_cons (pv 9) (pa_cons (pe_lst (pa_cons (pe_op op_cat (pe_op op_rep (pe_lit 3 (d := PyData.list [enD ⟨0, "", true⟩]) rfl) pe_int) (pe_lit 3 (d := PyData.list [enD ⟨0, "x", false⟩]) rfl)) pa_nil)) pa_nil)) (pk_cons (pe_lst (pa_cons pe_str pa_nil)) pk_nil)))
        (C8.pss_cut (ps_set (i := 11) nd rfl (Or.inl rfl) (pe_mkMC0 o_mkM r7 (by rfl) (pa_cons (pv 9) (pa_cons (pe_lst (pa_cons (pe_op op_cat (pe_op op_rep (pe_lit 3 (d := PyData.list [enD ⟨0, "", true⟩]) rfl) pe_int) (pe_lit 3 (d := PyData.list [enD ⟨0, "q", false⟩, enD ⟨0, "", true⟩]) rfl)) pa_nil)) pa_nil)) (pk_cons (pe_lst (pa_cons pe_str pa_nil)) pk_nil)))
        (C8.pss_cut (ps_if (PW.pt (pw_or (pt_cmp (pc_notN (pe_callO o_pi r4 (by rfl) (pa_cons (pv 10) (pa_cons (pv 5) pa_nil))))) (pw_or1 (pt_cmpR op_ne (pe_callO o_pi r4 (by rfl) (pa_cons (pv 11) (pa_cons (pv 10) pa_nil))) pe_str (nomark _))))) (pss_one (ps_ret pe_bl)) pss_nil)
        (C8.pss_cut (ps_set (i := 12) nd rfl (Or.inr rfl) (pe_lc (own := [("_law_state", 17)]) (g := gName 17) (by rfl) nd (pi_range1 (by rfl) z_range (pa_cons pe_int pa_nil)) (blkOk_by (N := nLaw) (sc := defScope sLaw) (own := [("_law_state", 17)]) (by decide +kernel)) (fun _ _ _ _ _ => pg_name (i := 17) nd rfl (Or.inl rfl)) (fun _ _ _ _ _ => pts_nil)
          (fun _ _ _ _ _ => (pe_lst (pa_cons (pe_tup (pa_cons (pe_op op_mod (pe_callTy call_int1 (by rfl) z_int (by decide +kernel) (pa_cons (pe_op op_add (pv 17) pe_int) pa_nil)) pe_int) (pa_cons (pe_op op_mulS pe_str pe_int) (pa_cons pe_bl pa_nil)))) pa_nil)))))
        (C8.pss_cut (ps_setLc (i := 13) (own := [("_law_word_here", 15)]) (g := gName 15) (by rfl) nd rfl rfl (sw_true rfl rfl rfl (by decide +kernel)) (pi_list (pe_lst (pa_cons pe_str (pa_cons pe_str pa_nil)))) (blkOk_by (N := nLaw) (sc := defScope sLaw) (own := [("_law_word_here", 15)]) (by decide +kernel)) (fun _ _ _ _ _ => pg_name (i := 15) nd rfl (Or.inl rfl)) (fun _ _ _ _ _ => pts_nil)
          (fun _ _ _ _ _ => (pe_mkMC0K (K := K) rfl o_mkM r7 (by rfl) (pa_cons pe_str (pa_cons (pv 12) pa_nil)) (pk_cons (pe_op op_cat (pe_op op_rep (pe_lst (pa_cons pe_str pa_nil)) pe_int) (pe_lst (pa_cons (pv 15) pa_nil))) pk_nil))))
        (C8.pss_cut (ps_if (PW.pt (pw_or (pt_cmpR op_ne (pe_callO o_pi r4 (by rfl) (pa_cons (pe_ix ix_list (pv 13) pe_int (fun _ _ => rfl)) (pa_cons (pe_ix ix_list (pv 13) pe_int (fun _ _ => rfl)) pa_nil))) (pe_op op_mulS pe_str pe_int) (nomark _)) (pw_or1 (pt_cmp (pc_notN (pe_callO o_pi r4 (by rfl) (pa_cons (pe_ix ix_list (pv 13) pe_int (fun _ _ => rfl)) (pa_cons (pe_ix ix_list (pv 13) pe_int (fun _ _ => rfl)) pa_nil)))))))) (pss_one (ps_ret pe_bl)) pss_nil)
        (C8.pss_cut (ps_for PassesOwn.never rfl (pi_list (pe_lit 5 (d := PyData.list badL) rfl)) (pg_name (i := 14) nd rfl (Or.inl rfl))
        (pss_one (ps_if (PW.pt (pw_or (pt_cmpR op_ne (pe_callG o_caught ag r5 (by rfl) (pa_cons (pv 14) (pa_cons pe_non pa_nil))) (pe_callB (call_reprD ag hu) (by rfl) z_repr (by decide +kernel) (pa_cons (pv 14) pa_nil)) (nomark _)) (pw_or1 (pt_cmpR op_ne (pe_callG o_caught ag r5 (by rfl) (pa_cons (pv 5) (pa_cons (pv 14) pa_nil))) (pe_callB (call_reprD ag hu) (by rfl) z_repr (by decide +kernel) (pa_cons (pv 14) pa_nil)) (nomark _))))) (pss_one (ps_ret pe_bl)) pss_nil)))
        (pss_one (ps_ret pe_bl)))))))))))))))))), ?_⟩
    refine ⟨fun σ' H' => (∃ x1 x2 x3 x4, σ' = [some (.ref a), x1, x2, x3, x4, none, none, none, none, none, none, none, none, none, none, none, none, none]) ∧ Same H H', ?_, ?_⟩
    · refine ⟨3, rfl, by decide, by decide, for_range (lo := 0) (n := 3) (fun i σ H' => (∃ x1 x2 x3 x4, σ = [some (.ref a), x1, x2, x3, x4, none, none, none, none, none, none, none, none, none, none, none, none, none]) ∧ Same H H') ⟨⟨_, _, _, _, rfl⟩, Same.refl _⟩ ?_ (fun σ' H' z => z)⟩
      rintro i σ H1 hi ⟨⟨x1, x2, x3, x4, rfl⟩, sm⟩
      rw [Int.zero_add]
      refine ⟨fun σ' H' => ∃ g, σ' = [some (.ref a), some (.int (i : Int)), some (.ref g), x3, x4, none, none, none, none, none, none, none, none, none, none, none, none, none] ∧ Same H1 H' ∧ H1 g = none ∧ Dr H' g (1000 * i), ?_, ?_⟩
      · exact ⟨_, rfl, _, rfl, a, ns, i, rfl, sqS sm hS, by omega, fun H2 g s1 ng d1 => ⟨g, rfl, s1, ng, d1⟩⟩
      rintro σ' H2 ⟨g, rfl, s2, ng, d2⟩
      refine ⟨fun σ' H' => ∃ o m, σ' = [some (.ref a), some (.int (i : Int)), some (.ref g), some (.ref o), x4, none, none, none, none, none, none, none, none, none, none, none, none, none] ∧ But H2 H' g ∧ Dr H' g 43000 ∧ DwG g H' o m ∧ MmOk m ∧ Lo2 m 2 ∧ m.z ∈ menu ∧ m.R.length ≤ 4, ?_, ?_⟩
      · exact ⟨_, rfl, g, _, rfl, d2, by omega, fun H3 p m b3 d3 w3 ok lo mz l4 => ⟨p, m, rfl, b3, d3.mono (by omega), w3, ok, lo, mz, l4⟩⟩
      rintro σ' H3 ⟨o, m, rfl, b3, d3, w3, ok, lo, mz, l4⟩
      obtain ⟨ws3, hg3⟩ := dr_lst d3
      refine ⟨fun σ' H' => σ' = [some (.ref a), some (.int (i : Int)), some (.ref g), some (.ref o), x4, none, none, none, none, none, none, none, none, none, none, none, none, none] ∧ But H3 H' g ∧ Dr H' g 95000, ?_, ?_⟩
      · refine ⟨_, rfl, _, rfl, _, rfl, _, rfl, g, o, _, m, rfl, d3, by omega, w3, ok, lo.mono (by decide), mz, by omega, fun H4 p4 m4 b4 d4 w4 ok4 lo4 l8 => ?_⟩
        have mul : m.R.length * m4.R.length ≤ 39 := Nat.le_trans (Nat.mul_le_mul l4 l8) (by decide)
        have mul2 : m.R.length * m.R.length ≤ 39 := Nat.le_trans (Nat.mul_le_mul l4 l4) (by decide)
        refine ⟨g, o, p4, _, m, m4, rfl, d4, by omega, w3.but hg3 b4, w4, ok, ok4, lo.mono (by decide), lo4, mul, fun H5 b5 d5 => ⟨true, rfl, iteF ?_⟩⟩
        obtain ⟨ws4, hg4⟩ := dr_lst d4
        have w5 := (w3.but hg3 b4).but hg4 b5
        exact ⟨_, rfl, _, rfl, _, rfl, g, o, o, _, m, m, rfl, d5, by omega, w5, w5, ok, ok, lo.mono (by decide), lo.mono (by decide), mul2, fun H6 b6 d6 => ⟨true, rfl, iteF ⟨rfl, (b4.trans b5).trans b6, d6.mono (by omega)⟩⟩⟩
      rintro σ' H6 ⟨rfl, b6, d6⟩
      have w6 := w3.but hg3 b6
      obtain ⟨ws6, hg6⟩ := dr_lst d6
      refine ⟨fun σ' H' => ∃ l p0 p1, σ' = [some (.ref a), some (.int (i : Int)), some (.ref g), some (.ref o), some (.ref l), none, none, none, none, none, none, none, none, none, none, none, none, none] ∧ Same H6 H' ∧ H' l = some (.lst [.ref p0, .ref p1]) ∧ l ≠ g ∧ DwG g H' p0 (mOff m) ∧ DwG g H' p1 (mLed m), ?_, ?_⟩
      · exact ⟨_, rfl, o, g, m, ws6, rfl, w6, hg6, ok, fun H7 l p0 p1 s7 hl lg w0 w1 => ⟨l, p0, p1, rfl, s7, hl, lg, w0, w1⟩⟩
      rintro σ' H7 ⟨l, p0, p1, rfl, s7, hl, lg, w0, w1⟩
      have d7 := Dr.keepS s7 d6
      have hg7 := s7 _ _ hg6
      obtain ⟨ok0, lo0, len0⟩ := off_ok ok lo l4
      obtain ⟨ok1, lo1, len1⟩ := led_ok ok lo l4
      have z1 : (mLed m).z ∈ menu := mz
      have noff := prt_off ok lo l4
      have mul : (mOff m).R.length * (mLed m).R.length ≤ 39 := Nat.le_trans (Nat.mul_le_mul (show (mOff m).R.length ≤ 4 by omega) (show (mLed m).R.length ≤ 8 by omega)) (by decide)
      have l80 : (mOff m).R.length ≤ 4 := by omega
      have l81 : (mLed m).R.length ≤ 8 := by omega
      generalize mOff m = m0 at *
      generalize mLed m = m1 at *
      refine ⟨fun σ' H' => σ' = [some (.ref a), some (.int (i : Int)), some (.ref g), some (.ref o), some (.ref l), none, none, none, none, none, none, none, none, none, none, none, none, none] ∧ But H7 H' g ∧ Dr H' g 96000, ?_, ?_⟩
      · refine ⟨_, rfl, _, rfl, l, _, _, _, rfl, rfl, SqL.of hl, rfl, _, rfl, l, _, _, _, rfl, rfl, SqL.of hl, rfl, g, p0, p1, _, m0, m1, rfl, d7, by omega, w0, w1, ok0, ok1, lo0.mono (by decide), lo1.mono (by decide), mul, fun H8 b8 d8 => ⟨true, rfl, iteF ?_⟩⟩
        have hl8 := b8 _ _ lg hl
        refine ⟨_, rfl, l, _, _, _, rfl, rfl, SqL.of hl8, rfl, p0, m0, rfl, (w0.but hg7 b8).dw, ok0, fun H9 x s9 hx => ⟨_, rfl, l, _, _, _, rfl, rfl, SqL.of (s9 _ _ hl8), rfl, p1, m1, rfl, ((w1.but hg7 b8).keep s9).dw, ok1, fun H10 y s10 hy => ⟨.ref x, .ref y, rfl, .inr ⟨x, m0, rfl, (hx.keep s10).ma, .inr ⟨y, m1, rfl, hy.ma, ok0, ok1, fun H11 s11 => ?_⟩⟩⟩⟩⟩
        rw [noff]
        exact ⟨_, rfl, ite2 (fun w => absurd w (by decide)) (fun _ => ⟨rfl, b8.trans (Same.but ((s9.trans s10).trans s11)), Dr.keepS ((s9.trans s10).trans s11) (d8.mono (by omega))⟩)⟩
      rintro σ' H8 ⟨rfl, b8, d8⟩
      have hl8 := b8 _ _ lg hl
      have w08 := w0.but hg7 b8
      have w18 := w1.but hg7 b8
      obtain ⟨ws8, hg8⟩ := dr_lst d8
      refine ⟨_, rfl, _, rfl, l, _, _, _, rfl, rfl, SqL.of hl8, rfl, _, rfl, _, rfl, l, _, _, _, rfl, rfl, SqL.of hl8, rfl, g, p1, _, m1, rfl, d8, by omega, w18, ok1, lo1, z1, l81, fun H9 p m9 b9 d9 w9 ok9 lo9 l9 => ?_⟩
      have mul9 : m0.R.length * m9.R.length ≤ 39 := Nat.le_trans (Nat.mul_le_mul l80 l9) (by decide)
      refine ⟨g, p0, p, _, m0, m9, rfl, d9, by omega, w08.but hg8 b9, w9, ok0, ok9, lo0.mono (by decide), lo9, mul9, fun H10 b10 d10 => ⟨true, rfl, iteF ⟨⟨_, _, _, _, rfl⟩, fun b v e => ?_⟩⟩⟩
      have e1 := sm _ _ e
      have ne := ne_of_none e1 ng
      exact b10 _ _ ne (b9 _ _ ne (b8 _ _ ne (s7 _ _ (b6 _ _ ne (b3 _ _ ne (s2 _ _ e1))))))
    rintro σ H1 ⟨⟨x1, x2, x3, x4, rfl⟩, sm⟩
    clear hS sm
    refine ⟨fun σ' H' => ∃ x5, σ' = [some (.ref a), x1, x2, x3, x4, some (.ref x5), none, none, none, none, none, none, none, none, none, none, none, none] ∧ Ma CM H' x5 mSt, ?_, ?_⟩
    · refine fun v5 Ha5 sa5 dv5 => ?_
      obtain ⟨ra5, _, rfl, _⟩ := da_rs (R := (mSt).R) dv5
      have dR5 : Da Ha5 (.ref ra5) (rsD (mSt).R) := dv5
      refine ⟨(by show 1 ≤ sizeLine; omega), fun en5 nen5 => ⟨rfl, rfl, fun x5 dx5 nx5 ndx5 ne5 => mk_spM (m := mSt) rfl rfl nx5 ndx5 ne5 upd_same (dR5.keep (same_new nen5)) okSt fun H5 sb5 hz5 => ⟨rfl, ?_⟩⟩⟩
      have h5 := hz5.ma
      have s5 := (sa5.trans (same_new nen5)).trans sb5
      clear hz5 sb5 ne5 ndx5 nx5 nen5 dR5 sa5
      exact ⟨x5, rfl, h5⟩
    rintro σ' H5 ⟨x5, rfl, h5⟩
    refine ⟨fun σ' H' => ∃ x6, σ' = [some (.ref a), x1, x2, x3, x4, some (.ref x5), some (.ref x6), none, none, none, none, none, none, none, none, none, none, none] ∧ Same H5 H' ∧ Ma CM H' x6 mLa, ?_, ?_⟩
    · refine fun v6 Ha6 sa6 dv6 => ?_
      obtain ⟨ra6, _, rfl, _⟩ := da_rs (R := (mLa).R) dv6
      have dR6 : Da Ha6 (.ref ra6) (rsD (mLa).R) := dv6
      refine ⟨(by show 1 ≤ sizeLine; omega), fun en6 nen6 => ⟨rfl, rfl, fun x6 dx6 nx6 ndx6 ne6 => mk_spM (m := mLa) rfl rfl nx6 ndx6 ne6 upd_same (dR6.keep (same_new nen6)) okLa fun H6 sb6 hz6 => ⟨rfl, ?_⟩⟩⟩
      have h6 := hz6.ma
      have s6 := (sa6.trans (same_new nen6)).trans sb6
      clear hz6 sb6 ne6 ndx6 nx6 nen6 dR6 sa6
      exact ⟨x6, rfl, s6, h6⟩
    rintro σ' H6 ⟨x6, rfl, s6, h6⟩
    replace h5 := h5.keep s6
    clear s6
    refine ⟨fun σ' H' => σ' = [some (.ref a), x1, x2, x3, x4, some (.ref x5), some (.ref x6), none, none, none, none, none, none, none, none, none, none, none] ∧ Same H6 H', ?_, ?_⟩
    · refine ⟨_, rfl, _, rfl, .ref x5, .ref x6, rfl, .inr ⟨x5, mSt, rfl, h5, .inr ⟨x6, mLa, rfl, h6, okSt, okLa, fun H7 s7 => ?_⟩⟩⟩
      rw [pv1]
      refine ⟨rfl, _, rfl, iteNG ?_⟩
      refine ⟨_, rfl, ?_⟩
      refine fun v8 Ha8 sa8 dv8 => ?_
      obtain ⟨ra8, _, rfl, _⟩ := da_rs (R := (mLc).R) dv8
      have dR8 : Da Ha8 (.ref ra8) (rsD (mLc).R) := dv8
      refine ⟨(by show 1 ≤ sizeLine; omega), fun en8 nen8 => ⟨rfl, rfl, fun x8 dx8 nx8 ndx8 ne8 => mk_spM (m := mLc) rfl rfl nx8 ndx8 ne8 upd_same (dR8.keep (same_new nen8)) okLc fun H8 sb8 hz8 => ⟨rfl, ?_⟩⟩⟩
      have h8 := hz8.ma
      have s8 := (sa8.trans (same_new nen8)).trans sb8
      clear hz8 sb8 ne8 ndx8 nx8 nen8 dR8 sa8
      refine ⟨.ref x6, .ref x8, rfl, .inr ⟨x6, mLa, rfl, h6.keep (s7.trans s8), .inr ⟨x8, mLc, rfl, h8, okLa, okLc, fun H9 s9 => ?_⟩⟩⟩
      rw [prt2]
      exact ⟨_, rfl, ite2 (fun w => absurd w (by decide)) (fun _ => ⟨rfl, (s7.trans s8).trans s9⟩)⟩
    rintro σ' H7 ⟨rfl, s7⟩
    replace h5 := h5.keep s7
    clear s7 h6
    refine ⟨fun σ' H' => ∃ x7, σ' = [some (.ref a), x1, x2, x3, x4, some (.ref x5), some (.ref x6), some (.ref x7), none, none, none, none, none, none, none, none, none, none] ∧ Same H7 H' ∧ Ma CM H' x7 mPa, ?_, ?_⟩
    · refine fun v8 Ha8 sa8 dv8 => ?_
      obtain ⟨ra8, _, rfl, _⟩ := da_rs (R := (mPa).R) dv8
      have dR8 : Da Ha8 (.ref ra8) (rsD (mPa).R) := dv8
      refine ⟨(by show 1 ≤ sizeLine; omega), fun en8 nen8 => ⟨rfl, rfl, fun x8 dx8 nx8 ndx8 ne8 => mk_spM (m := mPa) rfl rfl nx8 ndx8 ne8 upd_same (dR8.keep (same_new nen8)) okPa fun H8 sb8 hz8 => ⟨rfl, ?_⟩⟩⟩
      have h8 := hz8.ma
      have s8 := (sa8.trans (same_new nen8)).trans sb8
      clear hz8 sb8 ne8 ndx8 nx8 nen8 dR8 sa8
      exact ⟨x8, rfl, s8, h8⟩
    rintro σ' H8 ⟨x7, rfl, s8, h7⟩
    replace h5 := h5.keep s8
    clear s8
    refine ⟨fun σ' H' => ∃ D acc, σ' = [some (.ref a), x1, x2, x3, x4, some (.ref x5), some (.ref x6), some (.ref x7), some (.ref D), none, none, none, none, none, none, none, none, none] ∧ Same H8 H' ∧ H' D = some (.lst acc) ∧ MkL CM H' (fun _ => False) mBe wBe acc 3, ?_, ?_⟩
    · refine ⟨(by show 3 ≤ sizeLine; omega), fun lw nlw => ⟨lw, rfl, ⟨_, SqL.of upd_same⟩, fun D nD => ?_⟩⟩
      have s9 := same_new (o := .lst [V.str "b", .str "bb", .str ""]) nlw
      have hlw : upd H8 lw (.lst [V.str "b", .str "bb", .str ""]) lw = some (.lst [V.str "b", .str "bb", .str ""]) := upd_same
      generalize upd H8 lw (.lst [V.str "b", .str "bb", .str ""]) = H9 at *
      refine lc_list (K := K) (a := lw) (xs := [V.str "b", .str "bb", .str ""]) (fun i H' => Same H9 H' ∧ ∃ acc, H' D = some (.lst acc) ∧ MkL CM H' (fun a => a = D) mBe wBe acc i) ⟨same_new nD, [], upd_same, MkL.nil⟩ (fun i H' _ p => SqL.of (p.1 _ _ hlw)) ?_ ?_
      · rintro i y H' hi ⟨sm, acc, hD, hM⟩
        obtain ⟨wy, rfl, ew⟩ : ∃ wy, y = .str wy ∧ wBe[i]? = some wy := by
          rw [show ([V.str "b", .str "bb", .str ""] : List V) = wBe.map V.str from rfl, List.getElem?_map] at hi
          obtain ⟨wy, e, rfl⟩ := Option.map_eq_some_iff.mp hi
          exact ⟨wy, rfl, e⟩
        have li : i < 3 := (List.getElem?_eq_some_iff.mp ew).1
        refine ⟨rfl, fun v3 H3 s3 dv => ?_⟩
        obtain ⟨ra, _, rfl, _⟩ := da_rs (R := (mBe wy).R) dv
        have dR : Da H3 (.ref ra) (rsD (mBe wy).R) := dv
        refine ⟨_, rfl, (by show 2 ≤ sizeLine; omega), fun en nen => ⟨rfl, rfl, fun x dx nx ndx ne => mk_spM (m := mBe wy) rfl rfl nx ndx ne upd_same (dR.keep (same_new nen)) (okBe (List.mem_of_getElem? ew)) fun H4 s4 hz => ⟨rfl, ?_⟩⟩⟩
        have hD4 : upd H3 en (.lst [V.str "", .str wy]) D = some (.lst acc) := same_new nen _ _ (s3 _ _ hD)
        have s34 := (s3.trans (same_new (o := .lst [V.str "", .str wy]) nen)).trans s4
        have hDf := s34 _ _ hD
        refine ⟨acc, hDf, ?_, fun b u e => ?_, acc ++ [.ref x], upd_same, ?_⟩
        · rw [hM.len]
          exact small1000 (by omega)
        · rw [upd_ne (ne_of_none e nD)]
          exact s34 _ _ (sm _ _ e)
        · exact (hM.keep s34).upd rfl |>.snoc ew ((hz.sub fun b e => ⟨acc, by rw [show b = D from e]; exact hD4⟩).upd rfl)
      · rintro H' ⟨sm, acc, hD, hM⟩
        exact ⟨D, acc, rfl, s9.trans sm, hD, hM.sub fun _ z => z.elim⟩
    rintro σ' H9 ⟨D, acc, rfl, s9, hD, hM⟩
    replace h5 := h5.keep s9
    replace h7 := h7.keep s9
    clear s9
    refine ⟨fun σ' H' => σ' = [some (.ref a), x1, x2, x3, x4, some (.ref x5), some (.ref x6), some (.ref x7), some (.ref D), none, none, none, none, none, none, none, none, none] ∧ Same H9 H', ?_, ?_⟩
    · refine ⟨_, rfl, D, rfl, ⟨_, SqL.of hD⟩, fun L nL => lc_list (K := K) (a := D) (xs := acc) (fun i H' => Same H9 H' ∧ H' L = some (.lst (ansBe.take i))) ⟨same_new nL, upd_same⟩ (fun i H' _ p => SqL.of (p.1 _ _ hD)) ?_ ?_⟩
      · rintro i y H' hi ⟨sm, hL⟩
        obtain ⟨wy, x, ew, rfl, hx⟩ := hM.at hi
        have li : i < 3 := (List.getElem?_eq_some_iff.mp ew).1
        refine ⟨rfl, _, rfl, _, rfl, .ref x7, .ref x, rfl, .inr ⟨x7, mPa, rfl, h7.keep sm, .inr ⟨x, mBe wy, rfl, hx.ma.keep sm, okPa, okBe (List.mem_of_getElem? ew), fun H4 s4 => ?_⟩⟩⟩
        refine ⟨_, s4 _ _ hL, ?_, fun b u e => ?_, ?_⟩
        · rw [List.length_take]
          exact small1000 (by show min i 3 ≤ 1000; omega)
        · rw [upd_ne (ne_of_none e nL)]
          exact s4 _ _ (sm _ _ e)
        · rw [upd_same, List.take_add_one, ans_at ew]
          rfl
      · rintro H' ⟨sm, hL⟩
        have l3 : acc.length = 3 := hM.len
        rw [l3] at hL
        refine fun v H2 s2 dv => ⟨_, _, (ans_da (s2 _ _ hL)).dp, dv.dp, by decide +kernel, by decide +kernel, _, rfl, ite2 (fun z => absurd z (by decide +kernel)) (fun _ => ⟨rfl, sm.trans s2⟩)⟩
    rintro σ' H10 ⟨rfl, s10⟩
    replace h5 := h5.keep s10
    replace h7 := h7.keep s10
    clear s10 hM hD
    refine ⟨fun σ' H' => σ' = [some (.ref a), x1, x2, x3, x4, some (.ref x5), some (.ref x6), some (.ref x7), some (.ref D), none, none, none, none, none, none, none, none, none] ∧ Same H10 H', ?_, ?_⟩
    · refine ⟨_, rfl, ?_⟩
      refine fun v11 Ha11 sa11 dv11 => ?_
      obtain ⟨ra11, _, rfl, _⟩ := da_rs (R := (mPb).R) dv11
      have dR11 : Da Ha11 (.ref ra11) (rsD (mPb).R) := dv11
      refine ⟨(by show 1 ≤ sizeLine; omega), fun en11 nen11 => ⟨rfl, rfl, fun x11 dx11 nx11 ndx11 ne11 => mk_spM (m := mPb) rfl rfl nx11 ndx11 ne11 upd_same (dR11.keep (same_new nen11)) okPb fun H11 sb11 hz11 => ⟨rfl, ?_⟩⟩⟩
      have h11 := hz11.ma
      have s11 := (sa11.trans (same_new nen11)).trans sb11
      clear hz11 sb11 ne11 ndx11 nx11 nen11 dR11 sa11
      refine ⟨.ref x7, .ref x11, rfl, .inr ⟨x7, mPa, rfl, h7.keep s11, .inr ⟨x11, mPb, rfl, h11, okPa, okPb, fun H12 s12 => ?_⟩⟩⟩
      rw [pv6]
      exact ⟨rfl, _, rfl, iteNG ⟨rfl, s11.trans s12⟩⟩
    rintro σ' H11 ⟨rfl, s11⟩
    replace h5 := h5.keep s11
    clear s11 h7
    refine ⟨fun σ' H' => σ' = [some (.ref a), x1, x2, x3, x4, some (.ref x5), some (.ref x6), some (.ref x7), some (.ref D), some (.str everyS), none, none, none, none, none, none, none, none] ∧ H11 = H', ⟨rfl, rfl⟩, ?_⟩
    rintro σ' _ ⟨rfl, rfl⟩
    refine ⟨fun σ' H' => ∃ x10, σ' = [some (.ref a), x1, x2, x3, x4, some (.ref x5), some (.ref x6), some (.ref x7), some (.ref D), some (.str everyS), some (.ref x10), none, none, none, none, none, none, none] ∧ Same H11 H' ∧ Ma CM H' x10 mFu, ?_, ?_⟩
    · refine ⟨_, rfl, fun v1 H12 s12 dv1 => ?_⟩
      obtain ⟨l1, u1, rfl, hl1, du1⟩ := da_one dv1
      refine ⟨l1, 26, [u1], rfl, rfl, hl1, by decide, by decide, (by show 1 * 26 ≤ sizeLine; omega), fun p np => fun v2 H13 s13 dv2 => ?_⟩
      obtain ⟨l2, us, rfl, hl2, du2, lu2⟩ := da_lstL dv2
      refine ⟨p, l2, _, us, rfl, rfl, s13 _ _ upd_same, hl2, ?_, fun r nr => ⟨(by show 1 ≤ sizeLine; omega), fun R nR => ⟨(by show 1 ≤ sizeLine; omega), fun en nen => ?_⟩⟩⟩
      · rw [rep_flat, List.length_replicate, lu2]
        show 26 + 1 ≤ sizeLine
        omega
      have sR := (((s12.trans (same_new np)).trans s13).trans (same_new (o := .lst ((List.replicate ((26 : Int).toNat) [u1]).flatten ++ us)) nr)).trans (same_new (o := .lst [.ref r]) nR)
      have dR : Da (upd (upd H13 r (.lst ((List.replicate ((26 : Int).toNat) [u1]).flatten ++ us))) R (.lst [.ref r])) (.ref R) (rsD mFu.R) := by
        refine .lst upd_same (.cons (.lst (same_new nR _ _ upd_same) ?_) .nil)
        refine DaAll.keep (same_new nR) (DaAll.keep (same_new nr) ?_)
        rw [rep_flat]
        exact DaAll.app (DaAll.rep ((du1.keep (same_new np)).keep s13) 26) du2
      refine ⟨rfl, rfl, fun x dx nx ndx ne => mk_spM (m := mFu) rfl rfl nx ndx ne upd_same (dR.keep (same_new nen)) okFu fun H14 s14 hz => ⟨rfl, ?_⟩⟩
      exact ⟨x, rfl, (sR.trans (same_new nen)).trans s14, hz.ma⟩
    rintro σ' H12 ⟨x10, rfl, s12, h10⟩
    replace h5 := h5.keep s12
    clear s12
    refine ⟨fun σ' H' => ∃ x11, σ' = [some (.ref a), x1, x2, x3, x4, some (.ref x5), some (.ref x6), some (.ref x7), some (.ref D), some (.str everyS), some (.ref x10), some (.ref x11), none, none, none, none, none, none] ∧ Same H12 H' ∧ Ma CM H' x11 mLz, ?_, ?_⟩
    · refine ⟨_, rfl, fun v1 H12a s12 dv1 => ?_⟩
      obtain ⟨l1, u1, rfl, hl1, du1⟩ := da_one dv1
      refine ⟨l1, 25, [u1], rfl, rfl, hl1, by decide, by decide, (by show 1 * 25 ≤ sizeLine; omega), fun p np => fun v2 H13 s13 dv2 => ?_⟩
      obtain ⟨l2, us, rfl, hl2, du2, lu2⟩ := da_lstL dv2
      refine ⟨p, l2, _, us, rfl, rfl, s13 _ _ upd_same, hl2, ?_, fun r nr => ⟨(by show 1 ≤ sizeLine; omega), fun R nR => ⟨(by show 1 ≤ sizeLine; omega), fun en nen => ?_⟩⟩⟩
      · rw [rep_flat, List.length_replicate, lu2]
        show 25 + 2 ≤ sizeLine
        omega
      have sR := (((s12.trans (same_new np)).trans s13).trans (same_new (o := .lst ((List.replicate ((25 : Int).toNat) [u1]).flatten ++ us)) nr)).trans (same_new (o := .lst [.ref r]) nR)
      have dR : Da (upd (upd H13 r (.lst ((List.replicate ((25 : Int).toNat) [u1]).flatten ++ us))) R (.lst [.ref r])) (.ref R) (rsD mLz.R) := by
        refine .lst upd_same (.cons (.lst (same_new nR _ _ upd_same) ?_) .nil)
        refine DaAll.keep (same_new nR) (DaAll.keep (same_new nr) ?_)
        rw [rep_flat]
        exact DaAll.app (DaAll.rep ((du1.keep (same_new np)).keep s13) 25) du2
      refine ⟨rfl, rfl, fun x dx nx ndx ne => mk_spM (m := mLz) rfl rfl nx ndx ne upd_same (dR.keep (same_new nen)) okLz fun H14 s14 hz => ⟨rfl, ?_⟩⟩
      exact ⟨x, rfl, (sR.trans (same_new nen)).trans s14, hz.ma⟩
    rintro σ' H13 ⟨x11, rfl, s13, h11⟩
    replace h5 := h5.keep s13
    replace h10 := h10.keep s13
    clear s13
    refine ⟨fun σ' H' => σ' = [some (.ref a), x1, x2, x3, x4, some (.ref x5), some (.ref x6), some (.ref x7), some (.ref D), some (.str everyS), some (.ref x10), some (.ref x11), none, none, none, none, none, none] ∧ Same H13 H', ?_, ?_⟩
    · refine ⟨_, rfl, _, rfl, .ref x10, .ref x5, rfl, .inr ⟨x10, mFu, rfl, h10, .inr ⟨x5, mSt, rfl, h5, okFu, okSt, fun H14 s14 => ?_⟩⟩⟩
      rw [prt7]
      refine ⟨_, rfl, ite2 (fun w => absurd w (by decide)) (fun _ => ?_)⟩
      refine ⟨_, rfl, _, rfl, .ref x11, .ref x10, rfl, .inr ⟨x11, mLz, rfl, h11.keep s14, .inr ⟨x10, mFu, rfl, h10.keep s14, okLz, okFu, fun H15 s15 => ?_⟩⟩⟩
      rw [pv8]
      exact ⟨rfl, _, rfl, iteNG ⟨rfl, s14.trans s15⟩⟩
    rintro σ' H14 ⟨rfl, s14⟩
    replace h5 := h5.keep s14
    clear s14 h10 h11
    refine ⟨fun σ' H' => ∃ W, σ' = [some (.ref a), x1, x2, x3, x4, some (.ref x5), some (.ref x6), some (.ref x7), some (.ref D), some (.str everyS), some (.ref x10), some (.ref x11), some (.ref W), none, none, none, none, none] ∧ Same H14 H' ∧ Da H' (.ref W) (rsD (mFar "").R), ?_, ?_⟩
    · refine ⟨12, rfl, by decide, by decide, fun D nD => lc_range (lo := 0) (n := 12) (fun j H' => Same H14 H' ∧ ∃ acc, H' D = some (.lst acc) ∧ RA [D] H' acc ((List.range j).map farR)) ⟨same_new nD, [], upd_same, .nil⟩ ?_ ?_⟩
      · rintro j H' hj ⟨sm, acc, hD, hA⟩
        have hj : j < 12 := hj
        rw [Int.zero_add]
        have lacc := hA.len
        rw [List.length_map, List.length_range] at lacc
        refine ⟨rfl, _, rfl, _, _, rfl, rfl, .inl ⟨_, rfl, _, _, rfl, rfl, (show (0 : Int) < 12 by decide), "a", 2000, rfl, rfl, mul2000, (by show 3 ≤ sizeLine; omega), fun T nT => ⟨(by show 1 ≤ sizeLine; omega), fun B nB => ?_⟩⟩⟩
        have s2 := same_new (o := .tup [.int (((j : Int) + 1) % 12), .str (Txt.mul "a" 2000), .bl false]) nT
        have s3 := same_new (o := .lst [.ref T]) nB
        have hD3 := s3 _ _ (s2 _ _ hD)
        have nBD : B ∉ [D] := fun z => by
          rw [List.mem_singleton.mp z, s2 _ _ hD] at nB
          cases nB
        refine ⟨acc, hD3, ?_, fun b u e => ?_, acc ++ [.ref B], upd_same, ?_⟩
        · rw [lacc]
          exact small1000 (by omega)
        · rw [upd_ne (ne_of_none e nD)]
          exact s3 _ _ (s2 _ _ (sm _ _ e))
        · rw [List.range_succ, List.map_append]
          refine RA.upd hD3 (List.mem_singleton.mpr rfl) (RA.snoc nBD upd_same (.cons (.tup (s3 _ _ upd_same) ?_) .nil) ((hA.keep s2).keep s3))
          show DaAll _ [V.int (((j : Int) + 1) % 12), _, _] _
          rw [show (((j : Int) + 1) % 12) = (((j + 1) % 12 : Nat) : Int) by omega]
          exact .cons (.int _) (.cons (.str _) (.cons (.bl _) .nil))
      · rintro H' ⟨sm, acc, hD, hA⟩
        exact ⟨D, rfl, sm, .lst hD hA.da⟩
    rintro σ' H15 ⟨W, rfl, s15, hW⟩
    replace h5 := h5.keep s15
    clear s15
    refine ⟨fun σ' H' => ∃ D13 acc13, σ' = [some (.ref a), x1, x2, x3, x4, some (.ref x5), some (.ref x6), some (.ref x7), some (.ref D), some (.str everyS), some (.ref x10), some (.ref x11), some (.ref W), some (.ref D13), none, none, none, none] ∧ Same H15 H' ∧ H' D13 = some (.lst acc13) ∧ MkL CM H' (fun _ => False) mFar wFar acc13 2, ?_, ?_⟩
    · refine ⟨(by show 2 ≤ sizeLine; omega), fun lw nlw => ⟨lw, rfl, ⟨_, SqL.of upd_same⟩, fun D nD => ?_⟩⟩
      have s9 := same_new (o := .lst [V.str "", .str "b"]) nlw
      have hlw : upd H15 lw (.lst [V.str "", .str "b"]) lw = some (.lst [V.str "", .str "b"]) := upd_same
      generalize upd H15 lw (.lst [V.str "", .str "b"]) = H16 at *
      refine lc_list (K := K) (a := lw) (xs := [V.str "", .str "b"]) (fun i H' => Same H16 H' ∧ ∃ acc, H' D = some (.lst acc) ∧ MkL CM H' (fun a => a = D) mFar wFar acc i) ⟨same_new nD, [], upd_same, MkL.nil⟩ (fun i H' _ p => SqL.of (p.1 _ _ hlw)) ?_ ?_
      · rintro i y H' hi ⟨sm, acc, hD, hM⟩
        obtain ⟨wy, rfl, ew⟩ : ∃ wy, y = .str wy ∧ wFar[i]? = some wy := by
          rw [show ([V.str "", .str "b"] : List V) = wFar.map V.str from rfl, List.getElem?_map] at hi
          obtain ⟨wy, e, rfl⟩ := Option.map_eq_some_iff.mp hi
          exact ⟨wy, rfl, e⟩
        have li : i < 2 := (List.getElem?_eq_some_iff.mp ew).1
        have dW := (hW.keep s9).keep sm
        refine ⟨rfl, _, rfl, (by show 1 ≤ sizeLine; omega), fun l1 n1 => ⟨l1, 11, _, rfl, rfl, upd_same, by decide, by decide, (by show 1 * 11 ≤ sizeLine; omega), fun l2 n2 => ⟨_, rfl, (by show 1 ≤ sizeLine; omega), fun l3 n3 => ⟨l2, l3, _, _, rfl, rfl, same_new n3 _ _ upd_same, upd_same, (by show 11 + 1 ≤ sizeLine; omega), fun en nen => ?_⟩⟩⟩⟩
        have sE := (((same_new (o := .lst [V.str ""]) n1).trans (same_new (o := .lst (List.replicate ((11 : Int).toNat) [V.str ""]).flatten) n2)).trans (same_new (o := .lst [V.str wy]) n3)).trans (same_new (o := .lst ((List.replicate ((11 : Int).toNat) [V.str ""]).flatten ++ [V.str wy])) nen)
        refine ⟨rfl, rfl, fun x dx nx ndx ne => mk_spM (m := mFar wy) rfl rfl nx ndx ne upd_same (dW.keep sE) (okFar (wFar_ok (List.mem_of_getElem? ew))) fun H4 s4 hz => ⟨rfl, ?_⟩⟩
        have hDe := sE _ _ hD
        have s34 := sE.trans s4
        have hDf := s34 _ _ hD
        refine ⟨acc, hDf, ?_, fun b u e => ?_, acc ++ [.ref x], upd_same, ?_⟩
        · rw [hM.len]
          exact small1000 (by omega)
        · rw [upd_ne (ne_of_none e nD)]
          exact s34 _ _ (sm _ _ e)
        · exact (hM.keep s34).upd rfl |>.snoc ew ((hz.sub fun b e => ⟨acc, by rw [show b = D from e]; exact hDe⟩).upd rfl)
      · rintro H' ⟨sm, acc, hD, hM⟩
        exact ⟨D, acc, rfl, s9.trans sm, hD, hM.sub fun _ z => z.elim⟩
    rintro σ' H16 ⟨D13, acc13, rfl, s16, hD13, hM13⟩
    replace h5 := h5.keep s16
    clear s16 hW
    obtain ⟨f0, f1, rfl, hf0, hf1⟩ : ∃ f0 f1, acc13 = [.ref f0, .ref f1] ∧ Ma CM H16 f0 (mFar "") ∧ Ma CM H16 f1 (mFar "b") := hM13.two
    clear hM13
    refine ⟨fun σ' H' => σ' = [some (.ref a), x1, x2, x3, x4, some (.ref x5), some (.ref x6), some (.ref x7), some (.ref D), some (.str everyS), some (.ref x10), some (.ref x11), some (.ref W), some (.ref D13), none, none, none, none] ∧ Same H16 H', ?_, ?_⟩
    · refine ⟨_, rfl, D13, _, 0, _, rfl, rfl, SqL.of hD13, rfl, _, rfl, D13, _, 1, _, rfl, rfl, SqL.of hD13, rfl, .ref f0, .ref f1, rfl, .inr ⟨f0, _, rfl, hf0, .inr ⟨f1, _, rfl, hf1, okFar (by decide +kernel), okFar (by decide +kernel), fun H17 s17 => ?_⟩⟩⟩
      rw [pv9]
      refine ⟨"a", 11, rfl, rfl, mul11, rfl, _, rfl, iteNG ?_⟩
      refine ⟨_, rfl, D13, _, 0, _, rfl, rfl, SqL.of (s17 _ _ hD13), rfl, _, rfl, D13, _, 0, _, rfl, rfl, SqL.of (s17 _ _ hD13), rfl, .ref f0, .ref f0, rfl, .inr ⟨f0, _, rfl, hf0.keep s17, .inr ⟨f0, _, rfl, hf0.keep s17, okFar (by decide +kernel), okFar (by decide +kernel), fun H18 s18 => ?_⟩⟩⟩
      rw [prt10]
      exact ⟨_, rfl, ite2 (fun w => absurd w (by decide)) (fun _ => ⟨rfl, s17.trans s18⟩)⟩
    rintro σ' H17 ⟨rfl, s17⟩
    replace h5 := h5.keep s17
    clear s17 hf0 hf1 hD13
    refine ⟨fun σ' H' => ∃ x14, σ' = [some (.ref a), x1, x2, x3, x4, some (.ref x5), some (.ref x6), some (.ref x7), some (.ref D), some (.str everyS), some (.ref x10), some (.ref x11), some (.ref W), some (.ref D13), x14, none, none, none], ?_, ?_⟩
    · refine fun v H18 s18 dv => ?_
      obtain ⟨lb, vs, rfl, hlb, dvs, _⟩ := da_lstL dv
      have h18 := h5.keep s18
      refine ⟨lb, rfl, ⟨_, SqL.of hlb⟩, for_list (K := K) (a := lb) (xs := vs) (fun i σ H' => (∃ x14, σ = [some (.ref a), x1, x2, x3, x4, some (.ref x5), some (.ref x6), some (.ref x7), some (.ref D), some (.str everyS), some (.ref x10), some (.ref x11), some (.ref W), some (.ref D13), x14, none, none, none]) ∧ Same H18 H') ⟨⟨_, rfl⟩, Same.refl _⟩ (fun i σ H' _ p => SqL.of (p.2 _ _ hlb)) ?_ ?_⟩
      · rintro i u σ H' hi ⟨⟨x14, rfl⟩, sm⟩
        obtain ⟨d, ed, du⟩ := dvs.get hi
        obtain ⟨sh, nb⟩ := badL_ok d (List.mem_of_getElem? ed)
        have du' := du.keep sm
        refine ⟨_, rfl, u, .non, u, d, rfl, .a (da_noA du' nb), du', sh, fun H2 s2 => ?_⟩
        refine ⟨_, rfl, _, d, rfl, (du'.keep s2).dp, sh.s, sh.h, sh.dp, Nat.le_trans sh.l (by omega), rfl, _, rfl, iteNG ?_⟩
        refine ⟨_, rfl, _, rfl, .ref x5, u, u, d, rfl, .b ((h18.keep sm).keep s2) (da_noA (du'.keep s2) nb), du'.keep s2, sh, fun H3 s3 => ?_⟩
        exact ⟨_, rfl, _, d, rfl, ((du'.keep s2).keep s3).dp, sh.s, sh.h, sh.dp, Nat.le_trans sh.l (by omega), rfl, _, rfl, iteNG ⟨⟨_, rfl⟩, (sm.trans s2).trans s3⟩⟩
      · rintro σ H' ⟨⟨x14, rfl⟩, _⟩
        exact ⟨x14, rfl⟩
    rintro σ' H19 ⟨x14, rfl⟩
    exact q _
end
end KK
set_option Elab.async false
set_option linter.all false
set_option maxRecDepth 100000
set_option maxHeartbeats 2000000
namespace XV
open PySem PySem.Spec PyProof.Rows L2
/-! ### what isinstance says of a class, by its order of classes -/
def mroB (K : PySem.W.Frag) (C : Addr) (m : List Value) : Bool := match K.lookup C with
  | some ⟨t, _, .cls cd, _⟩ => decide (t = .type "type") && decide (cd.mro = m)
  | _ => false
theorem mroB_ok {K : PySem.W.Frag} {C : Addr} {m : List Value} (h : mroB K C m = true) : (∃ cd, PySem.W.clsIn K C = some cd ∧ cd.mro = m) ∧ PySem.W.typeIn K (.ref C) = some (.type "type") := by
  unfold mroB at h
  split at h
  · rename_i t d cd sl ho
    obtain ⟨h1, h2⟩ := He.ba h
    have e1 : t = .type "type" := of_decide_eq_true h1
    have e2 : cd.mro = m := of_decide_eq_true h2
    refine ⟨⟨cd, ?_, e2⟩, ?_⟩
    · unfold PySem.W.clsIn
      rw [ho]
    · show (K.lookup C).map (fun o => o.cls) = _
      rw [ho, e1]
      rfl
  · cases h
theorem sub_mro {K : PySem.W.Frag} {C : Addr} {m : List Value} (h : mroB K C m = true) (hm : m.isEmpty = false) (b : Value) : PySem.W.subIn K (.ref C) b = some (m.contains b) := by
  obtain ⟨⟨cd, h1, h2⟩, _⟩ := mroB_ok h
  show PySem.W.mroIn K C b = _
  unfold PySem.W.mroIn
  rw [h1]
  show (if cd.mro.isEmpty = true then none else some (cd.mro.contains b)) = _
  rw [h2, hm, if_neg Bool.false_ne_true]
theorem kit_mro {K : PySem.W.Frag} {C D : Addr} {m m' : List Value} (h : mroB K C m = true) (hm : m.isEmpty = false) (h' : mroB K D m' = true) (hs : C = D → m.contains (.ref D) = true) : PySem.W.kitOne K (.ref C) (.ref D) = some (m.contains (.ref D)) := by
  unfold PySem.W.kitOne
  by_cases e : C = D
  · rw [hs e, if_pos (beq_iff_eq.mpr (congrArg Value.ref e))]
  · rw [if_neg (fun z => e (Value.ref.inj (beq_iff_eq.mp z)))]
    obtain ⟨⟨cd, h1, _⟩, h2⟩ := mroB_ok h'
    show (if ((PySem.W.clsIn K D).isSome && PySem.W.typeIn K (.ref D) == some (.type "type")) = true then PySem.W.subIn K (.ref C) (.ref D) else none) = _
    rw [h1, h2, if_pos (by rw [Bool.and_eq_true]; exact ⟨rfl, beq_iff_eq.mpr rfl⟩)]
    exact sub_mro h hm _
theorem kit_ve {K : PySem.W.Frag} {C : Addr} {m : List Value} (h : mroB K C m = true) (hm : m.isEmpty = false) : PySem.W.kitOne K (.ref C) (.type "ValueError") = some (m.contains (.type "ValueError")) := by
  unfold PySem.W.kitOne
  rw [if_neg (fun z => by cases (beq_iff_eq.mp z))]
  show (if PySem.W.kitMeta "ValueError" = true then PySem.W.subIn K (.ref C) (.type "ValueError") else none) = _
  rw [if_pos (by decide +kernel)]
  exact sub_mro h hm _
/-! ### a part of the heap, each object once, written out -/
def refsK (o : Obj) : List Addr := match o.data with
  | .dict es _ => es.toList.flatMap fun e => He.refV e.val
  | .func fd => He.refV fd.code ++ (He.refV fd.defaults ++ He.refV fd.kwdefaults)
  | .cls cd => [cd.ns]
  | _ => []
def refsA (g : Addr → Option Obj) (a : Addr) : List Addr := match g a with
  | some o => refsK o
  | none => []
def frcA {α : Type} (l : List Addr) (k : List Addr → α) : α := match l with
  | [] => k []
  | a :: r => HandSHeadRun.frNat a fun a => frcA r fun r => k (a :: r)
theorem frcA_eq {α : Type} : ∀ (l : List Addr) (k : List Addr → α), frcA l k = k l
  | [], _ => rfl
  | a :: r, k => by
    show HandSHeadRun.frNat a (fun a => frcA r fun r => k (a :: r)) = _
    rw [HandSHeadRun.frNat_eq, frcA_eq r]
def asK (g : Addr → Option Obj) : List Addr := frcA (refsA g mainGlobals) fun l1 => frcA (l1.flatMap (refsA g)) fun l2 => frcA (l2.flatMap (refsA g)) fun l3 => frcA (l3.flatMap (refsA g)) fun l4 => mainGlobals :: (l1 ++ (l2 ++ (l3 ++ l4)))
def frcK {α : Type} (l : PySem.W.Frag) (k : PySem.W.Frag → α) : α := match l with
  | [] => k []
  | (a, o) :: r => HandSHeadRun.frNat a fun a => frcK r fun r => k ((a, o) :: r)
theorem frcK_eq {α : Type} : ∀ (l : PySem.W.Frag) (k : PySem.W.Frag → α), frcK l k = k l
  | [], _ => rfl
  | (a, o) :: r, k => by
    show HandSHeadRun.frNat a (fun a => frcK r fun r => k ((a, o) :: r)) = _
    rw [HandSHeadRun.frNat_eq, frcK_eq r]
def hookF (α : Type) (obs : PySem.W.Frag → α) (val : α) : PySem.W.Hook where
  α := α
  obs := fun s => obs (He.frG s.heap.get? (asK s.heap.get?))
  val := fun _ => val
  says := fun _ h => ∃ K : PySem.W.Frag, K.In h ∧ obs K = val
  of := fun _ _ e => ⟨_, He.frG_in, e⟩
  keeps := fun _ _ _ ⟨K, hK, c⟩ k => ⟨K, PySem.W.Frag.In.keeps hK k, c⟩
def obF {α : Type} (obs : PySem.W.Frag → α) (s : PySem.W.SharedT) : α := frcK (He.frG (HandSHeadRun.getT s) (asK (HandSHeadRun.getT s))) obs
theorem obF_eq {α : Type} {obs : PySem.W.Frag → α} {val : α} (s : PySem.W.SharedT) : obF obs s = (hookF α obs val).obs s.abs := by
  unfold obF
  rw [frcK_eq]
  have e : HandSHeadRun.getT s = s.abs.heap.get? := funext (HandSHeadRun.getT_eq s)
  rw [e]
  rfl
theorem map_two {S A B C D : Type} {e : Option S} {f : S → A} {g : S → B} {o : S → C} {o' : S → D} {a : A} {b : B} {c : C} {d : D} (h1 : e.map (fun s => (f s, g s, o s)) = some (a, b, c)) (h2 : e.map (fun s => o' s) = some d) :
    e.map (fun s => (f s, g s, (o s, o' s))) = some (a, b, (c, d)) := by
  cases e with
  | none => cases h1
  | some s =>
    have z1 : (f s, g s, o s) = (a, b, c) := Option.some.inj h1
    have z2 : o' s = d := Option.some.inj h2
    cases z2
    cases z1
    rfl
/-! ### .. the tables of code objects left out -/
theorem tabs_say {h : Heap} {as : List Addr} {tf : List He.Defn} (e : He.tabsB h.get? tf (He.frT h.get? as) = true) (p : He.Defn) (hp : p ∈ tf) :
    PySem.W.codeHdIn (He.frT h.get? as) (He.cT (He.frT h.get? as) p).1 (He.cT (He.frT h.get? as) p).2 = true ∧ (He.frT h.get? as).lookup (He.cT (He.frT h.get? as) p).2 = none ∧ h.get? (He.cT (He.frT h.get? as) p).2 = some { cls := .none, data := .fields #[] } := by
  unfold He.tabsB at e
  obtain ⟨a, b⟩ := He.ba (List.all_eq_true.mp e p hp)
  split at b
  · next o q => exact ⟨a, He.frT_none q b, by rw [q, He.emptyTab_eq b]⟩
  · cases b
def hookFT (α : Type) (obs : PySem.W.Frag → α) (val : α) (tf : List He.Defn) : PySem.W.Hook where
  α := α × Bool
  obs := fun s => (obs (He.frT s.heap.get? (asK s.heap.get?)), He.tabsB s.heap.get? tf (He.frT s.heap.get? (asK s.heap.get?)))
  val := fun _ => (val, true)
  says := fun _ h => ∃ K : PySem.W.Frag, K.In h ∧ obs K = val ∧ ∀ p ∈ tf, PySem.W.codeHdIn K (He.cT K p).1 (He.cT K p).2 = true ∧ K.lookup (He.cT K p).2 = none ∧ h.get? (He.cT K p).2 = some { cls := .none, data := .fields #[] }
  of := fun _ _ e => ⟨_, He.frT_in, congrArg Prod.fst e, fun p hp => tabs_say (congrArg Prod.snd e) p hp⟩
  keeps := fun _ _ _ ⟨K, hK, c, t⟩ k => ⟨K, PySem.W.Frag.In.keeps hK k, c, fun p hp => ⟨(t p hp).1, (t p hp).2.1, k _ _ (t p hp).2.2⟩⟩
def obFT {α : Type} (obs : PySem.W.Frag → α) (tf : List He.Defn) (s : PySem.W.SharedT) : α × Bool := frcK (He.frT (HandSHeadRun.getT s) (asK (HandSHeadRun.getT s))) fun K => (obs K, He.tabsB (HandSHeadRun.getT s) tf K)
theorem obFT_eq {α : Type} {obs : PySem.W.Frag → α} {val : α} {tf : List He.Defn} (s : PySem.W.SharedT) : obFT obs tf s = (hookFT α obs val tf).obs s.abs := by
  unfold obFT
  rw [frcK_eq]
  have e : HandSHeadRun.getT s = s.abs.heap.get? := funext (HandSHeadRun.getT_eq s)
  rw [e]
  rfl
theorem code_at {K : PySem.W.Frag} {p : He.Defn} {x qual : Str} {params : Arguments} {body : List Stmt} {scope : Scope} {dvs : List V} {kws : List (Str × V)} {fd : FuncData} (F : FunD K x qual params body scope dvs kws (He.fAd K p) fd) : fd.code = .ref (He.codeOf K p) := by
  obtain ⟨_, _, _, _, _, _, _, _, _, _, rfl, lk, hcd, _, _⟩ := F.ex
  obtain ⟨c, rfl⟩ := He.codeIn_ref hcd
  exact congrArg Value.ref (He.codeOf_eq lk rfl).symm
end XV
set_option Elab.async false
set_option linter.all false
set_option maxRecDepth 100000
set_option maxHeartbeats 0
namespace KK
open PySem PySem.Spec PyProof.Rows L2 XV
/-! ### what the top must say -/
def dF (x : Str) (i : Nat) : He.DefD := ⟨(x, none), x, x, defArgs (top i), defBody (top i), defScope (top i), [], []⟩
def dM (c x q : Str) (s : Stmt) (dv : List He.Dv) (kv : List (Str × He.Dv)) : He.DefD := ⟨(c, some x), x, q, defArgs s, defBody s, defScope s, dv, kv⟩
def dI (x q : Str) (l : Nat) (fld : Str) : He.DefD := ⟨(x, some "__init__"), "__init__", q, initA fld ⟨l, 17, l, 21⟩ ⟨l, 23, l, 28⟩ ⟨l, 29, l, 33⟩, initB fld ⟨l + 1, 8, l + 1, 12⟩ ⟨l + 1, 8, l + 1, 18⟩ ⟨l + 1, 21, l + 1, 26⟩ ⟨l + 1, 8, l + 1, 26⟩, initS fld, [.non], []⟩
def fn : List He.DefD := [dI "TooLong" "TooLong.__init__" 22 "value", dI "InvalidList" "InvalidList.__init__" 14 "value", dI "InvalidNumber" "InvalidNumber.__init__" 6 "value", dI "InvalidWord" "InvalidWord.__init__" 10 "value", dI "InvalidMaker" "InvalidMaker.__init__" 18 "value", dF "is_whole" 10, dF "is_count" 11, dF "is_count_below" 12, dF "is_string_of_letters" 13, dF "is_word" 14, dF "is_alphabet" 17, dF "columns_of" 18, dF "made_word" 22, dF "require_maker" 23, dF "is_list_of_entries" 24, dF "is_entry" 25, dF "is_short_word" 26, dF "is_list_of_words" 27, dF "parts_made" 28, dF "letters_of_parts" 29, dF "parting_input" 31, dF "_law_hash" 33, dF "_law_random" 34, dF "_law_generator" 35, dF "_law_word" 36] ++
  [dF "_law_signs" 37, dF "_law_maker_rows" 38, dF "_law_draw" 39, dF "_law_put_off" 40, dF "_law_turned" 41, dF "_law_entry" 42, dF "_law_rests" 43, dF "_law_alike" 44, dF "_law_first" 45, dF "_law_maker" 46, dF "_law_pair_good" 47, dF "_law_caught" 48, dF "law" 49, dM "Maker" "__init__" "Maker.__init__" sInitM [] [("start", .int 0)], dM "Maker" "letters" "Maker.letters" sLettersM [] [], dM "Maker" "rows" "Maker.rows" sRowsM [] [], dM "Maker" "start" "Maker.start" sStartM [] [], dM "Maker" "closing" "Maker.closing" sClosM [] [], dM "Maker" "__eq__" "Maker.__eq__" sEqM [] []]
def fa : List He.Fa := [.glo "is_whole", .glo "is_count", .glo "is_count_below", .glo "is_string_of_letters", .glo "is_word", .glo "is_alphabet", .glo "columns_of", .glo "made_word", .glo "require_maker", .glo "is_list_of_entries", .glo "is_entry", .glo "is_short_word", .glo "is_list_of_words", .glo "parts_made", .glo "letters_of_parts", .glo "parting_input", .glo "_law_hash", .glo "_law_random", .glo "_law_generator", .glo "_law_word", .glo "_law_signs", .glo "_law_maker_rows", .glo "_law_draw", .glo "_law_put_off", .glo "_law_turned"] ++
  [.glo "_law_entry", .glo "_law_rests", .glo "_law_alike", .glo "_law_first", .glo "_law_maker", .glo "_law_pair_good", .glo "_law_caught", .glo "law", .free "int", .free "range", .free "len", .free "sum", .free "max", .free "isinstance", .free "bool", .free "str", .free "sorted", .free "set", .free "tuple", .free "list", .free "all", .free "enumerate", .free "zip", .free "repr", .int "LONGEST_WORD" 20000] ++
  [.int "MOST_STATES" 12, .int "LONGEST_PIECE" 2000, .str "ALPHABET" abc, .glo "Maker", .cls "Maker", .mkr "Maker", .noat "Maker" "_letters", .noat "Maker" "_rows", .noat "Maker" "_start", .noat "Maker" "_closing", .meth "Maker" "letters", .meth "Maker" "rows", .meth "Maker" "start", .meth "Maker" "closing", .meth "Maker" "__eq__"]
abbrev GM (K : PySem.W.Frag) : Addr := He.ga K "Maker"
def bxX (K : PySem.W.Frag) : Bool := (List.range 5).all fun i => xclsB K (nmF i) "value"
def mroI (K : PySem.W.Frag) (i : Nat) : List Value := .ref (CF K i) :: .ref (CF K 5) :: He.veBase
def bxK (K : PySem.W.Frag) : Bool := ecls0B K "LoopError" && ((Nat.blt (CF K 5) (CF K 2) && (Nat.blt (CF K 2) (CF K 3) && (Nat.blt (CF K 3) (CF K 1) && (Nat.blt (CF K 1) (CF K 4) && (Nat.blt (CF K 4) (CF K 0)))))) && (((List.range 5).all fun i => mroB K (CF K i) (mroI K i)) && mroB K (CF K 5) (.ref (CF K 5) :: He.veBase)))
def bxT_GM (K : PySem.W.Frag) : Bool := He.eqO (PySem.W.findIn K (.ref (GM K)) "__class__") (some (some (.builtin "object.__class__"))) && (He.eqO (PySem.W.specialIn K (.builtin "object.__class__") "__get__") (some (some (.builtin "getset_descriptor.__get__"))) &&
  (decide (PySem.W.takesIn K (.builtin "object.__class__") = some true) && (decide (PySem.W.mroIn K (GM K) (.type "object") = some true) && (decide (PySem.W.kitOne K (.ref (GM K)) (.ref (GM K)) = some true) &&
  (tysD.all fun T => decide (PySem.W.kitOne K (.type T) (.ref (GM K)) = some false))))))
def bx (K : PySem.W.Frag) : Bool := bxX K && (bxK K && (bxT_GM K))
end KK
set_option Elab.async false
set_option linter.all false
set_option maxRecDepth 100000
set_option maxHeartbeats 0
namespace KK
open PySem PySem.Spec PyProof.Rows L2 XV
section
variable {P : Program} {w : World} {K : PySem.W.Frag} {mg : Str → Option Value} {base h : Heap}
theorem cl_of (X : K.In h) (G : h.Ns mainGlobals mg) (c : He.SaysD fa fn K) (b : bx K = true) : ClF P w K mg base := by
  obtain ⟨b1, b⟩ := He.ba b
  obtain ⟨b2, _⟩ := He.ba b
  obtain ⟨b2, b⟩ := He.ba b2
  obtain ⟨k1, b⟩ := He.ba b
  obtain ⟨k3, k4⟩ := He.ba b
  obtain ⟨q0, k1⟩ := He.ba k1
  obtain ⟨q1, k1⟩ := He.ba k1
  obtain ⟨q2, k1⟩ := He.ba k1
  obtain ⟨q3, k1⟩ := He.ba k1
  have q4 := k1
  have a5_2 : CF K 5 < CF K 2 := Nat.le_of_ble_eq_true q0
  have a2_3 : CF K 2 < CF K 3 := Nat.le_of_ble_eq_true q1
  have a3_1 : CF K 3 < CF K 1 := Nat.le_of_ble_eq_true q2
  have a1_4 : CF K 1 < CF K 4 := Nat.le_of_ble_eq_true q3
  have a4_0 : CF K 4 < CF K 0 := Nat.le_of_ble_eq_true q4
  have a5_3 : CF K 5 < CF K 3 := Nat.lt_trans a5_2 a2_3
  have a2_1 : CF K 2 < CF K 1 := Nat.lt_trans a2_3 a3_1
  have a3_4 : CF K 3 < CF K 4 := Nat.lt_trans a3_1 a1_4
  have a1_0 : CF K 1 < CF K 0 := Nat.lt_trans a1_4 a4_0
  have a5_1 : CF K 5 < CF K 1 := Nat.lt_trans a5_3 a3_1
  have a2_4 : CF K 2 < CF K 4 := Nat.lt_trans a2_1 a1_4
  have a3_0 : CF K 3 < CF K 0 := Nat.lt_trans a3_4 a4_0
  have a5_4 : CF K 5 < CF K 4 := Nat.lt_trans a5_1 a1_4
  have a2_0 : CF K 2 < CF K 0 := Nat.lt_trans a2_4 a4_0
  have a5_0 : CF K 5 < CF K 0 := Nat.lt_trans a5_4 a4_0
  have five : ∀ i, i < 5 → i = 0 ∨ i = 1 ∨ i = 2 ∨ i = 3 ∨ i = 4 := fun i h => by omega
  have lL : ∀ i, i < 5 → CF K 5 < CF K i := fun i hi => by
    rcases five i hi with rfl | rfl | rfl | rfl | rfl <;> assumption
  have ne : ∀ i, i < 5 → ∀ j, j < 5 → i ≠ j → ¬ CF K i = CF K j := fun i hi j hj hij => by
    rcases five i hi with rfl | rfl | rfl | rfl | rfl <;> rcases five j hj with rfl | rfl | rfl | rfl | rfl <;> first
      | exact absurd rfl hij
      | exact Nat.ne_of_lt (by assumption)
      | exact fun z => absurd z.symm (Nat.ne_of_lt (by assumption))
  have hm : ∀ i, i < 5 → mroB K (CF K i) (mroI K i) = true := fun i hi => List.all_eq_true.mp k3 i (List.mem_range.mpr hi)
  have ct : ∀ i x, (mroI K i).contains (.ref x) = (decide (CF K i = x) || decide (CF K 5 = x)) := fun i x => by
    have e : ∀ y : Addr, (Value.ref x == Value.ref y) = decide (y = x) := fun y => by
      by_cases q : y = x
      · rw [q, decide_eq_true rfl]; exact beq_iff_eq.mpr rfl
      · rw [decide_eq_false q]; exact beq_eq_false_iff_ne.mpr (fun z => q (Value.ref.inj z).symm)
    have e2 : ∀ n : String, (Value.ref x == Value.type n) = false := fun n => beq_eq_false_iff_ne.mpr (fun z => by cases z)
    unfold mroI He.veBase
    simp only [List.contains_cons, List.contains_nil, e, e2, Bool.or_false]
  have hx : ∀ i, i < 5 → xclsB K (nmF i) "value" = true := fun i hi => List.all_eq_true.mp b1 i (List.mem_range.mpr hi)
  have gL := (He.ba b2).1
  have eL : ExcC K (CF K 5) := excB_ok (He.ba (He.ba (He.ba b2).2).2).2
  have tL := (mroB_ok k4).2
  refine ⟨?_, ?_, ?_, ?_, ?_, ?_, ?_⟩
  · intro i hi
    have x0 : ∃ fI fd, XCls P w K mg base (nmF 0) "value" (CF K 0) fI fd := by
      obtain ⟨fd, F⟩ := c.def_ 0 (d := dI "TooLong" "TooLong.__init__" 22 "value") rfl
      exact ⟨_, fd, xcls_V (nm := "TooLong") X G (hx 0 (by decide)) F⟩
    have x1 : ∃ fI fd, XCls P w K mg base (nmF 1) "value" (CF K 1) fI fd := by
      obtain ⟨fd, F⟩ := c.def_ 1 (d := dI "InvalidList" "InvalidList.__init__" 14 "value") rfl
      exact ⟨_, fd, xcls_V (nm := "InvalidList") X G (hx 1 (by decide)) F⟩
    have x2 : ∃ fI fd, XCls P w K mg base (nmF 2) "value" (CF K 2) fI fd := by
      obtain ⟨fd, F⟩ := c.def_ 2 (d := dI "InvalidNumber" "InvalidNumber.__init__" 6 "value") rfl
      exact ⟨_, fd, xcls_V (nm := "InvalidNumber") X G (hx 2 (by decide)) F⟩
    have x3 : ∃ fI fd, XCls P w K mg base (nmF 3) "value" (CF K 3) fI fd := by
      obtain ⟨fd, F⟩ := c.def_ 3 (d := dI "InvalidWord" "InvalidWord.__init__" 10 "value") rfl
      exact ⟨_, fd, xcls_V (nm := "InvalidWord") X G (hx 3 (by decide)) F⟩
    have x4 : ∃ fI fd, XCls P w K mg base (nmF 4) "value" (CF K 4) fI fd := by
      obtain ⟨fd, F⟩ := c.def_ 4 (d := dI "InvalidMaker" "InvalidMaker.__init__" 18 "value") rfl
      exact ⟨_, fd, xcls_V (nm := "InvalidMaker") X G (hx 4 (by decide)) F⟩
    match i, hi with
    | 0, _ => exact x0
    | 1, _ => exact x1
    | 2, _ => exact x2
    | 3, _ => exact x3
    | 4, _ => exact x4
    | _ + 5, hi => exact absurd hi (by omega)
  · intro i hi
    by_cases q : i < 5
    · exact PySem.W.mg_of X G (He.eqO_ok (He.ba (hx i q)).1)
    · obtain rfl : i = 5 := by omega
      exact PySem.W.mg_of X G (He.eqO_ok gL)
  · intro i hi
    exact (xcls_E (hx i hi)).1
  · intro i hi
    exact (xcls_E (hx i hi)).2
  · intro i hi j hj
    rw [kit_mro (hm i hi) rfl (hm j hj) (fun e => by rw [ct, decide_eq_true e]; rfl), ct]
    have nL : ¬ CF K 5 = CF K j := fun z => absurd z (Nat.ne_of_lt (lL j hj))
    rw [decide_eq_false nL, Bool.or_false]
    by_cases q : i = j
    · rw [q, decide_eq_true rfl, decide_eq_true rfl]
    · rw [decide_eq_false q, decide_eq_false (ne i hi j hj q)]
  · intro i hi
    refine PySem.W.exm_ref eL.hs eL.hd tL ?_
    rw [sub_mro (hm i hi) rfl, ct, decide_eq_true (rfl : CF K 5 = CF K 5), Bool.or_true]
  · intro i hi
    have e2 : ExcC K (CF K i) := (xcls_E (hx i hi)).1
    refine PySem.W.exm_ref e2.hs e2.hd (mroB_ok (hm i hi)).2 ?_
    rw [sub_mro (hm i hi) rfl, ct, decide_eq_true (rfl : CF K i = CF K i), Bool.true_or]
theorem tt_GM (X : K.In h) (G : h.Ns mainGlobals mg) (c : He.SaysD fa fn K) (b : bx K = true) : MT K mg (GM K) := by
  obtain ⟨_, b⟩ := He.ba b
  obtain ⟨_, t⟩ := He.ba b
  obtain ⟨t1, t⟩ := He.ba t
  obtain ⟨t2, t⟩ := He.ba t
  obtain ⟨t3, t⟩ := He.ba t
  obtain ⟨t4, t⟩ := He.ba t
  obtain ⟨t5, t6⟩ := He.ba t
  exact ⟨⟨He.cls_ok (c.fact 54 (f := .cls "Maker") rfl), He.eqO_ok t1, He.eqO_ok t2, of_decide_eq_true t3, of_decide_eq_true t4, of_decide_eq_true t5⟩, He.noat_ok (c.fact 56 (f := .noat "Maker" "_letters") rfl), He.noat_ok (c.fact 57 (f := .noat "Maker" "_rows") rfl), He.noat_ok (c.fact 58 (f := .noat "Maker" "_start") rfl), He.noat_ok (c.fact 59 (f := .noat "Maker" "_closing") rfl), He.glo_ok X G (c.fact 53 (f := .glo "Maker") rfl), fun T hT => of_decide_eq_true (List.all_eq_true.mp t6 T hT)⟩
theorem facts {f : Addr} (X : K.In h) (G : h.Ns mainGlobals mg) (hfa : mg ("law" : Str) = some (.ref f)) (c : He.SaysD fa fn K) (b : bx K = true) :
    ∃ fd : FuncData, (∀ (s : Shared) (v : Value), BindsTo s fd ⟨[v], []⟩ [("_law_script", v)]) ∧ ∀ base : Heap, K.In base → base.Ns mainGlobals mg → FnG P w K mg base CX0 10 f fd ["_law_script"] (spLaw K) := by
  obtain ⟨fd_is_whole, F_is_whole⟩ := c.def_ 5 (d := dF "is_whole" 10) rfl
  obtain ⟨fd_is_count, F_is_count⟩ := c.def_ 6 (d := dF "is_count" 11) rfl
  obtain ⟨fd_is_count_below, F_is_count_below⟩ := c.def_ 7 (d := dF "is_count_below" 12) rfl
  obtain ⟨fd_is_string_of_letters, F_is_string_of_letters⟩ := c.def_ 8 (d := dF "is_string_of_letters" 13) rfl
  obtain ⟨fd_is_word, F_is_word⟩ := c.def_ 9 (d := dF "is_word" 14) rfl
  obtain ⟨fd_is_alphabet, F_is_alphabet⟩ := c.def_ 10 (d := dF "is_alphabet" 17) rfl
  obtain ⟨fd_columns_of, F_columns_of⟩ := c.def_ 11 (d := dF "columns_of" 18) rfl
  obtain ⟨fd_made_word, F_made_word⟩ := c.def_ 12 (d := dF "made_word" 22) rfl
  obtain ⟨fd_require_maker, F_require_maker⟩ := c.def_ 13 (d := dF "require_maker" 23) rfl
  obtain ⟨fd_is_list_of_entries, F_is_list_of_entries⟩ := c.def_ 14 (d := dF "is_list_of_entries" 24) rfl
  obtain ⟨fd_is_entry, F_is_entry⟩ := c.def_ 15 (d := dF "is_entry" 25) rfl
  obtain ⟨fd_is_short_word, F_is_short_word⟩ := c.def_ 16 (d := dF "is_short_word" 26) rfl
  obtain ⟨fd_is_list_of_words, F_is_list_of_words⟩ := c.def_ 17 (d := dF "is_list_of_words" 27) rfl
  obtain ⟨fd_parts_made, F_parts_made⟩ := c.def_ 18 (d := dF "parts_made" 28) rfl
  obtain ⟨fd_letters_of_parts, F_letters_of_parts⟩ := c.def_ 19 (d := dF "letters_of_parts" 29) rfl
  obtain ⟨fd_parting_input, F_parting_input⟩ := c.def_ 20 (d := dF "parting_input" 31) rfl
  obtain ⟨fd__law_hash, F__law_hash⟩ := c.def_ 21 (d := dF "_law_hash" 33) rfl
  obtain ⟨fd__law_random, F__law_random⟩ := c.def_ 22 (d := dF "_law_random" 34) rfl
  obtain ⟨fd__law_generator, F__law_generator⟩ := c.def_ 23 (d := dF "_law_generator" 35) rfl
  obtain ⟨fd__law_word, F__law_word⟩ := c.def_ 24 (d := dF "_law_word" 36) rfl
  obtain ⟨fd__law_signs, F__law_signs⟩ := c.def_ 25 (d := dF "_law_signs" 37) rfl
  obtain ⟨fd__law_maker_rows, F__law_maker_rows⟩ := c.def_ 26 (d := dF "_law_maker_rows" 38) rfl
  obtain ⟨fd__law_draw, F__law_draw⟩ := c.def_ 27 (d := dF "_law_draw" 39) rfl
  obtain ⟨fd__law_put_off, F__law_put_off⟩ := c.def_ 28 (d := dF "_law_put_off" 40) rfl
  obtain ⟨fd__law_turned, F__law_turned⟩ := c.def_ 29 (d := dF "_law_turned" 41) rfl
  obtain ⟨fd__law_entry, F__law_entry⟩ := c.def_ 30 (d := dF "_law_entry" 42) rfl
  obtain ⟨fd__law_rests, F__law_rests⟩ := c.def_ 31 (d := dF "_law_rests" 43) rfl
  obtain ⟨fd__law_alike, F__law_alike⟩ := c.def_ 32 (d := dF "_law_alike" 44) rfl
  obtain ⟨fd__law_first, F__law_first⟩ := c.def_ 33 (d := dF "_law_first" 45) rfl
  obtain ⟨fd__law_maker, F__law_maker⟩ := c.def_ 34 (d := dF "_law_maker" 46) rfl
  obtain ⟨fd__law_pair_good, F__law_pair_good⟩ := c.def_ 35 (d := dF "_law_pair_good" 47) rfl
  obtain ⟨fd__law_caught, F__law_caught⟩ := c.def_ 36 (d := dF "_law_caught" 48) rfl
  obtain ⟨fd_law, F_law⟩ := c.def_ 37 (d := dF "law" 49) rfl
  obtain ⟨fdm_GM___init__, FGM___init__⟩ := c.def_ 38 (d := dM "Maker" "__init__" "Maker.__init__" sInitM [] [("start", .int 0)]) rfl
  obtain ⟨fdm_GM_letters, FGM_letters⟩ := c.def_ 39 (d := dM "Maker" "letters" "Maker.letters" sLettersM [] []) rfl
  obtain ⟨fdm_GM_rows, FGM_rows⟩ := c.def_ 40 (d := dM "Maker" "rows" "Maker.rows" sRowsM [] []) rfl
  obtain ⟨fdm_GM_start, FGM_start⟩ := c.def_ 41 (d := dM "Maker" "start" "Maker.start" sStartM [] []) rfl
  obtain ⟨fdm_GM_closing, FGM_closing⟩ := c.def_ 42 (d := dM "Maker" "closing" "Maker.closing" sClosM [] []) rfl
  obtain ⟨fdm_GM___eq__, FGM___eq__⟩ := c.def_ 43 (d := dM "Maker" "__eq__" "Maker.__eq__" sEqM [] []) rfl
  have g_is_whole : mg "is_whole" = some (.ref (He.ga K "is_whole")) := He.glo_ok X G (c.fact 0 (f := .glo "is_whole") rfl)
  have g_is_count : mg "is_count" = some (.ref (He.ga K "is_count")) := He.glo_ok X G (c.fact 1 (f := .glo "is_count") rfl)
  have g_is_count_below : mg "is_count_below" = some (.ref (He.ga K "is_count_below")) := He.glo_ok X G (c.fact 2 (f := .glo "is_count_below") rfl)
  have g_is_string_of_letters : mg "is_string_of_letters" = some (.ref (He.ga K "is_string_of_letters")) := He.glo_ok X G (c.fact 3 (f := .glo "is_string_of_letters") rfl)
  have g_is_word : mg "is_word" = some (.ref (He.ga K "is_word")) := He.glo_ok X G (c.fact 4 (f := .glo "is_word") rfl)
  have g_is_alphabet : mg "is_alphabet" = some (.ref (He.ga K "is_alphabet")) := He.glo_ok X G (c.fact 5 (f := .glo "is_alphabet") rfl)
  have g_columns_of : mg "columns_of" = some (.ref (He.ga K "columns_of")) := He.glo_ok X G (c.fact 6 (f := .glo "columns_of") rfl)
  have g_made_word : mg "made_word" = some (.ref (He.ga K "made_word")) := He.glo_ok X G (c.fact 7 (f := .glo "made_word") rfl)
  have g_require_maker : mg "require_maker" = some (.ref (He.ga K "require_maker")) := He.glo_ok X G (c.fact 8 (f := .glo "require_maker") rfl)
  have g_is_list_of_entries : mg "is_list_of_entries" = some (.ref (He.ga K "is_list_of_entries")) := He.glo_ok X G (c.fact 9 (f := .glo "is_list_of_entries") rfl)
  have g_is_entry : mg "is_entry" = some (.ref (He.ga K "is_entry")) := He.glo_ok X G (c.fact 10 (f := .glo "is_entry") rfl)
  have g_is_short_word : mg "is_short_word" = some (.ref (He.ga K "is_short_word")) := He.glo_ok X G (c.fact 11 (f := .glo "is_short_word") rfl)
  have g_is_list_of_words : mg "is_list_of_words" = some (.ref (He.ga K "is_list_of_words")) := He.glo_ok X G (c.fact 12 (f := .glo "is_list_of_words") rfl)
  have g_parts_made : mg "parts_made" = some (.ref (He.ga K "parts_made")) := He.glo_ok X G (c.fact 13 (f := .glo "parts_made") rfl)
  have g_letters_of_parts : mg "letters_of_parts" = some (.ref (He.ga K "letters_of_parts")) := He.glo_ok X G (c.fact 14 (f := .glo "letters_of_parts") rfl)
  have g_parting_input : mg "parting_input" = some (.ref (He.ga K "parting_input")) := He.glo_ok X G (c.fact 15 (f := .glo "parting_input") rfl)
  have g__law_hash : mg "_law_hash" = some (.ref (He.ga K "_law_hash")) := He.glo_ok X G (c.fact 16 (f := .glo "_law_hash") rfl)
  have g__law_random : mg "_law_random" = some (.ref (He.ga K "_law_random")) := He.glo_ok X G (c.fact 17 (f := .glo "_law_random") rfl)
  have g__law_generator : mg "_law_generator" = some (.ref (He.ga K "_law_generator")) := He.glo_ok X G (c.fact 18 (f := .glo "_law_generator") rfl)
  have g__law_word : mg "_law_word" = some (.ref (He.ga K "_law_word")) := He.glo_ok X G (c.fact 19 (f := .glo "_law_word") rfl)
  have g__law_signs : mg "_law_signs" = some (.ref (He.ga K "_law_signs")) := He.glo_ok X G (c.fact 20 (f := .glo "_law_signs") rfl)
  have g__law_maker_rows : mg "_law_maker_rows" = some (.ref (He.ga K "_law_maker_rows")) := He.glo_ok X G (c.fact 21 (f := .glo "_law_maker_rows") rfl)
  have g__law_draw : mg "_law_draw" = some (.ref (He.ga K "_law_draw")) := He.glo_ok X G (c.fact 22 (f := .glo "_law_draw") rfl)
  have g__law_put_off : mg "_law_put_off" = some (.ref (He.ga K "_law_put_off")) := He.glo_ok X G (c.fact 23 (f := .glo "_law_put_off") rfl)
  have g__law_turned : mg "_law_turned" = some (.ref (He.ga K "_law_turned")) := He.glo_ok X G (c.fact 24 (f := .glo "_law_turned") rfl)
  have g__law_entry : mg "_law_entry" = some (.ref (He.ga K "_law_entry")) := He.glo_ok X G (c.fact 25 (f := .glo "_law_entry") rfl)
  have g__law_rests : mg "_law_rests" = some (.ref (He.ga K "_law_rests")) := He.glo_ok X G (c.fact 26 (f := .glo "_law_rests") rfl)
  have g__law_alike : mg "_law_alike" = some (.ref (He.ga K "_law_alike")) := He.glo_ok X G (c.fact 27 (f := .glo "_law_alike") rfl)
  have g__law_first : mg "_law_first" = some (.ref (He.ga K "_law_first")) := He.glo_ok X G (c.fact 28 (f := .glo "_law_first") rfl)
  have g__law_maker : mg "_law_maker" = some (.ref (He.ga K "_law_maker")) := He.glo_ok X G (c.fact 29 (f := .glo "_law_maker") rfl)
  have g__law_pair_good : mg "_law_pair_good" = some (.ref (He.ga K "_law_pair_good")) := He.glo_ok X G (c.fact 30 (f := .glo "_law_pair_good") rfl)
  have g__law_caught : mg "_law_caught" = some (.ref (He.ga K "_law_caught")) := He.glo_ok X G (c.fact 31 (f := .glo "_law_caught") rfl)
  have g_law : mg "law" = some (.ref (He.ga K "law")) := He.glo_ok X G (c.fact 32 (f := .glo "law") rfl)
  have z_int : mg "int" = none := He.free_ok X G (c.fact 33 (f := .free "int") rfl)
  have z_range : mg "range" = none := He.free_ok X G (c.fact 34 (f := .free "range") rfl)
  have z_len : mg "len" = none := He.free_ok X G (c.fact 35 (f := .free "len") rfl)
  have z_sum : mg "sum" = none := He.free_ok X G (c.fact 36 (f := .free "sum") rfl)
  have z_max : mg "max" = none := He.free_ok X G (c.fact 37 (f := .free "max") rfl)
  have z_isinstance : mg "isinstance" = none := He.free_ok X G (c.fact 38 (f := .free "isinstance") rfl)
  have z_bool : mg "bool" = none := He.free_ok X G (c.fact 39 (f := .free "bool") rfl)
  have z_str : mg "str" = none := He.free_ok X G (c.fact 40 (f := .free "str") rfl)
  have z_sorted : mg "sorted" = none := He.free_ok X G (c.fact 41 (f := .free "sorted") rfl)
  have z_set : mg "set" = none := He.free_ok X G (c.fact 42 (f := .free "set") rfl)
  have z_tuple : mg "tuple" = none := He.free_ok X G (c.fact 43 (f := .free "tuple") rfl)
  have z_list : mg "list" = none := He.free_ok X G (c.fact 44 (f := .free "list") rfl)
  have z_all : mg "all" = none := He.free_ok X G (c.fact 45 (f := .free "all") rfl)
  have z_enumerate : mg "enumerate" = none := He.free_ok X G (c.fact 46 (f := .free "enumerate") rfl)
  have z_zip : mg "zip" = none := He.free_ok X G (c.fact 47 (f := .free "zip") rfl)
  have z_repr : mg "repr" = none := He.free_ok X G (c.fact 48 (f := .free "repr") rfl)
  obtain ⟨t_ALPHABET, h_ALPHABET⟩ := He.str_ok X G (c.fact 52 (f := .str "ALPHABET" abc) rfl)
  obtain ⟨t_LONGEST_WORD, h_LONGEST_WORD⟩ := He.int_ok X G (c.fact 49 (f := .int "LONGEST_WORD" 20000) rfl)
  obtain ⟨t_MOST_STATES, h_MOST_STATES⟩ := He.int_ok X G (c.fact 50 (f := .int "MOST_STATES" 12) rfl)
  obtain ⟨t_LONGEST_PIECE, h_LONGEST_PIECE⟩ := He.int_ok X G (c.fact 51 (f := .int "LONGEST_PIECE" 2000) rfl)
  have MKGM : Mk K (GM K) (He.ma K (GM K) "__init__") := He.mkr_ok (c.fact 55 (f := .mkr "Maker") rfl)
  obtain ⟨mGM_letters1, mGM_letters2, mGM_letters3⟩ := He.meth_ok (c.fact 60 (f := .meth "Maker" "letters") rfl)
  obtain ⟨mGM_rows1, mGM_rows2, mGM_rows3⟩ := He.meth_ok (c.fact 61 (f := .meth "Maker" "rows") rfl)
  obtain ⟨mGM_start1, mGM_start2, mGM_start3⟩ := He.meth_ok (c.fact 62 (f := .meth "Maker" "start") rfl)
  obtain ⟨mGM_closing1, mGM_closing2, mGM_closing3⟩ := He.meth_ok (c.fact 63 (f := .meth "Maker" "closing") rfl)
  obtain ⟨mGM___eq__1, mGM___eq__2, mGM___eq__3⟩ := He.meth_ok (c.fact 64 (f := .meth "Maker" "__eq__") rfl)
  have T := tt_GM X G c b
  have eL := hfa.symm.trans g_law
  cases eL
  have bL := FunD.bindsA (ps := ["_law_script"]) F_law fun _ _ _ _ _ _ us hl => match us, hl with | [_], _ => rfl
  refine ⟨fd_law, fun s v => bL s [v] rfl, fun base Xb _ => ?_⟩
  have Z : ClF P w K mg base := cl_of X G c b
  have o__law_hash := Ok.mk' (P := P) (w := w) (base := base) F__law_hash g__law_hash (fun _ _ _ _ _ _ us hl => match us, hl with | [_, _], _ => rfl) (ok_hash F__law_hash z_int)
  have o__law_random := Ok.mk' (P := P) (w := w) (base := base) F__law_random g__law_random (fun _ _ _ _ _ _ us hl => match us, hl with | [_, _], _ => rfl) (ok_rand F__law_random o__law_hash z_int z_range)
  have o__law_generator := Ok.mk' (P := P) (w := w) (base := base) F__law_generator g__law_generator (fun _ _ _ _ _ _ us hl => match us, hl with | [_, _], _ => rfl) (ok_gen F__law_generator z_int z_len z_sum z_max)
  have o_is_whole := Ok.mk' (P := P) (w := w) (base := base) F_is_whole g_is_whole (fun _ _ _ _ _ _ us hl => match us, hl with | [_], _ => rfl) (ok_whole F_is_whole z_isinstance z_int z_bool)
  have o_is_count := Ok.mk' (P := P) (w := w) (base := base) F_is_count g_is_count (fun _ _ _ _ _ _ us hl => match us, hl with | [_], _ => rfl) (ok_count F_is_count o_is_whole)
  have o_is_count_below := Ok.mk' (P := P) (w := w) (base := base) F_is_count_below g_is_count_below (fun _ _ _ _ _ _ us hl => match us, hl with | [_, _], _ => rfl) (ok_below F_is_count_below o_is_count)
  have o_is_string_of_letters := Ok.mk' (P := P) (w := w) (base := base) F_is_string_of_letters g_is_string_of_letters (fun _ _ _ _ _ _ us hl => match us, hl with | [_], _ => rfl) (ok_low F_is_string_of_letters z_isinstance z_str)
  have o_is_word := Ok.mk' (P := P) (w := w) (base := base) F_is_word g_is_word (fun _ _ _ _ _ _ us hl => match us, hl with | [_], _ => rfl) (ok_isWord F_is_word o_is_string_of_letters z_len h_LONGEST_WORD)
  have o_is_alphabet := Ok.mk' (P := P) (w := w) (base := base) F_is_alphabet g_is_alphabet (fun _ _ _ _ _ _ us hl => match us, hl with | [_], _ => rfl) (ok_alph F_is_alphabet o_is_word z_sorted z_set)
  have o_is_short_word := Ok.mk' (P := P) (w := w) (base := base) F_is_short_word g_is_short_word (fun _ _ _ _ _ _ us hl => match us, hl with | [_], _ => rfl) (ok_short F_is_short_word o_is_string_of_letters z_len h_LONGEST_PIECE)
  have o_is_entry := Ok.mk' (P := P) (w := w) (base := base) F_is_entry g_is_entry (fun _ _ _ _ _ _ us hl => match us, hl with | [_, _], _ => rfl) (ok_ent F_is_entry o_is_count_below o_is_short_word z_isinstance z_tuple z_len z_bool)
  have o_is_list_of_entries := Ok.mk' (P := P) (w := w) (base := base) F_is_list_of_entries g_is_list_of_entries (fun _ _ _ _ _ _ us hl => match us, hl with | [_, _], _ => rfl) (ok_ents F_is_list_of_entries o_is_entry z_isinstance z_list z_len z_all h_MOST_STATES)
  have o_is_list_of_words := Ok.mk' (P := P) (w := w) (base := base) F_is_list_of_words g_is_list_of_words (fun _ _ _ _ _ _ us hl => match us, hl with | [_, _], _ => rfl) (ok_wrds F_is_list_of_words o_is_short_word z_isinstance z_list z_len z_all)
  have x_require_maker := OkX.mk' (P := P) (w := w) (base := base) F_require_maker g_require_maker (fun _ _ _ _ _ _ us hl => match us, hl with | [_], _ => rfl) (ok_reqM F_require_maker T Z z_isinstance)
  have o_letters_of_parts := Ok.mk' (P := P) (w := w) (base := base) F_letters_of_parts g_letters_of_parts (fun _ _ _ _ _ _ us hl => match us, hl with | [_], _ => rfl) (ok_lop F_letters_of_parts z_sum z_len)
  have o__law_signs := Ok.mk' (P := P) (w := w) (base := base) F__law_signs g__law_signs (fun _ _ _ _ _ _ us hl => match us, hl with | [_], _ => rfl) (ok_signs F__law_signs o__law_random)
  have o__law_word := Ok.mk' (P := P) (w := w) (base := base) F__law_word g__law_word (fun _ _ _ _ _ _ us hl => match us, hl with | [_, _, _], _ => rfl) (ok_word F__law_word o__law_random z_range z_len)
  have o__law_maker_rows := Ok.mk' (P := P) (w := w) (base := base) F__law_maker_rows g__law_maker_rows (fun _ _ _ _ _ _ us hl => match us, hl with | [_, _, _, _], _ => rfl) (ok_mrows F__law_maker_rows o__law_random o__law_word z_range z_len)
  have o__law_entry := Ok.mk' (P := P) (w := w) (base := base) F__law_entry g__law_entry (fun _ _ _ _ _ _ us hl => match us, hl with | [_, _, _], _ => rfl) (ok_entry F__law_entry z_len)
  have o__law_rests := Ok.mk' (P := P) (w := w) (base := base) F__law_rests g__law_rests (fun _ _ _ _ _ _ us hl => match us, hl with | [_, _], _ => rfl) (ok_rests F__law_rests z_len)
  have o__law_alike := Ok.mk' (P := P) (w := w) (base := base) F__law_alike g__law_alike (fun _ _ _ _ _ _ us hl => match us, hl with | [_, _, _, _], _ => rfl) (ok_alike F__law_alike )
  have o__law_first := Ok.mk' (P := P) (w := w) (base := base) F__law_first g__law_first (fun _ _ _ _ _ _ us hl => match us, hl with | [_, _], _ => rfl) (ok_first F__law_first o__law_entry o__law_rests o__law_alike z_range z_len)
  have o__law_draw := Ok.mk' (P := P) (w := w) (base := base) F__law_draw g__law_draw (fun _ _ _ _ _ _ us hl => match us, hl with | [_], _ => rfl) (ok_draw F__law_draw o__law_random o__law_signs o__law_maker_rows o__law_word z_range)
  have o__law_put_off := Ok.mk' (P := P) (w := w) (base := base) F__law_put_off g__law_put_off (fun _ _ _ _ _ _ us hl => match us, hl with | [_], _ => rfl) (ok_putoff F__law_put_off z_len)
  have o__law_turned := Ok.mk' (P := P) (w := w) (base := base) F__law_turned g__law_turned (fun _ _ _ _ _ _ us hl => match us, hl with | [_, _], _ => rfl) (ok_turned F__law_turned o__law_random o__law_word o__law_draw z_range z_len z_list z_int)
  have om_letters : OkMa P w K mg base (GM K) "letters" (spLetM (GM K)) := ⟨_, _, ok_letM FGM_letters T, ⟨mGM_letters1, mGM_letters2, mGM_letters3⟩, FunD.bindsN FGM_letters fun _ _ _ _ _ _ us hl => match us, hl with | [_], _ => rfl⟩
  have o_columns_of := Ok.mk' (P := P) (w := w) (base := base) F_columns_of g_columns_of (fun _ _ _ _ _ _ us hl => match us, hl with | [_, _], _ => rfl) (ok_cols2 F_columns_of T om_letters z_enumerate z_len)
  have om_rows : OkMa P w K mg base (GM K) "rows" (spRowsM (GM K)) := ⟨_, _, ok_rowsM FGM_rows T z_list, ⟨mGM_rows1, mGM_rows2, mGM_rows3⟩, FunD.bindsN FGM_rows fun _ _ _ _ _ _ us hl => match us, hl with | [_], _ => rfl⟩
  have o_parts_made := Ok.mk' (P := P) (w := w) (base := base) F_parts_made g_parts_made (fun _ _ _ _ _ _ us hl => match us, hl with | [_, _, _], _ => rfl) (ok_parts F_parts_made T om_rows o_columns_of z_zip)
  have om_start : OkMa P w K mg base (GM K) "start" (spStartM (GM K)) := ⟨_, _, ok_startM FGM_start T, ⟨mGM_start1, mGM_start2, mGM_start3⟩, FunD.bindsN FGM_start fun _ _ _ _ _ _ us hl => match us, hl with | [_], _ => rfl⟩
  have om_closing : OkMa P w K mg base (GM K) "closing" (spClosM (GM K)) := ⟨_, _, ok_closM FGM_closing T z_list, ⟨mGM_closing1, mGM_closing2, mGM_closing3⟩, FunD.bindsN FGM_closing fun _ _ _ _ _ _ us hl => match us, hl with | [_], _ => rfl⟩
  have x_made_word := OkX.mk' (P := P) (w := w) (base := base) F_made_word g_made_word (fun _ _ _ _ _ _ us hl => match us, hl with | [_, _], _ => rfl) (ok_made F_made_word T Z x_require_maker o_is_word o_parts_made om_start om_closing o_letters_of_parts h_LONGEST_WORD)
  have x_parting_input := OkX.mk' (P := P) (w := w) (base := base) F_parting_input g_parting_input (fun _ _ _ _ _ _ us hl => match us, hl with | [_, _], _ => rfl) (ok_pi F_parting_input T x_require_maker o_parts_made om_start om_closing z_len h_ALPHABET)
  have k_parting_input := OkKX.mk' (P := P) (w := w) (base := base) F_parting_input g_parting_input (fun _ _ _ _ _ _ us hl => match us, hl with | [_, _], _ => rfl) (ok_pi F_parting_input T x_require_maker o_parts_made om_start om_closing z_len h_ALPHABET)
  have o__law_caught := OkG.mk' (P := P) (w := w) (base := base) F__law_caught g__law_caught (fun _ _ _ _ _ _ us hl => match us, hl with | [_, _], _ => rfl) (ok_caught F__law_caught Z x_parting_input z_isinstance z_repr)
  obtain ⟨mvA, kbA⟩ := FunD.kbinds0 (ps := ["self", "letters", "rows", "start", "closing"]) FGM___init__ 3 ["closing"] [("start", V.int 0)] (fun us mz zs => us ++ mz ++ zs) (fun z => by cases z) (fun q hq => hq) (fun r1 r2 r3 => Vals.append (Vals.append r1 r2) r3) (fun D doc pm an cdv ct us mv ws l1 l2 l3 => match us, mv, ws, l1, l2, l3 with | [_, _, _], [_], [_], _, _, _ => ⟨_, _, _, _, _, _, rfl, rfl, rfl⟩)
  obtain ⟨mvB, kbB⟩ := FunD.kbinds0 (ps := ["self", "letters", "rows", "start", "closing"]) FGM___init__ 3 ["start", "closing"] [] (fun us mz zs => us ++ zs) (fun z => by cases z) (fun q hq => by cases hq) (fun r1 r2 r3 => Vals.append r1 r3) (fun D doc pm an cdv ct us mv ws l1 l2 l3 => match us, mv, ws, l1, l2, l3 with | [_, _, _], [], [_, _], _, _, _ => rfl)
  obtain ⟨mvC, kbC⟩ := FunD.kbinds0 (ps := ["self", "letters", "rows", "start", "closing"]) FGM___init__ 1 ["closing", "start", "rows", "letters"] [] (fun us mz zs => us ++ zs.reverse) (fun z => by cases z) (fun q hq => by cases hq) (fun r1 r2 r3 => Vals.append r1 (vals_rev r3)) (fun D doc pm an cdv ct us mv ws l1 l2 l3 => match us, mv, ws, l1, l2, l3 with | [_], [], [_, _, _, _], _, _, _ => rfl)
  have o_mkM : OkMkM P w K mg base (GM K) := ⟨_, _, mvA, MKGM, ok_initM FGM___init__ T Z o_is_alphabet o_is_list_of_entries o_is_count_below o_is_list_of_words z_len z_list, kbA, kbB, kbC, T.g⟩
  have o__law_maker := Ok.mk' (P := P) (w := w) (base := base) F__law_maker g__law_maker (fun _ _ _ _ _ _ us hl => match us, hl with | [_], _ => rfl) (ok_maker F__law_maker o_mkM)
  have o_eqM : OkEqM P w K mg base (GM K) := ⟨_, _, mGM___eq__1, mGM___eq__2, ok_eqM FGM___eq__ T z_isinstance, FunD.bindsN FGM___eq__ fun _ _ _ _ _ _ us hl => match us, hl with | [_, _], _ => rfl⟩
  have o__law_pair_good := OkG.mk' (P := P) (w := w) (base := base) F__law_pair_good g__law_pair_good (fun _ _ _ _ _ _ us hl => match us, hl with | [_, _, _], _ => rfl) (ok_pair F__law_pair_good T o__law_maker o__law_first x_parting_input.calm k_parting_input.calm o_eqM x_made_word.calm o__law_word z_repr z_len)
  exact ok_law F_law T o_mkM o__law_generator o__law_draw o__law_turned o__law_put_off o__law_maker x_parting_input.calm o__law_pair_good o__law_caught z_range z_int z_repr
end
end KK
set_option Elab.async false
set_option linter.all false
set_option maxRecDepth 100000
set_option maxHeartbeats 0
namespace KK
open PySem PySem.Spec PyProof.Rows L2 XV
abbrev R : PySem.W.OpenRow := PySem.W.OpenLaw.row PySem.Challenge.rw_openloops_k29_whole_first_parting_inputs
abbrev qv : Program := PySem.W.view R.prog [49]
def names : List PySem.Str := (["LoopError", "InvalidNumber", "InvalidWord", "InvalidList", "InvalidMaker", "TooLong", "LONGEST_WORD", "ALPHABET", "is_whole", "is_count", "is_count_below", "is_string_of_letters", "is_word", "MOST_STATES", "is_alphabet", "columns_of", "LONGEST_PIECE", "Maker", "made_word", "require_maker"] : List PySem.Str) ++ (["is_list_of_entries", "is_entry", "is_short_word", "is_list_of_words", "parts_made", "letters_of_parts", "parting_input", "_law_hash", "_law_random", "_law_generator", "_law_word", "_law_signs", "_law_maker_rows", "_law_draw", "_law_put_off", "_law_turned", "_law_entry", "_law_rests", "_law_alike", "_law_first"] : List PySem.Str) ++ (["_law_maker", "_law_pair_good", "_law_caught"] : List PySem.Str)
noncomputable abbrev endR (w : World) (os : OsState) : Option PySem.W.SharedT := HandSHeadRun.endF (HandSHeadRun.stepQ (HandSHeadRun.denQ HandSHeadRun.tabQ) R.prog w) 12000 R.prog w os
end KK
set_option Elab.async false
set_option linter.all false
set_option maxRecDepth 100000
set_option maxHeartbeats 0
namespace KK
open PySem PySem.Spec PyProof.Rows L2 XV
def obsK (K : PySem.W.Frag) : He.AlD × Bool := (He.obsD fa fn K, bx K)
abbrev hk : PySem.W.Hook := hookF (He.AlD × Bool) obsK (He.valD fn, true)
def ob (s : PySem.W.SharedT) : He.AlD × Bool := obF obsK s
theorem ob_eq (s : PySem.W.SharedT) : ob s = hk.obs s.abs := obF_eq (val := (He.valD fn, true)) s
theorem run (w : World) : HandSHeadRun.RunEq R qv hk ob 12000 names w := by
  intro os
  kernel_rfl
end KK
set_option Elab.async false
set_option linter.all false
set_option maxRecDepth 100000
set_option maxHeartbeats 0
open PySem PySem.W PySem.Calls PyProof.Rows
theorem PySem.Challenge.cw_openloops_k29_whole_first_parting_inputs_holds : PySem.Challenge.rw_openloops_k29_whole_first_parting_inputs.Holds := by
  w_on; o_law
  refine HandSHeadRun.head_any (r := OpenLaw.row PySem.Challenge.rw_openloops_k29_whole_first_parting_inputs) (q := view (OpenLaw.row PySem.Challenge.rw_openloops_k29_whole_first_parting_inputs).prog [49]) (H := KK.hk) (ob := KK.ob) (M := 12000) (loose := KK.names)
    (d := HandSHeadRun.topDef (OpenLaw.row PySem.Challenge.rw_openloops_k29_whole_first_parting_inputs).prog 49) (kwd := []) KK.ob_eq
    (by kernel_rfl) (fun s => by kernel_rfl) KK.run (by kernel_rfl) (by kernel_rfl) (by kernel_rfl) (by rfl) (by first | assumption | decide +kernel) (by decide +kernel) ⟨rfl, rfl, rfl, rfl, rfl, by decide +kernel⟩ ?hw ?hc
  case hw => w_witness2
  case hc =>
    refine XV.walk_ofG (l := PySem.Challenge.rw_openloops_k29_whole_first_parting_inputs) (n := 63) (k := 10) (x := "_law_script") rfl (by decide) (by kernel_rfl) ⟨rfl, by decide, by decide⟩ ?F
    intro w mg fa h Y G hmg0
    obtain ⟨K, KX, cb⟩ := Y
    have c : He.SaysD KK.fa KK.fn K := congrArg Prod.fst cb
    have b : KK.bx K = true := congrArg Prod.snd cb
    have hmg : mg ("law" : PySem.Str) = some (.ref fa) := by
      have e : (HandSHeadRun.topDef (OpenLaw.row PySem.Challenge.rw_openloops_k29_whole_first_parting_inputs).prog 49).name = ("law" : PySem.Str) := by kernel_rfl
      rw [← e]
      exact hmg0
    obtain ⟨fd, hb, hF⟩ := KK.facts (P := (PySem.Challenge.rw_openloops_k29_whole_first_parting_inputs).prog) (w := w) KX G hmg c b
    exact ⟨K, fd, KK.spLaw K, KX, hb, fun H a ns hl _ hS => ⟨a, ns, rfl, hS, hl, fun _ => rfl⟩, hF⟩
