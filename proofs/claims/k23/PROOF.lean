import PyProof.Rows.All
import Wide.All
import OpenK.AllK
import Wide.FinOn
import HandS.ForMost
import HandS.Exc
import HandS.ExcInit
import HandS.ExcIs
import HandS.ExcField
import HandS.ExcOwn
import HandS.Defaults
import HandS.HeadHook2
import HandS.ExcValue
import HandS.Wide
import HandS.WideBits
import HandS.Style
import HandS.IsInst
import PySem.Challenge.RW_openloops_k23_whole_first_parting_words
import KE.DataAny
import HandS.StrMore
import HandS.Zip
import KE.GoesZip
import KE.GoesMore
import KE.GoesEnum
import HandS.Comp
import HandS.Ends
import HandS.HeadEnd
import HandS.TryMany
import HandS.Deep
import PyProof.ReprRoads
import HandS.Gcd
import HandS.SlotsOwn
import HandS.Codes
import KE.KMathGC
import PyProof.NeKinds
import PyProof.EqKinds
import PyProof.Rows.StrCountLaw
import HandS.Base
import HandS.Conv
import PyProof.EnumFor
import PyProof.Draws
import HandS.Iter
import HandS.DictComp
import HandS.Walk
import HandS.SetFor
import PyProof.StrWalks
import PyProof.EnumMake
import HandS.SetTxtIn
import HandS.Strs
import PyProof.Rows.SortStr
import PyProof.StrLawsIn
import PyProof.StrBlock2
import PyProof.Rows.StrNews2
import HandS.AnyAll
import HandS.Lambda
import HandS.Nested
import HandS.MakeKwOnly
import HandS.DictTup
import KE.KDictDisplayH
import HandS.Small
import HandS.SortInts
import HandS.WordsExc
import HandS.EndTab
import HandS.HeadHook3
import HandS.HeadHook4
import HandS.Head0
import HandS.Head1
import HandS.Head2
import HandS.HeadHook1
set_option Elab.async false
set_option linter.all false
set_option maxRecDepth 100000
set_option maxHeartbeats 2000000
/-! Own error classes whose instances are held as values: C(..) with any keywords, e.f, isinstance(e, C). -/
namespace XV
open PySem PySem.Spec PyProof.Rows L2 PySem.HandSPX

section
variable {prog : Program} {w : World} {A : Around} {E : Value → Shared → Prop} {R : Result → Shared → Prop}
variable {h : Heap} {g : Array GenState} {d : Drawn} {t : Nat} {os : OsState}
variable {nm q : Str} {C N : Addr} {bs bm bmB : List Value} {hdct : Bool} {sn : List Str} {sub : List Value} {ab : Bool} {col : Option Bool} {dd : Option Addr}
variable {k0 k1 k2 k3 k5 : Option Value} {B newId initId : String}

/-- the check ahead of __new__, whatever keywords there are -/
theorem chkNew {M : Model} (F : ExcBaseFacts B newId initId bmB) (hT : ∀ X : String, bm.contains (.type X) = bmB.contains (.type X))
    {rest : List Value} {kw : List (Str × Value)} {Q : Unit → Shared → Prop}
    (hC : h.get? C = some (excClassObj nm q C N bs bm hdct sn sub ab col dd k0 k1 k2 k3 k5 newId)) (hq : Q () ⟨h, g, d, t, os⟩) :
    wpAny M A (checkBuiltinCall newId ⟨.ref C :: rest, kw⟩) Q E ⟨h, g, d, t, os⟩ := by
  have cB : (Value.ref C :: bm).contains (.type B) = true := by
    rw [List.contains_cons, hT, F.hasB]
    exact Bool.or_true _
  have star := F.noStar
  simp only [checkBuiltinCall, F.newKind, F.newSplit, F.newRow]
  repeat (first
    | refine wpAny_loadPart_at hC ?_
    | (refine wpAny_isSubtype_exc hC ?_; rw [cB])
    | refine wpAny_staticBase_exc hC ?_
    | refine wpAny_madeBy_exc hC ?_
    | simp only [bne_self_eq_false, Bool.false_eq_true, if_false]
    | wp_step)
  exact hq

theorem runNew (F : ExcBaseFacts B newId initId bmB) (hT : ∀ X : String, bm.contains (.type X) = bmB.contains (.type X))
    {rest : List Value} {kw : List (Str × Value)}
    (hC : h.get? C = some (excClassObj nm q C N bs bm hdct sn sub ab col dd k0 k1 k2 k3 k5 newId))
    (hq : R (.ok (.ret (.ref (h.objs.size + 1)))) ⟨(h.push (PySem.W.kdv_tup rest)).push (excO C h.objs.size), g, d, t, os⟩) (hz : rest.length ≤ sizeLine) :
    codeAny (model prog w) A (.builtin newId ⟨.ref C :: rest, kw⟩) R ⟨h, g, d, t, os⟩ := by
  have ends := F.ends
  have cB : (Value.ref C :: bm).contains (.type B) = true := by
    rw [List.contains_cons, hT, F.hasB]
    exact Bool.or_true _
  have cA : (Value.ref C :: bm).contains (.type "AttributeError") = false := by
    rw [List.contains_cons, hT, F.noAttr] <;> rfl
  have cN : (Value.ref C :: bm).contains (.type "NameError") = false := by
    rw [List.contains_cons, hT, F.noName] <;> rfl
  refine codeAny_builtinAt F.entry ?_
  unfold Builtin.«BaseException.__new__»
  refine PySem.wpAt_bind ?_
  show PySem.wpAt _ _ _ (stack >>= _) _ _ _
  refine PySem.wpAt_bind (PySem.wpAt_stack fun p below => PySem.wpAt_of_wpAny ?_)
  wp_walk
  refine PySem.wpAt_of_wpAny ?_
  rw [F.owner]
  repeat (first
    | with_reducible refine wpAny_madeHere_exc F.canon hC ?_
    | with_reducible refine wpAny_loadPart_at hC ?_
    | (with_reducible refine wpAny_isSubtype_exc hC ?_; first | rw [cB] | rw [cA] | rw [cN])
    | wp_step)
  show R _ _
  rw [Heap.size_push]
  exact hq

theorem typeCall (F : ExcBaseFacts B newId initId bmB) (hT : ∀ X : String, bm.contains (.type X) = bmB.contains (.type X))
    {rest : List Value} {kw : List (Str × Value)} {fI : Addr} {Q : Fin → Shared → Prop}
    (hC : h.get? C = some (excClassObj nm q C N bs bm hdct sn sub ab col dd k0 k1 k2 k3 k5 newId))
    (hi : W.Looks (model prog w) h (typeLookup (.ref C) "__init__") (some (.ref fI)))
    (hb : ∀ self, W.Looks (model prog w) h (bindSpecial (.ref fI) self) (.ref fI, [self])) (hz : rest.length ≤ sizeLine)
    (hq : codeAny (model prog w) A (.call (.ref fI) ⟨.ref (h.objs.size + 1) :: rest, kw⟩)
      (fun r s' => match r with
        | .ok (.ret v) => v = .none ∧ Q (.done (.ret (.ref (h.objs.size + 1)))) s'
        | .ok _ => False
        | .error e => E e s')
      ⟨(h.push (W.kdv_tup rest)).push (excO C h.objs.size), g, d, t, os⟩) :
    wpAny (model prog w) A (Builtin.«type.__call__» ⟨.ref C :: rest, kw⟩) Q E ⟨h, g, d, t, os⟩ := by
  repeat (first
    | with_reducible refine wpAny_loadPart_at hC ?_
    | with_reducible refine wpAny_madeBy_exc hC ?_
    | wp_step)
  refine codeAny_call_builtin_code (Code.quiet_builtin _ F.quiet) (chkNew F hT hC ?_)
  refine runNew F hT hC ?_ hz
  show wpAny _ _ _ _ _ _
  have k : ∀ b o, h.get? b = some o → ((h.push (W.kdv_tup rest)).push (excO C h.objs.size)).get? b = some o :=
    fun b o e => Heap.get?_push_of_some _ (Heap.get?_push_of_some _ e)
  have hC1 := k _ _ hC
  have got : ((h.push (W.kdv_tup rest)).push (excO C h.objs.size)).get? (h.objs.size + 1) = some (excO C h.objs.size) := by heap_get
  have cC : (Value.ref C :: bm).contains (.ref C) = true := by simp
  have i1 := hi.keeps k
  have b1 := (hb (.ref (h.objs.size + 1))).keeps k
  unfold isInstance
  repeat (first
    | with_reducible refine wpAny_loadPart_at got ?_
    | (with_reducible refine wpAny_isSubtype_exc hC1 ?_; rw [cC])
    | wp_step)
  show wpAny _ _ (typeLookup (.ref C) _) _ _ _
  refine i1.at ?_
  refine wpAny_holding (wpAny_bind (b1.at ?_))
  refine wpAny_bind (wpAny_call (codeAny_mono hq fun r s' z => ?_))
  rcases r with e | (v | _ | _ | _) <;> first | exact z | exact z.elim | skip
  obtain ⟨rfl, z⟩ := z
  first
    | exact wpAny_pure (wpAny_pure z)
    | (wp_walk; exact z)

theorem chkCall {M : Model} {rest : List Value} {kw : List (Str × Value)} {Q : Unit → Shared → Prop}
    (hC : h.get? C = some (excClassObj nm q C N bs bm hdct sn sub ab col dd k0 k1 k2 k3 k5 newId)) (hq : Q () ⟨h, g, d, t, os⟩) :
    wpAny M A (checkBuiltinCall "type.__call__" ⟨.ref C :: rest, kw⟩) Q E ⟨h, g, d, t, os⟩ := by
  have f3 := tc_sub
  have ty : (⟨h, g, d, t, os⟩ : Shared).TypeIs (.ref C) "type" := ⟨_, hC, rfl⟩
  have args : argsOk "type.__call__" ⟨.ref C :: rest, kw⟩ := PySem.W.tc_args _ _ _
  unfold argsOk at args
  simp only [checkBuiltinCall, tc_kind, tc_split]
  repeat (any_goals (first
    | assumption
    | with_reducible refine wpAny_loadPart_at hC ?_
    | with_reducible refine wpAny_onRaise ?_
    | with_reducible refine wpAny_map ?_
    | rw [args]
    | wp_step))

/-- C(.., k = v, ..): an exception is made, then its class's own __init__ is called upon it -/
theorem callOwn (F : ExcBaseFacts B newId initId bmB) (hT : ∀ X : String, bm.contains (.type X) = bmB.contains (.type X))
    {rest : List Value} {kw : List (Str × Value)} {fI : Addr}
    (hC : h.get? C = some (excClassObj nm q C N bs bm hdct sn sub ab col dd k0 k1 k2 k3 k5 newId))
    (hi : W.Looks (model prog w) h (typeLookup (.ref C) "__init__") (some (.ref fI)))
    (hb : ∀ self, W.Looks (model prog w) h (bindSpecial (.ref fI) self) (.ref fI, [self])) (hz : rest.length ≤ sizeLine)
    (hq : codeAny (model prog w) (A.under (.builtin "type.__call__" ⟨.ref C :: rest, kw⟩)) (.call (.ref fI) ⟨.ref (h.objs.size + 1) :: rest, kw⟩)
      (W.InitBack (h.objs.size + 1) R) ⟨(h.push (W.kdv_tup rest)).push (excO C h.objs.size), g, d, t, os⟩) :
    codeAny (model prog w) A (.call (.ref C) ⟨rest, kw⟩) R ⟨h, g, d, t, os⟩ := by
  have f1 := tc_lookup
  have f2 := tc_bind (.ref C)
  have ty : (⟨h, g, d, t, os⟩ : Shared).TypeIs (.ref C) "type" := ⟨_, hC, rfl⟩
  refine codeAny_of_tree ?_
  show wpAny _ _ (callAny (.ref C) _) _ _ _
  repeat (any_goals (first
    | assumption
    | with_reducible refine wpAny_loadPart_at hC ?_
    | wp_step))
  refine ⟨rfl, ?_⟩
  refine codeAny_call_builtin_at (Code.quiet_builtin _ (by decide +kernel)) entry_typeCall (chkCall hC (typeCall F hT hC hi hb hz ?_))
  refine codeAny_mono hq fun r s' z => ?_
  rcases r with e | (v | _ | _ | _) <;> exact z
end
end XV
set_option Elab.async false
set_option linter.all false
set_option maxRecDepth 100000
set_option maxHeartbeats 2000000
namespace XV
open PySem PySem.Spec PyProof.Rows L2

theorem upd_mid {H : Hp} {a d : Addr} {o p q : HO} : upd (upd (upd H a o) d p) a q = upd (upd H d p) a q := by
  funext b
  by_cases e : b = a
  · subst e
    rw [upd_same, upd_same]
  · rw [upd_ne e, upd_ne e]
    by_cases f : b = d
    · subst f
      rw [upd_same, upd_same]
    · rw [upd_ne f, upd_ne f, upd_ne e]

/-- what __init__ of an error with the one field fld does -/
def spI (C : Addr) (fld : Str) : Sp := fun vs H Q _ => ∃ (a : Addr) (v : V), vs = [.ref a, v] ∧ H a = some (exo a C none) ∧
  ∀ d, H d = none → d ≠ a → Q .non (upd (upd H d (exd d [(fld, v)])) a (exo a C (some d)))

/-- what is known of such a class and its __init__ -/
structure XCls (P : Program) (w : World) (K : PySem.W.Frag) (mg : Str → Option Value) (base : Heap) (nm fld : Str) (C fI : Addr) (fd : FuncData) : Prop where
  g : mg nm = some (.ref C)
  ox : OexC K C
  iC : PySem.W.findIn K (.ref C) "__init__" = some (some (.ref fI))
  tI : PySem.W.typeIn K (.ref fI) = some (.type "function")
  no : PySem.W.findIn K (.ref C) fld = some none
  ini : FnOk P w K mg base CX0 1 fI fd ["self", fld] (spI C fld)
  b1 : ∀ (s : Shared) (x u : Value), K.In s.heap → BindsTo s fd ⟨[x, u], []⟩ [("self", x), (fld, u)]
  b0 : ∀ (s : Shared) (x : Value), K.In s.heap → BindsTo s fd ⟨[x], []⟩ [("self", x), (fld, .none)]
  bk : ∀ (s : Shared) (x u : Value), K.In s.heap → BindsTo s fd ⟨[x], [(fld, u)]⟩ [("self", x), (fld, u)]

/-- C(v): a new exception at a, its dict at d -/
structure rMk (C : Addr) (fld : Str) (v : V) (H : Hp) (Q : VK) : Prop where
  go : ∀ a d, H a = none → H d = none → d ≠ a → Q (.ref a) (upd (upd H d (exd d [(fld, v)])) a (exo a C (some d)))

section
variable {X : Cx} {pins : List (Addr × Obj)} {σ : L2.St} {H : Hp} {s : Shared} {Q : VK} {nm fld : Str} {C fI : Addr} {fd : FuncData} {v : V} {u : Value}
theorem mk_run (T : XCls X.prog X.w X.K X.mg X.base nm fld C fI fd) (hr : Room 2 X.A) (I : Inv X pins σ H s) {us : List Value} {kw : List (Str × Value)} (hu : us.length ≤ 1)
    (hb : ∀ (s' : Shared) (x : Value), X.K.In s'.heap → BindsTo s' fd ⟨x :: us, kw⟩ [("self", x), (fld, u)]) (rv : RelV v u) (q : rMk C fld v H Q) :
    wpAny (model X.prog X.w) X.A (call (.ref C) us kw) (EP X pins σ Q) X.xe s := by
  obtain ⟨n0, q0, N, bs, bm, sn, sub, ab, col, dd, k0, k1, k2, k3, k5, hC, hbm⟩ := T.ox.cls
  obtain ⟨hp, g, dr, tk, os⟩ := s
  have le1 : hp.objs.size ≤ hp.objs.size + 1 := Nat.le_succ _
  have fr : H (hp.objs.size + 1) = none := I.hok.fresh le1
  have kk : ∀ b o, hp.get? b = some o → ((hp.push (PySem.W.kdv_tup us)).push (PySem.HandSPX.excO C hp.objs.size)).get? b = some o :=
    fun b o e => Heap.get?_push_of_some _ (Heap.get?_push_of_some _ e)
  have got : ((hp.push (PySem.W.kdv_tup us)).push (PySem.HandSPX.excO C hp.objs.size)).get? (hp.objs.size + 1) = some (PySem.HandSPX.excO C hp.objs.size) := by heap_get
  have I2 := I.laid (t' := tk) (a := hp.objs.size + 1) (o := exo (hp.objs.size + 1) C none) (h' := (hp.push (PySem.W.kdv_tup us)).push (PySem.HandSPX.excO C hp.objs.size)) kk le1 (exo_ok got)
  have hz : us.length ≤ sizeLine := by
    rw [sizeLine_eq]
    omega
  have sp : spI C fld [.ref (hp.objs.size + 1), v] (upd H (hp.objs.size + 1) (exo (hp.objs.size + 1) C none)) (fun z H2 => z = .non ∧ Q (.ref (hp.objs.size + 1)) H2) E0 := by
    refine ⟨_, v, rfl, upd_same, fun d nd ne => ⟨rfl, ?_⟩⟩
    rw [upd_mid]
    rw [upd_ne ne] at nd
    exact q.go _ d fr nd ne
  refine wpAny_call (callOwn PySem.F.excBase_ValueError (fun Y => PySem.HandSPX.refsVE_contains Y bm hbm) (I.kIn _ _ hC) (PySem.W.looks_findIn I.kIn T.iC)
    (fun self => PySem.W.bind_fn I.kIn self T.tI) hz
    (codeAny_mono (T.ini.run _ X.stack _ _ ⟨Value.ref (hp.objs.size + 1) :: us, kw⟩ [Value.ref (hp.objs.size + 1), u] [.ref (hp.objs.size + 1), v] _ E0
      (hr.make C us kw) (I2.env0.make C us kw) (hb _ _ I2.kIn) (.cons rfl (.cons rv .nil)) sp) fun r s' z => ?_))
  cases r with
  | error e => exact False.elim z
  | ok fl =>
    cases fl with
    | ret r0 =>
      obtain ⟨z0, H', J, rz, ez, qz⟩ := I2.after z
      subst ez
      exact ⟨rz, ⟨V.ref (hp.objs.size + 1), H', J, rfl, qz⟩⟩
    | next => exact False.elim z
    | brk => exact False.elim z
    | cont => exact False.elim z
end

/-- of a list with one value -/
def oneOf (q : V → Hp → Prop) : List V → Hp → Prop
  | [v], H => q v H
  | _, _ => False
theorem oneOf.elim {q : V → Hp → Prop} : ∀ {vs : List V} {H : Hp}, oneOf q vs H → ∃ v, vs = [v] ∧ q v H
  | [v], _, h => ⟨v, rfl, h⟩
  | [], _, h => h.elim
  | _ :: _ :: _, _, h => h.elim
section
variable {X : Cx} {nm fld : Str} {C fI : Addr} {fd : FuncData} {e : Expr} {te : TE} {p pos kpos : Pos}
/-- C(e) -/
theorem pe_mk1 (T : XCls X.prog X.w X.K X.mg X.base nm fld C fI fd) (hr : Room 2 X.A) (hg : Gl X nm) (he : PE X e te) (hdb : (nm == ("__debug__" : Str)) = false := by decide)
    (hs : starEach (e :: []) X.env = (false, eval e X.env) :: starEach [] X.env := by rfl) (hpl : (backTo pos (starEach [] X.env)).any (·.1) = false := by rfl) :
    PE X (.Call (.Name nm p) [e] [] pos) (fun σ H Q => te σ H fun v H1 => rMk C fld v H1 Q) := by
  refine ⟨fun pins s σ H Q I h => ?_⟩
  refine wpAny_Call_Name_kw (ld_glob I hg T.g ?_ hdb)
  have ha : PA X [e] (tCons te tNil) := pa_cons he pa_nil hs
  refine PySem.W.callWith_K (h₀ := X.base) I.ok.mod.kin T.ox.kC (thn (ha.run pos pins s σ H (oneOf fun v H1 => rMk C fld v H1 Q) I h) fun us s1 z => ?_) hs hpl
  obtain ⟨vs, H1, I1, r, q⟩ := z
  obtain ⟨v, ev, q⟩ := oneOf.elim q
  subst ev
  cases r with
  | cons rv rn =>
    cases rn
    exact ⟨I1.kIn, mk_run T hr I1 (by simp) (fun s' x X' => T.b1 s' x _ X') rv q⟩
/-- C() -/
theorem pe_mk0 (T : XCls X.prog X.w X.K X.mg X.base nm fld C fI fd) (hr : Room 2 X.A) (hg : Gl X nm) (hdb : (nm == ("__debug__" : Str)) = false := by decide) :
    PE X (.Call (.Name nm p) [] [] pos) (fun σ H Q => rMk C fld .non H Q) := by
  refine ⟨fun pins s σ H Q I h => ?_⟩
  refine wpAny_Call_Name_kw (ld_glob I hg T.g ?_ hdb)
  exact PySem.W.callWith_K0 I.kIn T.ox.kC (mk_run (us := []) T hr I (by simp) (fun s' x X' => T.b0 s' x X') (v := .non) rfl h)
/-- C(fld = e) -/
theorem pe_mkK (T : XCls X.prog X.w X.K X.mg X.base nm fld C fI fd) (hr : Room 2 X.A) (hg : Gl X nm) (he : PE X e te) (hdb : (nm == ("__debug__" : Str)) = false := by decide)
    (hall : (backToKw pos (keywordEach [⟨some fld, e, kpos⟩] X.env)).all (·.1.isSome) = true := by rfl) (hks : (backToKw pos (keywordEach [⟨some fld, e, kpos⟩] X.env)).filterMap (·.1) = [fld] := by rfl)
    (hpl : ((backTo pos (starEach [] X.env)).any (·.1) || (backToKw pos (keywordEach [⟨some fld, e, kpos⟩] X.env)).any (·.1.isNone)) = false := by rfl) :
    PE X (.Call (.Name nm p) [] [⟨some fld, e, kpos⟩] pos) (fun σ H Q => te σ H fun v H1 => rMk C fld v H1 Q) := by
  refine ⟨fun pins s σ H Q I h => ?_⟩
  refine wpAny_Call_Name_kw (ld_glob I hg T.g ?_ hdb)
  have hk : PK X [⟨some fld, e, kpos⟩] (tCons te tNil) := pk_cons he pk_nil
  refine PySem.W.callWith_KW0 (h₀ := X.base) I.ok.mod.kin T.ox.kC hall (thn (hk.run pos pins s σ H (oneOf fun v H1 => rMk C fld v H1 Q) I h) fun us s1 z => ?_) hpl
  obtain ⟨vs, H1, I1, r, q⟩ := z
  obtain ⟨v, ev, q⟩ := oneOf.elim q
  subst ev
  cases r with
  | cons rv rn =>
    cases rn
    refine ⟨I1.kIn, ?_⟩
    rw [hks]
    exact mk_run (us := []) T hr I1 (by simp) (fun s' x X' => T.bk s' x _ X') rv q
end
end XV
set_option Elab.async false
set_option linter.all false
set_option maxRecDepth 100000
set_option maxHeartbeats 4000000
namespace XV
open PySem PySem.Spec PyProof.Rows L2

/-! ### e.f -/
/-- x is an error of the class at C with the fields fs -/
def Err (H : Hp) (x : V) (C : Addr) (fs : List (Str × V)) : Prop := ∃ a d, x = .ref a ∧ H a = some (exo a C (some d)) ∧ H d = some (exd d fs)
/-- the facts that a read of the field n wants -/
structure XF (K : PySem.W.Frag) (C : Addr) (n : Str) : Prop where
  xf : XfC K C
  no : PySem.W.findIn K (.ref C) n = some none
section
variable {X : Cx}
theorem pe_xget {e : Expr} {te : TE} {pos : Pos} {n : Str} (he : PE X e te) (hb : attributeBase e n X.env (eval e X.env) = eval e X.env := by rfl) :
    PE X (.Attribute e n pos) (fun σ H Q => te σ H fun x H1 => ∃ C fs v, Err H1 x C fs ∧ XF X.K C n ∧ fs.lookup n = some v ∧ Q v H1) := by
  refine ⟨fun pins s σ H Q I h => ?_⟩
  refine attr_of hb (thn (he.run pins s σ H _ I h) fun u s1 hh => ?_)
  obtain ⟨x, H1, I1, rx, C, fs, v, ⟨a, d, ex, ea, ed⟩, T, l, q⟩ := hh
  subst ex
  obtain rfl : u = Value.ref a := rx
  obtain ⟨t1, ho⟩ := exo_at I1.hok ea
  obtain ⟨mA, hns, hrel⟩ := exd_at I1.hok ed
  obtain ⟨od, hod, hl⟩ := lookIn_ns hns
  obtain ⟨w1, hw, rw1⟩ := RelO.some_of (v := v) (o := mA n) (by rw [← l]; exact hrel n)
  have J : PySem.W.InstAt s1.heap a _ C (some od) := ⟨ho, rfl, rfl, hod⟩
  exact HandSPX.exc_get I1.kIn J T.xf.ga T.xf.gg T.xf.exC (PySem.W.findObj_own T.xf.hdC T.no rfl (by rw [hl, hw])) (handed_of rw1) ⟨v, H1, I1.tok _, rw1, q⟩
end
end XV

/-! ### isinstance of an error, with its dict or without -/
namespace XV
open PySem PySem.W PySem.Calls PyProof.Rows L2
theorem find_cls {K : Frag} {D : Addr} {od : Option Obj} (E : ExcC K D) : findObj K D od "__class__" = some (.bind (.builtin "getset_descriptor.__get__") (.builtin "object.__class__")) := by
  have hc : (clsIn K D).isSome = true := by
    obtain ⟨cd, hc, _⟩ := any_some E.hd
    rw [hc]
    rfl
  cases od with
  | none => exact findObj_dataN hc E.ha E.hn E.ht
  | some o => exact findObj_data hc E.ha E.hn E.ht
theorem getCls {prog : Program} {w : World} {A : Around} {E : Value → Shared → Prop} {s : Shared} {K : Frag} {x D : Addr} {ox : Obj} {od : Option Obj} {Q : Option Value → Shared → Prop}
    (C : ExcC K D) (X : K.In s.heap) (I : InstAt s.heap x ox D od) (q : Q (some (.ref D)) { s with toks := s.toks + 1 }) : wpAny (model prog w) A (getAttr? (.ref x) "__class__") Q E s := by
  have fnd := find_cls (od := od) C
  obtain ⟨hp, g, d, t, os⟩ := s
  have tyx := I.type (M := model prog w)
  have look1 := looks_findIn (M := model prog w) X C.hg
  have look2 := looks_findIn (M := model prog w) X C.hk
  have look3 := looks_find (M := model prog w) X I fnd
  have isB : Looks (model prog w) hp (isInstance (.ref x) (.type "BaseException")) true := tyx.andThen (looks_subIn X C.hs)
  have n0 : (false && onTheHeap (Value.builtin "BaseException.__getattribute__")) = false := rfl
  have n2 : (Value.builtin "BaseException.__getattribute__" == Value.builtin "object.__getattribute__") = false := by decide +kernel
  have n1 : (onTheHeap (Value.ref D) && Value.builtin "BaseException.__getattribute__" == Value.builtin "object.__getattribute__") = false := by
    rw [n2]
    rfl
  unfold getAttr? getAttrBy? getAttrBy
  refine wpAny_bind (wpAny_mkText (wpAny_bind (wpAny_attempt (wpAny_holding (wpAny_bind (tyx.at (wpAny_bind (look1.at ?_))))))))
  show wpAny _ _ (if (onTheHeap (Value.ref D) && Value.builtin "BaseException.__getattribute__" == Value.builtin "object.__getattribute__") = true then _ else _) _ _ _
  rw [n1, if_neg Bool.false_ne_true]
  unfold getAttrByItsOwn hookBefore
  refine wpAny_bind ?_
  rw [if_pos (show onTheHeap (Value.ref D) = true from rfl)]
  refine look2.at ?_
  refine wpAny_bind (wpAny_attempt (wpAny_holding ?_))
  unfold callGetattribute
  rw [n0, if_neg Bool.false_ne_true]
  unfold boundAndCalled
  rw [PySem.F.excAttr_ValueError.ga.bind (.ref x)]
  refine wpAny_bind (wpAny_pure ?_)
  show wpAny _ _ (call (.builtin "BaseException.__getattribute__") [.ref x, .str "__class__" t]) _ _ _
  refine wpAny_call (codeAny_call_builtin PySem.F.excAttr_ValueError.ga.plain PySem.F.entry_bexc_ga ?_)
  refine @check_slot (model prog w) _ _ ⟨hp, g, d, t + 1, os⟩ "BaseException.__getattribute__" "BaseException" "__getattribute__" (.ref x) [.str "__class__" t] [] _ (by decide +kernel) (by decide +kernel) isB (PySem.F.args_bexc_ga (.ref x) (.str "__class__" t)) ?_
  unfold Builtin.«object.__getattribute__»
  refine wpAny_bind (wpAny_of_eq (a := ((Value.ref x : Value), [Value.str "__class__" t])) (by first | rfl | (simp only [slotArgs]; rfl)) ?_)
  refine wpAny_bind (wpAny_pure (wpAny_bind (tyx.at (wpAny_bind (look3.at ?_)))))
  show wpAny _ _ (holding [Value.builtin "object.__class__"] (call (.builtin "getset_descriptor.__get__") [.builtin "object.__class__", .ref x, .ref D]) >>= ret) _ _ _
  refine wpAny_bind (wpAny_holding (wpAny_call (class_get (s := ⟨hp, g, d, t + 1, os⟩) (ox := ox) (od := od) X I C.hm ?_)))
  refine wpAny_pure ?_
  show wpAny _ _ (handedOut (.ref D)) _ _ _
  rw [handedOut_of (v := .ref D) rfl]
  first
    | exact wpAny_pure (wpAny_pure q)
    | exact wpAny_pure q
    | exact wpAny_pure (wpAny_bind (wpAny_pure (wpAny_pure q)))
theorem kitErr {K : Frag} {x D : Addr} {ox : Obj} {od : Option Obj} (C : ExcC K D) : KitX K (.ref x) (.ref D) (fun h => InstAt h x ox D od) where
  ty := fun _ _ _ I => I.type
  it := fun _ _ X _ => by
    obtain ⟨cdD, hcD, _⟩ := any_some C.hd
    unfold clsIn at hcD
    split at hcD
    · rename_i c' d' cd' sl' ho
      intro A' Q' E' s' k q
      unfold isType loadHead
      exact wpAny_bind (wpAny_loadPart (k _ _ (X _ _ ho)) (wpAny_pure q))
    · cases hcD
  ne := fun h tp dd its n sl X htp => by
    obtain ⟨cdD, hcD, _⟩ := any_some C.hd
    refine Bool.eq_false_iff.mpr fun q => ?_
    have e : D = tp := Value.ref.inj (beq_iff_eq.mp q)
    subst e
    unfold clsIn at hcD
    split at hcD
    · rename_i c' d' cd' sl' ho
      have z := (X _ _ ho).symm.trans htp
      cases z
    · cases hcD
  ca := fun X I k => getCls C X I k
end XV

namespace XV
open PySem PySem.Spec PyProof.Rows L2
/-- x is an error of the class at C, whatever else is known of it -/
def IsE (H : Hp) (x : V) (C : Addr) : Prop := ∃ a, x = .ref a ∧ (H a = some (exo a C none) ∨ ∃ d fs, H a = some (exo a C (some d)) ∧ H d = some (exd d fs))
theorem Err.isE {H : Hp} {x : V} {C : Addr} {fs : List (Str × V)} (h : Err H x C fs) : IsE H x C := by
  obtain ⟨a, d, e, e1, e2⟩ := h
  exact ⟨a, e, .inr ⟨d, fs, e1, e2⟩⟩
def rIsX (K : PySem.W.Frag) : List V → Hp → VK → Prop := fun xs H Q => ∃ (x c : V) (D : Addr) (cv : Value) (b : Bool), xs = [x, c] ∧ IsE H x D ∧ ExcC K D ∧ (∀ u, RelV c u → u = cv) ∧ PySem.W.kitOne K (.ref D) cv = some b ∧ Q (.bl b) H
theorem call_isX {X : Cx} : CallR X (.builtin "isinstance") (rIsX X.K) := by
  intro pins s σ H xs us Q I r h
  obtain ⟨x, c, D, cv, b, rfl, ⟨a, ex, hx⟩, C, hcv, e, q⟩ := h
  subst ex
  cases r with
  | cons rx rr =>
    cases rr with
    | cons rt rr =>
      cases rr
      cases rx
      have ec := hcv _ rt
      subst ec
      rcases hx with hx | ⟨d, fs, hx, hd⟩
      · obtain ⟨t1, ho⟩ := exo_at I.hok hx
        have J : PySem.W.InstAt s.heap a _ D none := ⟨ho, rfl, rfl, trivial⟩
        exact PySem.W.kia_one (kitErr C) I.kIn J e (fun z => nomatch z) fun tk => ⟨.bl b, H, I.kept (t' := tk) fun _ _ z => z, rfl, q⟩
      · obtain ⟨t1, ho⟩ := exo_at I.hok hx
        obtain ⟨mA, hns, _⟩ := exd_at I.hok hd
        obtain ⟨od, hod, _⟩ := lookIn_ns hns
        have J : PySem.W.InstAt s.heap a _ D (some od) := ⟨ho, rfl, rfl, hod⟩
        exact PySem.W.kia_one (kitErr C) I.kIn J e (fun z => nomatch z) fun tk => ⟨.bl b, H, I.kept (t' := tk) fun _ _ z => z, rfl, q⟩
end XV
set_option Elab.async false
set_option linter.all false
set_option maxRecDepth 100000
set_option maxHeartbeats 4000000
namespace XV
open PySem PySem.Spec PyProof.Rows L2

/-! ### an error class without an __init__ of its own: C() -/
theorem pe_mkE {X : Cx} {nm : Str} {C : Addr} {bmB : List Value} {B newId initId : String} {p pos : Pos} (F : ExcBaseFacts B newId initId bmB) (q : PySem.W.excIn X.K C bmB newId = true) (gC : X.mg nm = some (.ref C))
    (kC : PySem.W.keepIn X.K (.ref C) = true) (hg : Gl X nm) (hdb : (nm == ("__debug__" : Str)) = false := by decide) :
    PE X (.Call (.Name nm p) [] [] pos) (fun σ H Q => ∀ a, H a = none → Q (.ref a) (upd H a (exo a C none))) := by
  refine ⟨fun pins s σ H Q I h => ?_⟩
  refine wpAny_Call_Name_kw (ld_glob I hg gC ?_ hdb)
  refine PySem.W.callWith_K0 I.kIn kC ?_
  obtain ⟨bm, N, n0, qn, bs, hdct, sn, sub, ab, col, dd, k0, k1, k2, k3, k5, mN, hC, hN, hni, T⟩ := exc_obj I.kIn q
  obtain ⟨hp, g, d, t, os⟩ := s
  refine wpAny_call_exc_subT F T hC hN hni (fun h' e hm => ?_) (by show 0 ≤ sizeLine; exact Nat.zero_le _)
  obtain ⟨t1, he, _, _⟩ := hm.there
  have hn : H e = none := I.hok.gone hm.new
  exact ⟨.ref e, _, I.laidN (t' := t) (a := e) (o := exo e C none) hm.keeps hm.new hn (exo_ok he), rfl, h e hn⟩

/-! ### facts by Bools -/
def clsB (K : PySem.W.Frag) (C : Addr) : Bool := match K.lookup C with
  | some ⟨.type "type", _, .cls cd, sl⟩ => (match cd.mro, sl.toList with
    | .ref C' :: bm, [_, _, _, _, some (.builtin n), _] => (C' == C && n == "ValueError.__new__") && (cd.hasDict && (!cd.hasDel && PySem.HandSPX.refsVE bm))
    | _, _ => false)
  | _ => false
theorem clsB_ok {K : PySem.W.Frag} {C : Addr} (h : clsB K C = true) :
    ∃ nm q N bs bm sn sub ab col dd k0 k1 k2 k3 k5, K.lookup C = some (excClassObj nm q C N bs bm true sn sub ab col dd k0 k1 k2 k3 k5 "ValueError.__new__") ∧ PySem.HandSPX.refsVE bm = true := by
  unfold clsB at h
  split at h
  · rename_i dd cd sl ho
    split at h
    · rename_i C' bm k0 k1 k2 k3 n k5 hm hs
      obtain ⟨h1, h2⟩ := He.ba h
      obtain ⟨h3, h4⟩ := He.ba h1
      obtain ⟨h5, h6⟩ := He.ba h2
      obtain ⟨h7, h8⟩ := He.ba h6
      obtain ⟨n1, bs, mro, ns, qn, hd, sn, sub, ab, col, del⟩ := cd
      dsimp only at hm h5 h7
      have e1 : C' = C := eq_of_beq h3
      have e2 : n = "ValueError.__new__" := eq_of_beq h4
      have e3 : del = false := by
        cases del with
        | false => rfl
        | true => cases h7
      subst e1 e2 e3 hm h5
      have e4 : sl = #[k0, k1, k2, k3, some (.builtin "ValueError.__new__"), k5] := by
        obtain ⟨l⟩ := sl
        simp only at hs
        rw [hs]
      subst e4
      exact ⟨n1, qn, ns, bs, bm, sn, sub, ab, col, dd, k0, k1, k2, k3, k5, ho, h8⟩
    · cases h
  · cases h
def oexB (K : PySem.W.Frag) (C : Addr) : Bool := clsB K C && (He.eqO (PySem.W.findIn K (.ref C) "__setattr__") (some (some (.builtin "object.__setattr__"))) &&
  (decide (PySem.W.subIn K (.ref C) (.type "BaseException") = some true) && (decide (PySem.W.typeIn K (.ref C) = some (.type "type")) && PySem.W.keepIn K (.ref C))))
theorem oexB_ok {K : PySem.W.Frag} {C : Addr} (h : oexB K C = true) : OexC K C := by
  obtain ⟨h1, h⟩ := He.ba h
  obtain ⟨h2, h⟩ := He.ba h
  obtain ⟨h3, h⟩ := He.ba h
  obtain ⟨h4, h5⟩ := He.ba h
  exact ⟨clsB_ok h1, He.eqO_ok h2, of_decide_eq_true h3, of_decide_eq_true h4, h5⟩
def excB (K : PySem.W.Frag) (D : Addr) : Bool := xfB K D && (He.eqO (PySem.W.findIn K (.ref D) "__class__") (some (some (.builtin "object.__class__"))) &&
  (He.eqO (PySem.W.specialIn K (.builtin "object.__class__") "__get__") (some (some (.builtin "getset_descriptor.__get__"))) &&
  (decide (PySem.W.takesIn K (.builtin "object.__class__") = some true) && decide (PySem.W.mroIn K D (.type "object") = some true))))
theorem excB_ok {K : PySem.W.Frag} {D : Addr} (h : excB K D = true) : ExcC K D := by
  obtain ⟨h1, h⟩ := He.ba h
  obtain ⟨h2, h⟩ := He.ba h
  obtain ⟨h3, h⟩ := He.ba h
  obtain ⟨h4, h5⟩ := He.ba h
  have x := xfB_ok h1
  exact ⟨x.ga, x.gg, x.exC, x.hdC, He.eqO_ok h2, He.eqO_ok h3, of_decide_eq_true h4, of_decide_eq_true h5⟩
/-- an error class nm whose own __init__ sets the field fld -/
def xclsB (K : PySem.W.Frag) (nm fld : Str) : Bool := He.eqO (PySem.W.nsIn K mainGlobals nm) (some (some (.ref (He.ga K nm)))) && (oexB K (He.ga K nm) &&
  (He.eqO (PySem.W.findIn K (.ref (He.ga K nm)) "__init__") (some (some (.ref (He.fAd K (nm, some "__init__"))))) &&
  (decide (PySem.W.typeIn K (.ref (He.fAd K (nm, some "__init__"))) = some (.type "function")) && (He.eqO (PySem.W.findIn K (.ref (He.ga K nm)) fld) (some none) && excB K (He.ga K nm)))))
/-- one without -/
def ecls0B (K : PySem.W.Frag) (nm : Str) : Bool := He.eqO (PySem.W.nsIn K mainGlobals nm) (some (some (.ref (He.ga K nm)))) && (PySem.W.excIn K (He.ga K nm) He.veBase "ValueError.__new__" && (PySem.W.keepIn K (.ref (He.ga K nm)) && excB K (He.ga K nm)))

/-! ### __init__(self, fld=None): self.fld = fld -/
def initA (fld : Str) (p1 p2 p3 : Pos) : Arguments :=
  { posonlyargs := [], args := [{ arg := "self", annotation := none, pos := p1 }, { arg := fld, annotation := none, pos := p2 }], vararg := none, kwonlyargs := [], kw_defaults := [], kwarg := none, defaults := [.Constant .none 0 p3] }
def initB (fld : Str) (q1 q2 q3 q4 : Pos) : List Stmt := [.Assign [.Attribute (.Name "self" q1) fld q2] (.Name fld q3) q4]
def initS (fld : Str) : Scope := { kind := .function, names := [(PySem.Str.ofString "self", .local), (fld, .local)], isGenerator := false, isCoroutine := false, more := [] }

section
variable {P : Program} {w : World} {K : PySem.W.Frag} {mg : Str → Option Value} {base h : Heap} {nm qual fld : Str} {p1 p2 p3 q1 q2 q3 q4 : Pos} {C fI : Addr} {fd : FuncData}
theorem ok_initV (F : FunD K "__init__" qual (initA "value" p1 p2 p3) (initB "value" q1 q2 q3 q4) (initS "value") [.non] [] fI fd) (O : OexC K C) (no : PySem.W.findIn K (.ref C) "value" = some none) :
    FnOk P w K mg base CX0 1 fI fd ["self", "value"] (spI C "value") := by
  refine F.ok (N := ["self", "value"]) ⟨rfl, rfl, rfl, by decide +kernel, rfl, by decide +kernel, by decide +kernel⟩ (fun vs H Q E h => ?_) (fun cdv A outer s H vs Q E hr h => ?_)
  · obtain ⟨a, v, rfl, _⟩ := h
    rfl
  · obtain ⟨a, v, rfl, ha, q⟩ := h
    exact ⟨_, pss_one (ps_ost (pv 0) (pv 1)), ⟨_, rfl, _, rfl, a, C, rfl, O, no, .inl ⟨ha, fun d n ne => q d n ne⟩⟩⟩
theorem ok_initP (F : FunD K "__init__" qual (initA "place" p1 p2 p3) (initB "place" q1 q2 q3 q4) (initS "place") [.non] [] fI fd) (O : OexC K C) (no : PySem.W.findIn K (.ref C) "place" = some none) :
    FnOk P w K mg base CX0 1 fI fd ["self", "place"] (spI C "place") := by
  refine F.ok (N := ["self", "place"]) ⟨rfl, rfl, rfl, by decide +kernel, rfl, by decide +kernel, by decide +kernel⟩ (fun vs H Q E h => ?_) (fun cdv A outer s H vs Q E hr h => ?_)
  · obtain ⟨a, v, rfl, _⟩ := h
    rfl
  · obtain ⟨a, v, rfl, ha, q⟩ := h
    exact ⟨_, pss_one (ps_ost (pv 0) (pv 1)), ⟨_, rfl, _, rfl, a, C, rfl, O, no, .inl ⟨ha, fun d n ne => q d n ne⟩⟩⟩
theorem bind_ini {args : Args} {binds : List Value → List (Str × Value)} (F : FunD K "__init__" qual (initA fld p1 p2 p3) (initB fld q1 q2 q3 q4) (initS fld) [.non] [] fI fd)
    (hb : ∀ (T : Addr) (kV doc pm : Value) (an : Option Addr) (cdv ct : Value), ∃ k, bindArgs (PySem.W.fnOf "__init__" qual (initA fld p1 p2 p3) (initB fld q1 q2 q3 q4) (initS fld) (.ref T) kV doc pm an cdv ct) args = seqItems? (.ref T) >>= k ∧ k (some #[Value.none]) = pure (binds [.none]))
    (s : Shared) (X : K.In s.heap) : BindsTo s fd args (binds [.none]) := by
  obtain ⟨oc, od, dV, kV, doc, pm, an, cdv, ct, osl, rfl, lk, hcd, hD, hK⟩ := F.ex
  rcases hD with ⟨e, _⟩ | ⟨_, T, o, its, m, rfl, lT, oT, rT⟩
  · cases e
  · cases rT with
    | cons r0 r1 =>
      cases r1
      cases r0
      obtain ⟨k, e1, e2⟩ := hb T kV doc pm an cdv ct
      refine BindsTo.of_looks fun M => ?_
      rw [e1]
      exact looks_items X lT oT (.of_pure e2)
theorem xcls_V (X : K.In h) (G : h.Ns mainGlobals mg) (c : xclsB K nm "value" = true) (F : FunD K "__init__" qual (initA "value" p1 p2 p3) (initB "value" q1 q2 q3 q4) (initS "value") [.non] [] (He.fAd K (nm, some "__init__")) fd) :
    XCls P w K mg base nm "value" (He.ga K nm) (He.fAd K (nm, some "__init__")) fd := by
  obtain ⟨c1, c⟩ := He.ba c
  obtain ⟨c2, c⟩ := He.ba c
  obtain ⟨c3, c⟩ := He.ba c
  obtain ⟨c4, c⟩ := He.ba c
  obtain ⟨c5, c6⟩ := He.ba c
  have O := oexB_ok c2
  have no := He.eqO_ok c5
  exact ⟨PySem.W.mg_of X G (He.eqO_ok c1), O, He.eqO_ok c3, of_decide_eq_true c4, no, ok_initV F O no,
    fun s x u Y => bind_ini (binds := fun _ => [("self", x), ("value", u)]) F (fun _ _ _ _ _ _ _ => ⟨_, rfl, rfl⟩) s Y,
    fun s x Y => bind_ini (binds := fun _ => [("self", x), ("value", .none)]) F (fun _ _ _ _ _ _ _ => ⟨_, rfl, rfl⟩) s Y,
    fun s x u Y => bind_ini (binds := fun _ => [("self", x), ("value", u)]) F (fun _ _ _ _ _ _ _ => ⟨_, rfl, rfl⟩) s Y⟩
theorem xcls_P (X : K.In h) (G : h.Ns mainGlobals mg) (c : xclsB K nm "place" = true) (F : FunD K "__init__" qual (initA "place" p1 p2 p3) (initB "place" q1 q2 q3 q4) (initS "place") [.non] [] (He.fAd K (nm, some "__init__")) fd) :
    XCls P w K mg base nm "place" (He.ga K nm) (He.fAd K (nm, some "__init__")) fd := by
  obtain ⟨c1, c⟩ := He.ba c
  obtain ⟨c2, c⟩ := He.ba c
  obtain ⟨c3, c⟩ := He.ba c
  obtain ⟨c4, c⟩ := He.ba c
  obtain ⟨c5, c6⟩ := He.ba c
  have O := oexB_ok c2
  have no := He.eqO_ok c5
  exact ⟨PySem.W.mg_of X G (He.eqO_ok c1), O, He.eqO_ok c3, of_decide_eq_true c4, no, ok_initP F O no,
    fun s x u Y => bind_ini (binds := fun _ => [("self", x), ("place", u)]) F (fun _ _ _ _ _ _ _ => ⟨_, rfl, rfl⟩) s Y,
    fun s x Y => bind_ini (binds := fun _ => [("self", x), ("place", .none)]) F (fun _ _ _ _ _ _ _ => ⟨_, rfl, rfl⟩) s Y,
    fun s x u Y => bind_ini (binds := fun _ => [("self", x), ("place", u)]) F (fun _ _ _ _ _ _ _ => ⟨_, rfl, rfl⟩) s Y⟩
theorem xcls_E (c : xclsB K nm fld = true) : ExcC K (He.ga K nm) ∧ XF K (He.ga K nm) fld := by
  obtain ⟨c1, c⟩ := He.ba c
  obtain ⟨c2, c⟩ := He.ba c
  obtain ⟨c3, c⟩ := He.ba c
  obtain ⟨c4, c⟩ := He.ba c
  obtain ⟨c5, c6⟩ := He.ba c
  exact ⟨excB_ok c6, ⟨xfB_ok (He.ba c6).1, He.eqO_ok c5⟩⟩
end
/-! ### a Hook with one Bool more -/
def hookB (n : Nat) (fa : List He.Fa) (fn : List He.DefD) (bx : PySem.W.Frag → Bool) : PySem.W.Hook where
  α := He.AlD × Bool
  obs := fun s => (He.obsDG n fa fn s.heap.get?, bx (He.frG s.heap.get? (He.asD s.heap.get? n)))
  val := fun _ => (He.valD fn, true)
  says := fun _ h => ∃ K : PySem.W.Frag, K.In h ∧ He.SaysD fa fn K ∧ bx K = true
  of := fun _ _ e => ⟨_, He.frG_in, congrArg Prod.fst e, congrArg Prod.snd e⟩
  keeps := fun _ _ _ ⟨K, hK, c⟩ k => ⟨K, PySem.W.Frag.In.keeps hK k, c⟩
def obsB (n : Nat) (fa : List He.Fa) (fn : List He.DefD) (bx : PySem.W.Frag → Bool) (g : Addr → Option Obj) : He.AlD × Bool := (He.obsDG n fa fn g, bx (He.frG g (He.asD g n)))
theorem obsB_eq {n : Nat} {fa : List He.Fa} {fn : List He.DefD} {bx : PySem.W.Frag → Bool} {g : Addr → Option Obj} {s : Shared} (h : ∀ a, g a = s.heap.get? a) : obsB n fa fn bx g = (hookB n fa fn bx).obs s := by
  have e : g = s.heap.get? := funext h
  rw [e] <;> rfl
end XV
set_option Elab.async false
set_option linter.all false
set_option maxRecDepth 100000
set_option maxHeartbeats 4000000
/-! Words of our own for calls of the text's defs, and the drawing of numbers. -/
namespace XV
open PySem PySem.Spec PyProof.Rows L2

/-- the module's name x is a def that keeps sp -/
structure Ok (P : Program) (w : World) (K : PySem.W.Frag) (mg : Str → Option Value) (base : Heap) (x : Str) (k : Nat) (ps : List Str) (sp : Sp) : Prop where
  ex : ∃ f fd, FnOk P w K mg base CX0 k f fd ps sp ∧ mg x = some (.ref f) ∧ PySem.W.keepIn K (.ref f) = true ∧ Binds K fd ps []
section
variable {X : Cx} {k : Nat} {ps : List Str} {sp : Sp} {x : Str} {e : Expr} {es : List Expr} {t : TA} {p pos : Pos}
theorem pe_callO (o : Ok X.prog X.w X.K X.mg X.base x k ps sp) (hr : Room k X.A) (hg : Gl X x) (ha : PA X (e :: es) t) (hdb : (x == ("__debug__" : Str)) = false := by decide)
    (he : starEach (e :: es) X.env = (false, eval e X.env) :: starEach es X.env := by rfl) (hpl : (backTo pos (starEach es X.env)).any (·.1) = false := by rfl) :
    PE X (.Call (.Name x p) (e :: es) [] pos) (tCall sp [] E0 t) := by
  obtain ⟨f, fd, F, hm, hk, b⟩ := o.ex
  exact pe_call F hr hg hm hk b .nil pass0 ha hdb he hpl
theorem pe_callO0 (o : Ok X.prog X.w X.K X.mg X.base x k ps sp) (hr : Room k X.A) (hg : Gl X x) (hdb : (x == ("__debug__" : Str)) = false := by decide) :
    PE X (.Call (.Name x p) [] [] pos) (tCall sp [] E0 tNil) := by
  obtain ⟨f, fd, F, hm, hk, b⟩ := o.ex
  exact pe_call0 F hr hg hm hk b .nil pass0 hdb
end
theorem Ok.mk' {P : Program} {w : World} {K : PySem.W.Frag} {mg : Str → Option Value} {base : Heap} {x : Str} {k : Nat} {ps : List Str} {sp : Sp} {body : List Stmt} {params : Arguments} {scope : Scope} {f : Addr} {fd : FuncData}
    (F : FunD K x x params body scope [] [] f fd) (g : mg x = some (.ref f)) (b : ∀ (kV doc pm : Value) (an : Option Addr) (cdv ct : Value) (us : List Value), us.length = ps.length → bindArgs (PySem.W.fnOf x x params body scope .none kV doc pm an cdv ct) ⟨us, []⟩ = pure (ps.zip us))
    (ok : FnOk P w K mg base CX0 k f fd ps sp) : Ok P w K mg base x k ps sp := ⟨f, fd, ok, g, F.kp, F.bindsN b⟩

/-- i ** j, the answer of at most 2 ^ 27 bits -/
def CPowW (i j : Int) : Prop := 0 ≤ j ∧ (Builtin.Int.intBits i : Int) * j ≤ 2 ^ 27
theorem op_powW {X : Cx} : OpR X (binaryOp .Pow) (rI CPowW fun i j => .int (i ^ j.toNat)) := opI fun _ _ _ _ _ _ _ hc q => pow_int hc.1 hc.2 q

/-! ### the list of three numbers from which is drawn -/
/-- at g: a list [a, b, c], a below 10 ** 600, b below 2 ** 31, c at most n -/
def Dr (H : Hp) (g : Addr) (n : Nat) : Prop := ∃ a b c : Int, H g = some (.lst [.int a, .int b, .int c]) ∧ 0 ≤ a ∧ a < 10 ^ 600 ∧ 0 ≤ b ∧ b < 2147483647 ∧ 0 ≤ c ∧ c ≤ n
theorem Dr.mono {H : Hp} {g : Addr} {n m : Nat} (h : Dr H g n) (l : n ≤ m) : Dr H g m := by
  obtain ⟨a, b, c, e, h1, h2, h3, h4, h5, h6⟩ := h
  exact ⟨a, b, c, e, h1, h2, h3, h4, h5, by omega⟩
/-- all but g as it was -/
def But (H H' : Hp) (g : Addr) : Prop := ∀ b o, b ≠ g → H b = some o → H' b = some o
theorem But.refl (H : Hp) (g : Addr) : But H H g := fun _ _ _ e => e
theorem But.trans {H H1 H2 : Hp} {g : Addr} (a : But H H1 g) (b : But H1 H2 g) : But H H2 g := fun c o n e => b c o n (a c o n e)
theorem But.upd {H : Hp} {g : Addr} {o : HO} : But H (upd H g o) g := fun b u n e => by
  rw [upd_ne n]
  exact e
theorem Same.but {H H' : Hp} {g : Addr} (a : Same H H') : But H H' g := fun b o _ e => a b o e
theorem same_new {H : Hp} {p : Addr} {o : HO} (h : H p = none) : Same H (L2.upd H p o) := fun b x e => by
  rw [upd_ne (ne_of_none e h)]
  exact e
def spHash : Sp := fun vs H Q _ => ∃ s i : Int, vs = [.int s, .int i] ∧ 0 ≤ s ∧ s < 2147483647 ∧ 0 ≤ i ∧ i < 2 ^ 60 ∧ ∀ r : Int, 0 ≤ r → r < 2147483647 → Q (.int r) H
def spRand : Sp := fun vs H Q _ => ∃ (g : Addr) (n : Nat) (m : Int), vs = [.ref g, .int m] ∧ Dr H g n ∧ n ≤ 1000000 ∧ 0 < m ∧ m < 10 ^ 100 ∧
  ∀ (H' : Hp) (r : Int), 0 ≤ r → r < m → But H H' g → Dr H' g (n + 20) → Q (.int r) H'
end XV
set_option Elab.async false
set_option linter.all false
set_option maxRecDepth 100000
set_option maxHeartbeats 4000000
namespace KF
open PySem PySem.Spec PyProof.Rows L2 XV
def top (i : Nat) : Stmt := PySem.Challenge.pw_openloops_k23_whole_first_parting_words.main.body.getD i (.Pass ⟨0, 0, 0, 0⟩)
abbrev sHash : Stmt := top 31
abbrev sGen : Stmt := top 33
abbrev sRand : Stmt := top 32
abbrev FnP (K : PySem.W.Frag) (x : Str) (st : Stmt) (f : Addr) (fd : FuncData) : Prop := FunD K x x (defArgs st) (defBody st) (defScope st) [] [] f fd
theorem scHash : FnScope ["_law_seed", "_law_index", "_law_mixed"] ["_law_seed", "_law_index"] (defScope sHash) := ⟨rfl, rfl, rfl, by decide +kernel, rfl, by decide +kernel, by decide +kernel⟩
theorem scGen : FnScope ["_law_script", "_law_index", "_law_seed"] ["_law_script", "_law_index"] (defScope sGen) := ⟨rfl, rfl, rfl, by decide +kernel, rfl, by decide +kernel, by decide +kernel⟩
theorem scRand : FnScope ["_law_generator_here", "_law_bound", "_law_drawn", "_law_turn"] ["_law_generator_here", "_law_bound"] (defScope sRand) := ⟨rfl, rfl, rfl, by decide +kernel, rfl, by decide +kernel, by decide +kernel⟩
theorem mod_in (x : Int) {m : Int} (h : 0 < m) : 0 ≤ x % m ∧ x % m < m := ⟨Int.emod_nonneg x (by omega), Int.emod_lt_of_pos x h⟩
section
variable {P : Program} {w : World} {K : PySem.W.Frag} {mg : Str → Option Value} {base : Heap} {f : Addr} {fd : FuncData}
theorem ok_hash (F : FnP K "_law_hash" sHash f fd) (z_int : mg "int" = none) : FnOk P w K mg base CX0 1 f fd ["_law_seed", "_law_index"] spHash := by
  have nd := scHash.nd
  refine F.ok scHash (fun vs H Q E h => ?_) (fun cdv A outer s H vs Q E hr h => ?_)
  · obtain ⟨s, i, rfl, _⟩ := h
    rfl
  · obtain ⟨s, i, rfl, s0, s1, i0, i1, q⟩ := h
    refine ⟨_, PSs.nox (pss_cons (ps_set (i := 2) nd rfl (Or.inl rfl) (pe_op op_mod (pe_callTy call_int1 (by rfl) z_int (by decide +kernel) (pa_cons (pe_op op_add (pe_op op_add (pe_op op_add (pe_op op_mul (pv 0) pe_int) (pe_op op_mul (pe_op op_mul pe_int (pv 1)) (pv 1))) (pe_op op_mul pe_int (pv 1))) pe_int) pa_nil)) pe_int))
 (pss_cons (ps_set (i := 2) nd rfl (Or.inl rfl) (pe_op op_mod (pe_callTy call_int1 (by rfl) z_int (by decide +kernel) (pa_cons (pe_op op_add (pe_op op_add (pe_op op_mul (pv 2) (pv 2)) (pe_op op_mul pe_int (pv 1))) pe_int) pa_nil)) pe_int))
 (pss_one (ps_ret (pe_op op_mod (pe_callTy call_int1 (by rfl) z_int (by decide +kernel) (pa_cons (pe_op op_mul (pv 2) pe_int) pa_nil)) pe_int))))), ?_⟩
    have c1 : CMul s 1597334 := .inl ⟨by omega, by omega⟩
    have c2 : CMul 22695477 i := .inl ⟨by decide, by decide⟩
    have c3 : CMul (22695477 * i) i := .inr ⟨by omega, by omega⟩
    have c4 : CMul 977 i := .inl ⟨by decide, by decide⟩
    refine ⟨_, rfl, _, _, rfl, rfl, c1, _, rfl, _, _, rfl, rfl, c2, _, rfl, _, _, rfl, rfl, c3, _, _, rfl, rfl, _, rfl, _, _, rfl, rfl, c4, _, _, rfl, rfl, _, _, rfl, rfl, .inl ⟨_, rfl, _, _, rfl, rfl, (by show (0 : Int) < 2147483629; decide), ?_⟩⟩
    obtain ⟨m0, m1⟩ := mod_in (s * 1597334 + 22695477 * i * i + 977 * i + 41) (m := 2147483629) (by decide)
    have c5 : CMul ((s * 1597334 + 22695477 * i * i + 977 * i + 41) % 2147483629) ((s * 1597334 + 22695477 * i * i + 977 * i + 41) % 2147483629) := .inl ⟨by omega, by omega⟩
    refine ⟨_, rfl, _, rfl, _, _, rfl, rfl, c5, _, rfl, _, _, rfl, rfl, .inl ⟨by decide, by decide⟩, _, _, rfl, rfl, _, _, rfl, rfl, .inl ⟨_, rfl, _, _, rfl, rfl, (by show (0 : Int) < 2147483587; decide), ?_⟩⟩
    refine ⟨_, rfl, _, _, rfl, rfl, .inr ⟨by decide, by decide⟩, .inl ⟨_, rfl, _, _, rfl, rfl, (by show (0 : Int) < 2147483647; decide), ?_⟩⟩
    obtain ⟨n0, n1⟩ := mod_in ((((s * 1597334 + 22695477 * i * i + 977 * i + 41) % 2147483629 * ((s * 1597334 + 22695477 * i * i + 977 * i + 41) % 2147483629) + 40503 * i + 9973) % 2147483587) * 69621) (m := 2147483647) (by decide)
    exact q _ n0 n1

theorem bits_small {m : Int} (h0 : 0 < m) (h1 : m < 10 ^ 100) : Builtin.Int.intBits m ≤ 340 := by
  refine intBits_le (k := 340) ?_
  have e : (10 : Int) ^ 100 < 2 ^ 340 := by decide
  have e2 : m < 2 ^ 340 := Int.lt_trans h1 e
  have e3 : ((m.natAbs : Nat) : Int) = m := Int.natAbs_of_nonneg (by omega)
  have e4 : ((m.natAbs : Nat) : Int) < ((2 ^ 340 : Nat) : Int) := by
    rw [e3]
    exact e2
  exact Int.ofNat_lt.mp e4
theorem ok_rand (F : FnP K "_law_random" sRand f fd) (oHash : Ok P w K mg base "_law_hash" 1 ["_law_seed", "_law_index"] spHash) (z_int : mg "int" = none) (z_range : mg "range" = none) :
    FnOk P w K mg base CX0 2 f fd ["_law_generator_here", "_law_bound"] spRand := by
  have nd := scRand.nd
  refine F.ok scRand (fun vs H Q E h => ?_) (fun cdv A outer s H vs Q E hr h => ?_)
  · obtain ⟨g, n, m, rfl, _⟩ := h
    rfl
  · obtain ⟨g, n, m, rfl, ⟨a, b, c, hg, a0, a1, b0, b1, c0, c1⟩, hn, m0, m1, q⟩ := h
    refine ⟨_, PSs.nox (pss_cons (ps_if (pt_cmpR op_gt (pe_ix ix_list (pv 0) pe_int (fun _ _ => rfl)) pe_int (nomark _))
        (pss_cons (ps_set (i := 2) nd rfl (Or.inl rfl) (pe_op op_mod (pe_callTy call_int1 (by rfl) z_int (by decide +kernel) (pa_cons (pe_ix ix_list (pv 0) pe_int (fun _ _ => rfl)) pa_nil)) (pv 1)))
          (pss_cons (ps_asg (pe_op op_fdivW (pe_ix ix_list (pv 0) pe_int (fun _ _ => rfl)) (pv 1)) (pg_sub (pv 0) pe_int set_list))
            (pss_one (ps_ret (pv 2))))) pss_nil)
      (pss_cons (ps_set (i := 2) nd rfl (Or.inl rfl) pe_int)
      (pss_cons (ps_for PassesOwn.never rfl (pi_range1 (by rfl) z_range (pa_cons (pe_op op_add pe_int (pe_op op_fdiv (pe_bits (pv 1)) pe_int)) pa_nil)) (pg_name (i := 3) nd rfl (Or.inl rfl))
        (pss_cons (ps_asg (pe_op op_add (pe_ix ix_list (pv 0) pe_int (fun _ _ => rfl)) pe_int) (pg_sub (pv 0) pe_int set_list))
          (pss_one (ps_set (i := 2) nd rfl (Or.inl rfl) (pe_op op_add (pe_op op_mul (pv 2) pe_int)
            (pe_callO oHash (hr.mono (by decide)) (by rfl) (pa_cons (pe_ix ix_list (pv 0) pe_int (fun _ _ => rfl)) (pa_cons (pe_ix ix_list (pv 0) pe_int (fun _ _ => rfl)) pa_nil))))))))
      (pss_one (ps_ret (pe_op op_mod (pe_callTy call_int1 (by rfl) z_int (by decide +kernel) (pa_cons (pv 2) pa_nil)) (pv 1))))))), ?_⟩
    refine ⟨.ref g, rfl, g, _, 0, _, rfl, rfl, SqL.of hg, rfl, _, _, rfl, rfl, _, rfl, ite2 (fun e => ?_) (fun e => ?_)⟩
    · have ap : 0 < a := of_decide_eq_true e
      refine ⟨.ref g, rfl, g, _, 0, _, rfl, rfl, SqL.of hg, rfl, .inl ⟨_, rfl, _, rfl, _, _, rfl, rfl, m0, ?_⟩⟩
      have e1 : (10 : Int) ^ 100 < 2 ^ 340 := by decide
      have mb : m.natAbs < 2 ^ 340 := by
        have e3 : ((m.natAbs : Nat) : Int) = m := Int.natAbs_of_nonneg (by omega)
        have e4 : ((m.natAbs : Nat) : Int) < ((2 ^ 340 : Nat) : Int) := by
          rw [e3]
          exact Int.lt_trans m1 e1
        exact Int.ofNat_lt.mp e4
      refine ⟨.ref g, rfl, g, _, 0, _, rfl, rfl, SqL.of hg, rfl, _, rfl, _, _, rfl, rfl, wide_div m0 mb (by decide) (by decide), .ref g, rfl, g, _, 0, 0, rfl, rfl, hg, rfl, _, rfl, ?_⟩
      obtain ⟨r0, r1⟩ := mod_in a m0
      refine q _ _ r0 r1 But.upd ⟨a / m, b, c, upd_same, Int.ediv_nonneg a0 (by omega), ?_, b0, b1, c0, by omega⟩
      exact Int.lt_of_le_of_lt (Int.ediv_le_self m a0) a1
    · have hb := bits_small m0 m1
      refine ⟨_, rfl, m, rfl, _, _, rfl, rfl, ⟨by decide, by decide⟩, _, _, rfl, rfl, _, rfl, by omega, by omega, ?_⟩
      refine for_range (lo := 0) (n := (1 + ((Builtin.Int.intBits m : Nat) : Int) / 30).toNat)
        (fun i σ H' => ∃ (d : Int) (y : Option V), σ = [some (.ref g), some (.int m), some (.int d), y] ∧ But H H' g ∧ H' g = some (.lst [.int a, .int b, .int (c + i)]))
        ⟨0, none, rfl, But.refl H g, by rw [hg]; simp⟩ ?_ ?_
      · rintro i σ H' hi ⟨d, y, rfl, bt, eg⟩
        refine ⟨.ref g, rfl, g, _, 2, _, rfl, rfl, SqL.of eg, rfl, _, _, rfl, rfl, .ref g, rfl, g, _, 2, 2, rfl, rfl, eg, rfl, ?_⟩
        have e2 : (upd H' g (.lst ([V.int a, .int b, .int (c + i)].set 2 (.int (c + i + 1))))) g = some (.lst [.int a, .int b, .int (c + i + 1)]) := upd_same
        refine ⟨_, rfl, _, _, rfl, rfl, .inr ⟨by decide, by decide⟩, .ref g, rfl, g, _, 1, _, rfl, rfl, SqL.of e2, rfl, .ref g, rfl, g, _, 2, _, rfl, rfl, SqL.of e2, rfl, ?_⟩
        refine ⟨b, c + i + 1, rfl, b0, b1, by omega, ?_, fun r r0 r1 => ?_⟩
        · have : i < 13 := by omega
          omega
        · refine ⟨_, _, rfl, rfl, _, _, rfl, bt.trans But.upd, ?_⟩
          have ec : c + ((i : Nat) : Int) + 1 = c + ((i + 1 : Nat) : Int) := by omega
          rw [e2, ec]
      · rintro σ H' ⟨d, y, rfl, bt, eg⟩
        refine ⟨_, rfl, .inl ⟨_, rfl, _, rfl, _, _, rfl, rfl, m0, ?_⟩⟩
        obtain ⟨r0, r1⟩ := mod_in d m0
        refine q _ _ r0 r1 bt ⟨a, b, _, eg, a0, a1, b0, b1, by omega, ?_⟩
        have : (1 + ((Builtin.Int.intBits m : Nat) : Int) / 30).toNat ≤ 13 := by omega
        omega

theorem cut_first (ns : List Int) : cutV (ns.map V.int) none (some 1) = (ns.take 1).map V.int := by
  unfold cutV
  rw [HT.sIx_none, show HT.sIx (ns.map V.int).length (ns.map V.int).length (some 1) = min 1 (ns.map V.int).length from HT.sIx_nat _ _ 1]
  cases ns with
  | nil => rfl
  | cons x r =>
    rw [List.map_cons, List.length_cons, show min 1 ((r.map V.int).length + 1) = 1 by omega]
    rfl
def spGen (K : PySem.W.Frag) : Sp := fun vs H Q _ => ∃ (a : Addr) (ns : List Int) (k : Nat), vs = [.ref a, .int k] ∧ SqL K H a (ns.map V.int) ∧ k < 100 ∧
  ∀ (H' : Hp) (g : Addr), Same H H' → H g = none → Dr H' g (1000 * k) → Q (.ref g) H'
theorem ok_gen (F : FnP K "_law_generator" sGen f fd) (z_int : mg "int" = none) (z_len : mg "len" = none) (z_sum : mg "sum" = none) (z_max : mg "max" = none) :
    FnOk P w K mg base CX0 1 f fd ["_law_script", "_law_index"] (spGen K) := by
  have nd := scGen.nd
  refine F.ok scGen (fun vs H Q E h => ?_) (fun cdv A outer s H vs Q E hr h => ?_)
  · obtain ⟨a, ns, k, rfl, _⟩ := h
    rfl
  · obtain ⟨a, ns, k, rfl, hS, hk, q⟩ := h
    refine ⟨_, PSs.nox (pss_cons (ps_set (i := 2) nd rfl (Or.inl rfl) (pe_ifExp (pt_cmpR op_lt (pv 1) (pe_callB call_len (by rfl) z_len boot_len (pa_cons (pv 0) pa_nil)) (nomark _)) (pe_ix ix_list (pv 0) (pv 1) (fun _ _ => rfl)) (pe_op op_mod (pe_callB (cr_sum rfl) (by rfl) z_sum (by decide +kernel) (pa_cons (pe_slice sl_list (pv 0) po_none (po_some pe_int)) pa_nil)) pe_int)))
 (pss_one (ps_ret (pe_lst (pa_cons (pe_op op_mod (pe_callTy call_int1 (by rfl) z_int (by decide +kernel) (pa_cons (pe_callB (call_max2 rfl) (by rfl) z_max (by decide +kernel) (pa_cons (pe_op op_sub (pv 2) (pe_op op_pow pe_int pe_int)) (pa_cons pe_int pa_nil))) pa_nil)) (pe_op op_powW (pe_op op_pow pe_int pe_int) pe_int)) (pa_cons (pe_op op_mod (pe_callTy call_int1 (by rfl) z_int (by decide +kernel) (pa_cons (pv 2) pa_nil)) pe_int) (pa_cons (pe_op op_mul pe_int (pv 1)) pa_nil))))))), ?_⟩
    have last : ∀ (H' : Hp) (sd : Int), Same H H' → (∀ g, H' g = none → H g = none) → tRet (tLst (tCons (tOp (rI (fun _ j => 0 < j) fun i j => .int (i % j)) (tCB (fun xs H Q => (∃ i, xs = [.int i] ∧ Q (.int i) H) ∨ ∃ k, xs = [.bl k] ∧ Q (.int (if k then 1 else 0)) H) (tCons (tCB (fun xs H Q => ∃ i j, xs = [.int i, .int j] ∧ Q (.int (if j > i then j else i)) H) (tCons (tOp (rI0 fun i j => .int (i - j)) (tVar 2) (tOp (rI CPow fun i j => .int (i ^ j.toNat)) (tC (.int 10)) (tC (.int 18)))) (tCons (tC (.int 0)) tNil))) tNil)) (tOp (rI CPowW fun i j => .int (i ^ j.toNat)) (tOp (rI CPow fun i j => .int (i ^ j.toNat)) (tC (.int 10)) (tC (.int 60))) (tC (.int 10)))) (tCons (tOp (rI (fun _ j => 0 < j) fun i j => .int (i % j)) (tCB (fun xs H Q => (∃ i, xs = [.int i] ∧ Q (.int i) H) ∨ ∃ k, xs = [.bl k] ∧ Q (.int (if k then 1 else 0)) H) (tCons (tVar 2) tNil)) (tC (.int 2147483647))) (tCons (tOp (rI CMul fun i j => .int (i * j)) (tC (.int 1000)) (tVar 1)) tNil)))) { nx := fun _ H' => Q .non H', rt := Q } [some (.ref a), some (.int k), some (.int sd)] H' := by
      intro H' sd sm fr
      refine ⟨_, rfl, _, _, rfl, rfl, ⟨by decide, by decide, by decide⟩, _, _, rfl, rfl, _, _, rfl, .inl ⟨_, rfl, _, _, rfl, rfl, ⟨by decide, by decide, by decide⟩, _, _, rfl, rfl, ⟨by decide, by decide +kernel⟩, _, _, rfl, rfl, (by show (0 : Int) < ((10 : Int) ^ (60 : Int).toNat) ^ (10 : Int).toNat; decide +kernel), ?_⟩⟩
      refine ⟨_, rfl, .inl ⟨_, rfl, _, _, rfl, rfl, (by show (0 : Int) < 2147483647; decide), _, rfl, _, _, rfl, rfl, .inl ⟨by decide, by decide⟩, by show 3 ≤ sizeLine; decide, fun p np => ?_⟩⟩
      obtain ⟨m0, m1⟩ := mod_in sd (m := 2147483647) (by decide)
      have e600 : ((10 : Int) ^ (60 : Int).toNat) ^ (10 : Int).toNat = 10 ^ 600 := by decide +kernel
      have p600 : (0 : Int) < 10 ^ 600 := by decide +kernel
      refine q _ p (sm.trans (same_new np)) (fr p np) ⟨_, _, _, upd_same, ?_, ?_, m0, m1, by omega, by omega⟩
      · rw [e600]
        exact (mod_in _ p600).1
      · rw [e600]
        exact (mod_in _ p600).2
    refine ⟨_, rfl, .ref a, rfl, _, (ns.map V.int).length, rfl, Or.inl ⟨_, hS, rfl⟩, _, _, rfl, rfl, _, rfl, ite2 (fun e => ?_) (fun e => ?_)⟩
    · have lt : (k : Int) < ((ns.map V.int).length : Nat) := of_decide_eq_true e
      have lt2 : k < ns.length := by
        rw [List.length_map] at lt
        omega
      have g : (ns.map V.int)[k]? = some (.int ns[k]) := by
        rw [List.getElem?_map, List.getElem?_eq_getElem lt2]
        rfl
      exact ⟨.ref a, rfl, _, rfl, a, _, _, _, rfl, rfl, hS, atI_nat g, last H _ (Same.refl H) fun _ z => z⟩
    · refine ⟨.ref a, rfl, _, rfl, a, _, rfl, hS, fun p np => ?_⟩
      rw [cut_first]
      refine ⟨p, ns.take 1, rfl, SqL.of upd_same, _, _, rfl, rfl, (by show (0 : Int) < 1000003; decide), ?_⟩
      refine last _ _ (same_new np) fun g ng => ?_
      by_cases eg : g = p
      · rw [eg]
        exact np
      · rw [upd_ne eg] at ng
        exact ng
end
end KF
set_option Elab.async false
set_option linter.all false
set_option maxRecDepth 100000
set_option maxHeartbeats 4000000
namespace XV
open PySem PySem.Spec PyProof.Rows L2
/-- any(t), t a tuple of flat data -/
def rAnyT (K : PySem.W.Frag) : List V → Hp → VK → Prop := fun vs H Q => ∃ (a : Addr) (xs : List V) (ds : List PyData), vs = [V.ref a] ∧ SqT K H a xs ∧ DpAll K H xs ds ∧ PyData.plainAll ds = true ∧ (∀ d ∈ ds, d.fits63) ∧ Q (.bl (ds.any PyData.truthy)) H
theorem call_anyT {X : Cx} (hc : X.calm = true) : CallR X (.builtin "any") (rAnyT X.K) := by
  intro pins s σ H vs us Q I r h
  obtain ⟨a, xs, ds, rfl, hs, hd, hp, hf, q⟩ := h
  obtain ⟨its, rv, ht, _⟩ := I.tuple hs
  rw [Vals.ref1 r]
  obtain ⟨as, hr⟩ := Dp.readsAll I ds xs its hd rv
  refine PySem.W.any_tuple_data (as := as) (I.ok.hd hc) (vs := its.toArray) (l := a) ?_ (xs := ds) (by simpa using hr) hp hf fun h' tk k => ?_
  · exact ht
  · exact ⟨.bl _, H, I.kept (t' := tk) k, rfl, q⟩
/-- a text times a number -/
theorem op_mulS {X : Cx} : OpR X (binaryOp .Mult) (fun x y H Q => ∃ (z : Str) (i : Int), x = .str z ∧ y = .int i ∧ MulOk z i ∧ Q (.str (Txt.mul z i)) H) := by
  intro pins s σ H x y v u Q I rx ry h
  obtain ⟨z, i, rfl, rfl, hok, q⟩ := h
  obtain ⟨t, rfl⟩ := rx
  obtain ⟨t2, rfl⟩ := ry
  exact SB.mul hok fun t' k => ⟨.str _, H, I.tok k, ⟨t', rfl⟩, q⟩
theorem ip_addS {X : Cx} : PIp X .Add (fun x y H Q => ∃ i j : Str, x = .str i ∧ y = .str j ∧ i.length + j.length ≤ sizeLine ∧ Q (.str (i ++ j)) H) := by
  intro pins s σ H x y v u Q I rx ry h
  exact iop_add_str pins s σ H x y v u Q I rx ry h
end XV
set_option Elab.async false
set_option linter.all false
set_option maxRecDepth 100000
set_option maxHeartbeats 2000000
/-! zip of a tuple (first) and a list (second). -/
namespace XV
open PySem PySem.Spec PyProof.Rows L2
/-- the tuple at a and the list at b, as they are when a turn begins; each turn's two items come in a pair of their own -/
def ItzM (K : PySem.W.Frag) (a b : Addr) : It where
  go := fun i H => ∃ (xs ys : List V) (x y : V), SqT K H a xs ∧ SqL K H b ys ∧ xs[i]? = some x ∧ ys[i]? = some y
  yld := fun i H v H' => ∃ T x y, v = .ref T ∧ H T = none ∧ H' = upd H T (.tup [x, y]) ∧ (∀ xs, SqT K H a xs → xs[i]? = some x) ∧ ∀ ys, SqL K H b ys → ys[i]? = some y
  stop := fun i H => ∃ xs ys : List V, (SqT K H a xs ∧ SqL K H b ys) ∧ (xs.length = i ∨ ys.length = i) ∧ i ≤ xs.length ∧ i ≤ ys.length
/-- where such a zip's parts stand, ahead of turn i -/
def AtM (a b z tI tO j k : Addr) (i : Nat) (h : Heap) : Prop :=
  IsZip h z tI tO .none ∧ IsPair h tI (.ref j) (.ref k) ∧ (∃ p q, IsPair h tO p q) ∧ h.IsTupleIter j a i ∧ h.IsListIter k b i
theorem sep_of {z tI tO j k a b : Addr} (D : ZipApart z tI tO j k a b) : ZipSep2 z tI tO j k [j, a] [k, b] where
  TIz := D.TIz
  TOz := D.TOz
  TITO := D.TITO
  TIi1 := D.TIi1
  mem1 := List.mem_cons_self
  zf1 := by simp [D.i1z.symm, D.l1z.symm]
  Tf1 := by simp [D.TOi1, D.l1TO.symm]
  TIi2 := D.TIi2
  mem2 := List.mem_cons_self
  zf2 := by simp [D.i2z.symm, D.l2z.symm]
  Tf2 := by simp [D.TOi2, D.l2TO.symm]
  sep1_2 := by simp [D.i12, D.l2i1.symm]
  sep2_1 := by simp [D.i12.symm, D.l1i2.symm]
theorem turnM {P : Program} {w : World} {K : PySem.W.Frag} {es : List Expr} {kk : Nat} {tp : Pos} {a b z tI tO j k : Addr} (D : ZipApart z tI tO j k a b) :
    Turn P w K (.Tuple es kk tp) (ItzM K a b) [z, tI, tO, j, k] z (AtM a b z tI tO j k) where
  mem := List.mem_cons_self
  obj := fun i h ⟨s1, s2, ⟨p, q, s3⟩, ⟨o1, e1, _, d1⟩, ⟨o2, e2, _, d2⟩⟩ c hc => by
    simp only [List.mem_cons, List.not_mem_nil, or_false] at hc
    rcases hc with rfl | rfl | rfl | rfl | rfl
    · exact ⟨_, s1, fun _ x => nomatch x⟩
    · exact ⟨_, s2, fun _ x => nomatch x⟩
    · exact ⟨_, s3, fun _ x => nomatch x⟩
    · exact ⟨o1, e1, fun _ x => by rw [d1] at x; cases x⟩
    · exact ⟨o2, e2, fun _ x => by rw [d2] at x; cases x⟩
  keep := fun i h h' ⟨s1, s2, ⟨p, q, s3⟩, s4, s5⟩ kp =>
    ⟨kp z (by simp) _ s1, kp tI (by simp) _ s2, ⟨p, q, kp tO (by simp) _ s3⟩, s4.at (fun o e => kp j (by simp) o e), s5.at (fun o e => kp k (by simp) o e)⟩
  item := by
    intro X eP ew eK calm i pins s σ H E I fp st gg
    subst eP ew eK
    obtain ⟨s1, s2, ⟨p0, q0, s3⟩, s4, s5⟩ := st
    obtain ⟨xs, ys, x, y, tx, ly, ex, ey⟩ := gg
    obtain ⟨us, ru, pu, _⟩ := I.tuple tx
    obtain ⟨vs, rv, pw, _⟩ := I.list ly
    obtain ⟨u, eu, rux⟩ := ru.get ex
    obtain ⟨v, ev, rvy⟩ := rv.get ey
    have zlt : z < s.heap.objs.size := Heap.lt_size s1
    have hu : i < us.toArray.size := by
      have := (List.getElem?_eq_some_iff.mp eu).1
      simpa using this
    have hv : i < vs.toArray.size := by
      have := (List.getElem?_eq_some_iff.mp ev).1
      simpa using this
    have hh : X.A.in1.handled = none := I.ok.hd calm
    refine wpAny_pyNext_zipD2_item (sep_of D) (Draws.tuple hh j a D.l1i1 us.toArray) (Draws.list hh k b D.l2i2 vs.toArray) s1 s2 s3 ⟨s4, pu⟩ ⟨s5, pw.isList⟩ hu hv fun x1 x2 h' tk d1 d2 z1 t1 n1 n2 new sz kp => ?_
    have e1 : x1 = u := Option.some.inj (d1.symm.trans (by simpa using eu))
    have e2 : x2 = v := Option.some.inj (d2.symm.trans (by simpa using ev))
    subst e1 e2
    refine ⟨_, rfl, wpAny_letOwnedTupleGo_zip (s := { s with heap := h', toks := tk }) z1 fun g z2 sb => ?_⟩
    have far : ∀ c, c = z ∨ c = tI ∨ c = tO ∨ c = j ∨ c = k → c < s.heap.objs.size := fun c hc => by
      rcases hc with rfl | rfl | rfl | rfl | rfl
      · exact zlt
      · exact Heap.lt_size s2
      · exact Heap.lt_size s3
      · obtain ⟨_, q, _⟩ := s4
        exact Heap.lt_size q
      · obtain ⟨_, q, _⟩ := s5
        exact Heap.lt_size q
    have fresh : g.get? s.heap.objs.size = some { cls := .type "tuple", data := .seq #[x1, x2] } := (sb.2 _ (Nat.ne_of_gt zlt)).trans new
    have ok2 : ObjOk X.prog X.w (upd H s.heap.objs.size (.tup [x, y])) g s.heap.objs.size (.tup [x, y]) := ⟨(by show 2 ≤ sizeLine; decide), [x1, x2], .cons rux (.cons rvy .nil), ⟨_, fresh, rfl, _, rfl⟩⟩
    have J := I.turnedNew (t' := tk) (h' := g) (ch := [z, tI, tO, j, k]) (fun c o out q => (sb.2 c (fun e => out (by simp [e]))).trans (kp c o (fun e => out (by simp [e])) (fun e => out (by simp [e])) (fun e => out (by simp [e])) (fun e => out (by simp [e])) q)) fp (Nat.le_refl _) ok2
    refine ⟨.ref s.heap.objs.size, _, J, rfl, ⟨_, x, y, rfl, I.hok.fresh (Nat.le_refl _), rfl, fun l hl => (I.tuple_inj hl tx) ▸ ex, fun l hl => (I.list_inj hl ly) ▸ ey⟩, ⟨z2, (sb.2 _ D.TIz).trans (kp _ _ D.TIz D.TITO D.TIi1 D.TIi2 s2), ⟨x1, x2, (sb.2 _ D.TOz).trans t1⟩, n1.1.at (fun o q => (sb.2 _ D.i1z).trans q), n2.1.at (fun o q => (sb.2 _ D.i2z).trans q)⟩, fun c hc => ?_⟩
    simp only [List.mem_cons, List.not_mem_nil, or_false] at hc
    rw [upd_ne (Nat.ne_of_lt (far c hc))]
    exact (fp c (by simpa using hc)).1
  done := by
    intro X eP ew eK calm i pins s σ H E I fp st gg
    subst eP ew eK
    obtain ⟨s1, s2, ⟨p0, q0, s3⟩, s4, s5⟩ := st
    obtain ⟨xs, ys, ⟨tx, ly⟩, stop, l1, l2⟩ := gg
    obtain ⟨us, ru, pu, _⟩ := I.tuple tx
    obtain ⟨vs, rv, pw, _⟩ := I.list ly
    have n1 := ru.length
    have n2 := rv.length
    have hh : X.A.in1.handled = none := I.ok.hd calm
    refine wpAny_pyNext_zipD2_end (sep_of D) (Draws.tuple hh j a D.l1i1 us.toArray) (Draws.list hh k b D.l2i2 vs.toArray) s1 s2 s3 ⟨s4, pu⟩ ⟨s5, pw.isList⟩ (by simp; omega) (by simp; omega) (by simp; omega) fun h' tk kp => ⟨rfl, ?_⟩
    exact I.turnedL (t' := tk) (ch := [z, tI, tO, j, k]) (fun c o out q => kp c o (fun e => out (by simp [e])) (fun e => out (by simp [e])) (fun e => out (by simp [e])) (fun e => out (by simp [e])) q) fp
  self := fun A i s Q E st q => wpAny_pyIter_zip st.1 q
/-- .. in zip(e, e2) -/
def iZipM (K : PySem.W.Frag) (ta : TA) : TI := fun σ H R => ta σ H fun vs H1 => ∃ a b xs ys, vs = [.ref a, .ref b] ∧ (SqT K H1 a xs ∧ SqL K H1 b ys) ∧ R (ItzM K a b) H1
theorem pi_zipM {X : Cx} {e e2 : Expr} {ta : TA} {p pos tp : Pos} {es : List Expr} {kk : Nat} (gl : Gl X "zip") (z_zip : X.mg "zip" = none) (ha : PA X [e, e2] ta)
    (hs : starEach [e, e2] X.env = (false, eval e X.env) :: starEach [e2] X.env := by rfl) (np : (backTo pos (starEach [e2] X.env)).any (·.1) = false := by rfl) :
    PI X (.Tuple es kk tp) (.Call (.Name "zip" p) [e, e2] [] pos) (iZipM X.K ta) := by
  refine ⟨fun pins s σ H R I h => Call_ (ld_blt I gl z_zip PyProof.Rows.boot_zip (PyProof.Rows.callWith_type1 (thn (ha.run pos pins s σ H _ I h) fun us s1 ⟨vs, H1, J, rv, q⟩ => ?_) hs np))⟩
  obtain ⟨a, b, xs, ys, rfl, ⟨tx, ly⟩, q⟩ := q
  obtain ⟨u1, u2, rfl, r1, r2⟩ := vals2 rv
  cases r1
  cases r2
  obtain ⟨ps, _, pu, _⟩ := J.tuple tx
  obtain ⟨qs, _, pw, _⟩ := J.list ly
  have lt1 : a < s1.heap.objs.size := by
    obtain ⟨o, ho, _⟩ := id pu
    exact Heap.lt_size ho
  have lt2 : b < s1.heap.objs.size := pw.lt
  refine zip_begins2 (begins_tuple a ps.toArray) (begins_list b qs.toArray) pu pw.isList fun h' z1 t1 t2 g1 g2 sz kp => wpAny_pyIter_zip z1 ?_
  have J2 : Inv X pins σ H1 { s1 with heap := h' } := J.kept (t' := s1.toks) kp
  refine ⟨s1.heap.objs.size + 4, [s1.heap.objs.size + 4, s1.heap.objs.size + 2, s1.heap.objs.size + 3, s1.heap.objs.size, s1.heap.objs.size + 1], _, _, H1, rfl, J2, turnM (PySem.W.ktu_apart s1.heap.objs.size a b lt1 lt2), ⟨z1, t1, ⟨_, _, t2⟩, ⟨_, g1, rfl, rfl⟩, ⟨_, g2, rfl, rfl⟩⟩, fun c hc => ?_, q⟩
  have le : s1.heap.objs.size ≤ c := by
    simp only [List.mem_cons, List.not_mem_nil, or_false] at hc
    rcases hc with rfl | rfl | rfl | rfl | rfl
    · exact Nat.le_add_right _ 4
    · exact Nat.le_add_right _ 2
    · exact Nat.le_add_right _ 3
    · exact Nat.le_refl _
    · exact Nat.le_add_right _ 1
  exact J.fpOk le (J.hok.fresh le)
end XV
set_option Elab.async false
set_option linter.all false
set_option maxRecDepth 100000
set_option maxHeartbeats 2000000
namespace XV
open PySem PySem.Spec PyProof.Rows L2
/-- a comprehension over zip of a tuple and a list of one length -/
theorem lc_zipM {K : PySem.W.Frag} {a b : Addr} {xs ys : List V} {g : TG} {tt : TT} {te : TE} {vs : List Nat} {σ : L2.St} {H1 : Hp} {D : Addr} {Qd : Hp → Prop} (hl : xs.length = ys.length) (Pv : Nat → Hp → Prop) (h0 : Pv 0 (upd H1 D (.lst [])))
    (hq : ∀ i H, Pv i H → SqT K H a xs ∧ SqL K H b ys)
    (hs : ∀ (i : Nat) (x y : V) (T : Addr) (H : Hp), xs[i]? = some x → ys[i]? = some y → Pv i H → H T = none → g (.ref T) (wipe σ vs) (upd H T (.tup [x, y])) fun σ2 H2 => wipe σ2 vs = wipe σ vs ∧ tt σ2 H2 fun c H3 =>
      if c = true then te σ2 H3 fun r H4 => ∃ acc, H4 D = some (.lst acc) ∧ acc.length < sizeLine ∧ Pv (i + 1) (upd H4 D (.lst (acc ++ [r]))) else Pv (i + 1) H3)
    (hd : ∀ H, Pv xs.length H → Qd H) :
    ∃ W : Nat → Nat → Hp → Prop, (∃ m, W 0 m (upd H1 D (.lst []))) ∧ ∀ i m H, W i m H →
      ((ItzM K a b).stop i H ∧ Qd H) ∨ ((ItzM K a b).go i H ∧ ∃ Nx : Hp → Prop, (∀ H', Nx H' → ∃ m', m' < m ∧ W (i + 1) m' H') ∧ ∀ x H', (ItzM K a b).yld i H x H' → g x (wipe σ vs) H' fun σ2 H2 => wipe σ2 vs = wipe σ vs ∧ tt σ2 H2 fun c H3 =>
        if c = true then te σ2 H3 fun r H4 => ∃ acc, H4 D = some (.lst acc) ∧ acc.length < sizeLine ∧ Nx (upd H4 D (.lst (acc ++ [r]))) else Nx H3) := by
  refine ⟨fun i m H => m + i = xs.length ∧ Pv i H, ⟨xs.length, rfl, h0⟩, ?_⟩
  rintro i m H ⟨em, p⟩
  obtain ⟨q1, q2⟩ := hq i H p
  cases m with
  | zero =>
    have e : i = xs.length := by omega
    subst e
    exact .inl ⟨⟨xs, ys, ⟨q1, q2⟩, .inl rfl, Nat.le_refl _, by omega⟩, hd H p⟩
  | succ m =>
    have l1 : i < xs.length := by omega
    have l2 : i < ys.length := by omega
    have g1 := List.getElem?_eq_getElem l1
    have g2 := List.getElem?_eq_getElem l2
    refine .inr ⟨⟨xs, ys, _, _, q1, q2, g1, g2⟩, Pv (i + 1), fun H' p' => ⟨m, Nat.lt_succ_self m, by omega, p'⟩, ?_⟩
    rintro v H' ⟨T, x, y, rfl, nT, rfl, f1, f2⟩
    exact hs i x y T H (f1 xs q1) (f2 ys q2) p nT
/-- ix of a tuple, len of a text: where the part of the heap must be told -/
theorem ix_tupK {X : Cx} {K : PySem.W.Frag} (e : X.K = K) : IxR X (rIxT K) := by
  subst e
  exact ix_tup
theorem ix_listK {X : Cx} {K : PySem.W.Frag} (e : X.K = K) : IxR X (rIxL K) := by
  subst e
  exact ix_list
theorem cr_sumK {X : Cx} {K : PySem.W.Frag} (e : X.K = K) (hc : X.calm = true) : CallR X (.builtin "sum") (rSum K) := by
  subst e
  exact cr_sum hc
theorem pi_listK {X : Cx} {K : PySem.W.Frag} {tg l : Expr} {tl : TE} (e : X.K = K) (hl : PE X l tl) : PI X tg l (iList K tl) := by
  subst e
  exact pi_list hl
end XV
set_option Elab.async false
set_option linter.all false
set_option maxRecDepth 100000
set_option maxHeartbeats 4000000
/-! Defs that are called where no repr is under way: what is around them has no guards. -/
namespace XV
open PySem PySem.Spec PyProof.Rows L2
structure FnG (P : Program) (w : World) (K : PySem.W.Frag) (mg : Str → Option Value) (base : Heap) (Z : CXT) (k : Nat) (f : Addr) (fd : FuncData) (ps : List Str) (sp : Sp) : Prop where
  gl : ∀ l H Q E, sp l H Q E → l.length = ps.length
  go : ∀ (A : Around) (o : List Env) (s : Shared) (H : Hp) (ar : Args) (us : List Value) (l : List V) (Q : VK) (E : XK), A.guards = some [] → Room k A → Env0 P w K mg base A o s H → BindsTo s fd ar (ps.zip us) → Vals l us → sp l H Q E →
    codeAny (model P w) A (.call (.ref f) ar) (CR Z o P w H s Q E) s
theorem FnG.of {P : Program} {w : World} {K : PySem.W.Frag} {mg : Str → Option Value} {base : Heap} {Z : CXT} {k : Nat} {f : Addr} {fd : FuncData} {ps : List Str} {sp : Sp} (F : FnOk P w K mg base Z k f fd ps sp) : FnG P w K mg base Z k f fd ps sp :=
  ⟨F.len, fun A o s H ar us l Q E _ => F.run A o s H ar us l Q E⟩
section
variable {P : Program} {w : World} {K : PySem.W.Frag} {mg : Str → Option Value} {base : Heap} {x qual : Str} {params : Arguments} {body : List Stmt} {scope : Scope} {dvs : List V} {kws : List (Str × V)} {f : Addr} {fd : FuncData}
/-- a def by its body, where nothing guards -/
theorem okG {Z : CXT} {N ps : List Str} {k : Nat} {sp : Sp} (F : FunD K x qual params body scope dvs kws f fd) (S : FnScope N ps scope) (gl : ∀ l H Q E, sp l H Q E → l.length = ps.length)
    (bd : ∀ (cdv : Value) (A : Around) (o : List Env) (s : Shared) (H : Hp) (l : List V) (Q : VK) (E : XK), (A.deeper (envOfC qual scope s.heap.objs.size f cdv)).guards = some [] → Room k (A.deeper (envOfC qual scope s.heap.objs.size f cdv)) → sp l H Q E →
      ∃ t, PSs (cxOf Z P w K mg base N qual scope f cdv A o s H E) body t ∧ t { nx := fun _ H' => Q .non H', rt := Q } (start N l) H) : FnG P w K mg base Z (k + 1) f fd ps sp := by
  obtain ⟨oc, od, dV, kV, doc, pm, an, cdv, ct, osl, rfl, lk, hcd, _, _⟩ := F.ex
  refine ⟨gl, fun A o s H ar us l Q E ag hr e0 hb r hs => ?_⟩
  have hlen := gl _ _ _ _ hs
  have inK : K.In s.heap := e0.mod.kin.keeps fun b ob e => (e0.bs b ob e).1
  have nol : s.heap.NoLimit := e0.mod.nolimit.keeps fun b ob e => (e0.bs b ob e).1
  have kinds : ∀ y ∈ ps.zip us, scope.names.lookup y.1 = some .local ∨ (scope.names.lookup y.1 = some .cell ∧ ((cellsFrom (s.heap.objs.size + 1) scope.names []).lookup y.1).isSome = true) := by
    rintro ⟨n, v⟩ hy
    exact (S.par n (List.of_mem_zip hy).1).imp id fun q => ⟨q, PySem.W.cellsFrom_some _ _ _ (.inl q)⟩
  refine codeAny_call_function hr.depth (inK _ _ lk) rfl S.co S.gen rfl (PySem.W.codeRec_of inK hcd) (hb _ _ _ _ ?_)
  refine wpAny_newFunctionEnv_cells S.kind kinds fun env he s1 xx => ?_
  subst he
  refine ⟨nol.keeps xx.toInCall.keep, codeAny_func ?_⟩
  obtain ⟨t, ht, hq⟩ := bd cdv A o s H l Q E (show A.guards = some [] from ag) (hr.deeper _) hs
  have J0 := inv_start (CX := Z) (E := E) S hr.hd e0 hlen r xx
  refine wpAny_mono (ht.run [] s1 (start N l) H _ J0 hq) (fun fl s' z => ?_) fun e s' z => z
  have done : ∀ {τ : L2.St} {H' : Hp} {v : V} {u : Value}, Inv (cxOf Z P w K mg base N qual scope f cdv A o s H E) [] τ H' s' → RelV v u → Q v H' → CE o P w H s Q u s' := fun J rv q => ⟨_, _, J.os, J.bare, J.base, J.hok, rv, q⟩
  cases fl with
  | next =>
    obtain ⟨τ, H', J, q⟩ := z
    exact done (v := V.non) (u := Value.none) J rfl q
  | ret u =>
    obtain ⟨v, τ, H', J, rv, q⟩ := z
    exact done J rv q
  | brk =>
    obtain ⟨_, _, _, q⟩ := z
    exact q.elim
  | cont =>
    obtain ⟨_, _, _, q⟩ := z
    exact q.elim
end
/-- the module's name x is a def that keeps sp where nothing guards -/
structure OkG (P : Program) (w : World) (K : PySem.W.Frag) (mg : Str → Option Value) (base : Heap) (x : Str) (k : Nat) (ps : List Str) (sp : Sp) : Prop where
  ex : ∃ f fd, FnG P w K mg base CX0 k f fd ps sp ∧ mg x = some (.ref f) ∧ PySem.W.keepIn K (.ref f) = true ∧ Binds K fd ps []
section
variable {X : Cx} {k : Nat} {f : Addr} {fd : FuncData} {ps : List Str} {sp : Sp} {x : Str} {e : Expr} {es : List Expr} {t : TA} {p pos : Pos}
theorem run_g {pins : List (Addr × Obj)} {σ : L2.St} {H : Hp} {s : Shared} {Q : VK} {us : List Value} {l : List V} (F : FnG X.prog X.w X.K X.mg X.base CX0 k f fd ps sp) (ag : X.A.guards = some []) (hr : Room k X.A) (hb : Binds X.K fd ps [])
    (I : Inv X pins σ H s) (r : Vals l us) (h : sp l H Q E0) : wpAny (model X.prog X.w) X.A (call (.ref f) us) (EP X pins σ Q) X.xe s := by
  have hl : us.length = ps.length := r.length ▸ F.gl _ _ _ _ h
  have b := hb s us I.kIn (by rw [List.append_nil]; exact hl)
  rw [List.append_nil] at b
  refine wpAny_call (codeAny_mono (F.go X.A X.stack s H ⟨us, []⟩ us l Q E0 ag hr I.env0 b r h) fun r' s' hq => ?_)
  cases r' with
  | error er => exact hq.elim
  | ok fl => cases fl with
    | ret u => exact I.after hq
    | next => exact hq.elim
    | brk => exact hq.elim
    | cont => exact hq.elim
theorem pe_callG (o : OkG X.prog X.w X.K X.mg X.base x k ps sp) (ag : X.A.guards = some []) (hr : Room k X.A) (hg : Gl X x) (ha : PA X (e :: es) t) (hdb : (x == ("__debug__" : Str)) = false := by decide)
    (he : starEach (e :: es) X.env = (false, eval e X.env) :: starEach es X.env := by rfl) (hpl : (backTo pos (starEach es X.env)).any (·.1) = false := by rfl) :
    PE X (.Call (.Name x p) (e :: es) [] pos) (fun σ H Q => t σ H fun l H1 => sp l H1 Q E0) := by
  obtain ⟨f, fd, F, hm, hk, b⟩ := o.ex
  refine ⟨fun pins s σ H Q I h => ?_⟩
  refine wpAny_Call_Name_kw (ld_glob I hg hm ?_ hdb)
  refine PySem.W.callWith_K (h₀ := X.base) I.ok.mod.kin hk (thn (ha.run pos pins s σ H _ I h) fun us s1 z => ?_) he hpl
  obtain ⟨l, H1, I1, r, q⟩ := z
  exact ⟨I1.kIn, run_g F ag hr b I1 r q⟩
theorem pe_callG0 (o : OkG X.prog X.w X.K X.mg X.base x k ps sp) (ag : X.A.guards = some []) (hr : Room k X.A) (hg : Gl X x) (hdb : (x == ("__debug__" : Str)) = false := by decide) :
    PE X (.Call (.Name x p) [] [] pos) (fun σ H Q => sp [] H Q E0) := by
  obtain ⟨f, fd, F, hm, hk, b⟩ := o.ex
  refine ⟨fun pins s σ H Q I h => ?_⟩
  refine wpAny_Call_Name_kw (ld_glob I hg hm ?_ hdb)
  exact PySem.W.callWith_K0 I.kIn hk (run_g (us := []) F ag hr b I .nil h)
end
theorem OkG.mk' {P : Program} {w : World} {K : PySem.W.Frag} {mg : Str → Option Value} {base : Heap} {x : Str} {k : Nat} {ps : List Str} {sp : Sp} {body : List Stmt} {params : Arguments} {scope : Scope} {f : Addr} {fd : FuncData}
    (F : FunD K x x params body scope [] [] f fd) (g : mg x = some (.ref f)) (b : ∀ (kV doc pm : Value) (an : Option Addr) (cdv ct : Value) (us : List Value), us.length = ps.length → bindArgs (PySem.W.fnOf x x params body scope .none kV doc pm an cdv ct) ⟨us, []⟩ = pure (ps.zip us))
    (ok : FnG P w K mg base CX0 k f fd ps sp) : OkG P w K mg base x k ps sp := ⟨f, fd, ok, g, F.kp, F.bindsN b⟩
end XV
set_option Elab.async false
set_option linter.all false
set_option maxRecDepth 100000
set_option maxHeartbeats 4000000
/-! The end of a law whose def is told of where nothing guards. -/
namespace XV
open PySem PySem.Spec PyProof.Rows L2
theorem law_g {P : Program} {w : World} {K : PySem.W.Frag} {mg mb : Str → Option Value} {k : Nat} {fa a : Addr} {fd : FuncData} {x : Str} {sp : Sp} {s : Shared} {us : List Value} {ns : List Int}
    (KX : K.In s.heap) (gn : s.heap.Ns mainGlobals mg) (bn : s.heap.Ns builtinsNs mb) (bb : ∀ y : Str, y ≠ "__name__" → mb y = bootBuiltins y) (nl : s.heap.NoLimit) (g0 : s.gens = #[])
    (ha : s.heap.get? a = some { cls := .type "list", data := .seq us.toArray }) (hi : IntsAre us ns) (hl : ns.length ≤ sizeLine) (hr : Room k callerA)
    (F : ∀ base : Heap, K.In base → base.Ns mainGlobals mg → FnG P w K mg base CX0 k fa fd [x] sp) (hb : ∀ (s' : Shared) (u : Value), BindsTo s' fd ⟨[u], []⟩ [(x, u)])
    (hsp : ∀ H : Hp, Only H → SqL K H a (ns.map V.int) → sp [.ref a] H (fun v _ => v = .bl true) fun _ _ _ => False) :
    codeAny (model P w) callerA (.call (.ref fa) ⟨[.ref a], []⟩) (fun r s' => r = .ok (.ret (.bool true)) ∧ OldK s.heap s'.heap ∧ s'.os = s.os ∧ AllBare s'.gens) s := by
  have rv := vals_ints hi
  have len := hi.length
  -- H tells of the script alone, or of nothing
  have main : ∀ H : Hp, Only H → SqL K H a (ns.map V.int) → HOk P w H s.heap → (∀ b, H b ≠ none → b = a) → (H a ≠ none → K.lookup a = none) →
      codeAny (model P w) callerA (.call (.ref fa) ⟨[.ref a], []⟩) (fun r s' => r = .ok (.ret (.bool true)) ∧ OldK s.heap s'.heap ∧ s'.os = s.os ∧ AllBare s'.gens) s := by
    intro H only told ok alone notK
    have part : ∀ {b : Addr} {o : Obj}, s.heap.get? b = some o → H b = none → (hidT s.heap H).get? b = some o := fun e n => hidT_get e n
    have dictN : ∀ {b : Addr} {o : Obj} {es : Array DictEntry} {ep : Nat}, s.heap.get? b = some o → o.data = .dict es ep → H b = none := by
      intro b o es ep e d
      by_cases q : H b = none
      · exact q
      · obtain rfl := alone b q
        rw [ha] at e
        cases e
        exact nomatch (show Data.seq us.toArray _ = Data.dict es ep from d)
    have nsP : ∀ {b : Addr} {m : Str → Option Value}, s.heap.Ns b m → (hidT s.heap H).Ns b m := by
      rintro b m ⟨o, es, ep, e, d, r⟩
      exact ⟨o, es, ep, part e (dictN e d), d, r⟩
    have KP : K.In (hidT s.heap H) := fun b o e => part (KX b o e) (by
      by_cases q : H b = none
      · exact q
      · obtain rfl := alone b q
        rw [notK q] at e
        cases e)
    have md : Mod K mg (hidT s.heap H) := ⟨KP, nsP gn, ⟨mb, nsP bn, bb⟩, nl.imp fun _ z => ⟨nsP z.1, z.2⟩⟩
    have st : Env0 P w K mg (hidT s.heap H) callerA [] s H := { frames := rfl, mod := md, bs := fun b o e => of_hidT e, bsz := Nat.le_of_eq (hidT_size _ _), funs := trivial, frf := fun b z => absurd (show b ∈ ([] : List Addr) from z) (by simp), hok := ok, bare := .of_eq g0 }
    refine codeAny_mono ((F _ KP (nsP gn)).go callerA [] s H ⟨[.ref a], []⟩ [.ref a] [.ref a] _ _ rfl hr st (hb s (.ref a)) (.cons rfl .nil) (hsp H only told)) fun r s' h => ?_
    cases r with
    | error er => exact h.elim
    | ok fl => cases fl with
      | next => exact h.elim
      | brk => exact h.elim
      | cont => exact h.elim
      | ret u =>
        obtain ⟨v, H', os, bare, un, ok', r', q⟩ := h
        obtain rfl : v = .bl true := q
        obtain rfl : u = Value.bool true := r'
        refine ⟨rfl, OldK.of_keep fun b o e => ?_, os, bare⟩
        by_cases q : H b = none
        · exact un.keep b o e q (fun z => nomatch (show b ∈ ([] : List Addr) from z)) (by simp)
        · rcases only b with z | ⟨ob, xs, z⟩
          · exact absurd z q
          · obtain ⟨e1, _⟩ := ok b _ z
            obtain ⟨e2, _⟩ := ok' b _ (un.frzs b ob _ z)
            rw [e] at e1
            cases e1
            exact e2
  cases hk : K.lookup a with
  | some o =>
    obtain rfl := Option.some.inj (ha.symm.trans (KX a o hk))
    exact main (fun _ => none) (fun _ => .inl rfl) (.inr ⟨_, us.toArray, _, hk, rfl, rfl, rfl, by rw [List.size_toArray, len]; exact hl, by simpa using rv⟩) (fun b u z => nomatch (show (none : Option HO) = some u from z)) (fun b z => absurd rfl z) fun z => absurd rfl z
  | none =>
    let o1 : Obj := { cls := .type "list", data := .seq us.toArray }
    have at_ : ∀ b : Addr, b = a → (fun b : Addr => if b = a then some (HO.frz o1 (.lst (ns.map V.int))) else none) b = some (.frz o1 (.lst (ns.map V.int))) := fun b e => if_pos e
    have off : ∀ b : Addr, b ≠ a → (fun b : Addr => if b = a then some (HO.frz o1 (.lst (ns.map V.int))) else none) b = none := fun b e => if_neg e
    refine main (fun b => if b = a then some (.frz o1 (.lst (ns.map V.int))) else none) (fun b => ?_) (.inl (.inr ⟨o1, if_pos rfl⟩)) (fun b u z => ?_) (fun b z => ?_) fun _ => hk
    · by_cases e : b = a
      · exact .inr ⟨_, _, at_ b e⟩
      · exact .inl (off b e)
    · by_cases e : b = a
      · cases (at_ b e).symm.trans z
        subst e
        exact ⟨ha, by rw [List.length_map]; exact hl, us, _, rv, ha⟩
      · cases (off b e).symm.trans z
    · by_cases e : b = a
      · exact e
      · exact absurd (off b e) z
theorem walk_ofG {l : PySem.W.OpenLaw} {n k : Nat} {q : Program} {loose : List Str} {XP : (Str → Option Value) → Heap → Prop} {YP : World → Heap → Prop} {d : DefRec} {x : Str}
    (hn : l.most = some n) (hz : n ≤ sizeLine) (hd : d.params.defaults = []) (hr : Room k callerA)
    (F : ∀ (w : World) (mg : Str → Option Value) (fa : Addr) (h : Heap), YP w h → h.Ns mainGlobals mg → mg d.name = some (.ref fa) →
      ∃ (K : PySem.W.Frag) (fd : FuncData) (sp : Sp), K.In h ∧ (∀ (s : Shared) (u : Value), BindsTo s fd ⟨[u], []⟩ [(x, u)]) ∧
        (∀ (H : Hp) (a : Addr) (ns : List Int), ns.length ≤ n → Only H → SqL K H a (ns.map V.int) → sp [.ref a] H (fun v _ => v = .bl true) fun _ _ _ => False) ∧
        ∀ base : Heap, K.In base → base.Ns mainGlobals mg → FnG l.prog w K mg base CX0 k fa fd [x] sp) :
    PySem.W.WalkO q loose XP YP l.row.toRowW d [] (fun f vs => PySem.call f vs) := by
  refine Att.attach_call hn hd fun w s₀ s₁ mg mb fa o pm cd doc a us ns G Y ho hd' hcd hmg hobj hints hlen hg => ?_
  obtain ⟨K, fd, sp, KX, hb, hsp, hF⟩ := F w mg fa _ Y G.T.g hmg
  exact law_g KX G.T.g G.T.b G.T.builtins G.T.nolimit hg hobj hints (Nat.le_trans hlen hz) hr hF hb fun H hO hS => hsp H a ns hlen hO hS
end XV
set_option Elab.async false
set_option linter.all false
set_option maxRecDepth 100000
set_option maxHeartbeats 4000000
/-! An error that an except suite has caught, held in a name behind the suite. -/
namespace XV
open PySem PySem.Spec PyProof.Rows L2
/-- at a: an error of the class cls that was raised and caught, its dict at d -/
def exz (a : Addr) (cls : Value) (d : Option Addr) : HO := .ext fun h => ∃ (oe : Obj) (vs : Array Value), h.get? a = some oe ∧ Zc cls d oe ∧ oe.data = .fields vs
theorem exz_ok {P : Program} {w : World} {H : Hp} {h : Heap} {a : Addr} {cls : Value} {d : Option Addr} {oe : Obj} {vs : Array Value} (e : h.get? a = some oe) (z : Zc cls d oe) (f : oe.data = .fields vs) : ObjOk P w H h a (exz a cls d) :=
  ⟨⟨oe, vs, e, z, f⟩, ⟨oe, e⟩, fun _ _ y k => y.elim fun o y => y.elim fun v y => ⟨o, v, k o y.1, y.2⟩⟩
theorem exz_at {P : Program} {w : World} {H : Hp} {h : Heap} {a : Addr} {cls : Value} {d : Option Addr} (hok : HOk P w H h) (e : H a = some (exz a cls d)) : ∃ (oe : Obj) (vs : Array Value), h.get? a = some oe ∧ Zc cls d oe ∧ oe.data = .fields vs := by
  have x : ObjOk P w H h a (.ext fun h => ∃ (oe : Obj) (vs : Array Value), h.get? a = some oe ∧ Zc cls d oe ∧ oe.data = .fields vs) := hok a _ e
  exact x.1
/-- what is there, new since the entry and not told of, is told of -/
theorem tell {X : Cx} {pins : List (Addr × Obj)} {σ : L2.St} {H : Hp} {s : Shared} {a : Addr} {cls : Value} {d : Option Addr} {oe : Obj} {vs : Array Value} (I : Inv X pins σ H s) (e : s.heap.get? a = some oe) (z : Zc cls d oe) (f : oe.data = .fields vs)
    (na : H a = none) (n0 : X.s_0.heap.get? a = none) (nL : a ≠ X.env.locals) (np : ∀ p ∈ X.pn ++ pins, p.1 ≠ a) : Inv X pins σ (upd H a (exz a cls d)) s := by
  have nc : ∀ x c, X.env.cells.lookup x = some c → c ≠ a := fun x c l q => by
    obtain ⟨v, o, ho, hd⟩ := I.cell x c l
    rw [q, e] at ho
    cases ho
    rw [f] at hd
    cases hd
  refine { ok := I.ok, os := I.os, bare := I.bare, base := ?_, loc := I.loc, cell := I.cell, free := ?_, freeC := fun x c l => ?_, pin := fun p hp => ?_, hok := fun b o q => ?_, len := I.len }
  · refine { keep := I.base.keep, slot := I.base.slot, free := fun b o q n hx => ?_, there := I.base.there, tups := fun b xs q => ?_, frzs := fun b o u q => ?_, tbls := fun b ps q => ?_ }
    · rw [upd_ne (fun y => by rw [y, n0] at q; cases q)]
      exact I.base.free b o q n hx
    · have y := I.base.tups b xs q
      rw [upd_ne (ne_of_none y na)]
      exact y
    · have y := I.base.frzs b o u q
      rw [upd_ne (ne_of_none y na)]
      exact y
    · obtain ⟨m, y⟩ := I.base.tbls b ps q
      exact ⟨m, by rw [upd_ne (ne_of_none y na)]; exact y⟩
  · rw [upd_ne (Ne.symm nL)]
    exact I.free
  · rw [upd_ne (nc x c l)]
    exact I.freeC x c l
  · obtain ⟨p1, p2, p3⟩ := I.pin p hp
    exact ⟨p1, by rw [upd_ne (np p hp)]; exact p2, p3⟩
  · by_cases hb : b = a
    · subst hb
      rw [upd_same] at q
      cases q
      exact exz_ok e z f
    · rw [upd_ne hb] at q
      exact (I.hok b o q).stay (fun c w' _ y => y) (fun c y => by rw [upd_ne (ne_of_none y na)]; exact y) fun c xs y => by
        rw [upd_ne (ne_of_none y na)]
        exact y
/-- the clause's wish: behind its suite the error is told of -/
def wKeep (K : PySem.W.Frag) (c : Value) (i : Nat) (ts : Addr → Value → Option Addr → TS) (Wout : WX) (D : Ends) : WX := fun cls d σ H => ∃ b, PySem.W.exmOne K cls c = some b ∧
  (b = true → ∀ a, H a = none → ts a cls d { nx := fun σ' H' => H' a = none → D.nx (σ'.set i none) (upd H' a (exz a cls d)), rt := fun _ _ => False, bk := fun _ _ => False, ct := fun _ _ => False } (σ.set i (some (.ref a))) H) ∧ (b = false → Wout cls d σ H)
section
variable {X : Cx} {x n : Str} {c : Value} {i : Nat} {body suite : List Stmt} {b₀ : Stmt} {np pos pos' : Pos} {tb : WX → TS} {ts : Addr → Value → Option Addr → TS} {Wout : WX}
theorem ps_try_keep (hs : X.stack = X.env :: X.outer) (hf : X.env.frame = some X.env.locals) (hex : X.ex = []) (nd : X.N.Nodup) (hi : X.N[i]? = some n) (hln : X.env.kindOf n = some .local) (hc : Names X x c) (tk : Takes X Wout)
    (hb : ∀ (W : WX) (pn : List (Addr × Obj)) (xe : Value → Shared → Prop), Takes (X.tr pn xe) W → PassesOwn (model X.prog X.w) X.A X.env xe → PSs (X.tr pn xe) body (tb W))
    (hsu : ∀ (a : Addr) (oe : Obj) (cls : Value) (d : Option Addr) (pn : List (Addr × Obj)), Zc cls d oe → (∃ vs, oe.data = .fields vs) → PSs (X.suite a ((a, oe) :: pn)) (b₀ :: suite) (ts a cls d)) :
    PS X (.Try body [.ExceptHandler (some (.Name x np)) (some n) (b₀ :: suite) pos'] [] [] pos) (fun D σ H => tb (wKeep X.K c i ts Wout D) D σ H) := by
  refine ⟨fun pins s σ H D I h => ?_⟩
  have ok := I.ok
  have fr : X.A.frames = some (X.env :: X.outer) := ok.frames.trans (congrArg some hs)
  have lc : Loc X.env.scope n := .inl hln
  let catch_ : Value → Shared → Prop := fun e s₁ => wpAny (model X.prog X.w) X.A (noteFrame e X.env) (fun _ s₂ => wpAny (model X.prog X.w) X.A (setFlight e none) (fun _ s₃ =>
    wpAny (model X.prog X.w) X.A (handleBy e X.env [.ExceptHandler (some (.Name x np)) (some n) (b₀ :: suite) pos']) (SP X pins D) X.xe s₃) X.xe s₂) X.xe s₁
  refine wpAny_Try_except ?_
  refine wpAny_mono ((hb (wKeep X.K c i ts Wout D) (X.pn ++ pins) catch_ (fun u s' air => ?_) PassesOwn.looking).run [] s σ H D (I.toTry _) h) (fun fl s1 out => ?_) (fun e s1 z => z)
  · obtain ⟨a, B, sI, pins1, σ1, H1, cls, d, rfl, J1, nb, up, sky, na, os, ag, b, known, yes, no⟩ := air
    have J : Inv X pins σ1 H1 sI := J1.ofTry ok
    have skyE : Sky B (X.env :: X.outer) a (Zc cls d) X.env.locals s'.heap := hs ▸ sky
    -- the error is new since the entry
    have nB : B.get? a = none := by
      rcases skyE with q | q | q
      · exact q.2.1
      · exact q.2.1
      · exact q.2.1
    show wpAny (model X.prog X.w) X.A (noteFrame (.ref a) X.env) _ _ _
    refine Sky.land Zc.steady fr hf skyE fun h3 fly3 up3 => ?_
    have J3 : Inv X pins σ1 H1 { s' with heap := h3 } := J.landed nb fly3.1 (up.trans up3) os ag
    obtain ⟨oe3, vs3, e3, z3, f3⟩ := fly3.there
    have nfr : a ∉ frs (X.env :: X.outer) := fun m => by
      obtain ⟨_, o, e, nf⟩ := fly3.2.2.1.mem m
      rw [e3] at e
      cases e
      exact nf _ f3
    have nL : a ≠ X.env.locals := fun q => nfr (List.mem_filterMap.mpr ⟨X.env, List.mem_cons_self, q ▸ hf⟩)
    have nF : a ∉ X.fs := fun m => (List.mem_filterMap.mp m).elim fun y q => nfr (List.mem_filterMap.mpr ⟨y, List.mem_cons_of_mem _ q.1, q.2⟩)
    have nI : sI.heap.get? a = none := by
      cases q : sI.heap.get? a with
      | none => rfl
      | some o =>
        have y := nb a o q (by rw [hs]; exact nfr)
        rw [nB] at y
        cases y
    have n0 : X.s_0.heap.get? a = none := by
      cases q : X.s_0.heap.get? a with
      | none => rfl
      | some o =>
        obtain ⟨o', y⟩ := J.base.there a o q (by rw [hex]; exact fun z => nomatch z)
        rw [nI] at y
        cases y
    have npin : ∀ p ∈ X.pn ++ pins, p.1 ≠ a := fun p hp q => by
      have y := (J.pin p hp).1
      rw [q, nI] at y
      cases y
    have S3 := J3.suite e3 f3 na nL nF
    refine wpAny_handleBy_cons (codeAny_handlers_test ?_) (by intro q; cases q)
    have tyLook : PySem.W.Looks (model X.prog X.w) h3 (typeOf (.ref a)) cls := fun A Q E s k q => wpAny_typeOf_ref (k _ _ e3) (by rw [z3.1]; exact q)
    have match_ := PySem.W.exm_one (M := model X.prog X.w) J3.kIn tyLook known
    have clause : ∀ {Q : Value → Shared → Prop} {E : Value → Shared → Prop}, Q c { s' with heap := h3 } → wpAny (model X.prog X.w) (X.A.mark (some (.ref a))) (eval (.Name x np) X.env) Q E { s' with heap := h3 } := by
      intro Q E q
      obtain ⟨hg, hdb, hm | ⟨hm, hv, hnn⟩⟩ := hc
      · exact ld_glob (X := X.suite a ((a, oe3) :: (X.pn ++ pins))) S3 hg hm q hdb
      · exact ld_blt (X := X.suite a ((a, oe3) :: (X.pn ++ pins))) S3 hg hm hv q hnn hdb
    refine clause (match_.here ?_)
    cases b with
    | false =>
      show wpAny _ X.A (handleBy (.ref a) X.env []) _ _ _
      refine wpAny_handleBy_nil ?_
      obtain ⟨k1, k2, k3, oe, vs, T, oT, ts', he, hz, hd, h1, hr⟩ := id fly3
      unfold PySem.passOn
      refine wpAny_bind (wpAny_field he hd h1 ?_)
      rw [if_neg (show ¬ ((Value.ref T == Value.none) = true) from by simp)]
      have fin : wpAny (model X.prog X.w) X.A (setFlight (.ref a) X.env.frame) (fun _ s4 => wpAny (model X.prog X.w) X.A (throw (.ref a) : Sem Flow) (SP X pins D) X.xe s4) X.xe { s' with heap := h3 } := by
        rw [hf]
        exact HandSPX.setFlight_upZ fly3 fun h4 held4 up4 => wpAny_throw (tk _ _ ⟨a, B, sI, pins, σ1, H1, cls, d, rfl, J, nb, (up.trans up3).trans up4, .inr (.inr (by rw [hs]; exact held4)), na, os, ag, no rfl⟩)
      first
        | exact wpAny_bind (wpAny_pure (wpAny_bind fin))
        | exact wpAny_bind fin
    | true =>
      refine codeAny_handlers_suite_as ?_
      refine HandSPX.lands_againZ fly3 fun h4 fly4 up4 => ?_
      have J4 : Inv X pins σ1 H1 { s' with heap := h4 } := J.landed nb fly4.1 ((up.trans up3).trans up4) os ag
      obtain ⟨oe4, vs4, e4, z4, f4⟩ := fly4.there
      refine store_ok (X := X.suite a ((a, oe4) :: (X.pn ++ pins))) (v := .ref a) (J4.suite e4 f4 na nL nF) nd hi lc rfl (fun s5 S5 => ?_) (.inr hln)
      refine wpAny_mono ((hsu a oe4 cls d (X.pn ++ pins) z4 ⟨_, f4⟩).run [] s5 _ H1 _ S5 (yes rfl a na)) (fun fl s6 out => ?_) (fun _ _ z => z.elim)
      cases fl with
      | next =>
        obtain ⟨σ6, H6, S6, q6⟩ := out
        obtain ⟨p1, p2, _⟩ := S6.pin (a, oe4) (List.mem_append_left _ List.mem_cons_self)
        have T6 := tell (S6.unsuite ok) p1 z4 f4 p2 n0 nL npin
        exact gone_ok T6 nd hi hln fun s7 J7 => ⟨_, _, J7, q6 p2⟩
      | brk =>
        obtain ⟨_, _, _, q6⟩ := out
        exact q6.elim
      | cont =>
        obtain ⟨_, _, _, q6⟩ := out
        exact q6.elim
      | ret u =>
        obtain ⟨_, _, _, _, _, q6⟩ := out
        exact q6.elim
  · cases fl with
    | next => exact out.elim fun σ' z => z.elim fun H' z => wpAny_execs_nil ⟨σ', H', z.1.ofTry ok, z.2⟩
    | brk => exact out.elim fun σ' z => z.elim fun H' z => ⟨σ', H', z.1.ofTry ok, z.2⟩
    | cont => exact out.elim fun σ' z => z.elim fun H' z => ⟨σ', H', z.1.ofTry ok, z.2⟩
    | ret u =>
      obtain ⟨v, σ', H', J', r, q⟩ := out
      exact ⟨v, σ', H', J'.ofTry ok, r, q⟩
end
/-! ### e.f and isinstance(e, C) of such an error -/
section
variable {X : Cx}
theorem pe_zget {e : Expr} {te : TE} {pos : Pos} {n : Str} (he : PE X e te) (hb : attributeBase e n X.env (eval e X.env) = eval e X.env := by rfl) :
    PE X (.Attribute e n pos) (fun σ H Q => te σ H fun x H1 => ∃ a C d fs v, x = .ref a ∧ H1 a = some (exz a (.ref C) (some d)) ∧ H1 d = some (.xd fs) ∧ XF X.K C n ∧ fs.lookup n = some v ∧ Q v H1) := by
  refine ⟨fun pins s σ H Q I h => ?_⟩
  refine attr_of hb (thn (he.run pins s σ H _ I h) fun u s1 hh => ?_)
  obtain ⟨x, H1, I1, rx, a, C, d, fs, v, ex, ea, ed, T, l, q⟩ := hh
  subst ex
  obtain rfl : u = Value.ref a := rx
  obtain ⟨oe, vs, ho, hz, hf⟩ := exz_at I1.hok ea
  have hx : ObjOk X.prog X.w H1 s1.heap d (.xd fs) := I1.hok d _ ed
  obtain ⟨mA, hns, hrel⟩ := hx
  obtain ⟨od, hod, hl⟩ := lookIn_ns hns
  obtain ⟨w1, hw, rw1⟩ := RelO.some_of (v := v) (o := mA n) (by rw [← l]; exact hrel n)
  have J : PySem.W.InstAt s1.heap a oe C (some od) := ⟨ho, hz.1, by unfold PySem.W.notCls; rw [hf] <;> rfl, by rw [hz.2]; exact hod⟩
  exact HandSPX.exc_get I1.kIn J T.xf.ga T.xf.gg T.xf.exC (PySem.W.findObj_own T.xf.hdC T.no rfl (by rw [hl, hw])) (handed_of rw1) ⟨v, H1, I1.tok _, rw1, q⟩
def rIsZ (K : PySem.W.Frag) : List V → Hp → VK → Prop := fun xs H Q => ∃ (a : Addr) (c : V) (D d : Addr) (fs : List (Str × V)) (cv : Value) (b : Bool), xs = [.ref a, c] ∧ H a = some (exz a (.ref D) (some d)) ∧ H d = some (.xd fs) ∧ ExcC K D ∧ (∀ u, RelV c u → u = cv) ∧ PySem.W.kitOne K (.ref D) cv = some b ∧ Q (.bl b) H
theorem call_isZ : CallR X (.builtin "isinstance") (rIsZ X.K) := by
  intro pins s σ H xs us Q I r h
  obtain ⟨a, c, D, d, fs, cv, b, rfl, ea, ed, C, hcv, e, q⟩ := h
  cases r with
  | cons rx rr =>
    cases rr with
    | cons rt rr =>
      cases rr
      cases rx
      obtain rfl := hcv _ rt
      obtain ⟨oe, vs, ho, hz, hf⟩ := exz_at I.hok ea
      have hx : ObjOk X.prog X.w H s.heap d (.xd fs) := I.hok d _ ed
      obtain ⟨mA, hns, _⟩ := hx
      obtain ⟨od, hod, _⟩ := lookIn_ns hns
      have J : PySem.W.InstAt s.heap a oe D (some od) := ⟨ho, hz.1, by unfold PySem.W.notCls; rw [hf] <;> rfl, by rw [hz.2]; exact hod⟩
      exact PySem.W.kia_one (kitErr C) I.kIn J e (fun z => nomatch z) fun tk => ⟨.bl b, H, I.kept (t' := tk) fun _ _ z => z, rfl, q⟩
end
end XV
set_option Elab.async false
set_option linter.all false
set_option maxRecDepth 100000
set_option maxHeartbeats 4000000
/-! repr of data, where nothing guards; written data. -/
namespace XV
open PySem PySem.Spec PyProof.Rows L2
section
variable {X : Cx}
def rRepr (K : PySem.W.Frag) : List V → Hp → VK → Prop := fun xs H Q => ∃ (v : V) (d : PyData), xs = [v] ∧ Dp K H v d ∧ d.showable = true ∧ d.hasDict = false ∧ d.depth ≤ 60 ∧ d.shown.length ≤ sizeLine ∧ Q (.str d.shown) H
theorem call_reprD (ag : X.A.guards = some []) (hu : X.A.units + 64 < cLine) : CallR X (.builtin "repr") (rRepr X.K) := by
  intro pins s σ H xs us Q I r h
  obtain ⟨v, d, rfl, hd, sh, nd, dp, sz, q⟩ := h
  have deep : ∀ a : Addr, ∀ as, Reads s.heap (.ref a) d as → wpAny (model X.prog X.w) X.A (call (.builtin "repr") [.ref a]) (EP X pins σ Q) X.xe s := fun a as rd =>
    repr_of_reads' rd sh (fun z => by rw [nd] at z; cases z) ag (by omega) (fun _ _ e => e) (fun h' u tk k => ⟨.str d.shown, H, I.kept (t' := tk) k, ⟨u, rfl⟩, q⟩) sz
  cases r with
  | cons rv rr =>
    cases rr
    cases hd with
    | non =>
      cases rv
      exact PySem.P.repr_of_none ⟨.str _, H, I.tok _, ⟨_, rfl⟩, q⟩
    | bl b =>
      cases rv
      exact PySem.P.repr_of_bool ⟨.str _, H, I.tok _, ⟨_, rfl⟩, q⟩
    | int i =>
      obtain ⟨t, rfl⟩ := rv
      exact PySem.P.repr_of_int (of_decide_eq_true (by simpa [PyData.showable] using sh)) ⟨.str _, H, I.tok _, ⟨_, rfl⟩, q⟩
    | str x =>
      obtain ⟨t, rfl⟩ := rv
      exact PySem.P.repr_of_str ⟨.str _, H, I.tok _, ⟨_, rfl⟩, q⟩ sz
    | lst hs ha =>
      cases rv
      obtain ⟨as, rd⟩ := Dp.reads I _ _ _ (Dp.lst hs ha) rfl
      exact deep _ as rd
    | tup hs ha =>
      cases rv
      obtain ⟨as, rd⟩ := Dp.reads I _ _ _ (Dp.tup hs ha) rfl
      exact deep _ as rd
end
/-! ### data that is tracked throughout -/
mutual
inductive Da (H : Hp) : V → PyData → Prop
  | non : Da H .non .none
  | bl (b : Bool) : Da H (.bl b) (.bool b)
  | int (i : Int) : Da H (.int i) (.int i)
  | str (x : Str) : Da H (.str x) (.str x)
  | lst {a : Addr} {xs : List V} {ds : List PyData} : H a = some (.lst xs) → DaAll H xs ds → Da H (.ref a) (.list ds)
  | tup {a : Addr} {xs : List V} {ds : List PyData} : H a = some (.tup xs) → DaAll H xs ds → Da H (.ref a) (.tuple ds)
inductive DaAll (H : Hp) : List V → List PyData → Prop
  | nil : DaAll H [] []
  | cons {v : V} {vs : List V} {d : PyData} {ds : List PyData} : Da H v d → DaAll H vs ds → DaAll H (v :: vs) (d :: ds)
end
mutual
theorem Da.keep {H H' : Hp} (s : Same H H') : ∀ {d : PyData} {v : V}, Da H v d → Da H' v d
  | _, _, .non => .non
  | _, _, .bl b => .bl b
  | _, _, .int i => .int i
  | _, _, .str x => .str x
  | _, _, .lst h a => .lst (s _ _ h) (DaAll.keep s a)
  | _, _, .tup h a => .tup (s _ _ h) (DaAll.keep s a)
theorem DaAll.keep {H H' : Hp} (s : Same H H') : ∀ {ds : List PyData} {vs : List V}, DaAll H vs ds → DaAll H' vs ds
  | _, _, .nil => .nil
  | _, _, .cons h r => .cons (Da.keep s h) (DaAll.keep s r)
end
mutual
theorem Da.dp {K : PySem.W.Frag} {H : Hp} : ∀ {d : PyData} {v : V}, Da H v d → Dp K H v d
  | _, _, .non => .non
  | _, _, .bl b => .bl b
  | _, _, .int i => .int i
  | _, _, .str x => .str x
  | _, _, .lst h a => .lst (SqL.of h) (DaAll.dp a)
  | _, _, .tup h a => .tup (SqT.of h) (DaAll.dp a)
theorem DaAll.dp {K : PySem.W.Frag} {H : Hp} : ∀ {ds : List PyData} {vs : List V}, DaAll H vs ds → DpAll K H vs ds
  | _, _, .nil => .nil
  | _, _, .cons h r => .cons (Da.dp h) (DaAll.dp r)
end
theorem DaAll.length {H : Hp} : ∀ {ds : List PyData} {vs : List V}, DaAll H vs ds → vs.length = ds.length
  | _, _, .nil => rfl
  | _, _, .cons _ r => congrArg (· + 1) (DaAll.length r)
theorem DaAll.get {H : Hp} : ∀ {ds : List PyData} {vs : List V} {i : Nat} {v : V}, DaAll H vs ds → vs[i]? = some v → ∃ d, ds[i]? = some d ∧ Da H v d
  | _, _, i, v, .nil, h => by simp at h
  | _, _, 0, v, .cons a r, h => by
    cases h
    exact ⟨_, rfl, a⟩
  | _, _, i + 1, v, .cons a r, h => by
    obtain ⟨d, e, x⟩ := DaAll.get (i := i) r (by simpa using h)
    exact ⟨d, by simpa using e, x⟩
/-! ### written data -/
def litsN (f : Expr → Option PyData) : List Expr → Option (List PyData)
  | [] => some []
  | e :: es => match f e, litsN f es with
    | some d, some ds => some (d :: ds)
    | _, _ => none
def litN : Nat → Expr → Option PyData
  | 0, _ => none
  | n + 1, e => match e with
    | .Constant .none _ _ => some .none
    | .Constant (.bool b) _ _ => some (.bool b)
    | .Constant (.int i) _ _ => some (.int i)
    | .Constant (.str x) _ _ => some (.str x)
    | .UnaryOp .USub (.Constant (.int i) _ _) _ => some (.int (-i))
    | .List es _ => if es.length ≤ 1000 then (litsN (litN n) es).map .list else none
    | .Tuple es _ _ => if es.length ≤ 1000 then (litsN (litN n) es).map .tuple else none
    | _ => none
/-- the reading of written data -/
def tLit (d : PyData) : TE := fun _ H Q => ∀ (v : V) (H' : Hp), Same H H' → Da H' v d → Q v H'
def tLits (ds : List PyData) : TA := fun _ H Q => ∀ (vs : List V) (H' : Hp), Same H H' → DaAll H' vs ds → vs.length = ds.length → Q vs H'
theorem PE.le {X : Cx} {e : Expr} {t t' : TE} (h : PE X e t) (i : ∀ σ H Q, t' σ H Q → t σ H Q) : PE X e t' := ⟨fun pins s σ H Q I z => h.run pins s σ H Q I (i _ _ _ z)⟩
theorem PA.le {X : Cx} {es : List Expr} {t t' : TA} (h : PA X es t) (i : ∀ σ H Q, t' σ H Q → t σ H Q) : PA X es t' := ⟨fun p pins s σ H Q I z => h.run p pins s σ H Q I (i _ _ _ z)⟩
theorem litsN_len {f : Expr → Option PyData} : ∀ (es : List Expr) (ds : List PyData), litsN f es = some ds → ds.length = es.length
  | [], ds, h => by
    cases h
    rfl
  | e :: es, ds, h => by
    unfold litsN at h
    split at h
    · rename_i d ds' h1 h2
      cases h
      rw [List.length_cons, List.length_cons, litsN_len es ds' h2]
    · cases h
theorem lits_ok {X : Cx} {f : Expr → Option PyData} (hf : ∀ e d, f e = some d → PE X e (tLit d)) (hs : ∀ e d es, f e = some d → starEach (e :: es) X.env = (false, eval e X.env) :: starEach es X.env) :
    ∀ (es : List Expr) (ds : List PyData), litsN f es = some ds → PA X es (tLits ds)
  | [], ds, h => by
    cases h
    exact PA.le pa_nil fun σ H Q z => z [] H (fun _ _ e => e) .nil rfl
  | e :: es, ds, h => by
    unfold litsN at h
    split at h
    · rename_i d ds' h1 h2
      cases h
      exact PA.le (pa_cons (hf e d h1) (lits_ok hf hs es ds' h2) (hs e d es h1)) fun σ H Q z v H1 s1 p1 vs H2 s2 p2 l2 => z (v :: vs) H2 (s1.trans s2) (.cons (p1.keep s2) p2) (by rw [List.length_cons, List.length_cons, l2])
    · cases h
theorem lit_star {n : Nat} {e : Expr} {d : PyData} {es : List Expr} {env : Env} (h : litN n e = some d) : starEach (e :: es) env = (false, eval e env) :: starEach es env := by
  cases n with
  | zero => cases h
  | succ n => cases e <;> first | rfl | cases h
theorem lit_ok {X : Cx} : ∀ (n : Nat) (e : Expr) (d : PyData), litN n e = some d → PE X e (tLit d)
  | 0, _, _, h => by cases h
  | n + 1, e, d, h => by
    have small : ∀ m : Nat, m ≤ 1000 → m ≤ sizeLine := fun m hm => by
      rw [sizeLine_eq]
      omega
    unfold litN at h
    split at h
    · cases h
      exact PE.le pe_non fun σ H Q z => z _ H (fun _ _ e => e) .non
    · cases h
      exact PE.le pe_bl fun σ H Q z => z _ H (fun _ _ e => e) (.bl _)
    · cases h
      exact PE.le pe_int fun σ H Q z => z _ H (fun _ _ e => e) (.int _)
    · cases h
      exact PE.le pe_str fun σ H Q z => z _ H (fun _ _ e => e) (.str _)
    · cases h
      exact PE.le (pe_un un_neg pe_int) fun σ H Q z => ⟨_, rfl, z _ H (fun _ _ e => e) (.int _)⟩
    · rename_i es p
      split at h
      · rename_i hl
        cases q : litsN (litN n) es with
        | none =>
          rw [q] at h
          cases h
        | some ds =>
          rw [q] at h
          cases h
          exact PE.le (pe_lst (lits_ok (lit_ok n) (fun _ _ _ => lit_star) es ds q)) fun σ H Q z vs H1 s1 p1 l1 => ⟨by rw [l1, litsN_len _ _ q]; exact small _ hl, fun p np =>
            z _ _ (s1.trans (same_new np)) (.lst (upd_same) (p1.keep (same_new np)))⟩
      · cases h
    · rename_i es k p
      split at h
      · rename_i hl
        cases q : litsN (litN n) es with
        | none =>
          rw [q] at h
          cases h
        | some ds =>
          rw [q] at h
          cases h
          exact PE.le (pe_tup (lits_ok (lit_ok n) (fun _ _ _ => lit_star) es ds q)) fun σ H Q z vs H1 s1 p1 l1 => ⟨by rw [l1, litsN_len _ _ q]; exact small _ hl, fun p np =>
            z _ _ (s1.trans (same_new np)) (.tup (upd_same) (p1.keep (same_new np)))⟩
      · cases h
    · cases h
theorem pe_lit {X : Cx} (n : Nat) {e : Expr} {d : PyData} (h : litN n e = some d) : PE X e (tLit d) := lit_ok n e d h
end XV
set_option Elab.async false
set_option linter.all false
set_option maxRecDepth 100000
set_option maxHeartbeats 4000000
/-! raise C(e), C an error class with one field. -/
namespace XV
open PySem PySem.Spec PyProof.Rows L2
theorem XCls.binds {P : Program} {w : World} {K : PySem.W.Frag} {mg : Str → Option Value} {base : Heap} {nm fld : Str} {C fI : Addr} {fd : FuncData} (T : XCls P w K mg base nm fld C fI fd) : Binds K fd ["self", fld] [] := fun s us X hl => by
  rw [List.append_nil] at hl ⊢
  match us, hl with
  | [x, u], _ => exact T.b1 s x u X
/-- a reading that may be weakened -/
def tMono (te : TE) : TE := fun σ H Q => ∃ q : VK, te σ H q ∧ ∀ v H', q v H' → Q v H'
theorem pe_mono {X : Cx} {e : Expr} {te : TE} (he : PE X e te) : PE X e (tMono te) := ⟨fun pins s σ H Q I h => by
  obtain ⟨q, h, i⟩ := h
  exact thn (he.run pins s σ H q I h) fun u s1 ⟨v, H1, I1, r, z⟩ => ⟨v, H1, I1, r, i v H1 z⟩⟩
section
variable {X : Cx} {nm fld : Str} {C fI : Addr} {fd : FuncData} {e : Expr} {te : TE} {p pos pos2 : Pos}
theorem pmk_x (T : XCls X.prog X.w X.K X.mg X.base nm fld C fI fd) (hr : Room 2 X.A) (hg : Gl X nm) (he : PE X e te) (hdb : (nm == ("__debug__" : Str)) = false := by decide)
    (hs : starEach (e :: []) X.env = (false, eval e X.env) :: starEach [] X.env := by rfl) (hpl : (backTo pos (starEach [] X.env)).any (·.1) = false := by rfl) :
    PMk X (.Call (.Name nm p) [e] [] pos) (fun σ H Q => te σ H fun v H1 => ∀ d, H1 d = none → Q (.ref C) (some d) (upd H1 d (.xd [(fld, v)]))) := by
  have low := pmk_oex (X := X) (p := p) (pos := pos) T.ox T.iC T.tI T.ini hr T.binds .nil pass0 hg T.g (pa_cons (pe_mono he) pa_nil hs) hdb hs hpl
  intro pins s σ H Q I h
  refine low pins s σ H Q I ⟨_, h, fun v H1 q => ⟨(by show 1 ≤ 1000; decide), fun a na => ⟨a, v, rfl, upd_same, fun d nd ne => ⟨rfl, d, [(fld, v)], upd_same, ?_, ?_, ?_⟩⟩⟩⟩
  · rw [upd_ne ne, upd_same]
  · rw [upd_ne ne] at nd
    exact nd
  · rw [upd_ne ne] at nd
    have e1 : upd (del (upd (upd (upd H1 a (exo a C none)) d (exd d [(fld, v)])) a (exo a C (some d))) a) d (.xd [(fld, v)]) = upd H1 d (.xd [(fld, v)]) := by
      funext b
      by_cases q1 : b = d
      · rw [q1, upd_same, upd_same]
      · rw [upd_ne q1, upd_ne q1]
        by_cases q2 : b = a
        · rw [q2, del_same, na]
        · rw [del_ne q2, upd_ne q2, upd_ne q1, upd_ne q2]
    rw [e1]
    exact q d nd
theorem ps_raiseX {W : WX} (hc : X.calm = true) (T : XCls X.prog X.w X.K X.mg X.base nm fld C fI fd) (hr : Room 2 X.A) (tk : Takes X W) (hg : Gl X nm) (he : PE X e te) (hdb : (nm == ("__debug__" : Str)) = false := by decide)
    (hs : starEach (e :: []) X.env = (false, eval e X.env) :: starEach [] X.env := by rfl) (hpl : (backTo pos (starEach [] X.env)).any (·.1) = false := by rfl) :
    PS X (.Raise (some (.Call (.Name nm p) [e] [] pos)) none pos2) (fun _ σ H => te σ H fun v H1 => ∀ d, H1 d = none → W (.ref C) (some d) σ (upd H1 d (.xd [(fld, v)]))) :=
  ps_raise hc tk (pmk_x T hr hg he hdb hs hpl)
end
/-- the module's name x is a def that keeps sp and may raise -/
structure OkX (P : Program) (w : World) (K : PySem.W.Frag) (mg : Str → Option Value) (base : Heap) (x : Str) (k : Nat) (ps : List Str) (sp : Sp) : Prop where
  ex : ∃ f fd, FnOk P w K mg base (L2.CX P w) k f fd ps sp ∧ mg x = some (.ref f) ∧ PySem.W.keepIn K (.ref f) = true ∧ Binds K fd ps []
theorem OkX.mk' {P : Program} {w : World} {K : PySem.W.Frag} {mg : Str → Option Value} {base : Heap} {x : Str} {k : Nat} {ps : List Str} {sp : Sp} {body : List Stmt} {params : Arguments} {scope : Scope} {f : Addr} {fd : FuncData}
    (F : FunD K x x params body scope [] [] f fd) (g : mg x = some (.ref f)) (b : ∀ (kV doc pm : Value) (an : Option Addr) (cdv ct : Value) (us : List Value), us.length = ps.length → bindArgs (PySem.W.fnOf x x params body scope .none kV doc pm an cdv ct) ⟨us, []⟩ = pure (ps.zip us))
    (ok : FnOk P w K mg base (L2.CX P w) k f fd ps sp) : OkX P w K mg base x k ps sp := ⟨f, fd, ok, g, F.kp, F.bindsN b⟩
section
variable {X : Cx} {k : Nat} {ps : List Str} {sp : Sp} {x : Str} {e : Expr} {es : List Expr} {t : TA} {p pos : Pos} {E : XK} {W : WX}
/-- a call within a def that lets out what the callee lets out -/
theorem pe_callX (o : OkX X.prog X.w X.K X.mg X.base x k ps sp) (tk : Takes X fun cls d _ H => E cls d H) (hr : Room k X.A) (hg : Gl X x) (ha : PA X (e :: es) t) (hdb : (x == ("__debug__" : Str)) = false := by decide)
    (he : starEach (e :: es) X.env = (false, eval e X.env) :: starEach es X.env := by rfl) (hpl : (backTo pos (starEach es X.env)).any (·.1) = false := by rfl) :
    PE X (.Call (.Name x p) (e :: es) [] pos) (tCall sp [] E t) := by
  obtain ⟨f, fd, F, hm, hk, b⟩ := o.ex
  exact pe_call F hr hg hm hk b .nil (passes_call tk fun _ _ _ _ h => h) ha hdb he hpl
/-- a call within a try -/
theorem pe_callT (o : OkX X.prog X.w X.K X.mg X.base x k ps sp) (tk : Takes X W) (hr : Room k X.A) (hg : Gl X x) (ha : PA X (e :: es) t) (hdb : (x == ("__debug__" : Str)) = false := by decide)
    (he : starEach (e :: es) X.env = (false, eval e X.env) :: starEach es X.env := by rfl) (hpl : (backTo pos (starEach es X.env)).any (·.1) = false := by rfl) :
    PE X (.Call (.Name x p) (e :: es) [] pos) (tCallS sp (WE W) t) := by
  obtain ⟨f, fd, F, hm, hk, b⟩ := o.ex
  exact pe_callS F hr hg hm hk b (fun σ => passAt tk σ) ha hdb he hpl
end
end XV
set_option Elab.async false
set_option linter.all false
set_option maxRecDepth 100000
set_option maxHeartbeats 4000000
/-! f(k = v, ..), all by keywords, the names in the parameters' order turned round. -/
namespace XV
open PySem PySem.Spec PyProof.Rows L2
theorem vals_rev : ∀ {vs : List V} {us : List Value}, Vals vs us → Vals vs.reverse us.reverse
  | _, _, .nil => .nil
  | _, _, .cons r rr => by
    rw [List.reverse_cons, List.reverse_cons]
    exact (vals_rev rr).append (.cons r .nil)
structure OkK (P : Program) (w : World) (K : PySem.W.Frag) (mg : Str → Option Value) (base : Heap) (x : Str) (k : Nat) (ps : List Str) (sp : Sp) : Prop where
  ex : ∃ f fd, FnOk P w K mg base CX0 k f fd ps sp ∧ mg x = some (.ref f) ∧ PySem.W.keepIn K (.ref f) = true ∧ KBn K fd ps 0 ps.reverse (fun _ ws => ws.reverse) (fun _ zs => zs.reverse)
theorem OkK.mk' {P : Program} {w : World} {K : PySem.W.Frag} {mg : Str → Option Value} {base : Heap} {x : Str} {k : Nat} {ps : List Str} {sp : Sp} {body : List Stmt} {params : Arguments} {scope : Scope} {f : Addr} {fd : FuncData}
    (F : FunD K x x params body scope [] [] f fd) (g : mg x = some (.ref f)) (b : ∀ (kV doc pm : Value) (an : Option Addr) (cdv ct : Value) (ws : List Value), ws.length = ps.length → bindArgs (PySem.W.fnOf x x params body scope .none kV doc pm an cdv ct) ⟨[], ps.reverse.zip ws⟩ = pure (ps.zip ws.reverse))
    (ok : FnOk P w K mg base CX0 k f fd ps sp) : OkK P w K mg base x k ps sp := by
  refine ⟨f, fd, ok, g, F.kp, ⟨fun s us ws _ l1 l2 => ?_, fun _ r => vals_rev r⟩⟩
  obtain ⟨oc, od, dV, kV, doc, pm, an, cdv, ct, osl, rfl, lk, hcd, hD, hK⟩ := F.ex
  rcases hD with ⟨_, rfl⟩ | ⟨e, _⟩
  · obtain rfl := List.length_eq_zero_iff.mp l1
    exact .of_eq (b kV doc pm an cdv ct ws (by rw [l2, List.length_reverse]))
  · exact absurd rfl e
section
variable {X : Cx} {k : Nat} {ps : List Str} {sp : Sp} {x : Str} {kws : List Keyword} {tk : TA} {p pos : Pos}
theorem pe_callK (o : OkK X.prog X.w X.K X.mg X.base x k ps sp) (hr : Room k X.A) (hg : Gl X x) (hk : PK X kws tk) (hdb : (x == ("__debug__" : Str)) = false := by decide)
    (hall : (backToKw pos (keywordEach kws X.env)).all (·.1.isSome) = true := by rfl) (hks : (backToKw pos (keywordEach kws X.env)).filterMap (·.1) = ps.reverse := by rfl)
    (hpl : ((backTo pos (starEach [] X.env)).any (·.1) || (backToKw pos (keywordEach kws X.env)).any (·.1.isNone)) = false := by rfl) :
    PE X (.Call (.Name x p) [] kws pos) (fun σ H Q => tk σ H fun zs H1 => zs.length = ps.reverse.length ∧ sp zs.reverse H1 Q E0) := by
  obtain ⟨f, fd, F, hm, kp, B⟩ := o.ex
  refine ⟨fun pins s σ H Q I h => ?_⟩
  refine wpAny_Call_Name_kw (ld_glob I hg hm ?_ hdb)
  refine PySem.W.callWith_KW0 (h₀ := X.base) I.ok.mod.kin kp hall (thn (hk.run pos pins s σ H _ I h) fun ws s1 z => ?_) hpl
  obtain ⟨zs, H1, I1, r, l, q⟩ := z
  refine ⟨I1.kIn, ?_⟩
  rw [hks]
  exact run_fnN (us := []) (vs := []) F hr B pass0 I1 .nil r rfl l q
end
end XV
set_option Elab.async false
set_option linter.all false
set_option maxRecDepth 100000
set_option maxHeartbeats 4000000
/-! lcm; == by an own __eq__ of an instance with a dict, whatever stands on the right; defs that may raise where they don't; keywords in order; != of lists that end in the same object. -/
namespace XV
open PySem PySem.Spec PyProof.Rows L2
section
variable {X : Cx}
def rLcm : List V → Hp → VK → Prop := fun vs H Q => ∃ a b : Int, vs = [.int a, .int b] ∧ a.natAbs < 2 ^ 64 ∧ b.natAbs < 2 ^ 64 ∧ Q (.int ((Nat.lcm a.natAbs b.natAbs : Nat) : Int)) H
theorem cr_lcm : CallR X (.builtin "math.lcm") rLcm := by
  intro pins s σ H vs us Q I r h
  obtain ⟨a, b, rfl, ha, hb, q⟩ := h
  obtain ⟨t, u, rfl⟩ := Vals.int2 r
  exact PySem.W.mc_lcm ha hb fun _ => ⟨.int _, H, I.tok _, ⟨_, rfl⟩, q⟩
end
section
variable {X : Cx} {CX : CXT} {C g : Addr} {n : Nat} {fd : FuncData} {ps : List Str} {sp : Sp} {E : XK}
/-- x == y, x an instance of the class at C whose __eq__ is at g -/
def rOwnE (K : PySem.W.Frag) (C : Addr) (sp : Sp) (E : XK) : R2 := fun x y H Q => ∃ a dx fs t, x = .ref a ∧ H a = some (.ins C dx fs) ∧ TyX K H y t ∧ PySem.W.notFirst K C t = true ∧ sp [x, y] H Q E
theorem op_ownE (hs : PySem.W.findIn X.K (.ref C) "__eq__" = some (some (.ref g))) (hf : PySem.W.isFn X.K (.ref g) = true) (F : FnOk X.prog X.w X.K X.mg X.base CX n g fd ps sp) (hr : Room n X.A) (hb : Binds X.K fd ps []) (hx : Passes CX X E) :
    OpR X (compareOp .Eq) (rOwnE X.K C sp E) := by
  intro pins s σ H x y v u Q I rx ry h
  obtain ⟨a, dx, fs, t, rfl, ha, hy, hn, q⟩ := h
  cases (show v = Value.ref a from rx)
  obtain ⟨mA, J, _⟩ := ins_get I.hok ha
  obtain ⟨od, J, _⟩ := J.look
  obtain ⟨P, Z, p, _⟩ := kit_of I ry hy
  obtain ⟨m, hF⟩ := I.fr
  show wpAny (model X.prog X.w) X.A (richCompare .Eq (.ref a) u) (EP X pins σ Q) X.xe s
  refine PySem.W.cmp_K (op := .Eq) (tb := t) hr.units0 hF I.ok.mod.kin J (Z.ty _ _ I.kIn p) hn hs hf ?_
  refine wpAny_mono (run_fn (us := [.ref a, u]) (vs := [.ref a, y]) F hr hb .nil hx I (.cons rfl (.cons ry .nil)) (by rw [List.append_nil]; exact q)) (fun w s' z => ?_) fun _ _ x => x
  obtain ⟨z', H', I', rz, qz⟩ := z
  exact SlX.cmpback rz ⟨z', H', I', rz, qz⟩
end
/-- a def that may raise, where it doesn't -/
theorem FnOk.calm {P : Program} {w : World} {K : PySem.W.Frag} {mg : Str → Option Value} {base : Heap} {k : Nat} {f : Addr} {fd : FuncData} {ps : List Str} {sp : Sp} (F : FnOk P w K mg base (L2.CX P w) k f fd ps sp) :
    FnOk P w K mg base CX0 k f fd ps (fun vs H Q _ => sp vs H Q fun _ _ _ => False) :=
  ⟨fun vs H Q _ h => F.len vs H Q _ h, fun A outer s H args us vs Q E hr he hb hv hs => codeAny_mono (F.run A outer s H args us vs Q (fun _ _ _ => False) hr he hb hv hs) fun r s' h => by
    cases r with
    | error e =>
      obtain ⟨_, _, _, _, _, _, _, _, _, _, _, _, z⟩ := (show L2.CX P w outer H s (fun _ _ _ => False) e s' from h)
      exact z.elim
    | ok fl => cases fl <;> exact h⟩
abbrev cm (sp : Sp) : Sp := fun vs H Q _ => sp vs H Q fun _ _ _ => False
theorem OkX.calm {P : Program} {w : World} {K : PySem.W.Frag} {mg : Str → Option Value} {base : Heap} {x : Str} {k : Nat} {ps : List Str} {sp : Sp} (o : OkX P w K mg base x k ps sp) : Ok P w K mg base x k ps (cm sp) := by
  obtain ⟨f, fd, F, h1, h2, h3⟩ := o.ex
  exact ⟨f, fd, FnOk.calm F, h1, h2, h3⟩
/-! keywords in the parameters' order -/
structure OkF (P : Program) (w : World) (K : PySem.W.Frag) (mg : Str → Option Value) (base : Heap) (x : Str) (k : Nat) (ps : List Str) (sp : Sp) : Prop where
  ex : ∃ f fd, FnOk P w K mg base CX0 k f fd ps sp ∧ mg x = some (.ref f) ∧ PySem.W.keepIn K (.ref f) = true ∧ KBn K fd ps 0 ps (fun _ ws => ws) (fun _ zs => zs)
theorem OkF.mk' {P : Program} {w : World} {K : PySem.W.Frag} {mg : Str → Option Value} {base : Heap} {x : Str} {k : Nat} {ps : List Str} {sp : Sp} {body : List Stmt} {params : Arguments} {scope : Scope} {f : Addr} {fd : FuncData}
    (F : FunD K x x params body scope [] [] f fd) (g : mg x = some (.ref f)) (b : ∀ (kV doc pm : Value) (an : Option Addr) (cdv ct : Value) (ws : List Value), ws.length = ps.length → bindArgs (PySem.W.fnOf x x params body scope .none kV doc pm an cdv ct) ⟨[], ps.zip ws⟩ = pure (ps.zip ws))
    (ok : FnOk P w K mg base CX0 k f fd ps sp) : OkF P w K mg base x k ps sp := by
  refine ⟨f, fd, ok, g, F.kp, ⟨fun s us ws _ l1 l2 => ?_, fun _ r => r⟩⟩
  obtain ⟨oc, od, dV, kV, doc, pm, an, cdv, ct, osl, rfl, lk, hcd, hD, hK⟩ := F.ex
  rcases hD with ⟨_, rfl⟩ | ⟨e, _⟩
  · obtain rfl := List.length_eq_zero_iff.mp l1
    exact .of_eq (b kV doc pm an cdv ct ws l2)
  · exact absurd rfl e
section
variable {X : Cx} {k : Nat} {ps : List Str} {sp : Sp} {x : Str} {kws : List Keyword} {tk : TA} {p pos : Pos}
theorem pe_callF (o : OkF X.prog X.w X.K X.mg X.base x k ps sp) (hr : Room k X.A) (hg : Gl X x) (hk : PK X kws tk) (hdb : (x == ("__debug__" : Str)) = false := by decide)
    (hall : (backToKw pos (keywordEach kws X.env)).all (·.1.isSome) = true := by rfl) (hks : (backToKw pos (keywordEach kws X.env)).filterMap (·.1) = ps := by rfl)
    (hpl : ((backTo pos (starEach [] X.env)).any (·.1) || (backToKw pos (keywordEach kws X.env)).any (·.1.isNone)) = false := by rfl) :
    PE X (.Call (.Name x p) [] kws pos) (fun σ H Q => tk σ H fun zs H1 => zs.length = ps.length ∧ sp zs H1 Q E0) := by
  obtain ⟨f, fd, F, hm, kp, B⟩ := o.ex
  refine ⟨fun pins s σ H Q I h => ?_⟩
  refine wpAny_Call_Name_kw (ld_glob I hg hm ?_ hdb)
  refine PySem.W.callWith_KW0 (h₀ := X.base) I.ok.mod.kin kp hall (thn (hk.run pos pins s σ H _ I h) fun ws s1 z => ?_) hpl
  obtain ⟨zs, H1, I1, r, l, q⟩ := z
  refine ⟨I1.kIn, ?_⟩
  rw [hks]
  exact run_fnN (us := []) (vs := []) F hr B pass0 I1 .nil r rfl l q
end
section
variable {X : Cx}
/-- [v, g] != [w, g], g the same object -/
def rNeI (K : PySem.W.Frag) : R2 := fun x y H Q => ∃ (a b : Addr) (v w z : V) (d e : PyData), x = .ref a ∧ y = .ref b ∧ H a = some (.lst [v, z]) ∧ H b = some (.lst [w, z]) ∧ (∃ g, z = .ref g) ∧ Dp K H v d ∧ Dp K H w e ∧ SeqAt.shaped d = true ∧ SeqAt.shaped e = true ∧ Q (.bl (!(PyData.eqv d e))) H
theorem op_neI (hu : X.A.units + 66 < cLine) : OpR X (compareOp .NotEq) (rNeI X.K) := by
  intro pins s σ H x y v u Q I rx ry h
  obtain ⟨a, b, v1, w1, z, d, e, rfl, rfl, ha, hb, ⟨g, rfl⟩, hd, he, sd, se, q⟩ := h
  cases (show v = Value.ref a from rx)
  cases (show u = Value.ref b from ry)
  obtain ⟨_, its, n, r, h1⟩ := (show ObjOk X.prog X.w H s.heap a (.lst [v1, .ref g]) from I.hok a _ ha)
  obtain ⟨_, its2, n2, r2, h2⟩ := (show ObjOk X.prog X.w H s.heap b (.lst [w1, .ref g]) from I.hok b _ hb)
  obtain ⟨u1, u2, rfl, rv, rg⟩ := vals2 r
  obtain ⟨u3, u4, rfl, rw1, rg2⟩ := vals2 r2
  cases (show u2 = Value.ref g from rg)
  cases (show u4 = Value.ref g from rg2)
  obtain ⟨as, r3⟩ := Dp.reads I d v1 u1 hd rv
  obtain ⟨bs, r4⟩ := Dp.reads I e w1 u3 he rw1
  have hl : s.heap.IsList a ([u1, Value.ref g].toArray) := ⟨_, h1, rfl, _, rfl⟩
  have hl2 : s.heap.IsList b ([u3, Value.ref g].toArray) := ⟨_, h2, rfl, _, rfl⟩
  have key := SeqAt.RcNeAt.lists (A := X.A) (e := fun j => if j = 0 then PyData.eqv d e else true) hl hl2 rfl (by omega) (fun j j1 j2 => by
    match j, j1, j2 with
    | 0, _, _ =>
      refine SeqAt.eqAt_reads d e X.A.in1 s u1 u3 as bs r3 r4 (SeqAt.canLay_of_shaped sd) (SeqAt.canLay_of_shaped se) (SeqAt.room_of_shaped sd ?_)
      show X.A.units + 1 + 64 < cLine
      omega
    | 1, _, _ => exact SeqAt.EqAt.same _
    | j + 2, j1, _ => exact absurd j1 (by show ¬ (j + 2 < 2); omega))
  show wpAny (model X.prog X.w) X.A (richCompare .NotEq (.ref a) (.ref b)) (EP X pins σ Q) X.xe s
  have e1 : (!(List.range ([u1, Value.ref g].toArray).size).all fun j => if j = 0 then PyData.eqv d e else true) = !(PyData.eqv d e) := by
    show (!((if (0 : Nat) = 0 then PyData.eqv d e else true) && ((if (1 : Nat) = 0 then PyData.eqv d e else true) && true))) = _
    rw [if_pos rfl, if_neg (by decide)]
    cases PyData.eqv d e <;> rfl
  rw [e1] at key
  exact key X.prog X.w _ _ ⟨.bl _, H, I, rfl, q⟩
end
end XV
set_option Elab.async false
set_option linter.all false
set_option maxRecDepth 100000
set_option maxHeartbeats 4000000
/-! f(k = v, ..) in a try, the names in the parameters' order turned round; f may raise. -/
namespace XV
open PySem PySem.Spec PyProof.Rows L2
structure OkKX (P : Program) (w : World) (K : PySem.W.Frag) (mg : Str → Option Value) (base : Heap) (x : Str) (k : Nat) (ps : List Str) (sp : Sp) : Prop where
  ex : ∃ f fd, FnOk P w K mg base (L2.CX P w) k f fd ps sp ∧ mg x = some (.ref f) ∧ PySem.W.keepIn K (.ref f) = true ∧ KBn K fd ps 0 ps.reverse (fun _ ws => ws.reverse) (fun _ zs => zs.reverse)
theorem OkKX.mk' {P : Program} {w : World} {K : PySem.W.Frag} {mg : Str → Option Value} {base : Heap} {x : Str} {k : Nat} {ps : List Str} {sp : Sp} {body : List Stmt} {params : Arguments} {scope : Scope} {f : Addr} {fd : FuncData}
    (F : FunD K x x params body scope [] [] f fd) (g : mg x = some (.ref f)) (b : ∀ (kV doc pm : Value) (an : Option Addr) (cdv ct : Value) (ws : List Value), ws.length = ps.length → bindArgs (PySem.W.fnOf x x params body scope .none kV doc pm an cdv ct) ⟨[], ps.reverse.zip ws⟩ = pure (ps.zip ws.reverse))
    (ok : FnOk P w K mg base (L2.CX P w) k f fd ps sp) : OkKX P w K mg base x k ps sp := by
  refine ⟨f, fd, ok, g, F.kp, ⟨fun s us ws _ l1 l2 => ?_, fun _ r => vals_rev r⟩⟩
  obtain ⟨oc, od, dV, kV, doc, pm, an, cdv, ct, osl, rfl, lk, hcd, hD, hK⟩ := F.ex
  rcases hD with ⟨_, rfl⟩ | ⟨e, _⟩
  · obtain rfl := List.length_eq_zero_iff.mp l1
    exact .of_eq (b kV doc pm an cdv ct ws (by rw [l2, List.length_reverse]))
  · exact absurd rfl e
theorem OkKX.calm {P : Program} {w : World} {K : PySem.W.Frag} {mg : Str → Option Value} {base : Heap} {x : Str} {k : Nat} {ps : List Str} {sp : Sp} (o : OkKX P w K mg base x k ps sp) : OkK P w K mg base x k ps (cm sp) := by
  obtain ⟨f, fd, F, h1, h2, h3⟩ := o.ex
  exact ⟨f, fd, FnOk.calm F, h1, h2, h3⟩
section
variable {X : Cx} {CX : CXT} {k n : Nat} {f : Addr} {fd : FuncData} {ps ks : List Str} {sp : Sp} {E : L2.St → XK} {x : Str} {p pos : Pos} {kws : List Keyword} {tk : TA} {g : List Value → List Value → List Value} {gV : List V → List V → List V} {W : WX}
theorem run_fnNS {pins : List (Addr × Obj)} {σ : L2.St} {H : Hp} {s : Shared} {Q : VK} {us ws : List Value} {vs zs : List V} (F : FnOk X.prog X.w X.K X.mg X.base CX k f fd ps sp) (hr : Room k X.A) (hb : KBn X.K fd ps n ks g gV) (hx : PassesAt CX X σ (E σ))
    (I : Inv X pins σ H s) (r : Vals vs us) (rz : Vals zs ws) (l1 : vs.length = n) (l2 : zs.length = ks.length) (h : sp (gV vs zs) H Q (E σ)) : wpAny (model X.prog X.w) X.A (call (.ref f) us (ks.zip ws)) (EP X pins σ Q) X.xe s := by
  have r2 := hb.rel r rz
  refine wpAny_call (codeAny_mono (F.run X.A X.stack s H ⟨us, ks.zip ws⟩ (g us ws) (gV vs zs) Q (E σ) hr I.env0 (hb.to s us ws I.kIn (r.length.symm.trans l1) (rz.length.symm.trans l2)) r2 h) fun r s' hq => ?_)
  cases r with
  | error e => exact hx pins H s e s' I hq
  | ok fl =>
    cases fl with
    | ret u => exact I.after hq
    | next => exact False.elim hq
    | brk => exact False.elim hq
    | cont => exact False.elim hq
theorem pe_callKT (o : OkKX X.prog X.w X.K X.mg X.base x k ps sp) (tk_ : Takes X W) (hr : Room k X.A) (hg : Gl X x) (hk : PK X kws tk) (hdb : (x == ("__debug__" : Str)) = false := by decide)
    (hall : (backToKw pos (keywordEach kws X.env)).all (·.1.isSome) = true := by rfl) (hks : (backToKw pos (keywordEach kws X.env)).filterMap (·.1) = ps.reverse := by rfl)
    (hpl : ((backTo pos (starEach [] X.env)).any (·.1) || (backToKw pos (keywordEach kws X.env)).any (·.1.isNone)) = false := by rfl) :
    PE X (.Call (.Name x p) [] kws pos) (fun σ H Q => tk σ H fun zs H1 => zs.length = ps.reverse.length ∧ sp zs.reverse H1 Q (WE W σ)) := by
  obtain ⟨f, fd, F, hm, kp, B⟩ := o.ex
  refine ⟨fun pins s σ H Q I h => ?_⟩
  refine wpAny_Call_Name_kw (ld_glob I hg hm ?_ hdb)
  refine PySem.W.callWith_KW0 (h₀ := X.base) I.ok.mod.kin kp hall (thn (hk.run pos pins s σ H _ I h) fun ws s1 z => ?_) hpl
  obtain ⟨zs, H1, I1, r, l, q⟩ := z
  refine ⟨I1.kIn, ?_⟩
  rw [hks]
  exact run_fnNS (E := WE W) (us := []) (vs := []) F hr B (passAt tk_ σ) I1 .nil r rfl l q
end
end XV
set_option Elab.async false
set_option linter.all false
set_option maxRecDepth 100000
set_option maxHeartbeats 4000000
namespace KF
open PySem PySem.Spec PyProof.Rows L2 XV
abbrev sWhole : Stmt := top 9
abbrev sCount : Stmt := top 10
abbrev sBelow : Stmt := top 11
abbrev sLetters : Stmt := top 12
abbrev sIsWord : Stmt := top 13
theorem scWhole : FnScope ["value"] ["value"] (defScope sWhole) := ⟨rfl, rfl, rfl, by decide +kernel, rfl, by decide +kernel, by decide +kernel⟩
theorem scCount : FnScope ["value"] ["value"] (defScope sCount) := ⟨rfl, rfl, rfl, by decide +kernel, rfl, by decide +kernel, by decide +kernel⟩
theorem scBelow : FnScope ["bound", "value"] ["bound", "value"] (defScope sBelow) := ⟨rfl, rfl, rfl, by decide +kernel, rfl, by decide +kernel, by decide +kernel⟩
theorem scLetters : FnScope ["value"] ["value"] (defScope sLetters) := ⟨rfl, rfl, rfl, by decide +kernel, rfl, by decide +kernel, by decide +kernel⟩
theorem scIsWord : FnScope ["value"] ["value"] (defScope sIsWord) := ⟨rfl, rfl, rfl, by decide +kernel, rfl, by decide +kernel, by decide +kernel⟩
/-- a value whose kind is known -/
inductive Kn (H : Hp) : V → Prop
  | int (i : Int) : Kn H (.int i)
  | non : Kn H .non
  | bl (b : Bool) : Kn H (.bl b)
  | str (z : Str) : Kn H (.str z)
  | lst {a : Addr} {xs : List V} (h : H a = some (.lst xs)) : Kn H (.ref a)
  | tup {a : Addr} {xs : List V} (h : H a = some (.tup xs)) : Kn H (.ref a)
theorem Kn.keep {H H' : Hp} (s : Same H H') {v : V} (h : Kn H v) : Kn H' v := by
  cases h with
  | int i => exact .int i
  | non => exact .non
  | bl b => exact .bl b
  | str z => exact .str z
  | lst h => exact .lst (s _ _ h)
  | tup h => exact .tup (s _ _ h)
/-- a whole number, a count -/
def whV : V → Bool
  | .int _ => true
  | _ => false
def cntV : V → Bool
  | .int i => decide (0 ≤ i)
  | _ => false
def belV (b : Int) : V → Bool
  | .int i => decide (0 ≤ i) && decide (i < b)
  | _ => false
def spWhole : Sp := fun vs H Q _ => ∃ v, vs = [v] ∧ Kn H v ∧ Q (.bl (whV v)) H
def spCount : Sp := fun vs H Q _ => ∃ v, vs = [v] ∧ Kn H v ∧ Q (.bl (cntV v)) H
def spBelow : Sp := fun vs H Q _ => ∃ b v, vs = [.int b, v] ∧ Kn H v ∧ Q (.bl (belV b v)) H
def lowS (z : Str) : Bool := decide (z = "") || (Txt.isascii z && (Txt.isalpha z && Txt.islower z))
def lowV : L2.V → Bool
  | .str z => lowS z
  | _ => false
def spLow : Sp := fun vs H Q _ => ∃ v, vs = [v] ∧ Kn H v ∧ Q (.bl (lowV v)) H
/-- a word of the program: letters, at most 20000 -/
def wordV : L2.V → Bool
  | .str z => lowS z && decide (z.length ≤ 20000)
  | _ => false
def spIsWord : Sp := fun vs H Q _ => ∃ v, vs = [v] ∧ Kn H v ∧ (∀ z, v = .str z → z.length ≤ 100000) ∧ Q (.bl (wordV v)) H
section
variable {P : Program} {w : World} {K : PySem.W.Frag} {mg : Str → Option Value} {base : Heap} {f : Addr} {fd : FuncData}
theorem ok_whole (F : FnP K "is_whole" sWhole f fd) (z_isinstance : mg "isinstance" = none) (z_int : mg "int" = none) (z_bool : mg "bool" = none) : FnOk P w K mg base CX0 1 f fd ["value"] spWhole := by
  refine F.ok scWhole (fun vs H Q E h => ?_) (fun cdv A outer s H vs Q E hr h => ?_)
  · obtain ⟨v, rfl, _⟩ := h
    rfl
  · obtain ⟨v, rfl, kv, q⟩ := h
    refine ⟨_, PSs.nox (pss_one (ps_ret (pe_and (pe_callB call_isi (by rfl) z_isinstance (by decide +kernel) (pa_cons (pv 0) (pa_cons (pe_bltn (v := .ty "int") (by rfl) z_int (by decide +kernel) rfl) pa_nil))) (pe_one (pe_not (pe_callB call_isi (by rfl) z_isinstance (by decide +kernel) (pa_cons (pv 0) (pa_cons (pe_bltn (v := .ty "bool") (by rfl) z_bool (by decide +kernel) rfl) pa_nil)))))))), ?_⟩
    cases kv with
    | int i => exact ⟨_, rfl, _, _, _, _, true, rfl, .ty "int", .base (.int i), kit_ty (by decide +kernel), true, rfl, _, rfl, _, _, _, _, false, rfl, .ty "bool", .base (.int i), kit_ty (by decide +kernel), false, rfl, q⟩
    | bl b => exact ⟨_, rfl, _, _, _, _, true, rfl, .ty "int", .base (.bl b), kit_ty (by decide +kernel), true, rfl, _, rfl, _, _, _, _, true, rfl, .ty "bool", .base (.bl b), kit_ty (by decide +kernel), true, rfl, q⟩
    | non => exact ⟨_, rfl, _, _, _, _, false, rfl, .ty "int", .base .non, kit_ty (by decide +kernel), false, rfl, iteF q⟩
    | str z => exact ⟨_, rfl, _, _, _, _, false, rfl, .ty "int", .base (.str z), kit_ty (by decide +kernel), false, rfl, iteF q⟩
    | lst h => exact ⟨_, rfl, _, _, _, _, false, rfl, .ty "int", .base (.lst h), kit_ty (by decide +kernel), false, rfl, iteF q⟩
    | tup h => exact ⟨_, rfl, _, _, _, _, false, rfl, .ty "int", .base (.tup h), kit_ty (by decide +kernel), false, rfl, iteF q⟩
theorem ok_count (F : FnP K "is_count" sCount f fd) (o_is_whole : Ok P w K mg base "is_whole" 1 ["value"] spWhole) : FnOk P w K mg base CX0 2 f fd ["value"] spCount := by
  refine F.ok scCount (fun vs H Q E h => ?_) (fun cdv A outer s H vs Q E hr h => ?_)
  · obtain ⟨v, rfl, _⟩ := h
    rfl
  · obtain ⟨v, rfl, kv, q⟩ := h
    refine ⟨_, PSs.nox (pss_one (ps_ret (pe_and (pe_callO o_is_whole (hr.mono (by decide)) (by rfl) (pa_cons (pv 0) pa_nil)) (pe_one (pe_cmpR op_ge (pv 0) pe_int (nomark _)))))), ?_⟩
    have k2 := kv
    cases kv with
    | int i => exact ⟨_, rfl, _, rfl, k2, true, rfl, _, rfl, _, _, rfl, rfl, q⟩
    | bl b => exact ⟨_, rfl, _, rfl, k2, false, rfl, iteF q⟩
    | non => exact ⟨_, rfl, _, rfl, k2, false, rfl, iteF q⟩
    | str z => exact ⟨_, rfl, _, rfl, k2, false, rfl, iteF q⟩
    | lst h => exact ⟨_, rfl, _, rfl, k2, false, rfl, iteF q⟩
    | tup h => exact ⟨_, rfl, _, rfl, k2, false, rfl, iteF q⟩
theorem ok_below (F : FnP K "is_count_below" sBelow f fd) (o_is_count : Ok P w K mg base "is_count" 2 ["value"] spCount) : FnOk P w K mg base CX0 3 f fd ["bound", "value"] spBelow := by
  refine F.ok scBelow (fun vs H Q E h => ?_) (fun cdv A outer s H vs Q E hr h => ?_)
  · obtain ⟨b, v, rfl, _⟩ := h
    rfl
  · obtain ⟨b, v, rfl, kv, q⟩ := h
    refine ⟨_, PSs.nox (pss_one (ps_ret (pe_and (pe_callO o_is_count (hr.mono (by decide)) (by rfl) (pa_cons (pv 1) pa_nil)) (pe_one (pe_cmpR op_lt (pv 1) (pv 0) (nomark _)))))), ?_⟩
    have k2 := kv
    cases kv with
    | int i =>
      refine ⟨_, rfl, _, rfl, k2, _, rfl, ?_⟩
      by_cases c : 0 ≤ i
      · have e : cntV (.int i) = true := decide_eq_true c
        rw [e]
        have e2 : belV b (.int i) = decide (i < b) := by
          show (decide (0 ≤ i) && decide (i < b)) = _
          rw [decide_eq_true c]
          rfl
        rw [e2] at q
        exact iteT ⟨_, rfl, _, rfl, _, _, rfl, rfl, q⟩
      · have e : cntV (.int i) = false := decide_eq_false c
        rw [e]
        have e2 : belV b (.int i) = false := by
          show (decide (0 ≤ i) && decide (i < b)) = _
          rw [decide_eq_false c]
          rfl
        rw [e2] at q
        exact iteF q
    | bl z => exact ⟨_, rfl, _, rfl, k2, false, rfl, iteF q⟩
    | non => exact ⟨_, rfl, _, rfl, k2, false, rfl, iteF q⟩
    | str z => exact ⟨_, rfl, _, rfl, k2, false, rfl, iteF q⟩
    | lst h => exact ⟨_, rfl, _, rfl, k2, false, rfl, iteF q⟩
    | tup h => exact ⟨_, rfl, _, rfl, k2, false, rfl, iteF q⟩
theorem ok_low (F : FnP K "is_string_of_letters" sLetters f fd) (z_isinstance : mg "isinstance" = none) (z_str : mg "str" = none) : FnOk P w K mg base CX0 1 f fd ["value"] spLow := by
  refine F.ok scLetters (fun vs H Q E h => ?_) (fun cdv A outer s H vs Q E hr h => ?_)
  · obtain ⟨v, rfl, _⟩ := h
    rfl
  · obtain ⟨v, rfl, kv, q⟩ := h
    refine ⟨_, PSs.nox (pss_cons (ps_if (pt_not (pt_val (pe_callB call_isi (by rfl) z_isinstance (by decide +kernel) (pa_cons (pv 0) (pa_cons (pe_bltn (v := .ty "str") (by rfl) z_str (by decide +kernel) rfl) pa_nil))))) (pss_one (ps_ret pe_bl)) pss_nil)
 (pss_one (ps_ret (pe_or (pe_cmpR op_eq (pv 0) pe_str (nomark _)) (pe_one (pe_and (pe_m0 PySem.F.slot_str_isascii PySem.F.type_str_isascii mt_isascii (pv 0)) (pe_and (pe_m0 PySem.F.slot_str_isalpha PySem.F.type_str_isalpha mt_isalpha (pv 0)) (pe_one (pe_m0 PySem.F.slot_str_islower PySem.F.type_str_islower mt_islower (pv 0)))))))))), ?_⟩
    cases kv with
    | int i => exact ⟨_, rfl, _, _, _, _, false, rfl, .ty "str", .base (.int i), kit_ty (by decide +kernel), false, rfl, iteT q⟩
    | bl b => exact ⟨_, rfl, _, _, _, _, false, rfl, .ty "str", .base (.bl b), kit_ty (by decide +kernel), false, rfl, iteT q⟩
    | non => exact ⟨_, rfl, _, _, _, _, false, rfl, .ty "str", .base .non, kit_ty (by decide +kernel), false, rfl, iteT q⟩
    | lst h => exact ⟨_, rfl, _, _, _, _, false, rfl, .ty "str", .base (.lst h), kit_ty (by decide +kernel), false, rfl, iteT q⟩
    | tup h => exact ⟨_, rfl, _, _, _, _, false, rfl, .ty "str", .base (.tup h), kit_ty (by decide +kernel), false, rfl, iteT q⟩
    | str z =>
      refine ⟨_, rfl, _, _, _, _, true, rfl, .ty "str", .base (.str z), kit_ty (by decide +kernel), true, rfl, iteF ⟨_, rfl, rfl, decide (V.str z = V.str ""), rfl, ?_⟩⟩
      by_cases e : z = ""
      · subst e
        rw [decide_eq_true rfl]
        exact iteT q
      · have ne : ¬ V.str z = V.str "" := fun x => e (V.str.inj x)
        have el : lowV (.str z) = (Txt.isascii z && (Txt.isalpha z && Txt.islower z)) := by
          show (decide (z = "") || _) = _
          rw [decide_eq_false e, Bool.false_or]
        rw [el] at q
        rw [decide_eq_false ne]
        refine iteF ⟨_, rfl, ⟨_, rfl⟩, _, rfl, rfl, trivial, Txt.isascii z, rfl, ?_⟩
        cases ea : Txt.isascii z with
        | false =>
          rw [ea] at q
          exact iteF q
        | true =>
          rw [ea, Bool.true_and] at q
          refine iteT ⟨_, rfl, ⟨_, rfl⟩, _, rfl, rfl, trivial, Txt.isalpha z, rfl, ?_⟩
          cases eb : Txt.isalpha z with
          | false =>
            rw [eb] at q
            exact iteF q
          | true =>
            rw [eb, Bool.true_and] at q
            exact iteT ⟨_, rfl, ⟨_, rfl⟩, _, rfl, rfl, trivial, q⟩
theorem ok_isWord (F : FnP K "is_word" sIsWord f fd) (o_low : Ok P w K mg base "is_string_of_letters" 1 ["value"] spLow) (z_len : mg "len" = none) {tM : Tok} (h_LW : mg "LONGEST_WORD" = some (.int 20000 tM)) : FnOk P w K mg base CX0 2 f fd ["value"] spIsWord := by
  refine F.ok scIsWord (fun vs H Q E h => ?_) (fun cdv A outer s H vs Q E hr h => ?_)
  · obtain ⟨v, rfl, _⟩ := h
    rfl
  · obtain ⟨v, rfl, kv, lv, q⟩ := h
    have r1 : Room 1 (A.deeper (envOfC "is_word" (defScope sIsWord) s.heap.objs.size f cdv)) := hr
    have szl := sizeLine_eq
    refine ⟨_, PSs.nox (pss_one (ps_ret (pe_and (pe_callO o_low r1 (by rfl) (pa_cons (pv 0) pa_nil)) (pe_one (pe_cmpR op_le (pe_callB call_len_str (by rfl) z_len boot_len (pa_cons (pv 0) pa_nil)) (pe_glob (v := .int 20000) (by rfl) h_LW ⟨_, rfl⟩) (nomark _)))))), ?_⟩
    refine ⟨_, rfl, v, rfl, kv, ?_⟩
    cases v with
    | str z =>
      have lz := lv z rfl
      have e : wordV (.str z) = (lowS z && decide (z.length ≤ 20000)) := rfl
      rw [e] at q
      show ∃ b, V.bl (lowS z) = .bl b ∧ _
      cases c : lowS z with
      | false =>
        rw [c] at q
        exact ⟨false, rfl, iteF q⟩
      | true =>
        rw [c, Bool.true_and] at q
        refine ⟨true, rfl, iteT ⟨_, rfl, z, rfl, by omega, _, _, rfl, rfl, ?_⟩⟩
        have e2 : decide ((z.length : Int) ≤ 20000) = decide (z.length ≤ 20000) := decide_eq_decide.mpr ⟨fun h => by omega, fun h => by omega⟩
        show Q (.bl (decide ((z.length : Int) ≤ 20000))) H
        rw [e2]
        exact q
    | _ => exact ⟨false, rfl, iteF q⟩
end
end KF
set_option Elab.async false
set_option linter.all false
set_option maxRecDepth 100000
set_option maxHeartbeats 4000000
/-! Least thresholds and periods of a sequence that repeats: of lists and numbers, no program. -/
namespace NQ
section
variable {β : Type} [DecidableEq β]
/-- the steps that lead a cycle to itself -/
def isPer (cy : List β) (k : Nat) : Bool := decide (cy.length % k = 0) && decide (cy.drop k = cy.take (cy.length - k))
def pers (cy : List β) : List Nat := (List.range' 1 cy.length).filter (isPer cy)
def per1 (cy : List β) : Nat := (pers cy).headD 0
/-- s repeats by d from t on -/
def Rep (s : Nat → β) (t d : Nat) : Prop := ∀ c, t ≤ c → s (c + d) = s c
theorem Rep.mul {s : Nat → β} {t d : Nat} (h : Rep s t d) : ∀ n c, t ≤ c → s (c + d * n) = s c
  | 0, c, _ => by rw [Nat.mul_zero, Nat.add_zero]
  | n + 1, c, hc => by
    rw [Nat.mul_succ, ← Nat.add_assoc, h (c + d * n) (by omega), Rep.mul h n c hc]
theorem Rep.later {s : Nat → β} {t t' d : Nat} (h : Rep s t d) (l : t ≤ t') : Rep s t' d := fun c hc => h c (by omega)
/-- a repeat from somewhere on holds from where another one begins -/
theorem Rep.back {s : Nat → β} {t p T d : Nat} (hp : 1 ≤ p) (h : Rep s t p) (k : Rep s T d) : Rep s t d := fun c hc => by
  have a : T ≤ c + p * T := by
    have := Nat.mul_le_mul_right T hp
    omega
  have e1 := h.mul T c hc
  have e2 := h.mul T (c + d) (by omega)
  have e3 := k (c + p * T) a
  rw [← e2, ← e1, ← e3]
  congr 1
  omega
/-- what is left of one repeat behind another -/
theorem Rep.mod {s : Nat → β} {t p d : Nat} (h : Rep s t p) (k : Rep s t d) : Rep s t (p % d) := fun c hc => by
  have e1 := k.mul (p / d) (c + p % d) (by omega)
  have e2 := h c hc
  rw [← e1, ← e2]
  congr 1
  have := Nat.mod_add_div p d
  omega
/-- the table of one cycle -/
def cyc (s : Nat → β) (t p : Nat) : List β := (List.range p).map fun i => s (t + i)
theorem cyc_len (s : Nat → β) (t p : Nat) : (cyc s t p).length = p := by simp [cyc]
theorem cyc_get (s : Nat → β) (t p i : Nat) (h : i < p) : (cyc s t p)[i]? = some (s (t + i)) := by simp [cyc, h]
theorem isPer_iff {s : Nat → β} {t p k : Nat} (hk : 1 ≤ k) (hkp : k ≤ p) (h : Rep s t p) : isPer (cyc s t p) k = true ↔ p % k = 0 ∧ Rep s t k := by
  unfold isPer
  rw [Bool.and_eq_true, decide_eq_true_eq, decide_eq_true_eq, cyc_len]
  constructor
  · rintro ⟨e, hl⟩
    refine ⟨e, ?_⟩
    have base : ∀ i, i + k < p → s (t + i + k) = s (t + i) := fun i hi => by
      have := congrArg (fun l => l[i]?) hl
      simp only [List.getElem?_drop, List.getElem?_take] at this
      rw [cyc_get _ _ _ _ (by omega), if_pos (by omega), cyc_get _ _ _ _ (by omega)] at this
      have := Option.some.inj this
      rw [← this]
      congr 1
      omega
    -- within the cycle by steps of k
    have up : ∀ n i, i + k * n < p → s (t + i + k * n) = s (t + i) := by
      intro n
      induction n with
      | zero => intro i _; rw [Nat.mul_zero, Nat.add_zero]
      | succ n ih =>
        intro i hi
        rw [Nat.mul_succ] at hi ⊢
        have e1 := base (i + k * n) (by omega)
        have e2 := ih i (by omega)
        have e3 : t + i + (k * n + k) = t + (i + k * n) + k := by omega
        rw [← e2, e3, e1, ← Nat.add_assoc]
    have one : ∀ i, i < p → s (t + i + k) = s (t + i) := fun i hi => by
      by_cases c : i + k < p
      · exact base i c
      · have hj : i + k - p < k := by omega
        have e3 := h (t + (i + k - p)) (by omega)
        have e4 : t + i + k = t + (i + k - p) + p := by omega
        rw [e4, e3]
        -- i = (i + k - p) + k * n
        obtain ⟨n, hn⟩ : ∃ n, p = k * n := ⟨p / k, by have := Nat.mod_add_div p k; omega⟩
        have n1 : 1 ≤ n := by
          rcases n with _ | n
          · rw [Nat.mul_zero] at hn; omega
          · omega
        have e5 : k * (n - 1) + k = p := by
          rw [hn, ← Nat.mul_succ]
          congr 1
          omega
        have e6 := up (n - 1) (i + k - p) (by omega)
        rw [← e6]
        congr 1
        omega
    intro c hc
    have e7 : c = t + (c - t) % p + p * ((c - t) / p) := by
      have := Nat.mod_add_div (c - t) p
      omega
    have lt : (c - t) % p < p := Nat.mod_lt _ (by omega)
    have e8 := h.mul ((c - t) / p) (t + (c - t) % p) (by omega)
    have e9 := h.mul ((c - t) / p) (t + (c - t) % p + k) (by omega)
    rw [e7, e8, ← one _ lt, ← e9]
    congr 1
    omega
  · rintro ⟨e, hr⟩
    refine ⟨e, ?_⟩
    apply List.ext_getElem?
    intro i
    rw [List.getElem?_drop, List.getElem?_take]
    by_cases c : i < p - k
    · rw [if_pos c, cyc_get _ _ _ _ (by omega), cyc_get _ _ _ _ (by omega)]
      have := hr (t + i) (by omega)
      rw [← this]
      congr 2
      omega
    · rw [if_neg c]
      exact List.getElem?_eq_none (by rw [cyc_len]; omega)
theorem mem_pers {s : Nat → β} {t p k : Nat} (h : Rep s t p) : k ∈ pers (cyc s t p) ↔ 1 ≤ k ∧ k ≤ p ∧ p % k = 0 ∧ Rep s t k := by
  unfold pers
  rw [List.mem_filter, List.mem_range'_1, cyc_len]
  constructor
  · rintro ⟨⟨a, b⟩, c⟩
    exact ⟨a, by omega, (isPer_iff a (by omega) h).mp c⟩
  · rintro ⟨a, b, c⟩
    exact ⟨⟨a, by omega⟩, (isPer_iff a b h).mpr c⟩
theorem head_least : ∀ {l : List Nat}, l.Pairwise (· < ·) → ∀ x ∈ l, l.headD 0 ∈ l ∧ l.headD 0 ≤ x
  | [], _, _, h => by cases h
  | a :: l, h, x, hx => by
    refine ⟨List.mem_cons_self, ?_⟩
    rcases List.mem_cons.mp hx with rfl | hx
    · exact Nat.le_refl _
    · exact Nat.le_of_lt ((List.pairwise_cons.mp h).1 x hx)
theorem pers_lt (cy : List β) : (pers cy).Pairwise (· < ·) := List.Pairwise.filter _ List.pairwise_lt_range'
/-- the least period is one, and the least of all -/
theorem per1_ok {s : Nat → β} {t p : Nat} (hp : 1 ≤ p) (h : Rep s t p) : 1 ≤ per1 (cyc s t p) ∧ per1 (cyc s t p) ≤ p ∧ p % per1 (cyc s t p) = 0 ∧ Rep s t (per1 (cyc s t p)) := by
  have hm : p ∈ pers (cyc s t p) := (mem_pers h).mpr ⟨hp, Nat.le_refl _, Nat.mod_self p, h⟩
  exact (mem_pers h).mp (head_least (pers_lt _) p hm).1
theorem per1_le0 {s : Nat → β} {t p : Nat} (hp : 1 ≤ p) (h : Rep s t p) : ∀ d, 1 ≤ d → Rep s t d → per1 (cyc s t p) ≤ d := by
  intro d
  induction d using Nat.strongRecOn with
  | _ d ih =>
    intro hd k
    by_cases c : p % d = 0
    · by_cases l : d ≤ p
      · exact (head_least (pers_lt _) d ((mem_pers h).mpr ⟨hd, l, c, k⟩)).2
      · exact Nat.le_trans (per1_ok hp h).2.1 (by omega)
    · have lt : p % d < d := Nat.mod_lt _ (by omega)
      exact Nat.le_trans (ih (p % d) lt (by omega) (h.mod k)) (by omega)
theorem per1_le {s : Nat → β} {t p T d : Nat} (hp : 1 ≤ p) (h : Rep s t p) (hd : 1 ≤ d) (k : Rep s T d) : per1 (cyc s t p) ≤ d := per1_le0 hp h d hd (Rep.back hp h k)
/-- where the repeat begins -/
def thr (s : Nat → β) (q : Nat) : Nat → Nat
  | 0 => 0
  | t + 1 => if s t = s (t + q) then thr s q t else t + 1
theorem thr_le (s : Nat → β) (q : Nat) : ∀ t, thr s q t ≤ t
  | 0 => Nat.le_refl 0
  | t + 1 => by
    unfold thr
    split
    · exact Nat.le_succ_of_le (thr_le s q t)
    · exact Nat.le_refl _
theorem thr_rep (s : Nat → β) (q : Nat) : ∀ t, Rep s t q → Rep s (thr s q t) q
  | 0, h => h
  | t + 1, h => by
    unfold thr
    split
    · rename_i e
      refine thr_rep s q t fun c hc => ?_
      by_cases l : t = c
      · rw [← l, e]
      · exact h c (by omega)
    · exact h
theorem thr_least (s : Nat → β) (q : Nat) : ∀ t T, Rep s T q → thr s q t ≤ T
  | 0, _, _ => Nat.zero_le _
  | t + 1, T, k => by
    unfold thr
    split
    · exact thr_least s q t T k
    · rename_i e
      apply Nat.le_of_not_lt
      intro l
      exact e (k t (by omega)).symm
/-- the least limit of a sequence: its threshold and its period -/
def lim1 (s : Nat → β) (t p : Nat) : Nat × Nat := (thr s (per1 (cyc s t p)) t, per1 (cyc s t p))
theorem lim1_ok {s : Nat → β} {t p : Nat} (hp : 1 ≤ p) (h : Rep s t p) : (lim1 s t p).1 ≤ t ∧ 1 ≤ (lim1 s t p).2 ∧ p % (lim1 s t p).2 = 0 ∧ Rep s (lim1 s t p).1 (lim1 s t p).2 := by
  obtain ⟨h1, _, h3, h4⟩ := per1_ok hp h
  exact ⟨thr_le _ _ _, h1, h3, thr_rep _ _ _ h4⟩
end
/-- two sequences that tell the same places apart have the same least limit -/
theorem lim1_eq {β γ : Type} [DecidableEq β] [DecidableEq γ] {s : Nat → β} {u : Nat → γ} {t p t2 p2 : Nat} (hp : 1 ≤ p) (h : Rep s t p) (hp2 : 1 ≤ p2) (h2 : Rep u t2 p2) (e : ∀ c d, s c = s d ↔ u c = u d) : lim1 s t p = lim1 u t2 p2 := by
  have su : ∀ {T d}, Rep s T d ↔ Rep u T d := fun {T d} => ⟨fun k c hc => (e _ _).mp (k c hc), fun k c hc => (e _ _).mpr (k c hc)⟩
  obtain ⟨a1, _, _, a4⟩ := per1_ok hp h
  obtain ⟨b1, _, _, b4⟩ := per1_ok hp2 h2
  have ep : per1 (cyc s t p) = per1 (cyc u t2 p2) := Nat.le_antisymm (per1_le hp h b1 (su.mpr b4)) (per1_le hp2 h2 a1 (su.mp a4))
  have r1 := thr_rep s _ t a4
  have r2 := thr_rep u _ t2 b4
  have et : thr s (per1 (cyc s t p)) t = thr u (per1 (cyc u t2 p2)) t2 := Nat.le_antisymm (thr_least _ _ _ _ (su.mpr (by rw [ep]; exact r2))) (thr_least _ _ _ _ (su.mp (by rw [← ep]; exact r1)))
  exact Prod.ext et ep
end NQ
set_option Elab.async false
set_option linter.all false
set_option maxRecDepth 100000
set_option maxHeartbeats 4000000
/-! A map of at most 12 states, taken often: when it first repeats, and that its period is at most 60: of numbers, no program. -/
namespace NM
open NQ
/-- f, k times -/
def it (f : Nat → Nat) : Nat → Nat → Nat
  | 0, s => s
  | k + 1, s => f (it f k s)
theorem it_add (f : Nat → Nat) (a : Nat) : ∀ b s, it f (a + b) s = it f b (it f a s)
  | 0, _ => rfl
  | b + 1, s => congrArg f (it_add f a b s)
theorem it_comm (f : Nat → Nat) (a b s : Nat) : it f a (it f b s) = it f b (it f a s) := by
  rw [← it_add, ← it_add, Nat.add_comm]
theorem it_mul {f : Nat → Nat} {d u : Nat} (h : it f d u = u) : ∀ k, it f (d * k) u = u
  | 0 => rfl
  | k + 1 => by rw [Nat.mul_succ, it_add, it_mul h k, h]
theorem nodup_len : ∀ (l D : List Nat), l.Nodup → (∀ x ∈ l, x ∈ D) → l.length ≤ D.length
  | [], _, _, _ => Nat.zero_le _
  | a :: l, D, h, k => by
    obtain ⟨h1, h2⟩ := List.nodup_cons.mp h
    have ha := k a List.mem_cons_self
    have := nodup_len l (D.erase a) h2 fun x hx => by
      have hx' := k x (List.mem_cons_of_mem _ hx)
      exact (List.mem_erase_of_ne (fun e => h1 (by rw [← e]; exact hx))).mpr hx'
    rw [List.length_erase_of_mem ha] at this
    have := List.length_pos_of_mem ha
    rw [List.length_cons]
    omega
section
variable {f : Nat → Nat} {n : Nat} (hf : ∀ s, s < n → f s < n)
include hf
theorem it_lt : ∀ (k : Nat) {s : Nat}, s < n → it f k s < n
  | 0, _, h => h
  | k + 1, _, h => hf _ (it_lt k h)
/-- two of the first n + 1 states are the same -/
theorem pigeon {s : Nat} (hs : s < n) : ∃ i j, i < j ∧ j ≤ n ∧ it f i s = it f j s := by
  apply Classical.byContradiction
  intro h
  have nd : ((List.range (n + 1)).map fun k => it f k s).Nodup := by
    rw [List.Nodup, List.pairwise_map]
    refine List.Pairwise.imp_of_mem (fun {a b} ha hb hab e => ?_) List.pairwise_lt_range
    exact h ⟨a, b, hab, by have := List.mem_range.mp hb; omega, e⟩
  have := nodup_len _ (List.range n) nd fun x hx => by
    obtain ⟨k, _, rfl⟩ := List.mem_map.mp hx
    exact List.mem_range.mpr (it_lt hf k hs)
  rw [List.length_map, List.length_range, List.length_range] at this
  omega
end
/-- the length of the cycle that a state is on, 0 if it is on none -/
def per (f : Nat → Nat) (n u : Nat) : Nat := ((List.range' 1 n).find? fun d => decide (it f d u = u)).getD 0
theorem find_least {P : Nat → Bool} : ∀ (k lo p : Nat), (List.range' lo k).find? P = some p → lo ≤ p ∧ p < lo + k ∧ P p = true ∧ ∀ q, lo ≤ q → q < p → P q = false
  | 0, lo, p, h => by simp at h
  | k + 1, lo, p, h => by
    rw [List.range'_succ, List.find?_cons] at h
    cases e : P lo with
    | true =>
      rw [e] at h
      cases h
      exact ⟨Nat.le_refl _, by omega, e, fun q h1 h2 => by omega⟩
    | false =>
      rw [e] at h
      obtain ⟨h1, h2, h3, h4⟩ := find_least k (lo + 1) p h
      refine ⟨by omega, by omega, h3, fun q q1 q2 => ?_⟩
      by_cases c : q = lo
      · rw [c, e]
      · exact h4 q (by omega) q2
theorem per_some {f : Nat → Nat} {n u d : Nat} (h1 : 1 ≤ d) (h2 : d ≤ n) (h : it f d u = u) : 1 ≤ per f n u ∧ per f n u ≤ d ∧ it f (per f n u) u = u ∧ ∀ q, 1 ≤ q → q < per f n u → it f q u ≠ u := by
  unfold per
  cases e : (List.range' 1 n).find? fun d => decide (it f d u = u) with
  | none =>
    have := List.find?_eq_none.mp e d (List.mem_range'_1.mpr ⟨h1, by omega⟩)
    exact absurd (decide_eq_true h) this
  | some p =>
    obtain ⟨a, b, c, l⟩ := find_least _ _ _ e
    refine ⟨a, ?_, of_decide_eq_true c, fun q q1 q2 => of_decide_eq_false (l q q1 q2)⟩
    apply Nat.le_of_not_lt
    intro lt
    exact of_decide_eq_false (l d h1 lt) h
/-- sums of the lengths of different cycles -/
theorem count_sum {g : Nat → Nat} : ∀ (xs : List Nat) (l : List Nat), l.Nodup → (l.map fun d => xs.countP fun x => decide (g x = d)).sum ≤ xs.length
  | [], l, _ => by
    have : ∀ l : List Nat, (l.map fun d => ([] : List Nat).countP fun x => decide (g x = d)).sum = 0 := fun l => by
      induction l with
      | nil => rfl
      | cons a l ih => rw [List.map_cons, List.sum_cons, ih]; rfl
    rw [this]
    exact Nat.zero_le _
  | x :: xs, l, h => by
    have ih := count_sum (g := g) xs l h
    have e : ∀ l : List Nat, (l.map fun d => (x :: xs).countP fun x => decide (g x = d)).sum = (l.map fun d => xs.countP fun x => decide (g x = d)).sum + l.countP fun d => decide (g x = d) := fun l => by
      induction l with
      | nil => rfl
      | cons a l ih =>
        rw [List.map_cons, List.sum_cons, ih, List.map_cons, List.sum_cons, List.countP_cons, List.countP_cons]
        omega
    have one : l.countP (fun d => decide (g x = d)) ≤ 1 := by
      have := nodup_len (l.filter fun d => decide (g x = d)) [g x] (h.filter _) fun y hy => by
        have := of_decide_eq_true (List.mem_filter.mp hy).2
        rw [this]
        exact List.mem_singleton.mpr rfl
      rw [List.countP_eq_length_filter]
      exact this
    rw [e, List.length_cons]
    omega
/-- all lists of different lengths with a small sum have a small common multiple -/
def chk : List Nat → Nat → Nat → Bool
  | [], s, m => decide (12 < s) || decide (m ≤ 60)
  | x :: r, s, m => decide (12 < s) || (chk r s m && chk r (s + x) (Nat.lcm m x))
theorem chk_ok (b : Nat → Bool) : ∀ (l : List Nat) (s m : Nat), chk l s m = true → s + (l.filter b).sum ≤ 12 → (l.filter b).foldl Nat.lcm m ≤ 60
  | [], s, m, h, k => by
    simp only [chk, Bool.or_eq_true, decide_eq_true_eq] at h
    simp only [List.filter_nil, List.sum_nil, Nat.add_zero, List.foldl_nil] at k ⊢
    omega
  | x :: r, s, m, h, k => by
    simp only [chk, Bool.or_eq_true, Bool.and_eq_true, decide_eq_true_eq] at h
    cases e : b x with
    | true =>
      rw [List.filter_cons_of_pos e] at k ⊢
      rw [List.sum_cons] at k
      rw [List.foldl_cons]
      rcases h with h | h
      · omega
      · exact chk_ok b r (s + x) (Nat.lcm m x) h.2 (by omega)
    | false =>
      rw [List.filter_cons_of_neg (by rw [e]; exact Bool.false_ne_true)] at k ⊢
      rcases h with h | h
      · omega
      · exact chk_ok b r s m h.1 k
theorem chk12 : chk (List.range' 1 12) 0 1 = true := by decide +kernel
theorem foldl_dvd : ∀ (l : List Nat) (m : Nat), m ∣ l.foldl Nat.lcm m ∧ ∀ d ∈ l, d ∣ l.foldl Nat.lcm m
  | [], m => ⟨Nat.dvd_refl m, fun d hd => by cases hd⟩
  | x :: l, m => by
    rw [List.foldl_cons]
    obtain ⟨h1, h2⟩ := foldl_dvd l (Nat.lcm m x)
    refine ⟨Nat.dvd_trans (Nat.dvd_lcm_left m x) h1, fun d hd => ?_⟩
    rcases List.mem_cons.mp hd with rfl | hd
    · exact Nat.dvd_trans (Nat.dvd_lcm_right m d) h1
    · exact h2 d hd
theorem foldl_pos : ∀ (l : List Nat) (m : Nat), 0 < m → (∀ d ∈ l, 0 < d) → 0 < l.foldl Nat.lcm m
  | [], _, h, _ => h
  | x :: l, m, h, k => by
    rw [List.foldl_cons]
    exact foldl_pos l _ (Nat.lcm_pos h (k x List.mem_cons_self)) fun d hd => k d (List.mem_cons_of_mem _ hd)
section
variable {f : Nat → Nat} {n : Nat} (hf : ∀ s, s < n → f s < n) (hn : n ≤ 12)
include hf hn
/-- the lengths that occur -/
def lens (f : Nat → Nat) (n : Nat) : List Nat := (List.range' 1 12).filter fun d => (List.range n).any fun u => decide (per f n u = d)
omit hf hn in
theorem mem_lens {d : Nat} : d ∈ lens f n ↔ 1 ≤ d ∧ d ≤ 12 ∧ ∃ u, u < n ∧ per f n u = d := by
  unfold lens
  rw [List.mem_filter, List.mem_range'_1, List.any_eq_true]
  constructor
  · rintro ⟨⟨a, b⟩, u, hu, e⟩
    exact ⟨a, by omega, u, List.mem_range.mp hu, of_decide_eq_true e⟩
  · rintro ⟨a, b, u, hu, e⟩
    exact ⟨⟨a, by omega⟩, u, List.mem_range.mpr hu, decide_eq_true e⟩
/-- on a cycle of length d there are d states of that length -/
theorem cycle_len {u d : Nat} (hu : u < n) (h1 : 1 ≤ d) (e : per f n u = d) : d ≤ (List.range n).countP fun x => decide (per f n x = d) := by
  have ex : ∃ q, (List.range' 1 n).find? (fun d => decide (it f d u = u)) = some q := by
    cases z : (List.range' 1 n).find? fun d => decide (it f d u = u) with
    | none =>
      unfold per at e
      rw [z] at e
      have e : (0 : Nat) = d := e
      omega
    | some q => exact ⟨q, rfl⟩
  obtain ⟨q, hq⟩ := ex
  obtain ⟨a1, a2, a3, _⟩ := find_least _ _ _ hq
  obtain ⟨b1, b2, b3, b4⟩ := per_some (n := n) (d := q) a1 (by omega) (of_decide_eq_true a3)
  have dn : d ≤ n := by omega
  rw [e] at b3 b4
  -- back to u
  have up : ∀ i, i ≤ d → it f (d - i) (it f i u) = u := fun i hi => by
    rw [← it_add, show i + (d - i) = d by omega, b3]
  have nd : ((List.range d).map fun i => it f i u).Nodup := by
    rw [List.Nodup, List.pairwise_map]
    refine List.Pairwise.imp_of_mem (fun {i j} hi hj hij ee => ?_) List.pairwise_lt_range
    have hj := List.mem_range.mp hj
    refine b4 (j - i) (by omega) (by omega) ?_
    have e1 := up i (by omega)
    rw [ee, ← it_add, show j + (d - i) = d + (j - i) by omega, it_add, b3] at e1
    exact e1
  have key := nodup_len _ ((List.range n).filter fun x => decide (per f n x = d)) nd fun x hx => by
    obtain ⟨i, hi, rfl⟩ := List.mem_map.mp hx
    have hi := List.mem_range.mp hi
    refine List.mem_filter.mpr ⟨List.mem_range.mpr (it_lt hf i hu), decide_eq_true ?_⟩
    have back : it f d (it f i u) = it f i u := by rw [it_comm, b3]
    obtain ⟨c1, c2, c3, c4⟩ := per_some h1 dn back
    apply Nat.le_antisymm c2
    apply Nat.le_of_not_lt
    intro lt
    refine b4 _ c1 lt ?_
    have e1 := up i (by omega)
    rw [← c3, it_comm f (d - i), up i (by omega)] at e1
    exact e1
  rw [List.length_map, List.length_range] at key
  rw [List.countP_eq_length_filter]
  exact key
theorem lens_sum : (lens f n).sum ≤ 12 := by
  have nd : (lens f n).Nodup := List.Pairwise.filter _ (List.nodup_range' ..)
  have a := count_sum (g := per f n) (List.range n) (lens f n) nd
  rw [List.length_range] at a
  have b : ∀ l : List Nat, (∀ d ∈ l, d ≤ (List.range n).countP fun x => decide (per f n x = d)) → l.sum ≤ (l.map fun d => (List.range n).countP fun x => decide (per f n x = d)).sum := fun l => by
    induction l with
    | nil => intro _; exact Nat.le_refl _
    | cons x l ih =>
      intro h
      rw [List.map_cons, List.sum_cons, List.sum_cons]
      have := h x List.mem_cons_self
      have := ih fun d hd => h d (List.mem_cons_of_mem _ hd)
      omega
  have := b (lens f n) fun d hd => by
    obtain ⟨h1, _, u, hu, e⟩ := mem_lens.mp hd
    exact cycle_len hf hn hu h1 e
  omega
/-- a common period of all states -/
def big (f : Nat → Nat) (n : Nat) : Nat := (lens f n).foldl Nat.lcm 1
theorem big_le : big f n ≤ 60 := chk_ok _ _ 0 1 chk12 (by rw [Nat.zero_add]; exact lens_sum hf hn)
omit hf hn in
theorem big_pos : 1 ≤ big f n := foldl_pos _ _ (by decide) fun d hd => (mem_lens.mp hd).1
theorem big_rep {s : Nat} (hs : s < n) : ∀ c, n - 1 ≤ c → it f (c + big f n) s = it f c s := by
  obtain ⟨i, j, hij, hj, e⟩ := pigeon hf hs
  -- the state on the cycle
  have hu : it f (n - 1) s < n := it_lt hf _ hs
  have on : it f (j - i) (it f (n - 1) s) = it f (n - 1) s := by
    rw [← it_add, show n - 1 + (j - i) = j + (n - 1 - i) by omega, it_add, ← e, ← it_add, show i + (n - 1 - i) = n - 1 by omega]
  obtain ⟨b1, b2, b3, _⟩ := per_some (n := n) (by omega) (by omega) on
  have hm : per f n (it f (n - 1) s) ∈ lens f n := mem_lens.mpr ⟨b1, by omega, _, hu, rfl⟩
  obtain ⟨k, hk⟩ := (foldl_dvd (lens f n) 1).2 _ hm
  have hk : big f n = per f n (it f (n - 1) s) * k := hk
  intro c hc
  rw [show c + big f n = (n - 1) + (big f n + (c - (n - 1))) by omega, it_add, it_add, hk, it_mul b3, ← it_add, show n - 1 + (c - (n - 1)) = c by omega]
end
end NM
set_option Elab.async false
set_option linter.all false
set_option maxRecDepth 100000
set_option maxHeartbeats 4000000
/-! Where the powers of a map first repeat: of lists, no program. -/
namespace NM
open NQ
/-- a map of states, written as the list of its values -/
def MapOk (st : List Nat) : Prop := 1 ≤ st.length ∧ st.length ≤ 12 ∧ ∀ x ∈ st, x < st.length
def fn (st : List Nat) (s : Nat) : Nat := st.getD s 0
/-- the states that all states are led to by k times -/
def pwS (st : List Nat) (k : Nat) : List Nat := (List.range st.length).map (it (fn st) k)
theorem fn_lt {st : List Nat} (h : MapOk st) : ∀ s, s < st.length → fn st s < st.length := fun s hs => by
  unfold fn
  rw [List.getD_eq_getElem?_getD, List.getElem?_eq_getElem hs]
  exact h.2.2 _ (List.getElem_mem hs)
theorem pwS_len (st : List Nat) (k : Nat) : (pwS st k).length = st.length := by simp [pwS]
theorem pwS_zero (st : List Nat) : pwS st 0 = List.range st.length := by
  unfold pwS
  exact (List.map_congr_left fun s _ => rfl).trans (List.map_id _)
theorem pwS_succ (st : List Nat) (k : Nat) : pwS st (k + 1) = (pwS st k).map (fn st) := by
  unfold pwS
  rw [List.map_map]
  rfl
theorem pwS_lt {st : List Nat} (h : MapOk st) (k : Nat) : ∀ x ∈ pwS st k, x < st.length := fun x hx => by
  obtain ⟨s, hs, rfl⟩ := List.mem_map.mp hx
  exact it_lt (fn_lt h) k (List.mem_range.mp hs)
theorem pwS_go {st : List Nat} {a b : Nat} (h : pwS st a = pwS st b) : ∀ c, pwS st (a + c) = pwS st (b + c)
  | 0 => h
  | c + 1 => by rw [← Nat.add_assoc, ← Nat.add_assoc, pwS_succ, pwS_succ, pwS_go h c]
/-- all powers below k are different -/
def Diff (st : List Nat) (k : Nat) : Prop := ∀ a b, a < b → b < k → pwS st a ≠ pwS st b
theorem big_powers {st : List Nat} (h : MapOk st) : Rep (pwS st) (st.length - 1) (big (fn st) st.length) := fun c hc => by
  unfold pwS
  exact List.map_congr_left fun s hs => big_rep (fn_lt h) h.2.1 (List.mem_range.mp hs) c hc
theorem diff_le {st : List Nat} (h : MapOk st) {k : Nat} (d : Diff st k) : k ≤ 71 := by
  have b := big_powers h (st.length - 1) (Nat.le_refl _)
  have b1 := big_le (fn_lt h) h.2.1
  have b0 := big_pos (f := fn st) (n := st.length)
  have h2 := h.2.1
  apply Nat.le_of_not_lt
  intro lt
  exact d (st.length - 1) (st.length - 1 + big (fn st) st.length) (by omega) (by omega) b.symm
/-- the threshold and the period of the first repeat -/
theorem first_ok {st : List Nat} (h : MapOk st) {j k : Nat} (d : Diff st k) (hj : j < k) (e : pwS st j = pwS st k) : j ≤ st.length - 1 ∧ 1 ≤ k - j ∧ k - j ≤ 60 := by
  have b1 := big_le (fn_lt h) h.2.1
  have b0 := big_pos (f := fn st) (n := st.length)
  have rp : Rep (pwS st) j (k - j) := fun c hc => by
    have := pwS_go e (c - j)
    rw [show j + (c - j) = c by omega] at this
    rw [this]
    congr 1
    omega
  have rb := big_powers h
  refine ⟨?_, by omega, Nat.le_trans ?_ b1⟩
  · apply Nat.le_of_not_lt
    intro lt
    have r := Rep.back b0 rb rp (j - 1) (by omega)
    exact d (j - 1) (k - 1) (by omega) (by omega) (by rw [← r]; congr 1; omega)
  · apply Nat.le_of_not_lt
    intro lt
    have r := Rep.back (show 1 ≤ k - j by omega) rp rb j (Nat.le_refl _)
    exact d j (j + big (fn st) st.length) (by omega) (by omega) r.symm
end NM
set_option Elab.async false
set_option linter.all false
set_option maxRecDepth 100000
set_option maxHeartbeats 4000000
namespace KF
open PySem PySem.Spec PyProof.Rows L2 XV
def IsPt (H : Hp) (x : V) (p : List Int) : Prop := ∃ a, x = .ref a ∧ H a = some (.lst (p.map V.int))
inductive Pts (H : Hp) : List V → List (List Int) → Prop
  | nil : Pts H [] []
  | cons {x : V} {xs : List V} {p : List Int} {P : List (List Int)} : IsPt H x p → Pts H xs P → Pts H (x :: xs) (p :: P)
theorem Pts.keep {H H' : Hp} (s : Same H H') : ∀ {xs : List V} {P : List (List Int)}, Pts H xs P → Pts H' xs P
  | _, _, .nil => .nil
  | _, _, .cons h r => .cons (by
      obtain ⟨a, e, t⟩ := h
      exact ⟨a, e, s _ _ t⟩) (Pts.keep s r)
theorem Pts.len {H : Hp} : ∀ {xs : List V} {P : List (List Int)}, Pts H xs P → xs.length = P.length
  | _, _, .nil => rfl
  | _, _, .cons _ r => congrArg (· + 1) (Pts.len r)
theorem Pts.get {H : Hp} : ∀ {xs : List V} {P : List (List Int)} {i : Nat} {x : V}, Pts H xs P → xs[i]? = some x → ∃ p, P[i]? = some p ∧ IsPt H x p
  | _, _, i, x, .nil, h => by simp at h
  | _, _, 0, x, .cons a r, h => by
    cases h
    exact ⟨_, rfl, a⟩
  | _, _, i + 1, x, .cons a r, h => by
    obtain ⟨l, e, z⟩ := Pts.get (i := i) r (by simpa using h)
    exact ⟨l, by simpa using e, z⟩
theorem Pts.snoc {H : Hp} {y : V} {m : List Int} (hy : IsPt H y m) : ∀ {xs : List V} {P : List (List Int)}, Pts H xs P → Pts H (xs ++ [y]) (P ++ [m])
  | _, _, .nil => .cons hy .nil
  | _, _, .cons h r => .cons h (Pts.snoc hy r)
theorem Pts.updL {H : Hp} {D : Addr} {o : HO} : ∀ {xs : List V} {P : List (List Int)}, (∀ x ∈ xs, x ≠ .ref D) → Pts H xs P → Pts (upd H D o) xs P
  | _, _, _, .nil => .nil
  | _, _, n, .cons h r => .cons (by
      obtain ⟨a, e, t⟩ := h
      refine ⟨a, e, ?_⟩
      rw [upd_ne (fun z => n _ List.mem_cons_self (by rw [e, z]))]
      exact t) (Pts.updL (fun x hx => n x (List.mem_cons_of_mem _ hx)) r)
theorem dp_ints {K : PySem.W.Frag} {H : Hp} : ∀ l : List Int, DpAll K H (l.map V.int) (l.map PyData.int)
  | [] => .nil
  | x :: l => .cons (.int x) (dp_ints l)
theorem lay_ints : ∀ l : List Int, PyData.canLayAll0 (l.map PyData.int) = true
  | [] => by simp [PyData.canLayAll0]
  | x :: l => by simp [PyData.canLayAll0, PyData.canLay0, lay_ints l]
theorem depth_ints : ∀ l : List Int, PyData.depthAll (l.map PyData.int) = 0
  | [] => by simp [PyData.depthAll]
  | x :: l => by simp [PyData.depthAll, PyData.depth, depth_ints l]
theorem eqv_intsA : ∀ p q : List Int, PyData.eqvAll (p.map PyData.int) (q.map PyData.int) = decide (p = q)
  | [], [] => by simp [PyData.eqvAll]
  | [], m :: M => by simp [PyData.eqvAll]
  | l :: L, [] => by simp [PyData.eqvAll]
  | l :: L, m :: M => by
    have ih := eqv_intsA L M
    simp only [List.map_cons, PyData.eqvAll, PyData.eqv, ih, List.cons.injEq]
    by_cases h1 : l = m <;> by_cases h2 : L = M <;> simp [h1, h2]
theorem eqv_ints (p q : List Int) : PyData.eqv (.list (p.map PyData.int)) (.list (q.map PyData.int)) = decide (p = q) := by
  simp only [PyData.eqv]
  exact eqv_intsA p q
def ptD (p : List Int) : PyData := .list (p.map PyData.int)
def PD (F : List (List Int)) : PyData := .list (F.map ptD)
theorem lay_P : ∀ F : List (List Int), PyData.canLayAll0 (F.map ptD) = true
  | [] => by simp [PyData.canLayAll0]
  | l :: F => by
    have ih := lay_P F
    simp [PyData.canLayAll0, PyData.canLay0, ptD, ih, lay_ints]
theorem depth_P : ∀ F : List (List Int), PyData.depthAll (F.map ptD) ≤ 1
  | [] => by simp [PyData.depthAll]
  | l :: F => by
    have ih := depth_P F
    simp only [List.map_cons, PyData.depthAll, ptD, PyData.depth, depth_ints]
    omega
theorem shaped_P (F : List (List Int)) : SeqAt.shaped (PD F) = true := by
  have h := depth_P F
  have e : (PD F).depth ≤ 64 := by
    simp only [PD, PyData.depth]
    omega
  have e2 : (PD F).canLay0 = true := by
    simp only [PD, PyData.canLay0]
    exact lay_P F
  unfold SeqAt.shaped
  rw [e2, decide_eq_true e]
  rfl
theorem eqv_PA : ∀ F G : List (List Int), PyData.eqvAll (F.map ptD) (G.map ptD) = decide (F = G)
  | [], [] => by simp [PyData.eqvAll]
  | [], m :: M => by simp [PyData.eqvAll]
  | l :: L, [] => by simp [PyData.eqvAll]
  | l :: L, m :: M => by
    have ih := eqv_PA L M
    simp only [List.map_cons, PyData.eqvAll, ptD, PyData.eqv, eqv_intsA, List.cons.injEq]
    rw [show (List.map ptD L) = L.map ptD from rfl, ih]
    by_cases h1 : l = m <;> by_cases h2 : L = M <;> simp [h1, h2]
theorem eqv_P (F G : List (List Int)) : PyData.eqv (PD F) (PD G) = decide (F = G) := by
  show PyData.eqv (.list _) (.list _) = _
  simp only [PyData.eqv]
  exact eqv_PA F G
theorem Pts.dp {K : PySem.W.Frag} {H : Hp} : ∀ {xs : List V} {F : List (List Int)}, Pts H xs F → DpAll K H xs (F.map ptD)
  | _, _, .nil => .nil
  | _, _, .cons h r => .cons (by
      obtain ⟨a, rfl, t⟩ := h
      exact .lst (SqL.of t) (dp_ints _)) (Pts.dp r)
def natI (st : List Nat) : List Int := st.map fun n : Nat => ((n : Nat) : Int)
theorem natI_inj {a b : List Nat} : natI a = natI b ↔ a = b := by
  constructor
  · intro h
    have := congrArg (List.map Int.toNat) h
    unfold natI at this
    rw [List.map_map, List.map_map] at this
    have e : ∀ l : List Nat, l.map (Int.toNat ∘ fun n : Nat => ((n : Nat) : Int)) = l := fun l => by
      rw [show (Int.toNat ∘ fun n : Nat => ((n : Nat) : Int)) = id from funext fun n => Int.toNat_natCast n, List.map_id]
    rw [e, e] at this
    exact this
  · intro h
    rw [h]
theorem natI_len (st : List Nat) : (natI st).length = st.length := by simp [natI]
theorem natI_get (st : List Nat) (i : Nat) : (natI st)[i]? = st[i]?.map fun n : Nat => ((n : Nat) : Int) := by simp only [natI, List.getElem?_map]
theorem pt_shaped (p : List Int) : SeqAt.shaped (ptD p) = true := by
  have e : (ptD p).depth ≤ 64 := by
    simp only [ptD, PyData.depth, depth_ints]
    omega
  have e2 : (ptD p).canLay0 = true := by simp [ptD, PyData.canLay0, lay_ints]
  unfold SeqAt.shaped
  rw [e2, decide_eq_true e]
  rfl
theorem IsPt.dp {K : PySem.W.Frag} {H : Hp} {x : V} {p : List Int} (h : IsPt H x p) : Dp K H x (ptD p) := by
  obtain ⟨a, rfl, t⟩ := h
  exact .lst (SqL.of t) (dp_ints _)
theorem any_pts (P : List (List Int)) (q : List Int) : ((P.map ptD).any fun z => PyData.eqv z (ptD q)) = decide (q ∈ P) := by
  induction P with
  | nil => simp
  | cons p P ih =>
    rw [List.map_cons, List.any_cons, ih, show PyData.eqv (ptD p) (ptD q) = decide (p = q) from eqv_ints p q]
    by_cases h : p = q
    · subst h
      simp
    · have h3 : ¬ q = p := fun e => h e.symm
      by_cases h2 : q ∈ P <;> simp [h, h3, h2]
end KF
set_option Elab.async false
set_option linter.all false
set_option maxRecDepth 100000
set_option maxHeartbeats 400000
/-! next of a zip of two or three lists, whatever became of the tuple that it handed out last. -/
namespace XV
open PySem
open PySem.Sem (wp)
theorem ad {a b : Nat} (h : a ≠ b) : @Ne Addr a b := h
/-- a zip's cell: what it keeps of the tuple that it handed out last, whether it was seen to be held -/
abbrev ZS (h : Heap) (q a b : Addr) (f0 : Value) (f1 : Bool) : Prop := h.get? q = some { cls := .type "zip", dict := none, data := .fields #[f0, .bool f1, .bool false, .ref a, .ref b], slots := #[] }
def OwnV (f0 : Value) : Prop := f0 = .none ∨ ∃ a : Nat, f0 = rawInt a
section
variable {prog : Program} {w : World} {A : Around} {E : Value → Shared → Prop} {s : Shared}
theorem alive_any {a : Addr} {Q : Option Obj → Shared → Prop} (h : Q (s.heap.get? a) s) : wpAny (model prog w) A (loadIfAlive a) Q E s := fun _ _ _ => h
theorem own_free {q a b : Addr} {f0 : Value} {f1 : Bool} {Q : Bool → Shared → Prop} (hz : ZS s.heap q a b f0 f1) (hf : OwnV f0) (h1 : Q true s)
    (h2 : ∀ h, ZS h q a b f0 true → Heap.SameBut q s.heap h → Q false { s with heap := h }) : wpAny (model prog w) A (Builtin.SmallTypes.ownedTupleIsFree (.ref q)) Q E s := by
  unfold Builtin.SmallTypes.ownedTupleIsFree
  refine wpAny_bind (wpAny_field (x := f0) hz rfl rfl ?_)
  rcases hf with rfl | ⟨t, rfl⟩
  · exact wpAny_pure h1
  · show wpAny _ _ (loadIfAlive _ >>= _) _ _ _
    refine wpAny_bind (alive_any ?_)
    cases s.heap.get? ((t : Int).toNat) with
    | none => exact wpAny_pure h1
    | some o =>
      refine wpAny_bind (wpAny_field (x := .bool f1) hz rfl rfl ?_)
      cases f1 with
      | true => exact wpAny_pure (h2 s.heap hz (Heap.SameBut.refl _ _))
      | false => exact wpAny_bind (wpAny_setField_rec hz (by simp) fun h hh hs => wpAny_pure (h2 h hh hs))
theorem zip2_item {N l1 l2 i : Nat} {f0 : Value} {f1 : Bool} {q1 q2 x1 x2 : Value} {us1 us2 : Array Value} {Q : Value → Shared → Prop} (b1 : l1 < N) (b2 : l2 < N)
    (hz : ZS s.heap (N + 4) (N + 2) (N + 3) f0 f1) (hf : OwnV f0) (hI : s.heap.get? (N + 2) = some { cls := .type "tuple", data := .seq #[.ref (N + 0), .ref (N + 1)] }) (hO : s.heap.get? (N + 3) = some { cls := .type "tuple", data := .seq #[q1, q2] })
    (t1 : s.heap.IsListIter (N + 0) l1 i) (L1 : s.heap.IsList l1 us1) (t2 : s.heap.IsListIter (N + 1) l2 i) (L2 : s.heap.IsList l2 us2) (e1 : us1[i]? = some x1) (e2 : us2[i]? = some x2)
    (hQ : ∀ h, (∃ g0 g1, OwnV g0 ∧ ZS h (N + 4) (N + 2) (N + 3) g0 g1) → (∃ q1 q2, h.get? (N + 3) = some { cls := .type "tuple", data := .seq #[q1, q2] }) → h.IsListIter (N + 0) l1 (i + 1) → h.IsListIter (N + 1) l2 (i + 1) → h.get? s.heap.objs.size = some { cls := .type "tuple", data := .seq #[x1, x2] } → h.objs.size = s.heap.objs.size + 1 →
      (∀ c o, c ≠ (N + 4) → c ≠ (N + 3) → c ≠ (N + 0) → c ≠ (N + 1) → s.heap.get? c = some o → h.get? c = some o) → Q (.ref s.heap.objs.size) { s with heap := h }) :
    wpAny (model prog w) A (Builtin.«zip.__next__» ⟨[.ref (N + 4)], []⟩) (fun fin s' => ∃ v, fin = .done (.ret v) ∧ Q v s') E s := by
  obtain ⟨hp, g, d, tk, os⟩ := s
  have zlt : (N + 4) < hp.objs.size := Heap.lt_size hz
  show wpAny _ _ (field (.ref (N + 4)) 2 >>= _) _ _ _
  refine wpAny_bind (wpAny_field hz rfl (x := .bool false) rfl ?_)
  show wpAny _ _ (field (.ref (N + 4)) 3 >>= _) _ _ _
  refine wpAny_bind (wpAny_field hz rfl (x := .ref (N + 2)) rfl (wpAny_bind (wpAny_seqItems hI rfl ?_)))
  show wpAny _ _ (Builtin.SmallTypes.ownedTupleIsFree (.ref (N + 4)) >>= _) _ _ _
  refine wpAny_bind (own_free hz hf ?_ fun g0 hz0 hs0 => ?_)
  · rw [if_pos rfl]
    refine wpAny_bind (wpAny_rule (wpAny_bind (wpAny_field hz rfl (x := .ref (N + 3)) rfl ?_)))
    refine wpAny_bind (wpAny_setField_rec hz (by simp) fun g0 hz0 hs0 => ?_)
    replace hz0 : ZS g0 (N + 4) (N + 2) (N + 3) .ellipsis f1 := hz0
    replace hs0 : Heap.SameBut (N + 4) hp g0 := hs0
    simp only [List.forIn_cons, List.forIn_nil, List.zipIdx_cons, List.zipIdx_nil]
    refine wpAny_bind (wpAny_bind (wpAny_bind (wpAny_onRaise ?_)))
    show wpAny _ _ (Builtin.SmallTypes.nextOf (.ref (N + 0)) >>= _) _ _ (Shared.mk g0 g d tk os)
    refine wpAny_bind (wpAny_nextOf_list_item (t1.at fun o e => (hs0.2 (N + 0) (ad (by omega))).trans (e)) (L1.at fun o e => (hs0.2 l1 (ad (by omega))).trans (e)) e1 fun p1 r1 hp1 => wpAny_pure ?_)
    replace hp1 : Heap.SameBut (N + 0) g0 p1 := hp1
    have hU1 : p1.get? (N + 3) = some { cls := .type "tuple", data := .seq #[q1, q2] } := (hp1.2 (N + 3) (ad (by omega))).trans ((hs0.2 (N + 3) (ad (by omega))).trans (hO))
    refine wpAny_bind (wpAny_seqItems (s := ⟨p1, g, d, tk, os⟩) hU1 rfl ?_)
    refine wpAny_bind (wpAny_updateSeq (s := ⟨p1, g, d, tk, os⟩) (f := fun a => a.setIfInBounds 0 x1) hU1 rfl ?_)
    have hT1 : (p1.update (N + 3) (Obj.mapSeq fun a => a.setIfInBounds 0 x1)).get? (N + 3) = some { cls := .type "tuple", data := .seq #[x1, q2] } := by
      rw [Heap.get?_update_self _ hU1 rfl]
      simp [Obj.mapSeq]
    have hs1 : Heap.SameBut (N + 3) p1 (p1.update (N + 3) (Obj.mapSeq fun a => a.setIfInBounds 0 x1)) := Heap.SameBut.update ..
    generalize p1.update (N + 3) (Obj.mapSeq fun a => a.setIfInBounds 0 x1) = g1 at hT1 hs1
    refine wpAny_bind (wpAny_letGo (wpAny_pure ?_))
    refine wpAny_bind (wpAny_bind (wpAny_onRaise ?_))
    show wpAny _ _ (Builtin.SmallTypes.nextOf (.ref (N + 1)) >>= _) _ _ (Shared.mk g1 g d tk os)
    refine wpAny_bind (wpAny_nextOf_list_item (t2.at fun o e => (hs1.2 (N + 1) (ad (by omega))).trans ((hp1.2 (N + 1) (ad (by omega))).trans ((hs0.2 (N + 1) (ad (by omega))).trans (e)))) (L2.at fun o e => (hs1.2 l2 (ad (by omega))).trans ((hp1.2 l2 (ad (by omega))).trans ((hs0.2 l2 (ad (by omega))).trans (e)))) e2 fun p2 r2 hp2 => wpAny_pure ?_)
    replace hp2 : Heap.SameBut (N + 1) g1 p2 := hp2
    have hU2 : p2.get? (N + 3) = some { cls := .type "tuple", data := .seq #[x1, q2] } := (hp2.2 (N + 3) (ad (by omega))).trans (hT1)
    refine wpAny_bind (wpAny_seqItems (s := ⟨p2, g, d, tk, os⟩) hU2 rfl ?_)
    refine wpAny_bind (wpAny_updateSeq (s := ⟨p2, g, d, tk, os⟩) (f := fun a => a.setIfInBounds 1 x2) hU2 rfl ?_)
    have hT2 : (p2.update (N + 3) (Obj.mapSeq fun a => a.setIfInBounds 1 x2)).get? (N + 3) = some { cls := .type "tuple", data := .seq #[x1, x2] } := by
      rw [Heap.get?_update_self _ hU2 rfl]
      simp [Obj.mapSeq]
    have hs2 : Heap.SameBut (N + 3) p2 (p2.update (N + 3) (Obj.mapSeq fun a => a.setIfInBounds 1 x2)) := Heap.SameBut.update ..
    generalize p2.update (N + 3) (Obj.mapSeq fun a => a.setIfInBounds 1 x2) = g2 at hT2 hs2
    refine wpAny_bind (wpAny_letGo (wpAny_pure ?_))
    have hsz : g2.objs.size = hp.objs.size := by rw [hs2.1, hp2.1, hs1.1, hp1.1, hs0.1]
    have hzz : ZS g2 (N + 4) (N + 2) (N + 3) .ellipsis f1 := (hs2.2 (N + 4) (ad (by omega))).trans ((hp2.2 (N + 4) (ad (by omega))).trans ((hs1.2 (N + 4) (ad (by omega))).trans ((hp1.2 (N + 4) (ad (by omega))).trans (hz0))))
    refine wpAny_bind (wpAny_pure ?_)
    refine wpAny_pure ?_
    show wpAny _ _ (seqItems? (.ref (N + 3)) >>= _) _ _ (Shared.mk g2 g d tk os)
    refine wpAny_bind (wpAny_seqItems (s := ⟨g2, g, d, tk, os⟩) hT2 rfl ?_)
    refine wpAny_bind (wpAny_newTuple ?_)
    show wpAny _ _ (Builtin.SmallTypes.ownedTupleHandOut (.ref (N + 4)) (.ref g2.objs.size) >>= _) _ _ (Shared.mk (g2.push { cls := .type "tuple", data := .seq #[x1, x2] }) g d tk os)
    unfold Builtin.SmallTypes.ownedTupleHandOut
    refine wpAny_bind (wpAny_bind (wpAny_setField_rec (Heap.get?_push_of_some _ hzz) (by simp) fun m1 hm1 hn1 => ?_))
    replace hm1 : ZS m1 (N + 4) (N + 2) (N + 3) (rawInt g2.objs.size) f1 := hm1
    refine wpAny_setField_rec hm1 (by simp) fun m2 hm2 hn2 => wpAny_pure ⟨_, rfl, ?_⟩
    replace hm2 : ZS m2 (N + 4) (N + 2) (N + 3) (rawInt g2.objs.size) false := hm2
    replace hn1 : Heap.SameBut (N + 4) (g2.push { cls := .type "tuple", data := .seq #[x1, x2] }) m1 := hn1
    replace hn2 : Heap.SameBut (N + 4) m1 m2 := hn2
    have up : ∀ c o, c ≠ (N + 4) → g2.get? c = some o → m2.get? c = some o := fun c o c1 e => (hn2.2 c c1).trans ((hn1.2 c c1).trans (Heap.get?_push_of_some _ e))
    show Q (.ref g2.objs.size) ⟨m2, g, d, tk, os⟩
    have hnew : m2.get? g2.objs.size = some { cls := .type "tuple", data := .seq #[x1, x2] } := (hn2.2 _ (by rw [hsz]; exact Nat.ne_of_gt zlt)).trans ((hn1.2 _ (by rw [hsz]; exact Nat.ne_of_gt zlt)).trans (Heap.get?_push_size _ rfl))
    have hms : m2.objs.size = g2.objs.size + 1 := by rw [hn2.1, hn1.1, Heap.size_push]
    rw [hsz] at hnew hms ⊢
    refine hQ m2 ⟨_, _, .inr ⟨_, rfl⟩, hm2⟩ ⟨_, _, up _ _ (ad (by omega)) hT2⟩ (r1.at fun o e => up _ _ (ad (by omega)) ((hs2.2 (N + 0) (ad (by omega))).trans ((hp2.2 (N + 0) (ad (by omega))).trans ((hs1.2 (N + 0) (ad (by omega))).trans (e))))) (r2.at fun o e => up _ _ (ad (by omega)) ((hs2.2 (N + 1) (ad (by omega))).trans (e))) hnew hms fun c o cz cO c1 c2 e => up c o cz ((hs2.2 c cO).trans ((hp2.2 c c2).trans ((hs1.2 c cO).trans ((hp1.2 c c1).trans ((hs0.2 c cz).trans (e))))))
  · rw [if_neg (by decide)]
    replace hz0 : ZS g0 (N + 4) (N + 2) (N + 3) f0 true := hz0
    replace hs0 : Heap.SameBut (N + 4) hp g0 := hs0
    simp only [← Array.forIn_toList, List.forIn_cons, List.forIn_nil]
    refine wpAny_bind (wpAny_bind (wpAny_bind (wpAny_holding ?_)))
    show wpAny _ _ (Builtin.SmallTypes.nextOf (.ref (N + 0)) >>= _) _ _ (Shared.mk g0 g d tk os)
    refine wpAny_bind (wpAny_nextOf_list_item (t1.at fun o e => (hs0.2 (N + 0) (ad (by omega))).trans (e)) (L1.at fun o e => (hs0.2 l1 (ad (by omega))).trans (e)) e1 fun p1 r1 hp1 => wpAny_pure (wpAny_pure ?_))
    replace hp1 : Heap.SameBut (N + 0) g0 p1 := hp1
    refine wpAny_bind (wpAny_bind (wpAny_holding ?_))
    show wpAny _ _ (Builtin.SmallTypes.nextOf (.ref (N + 1)) >>= _) _ _ (Shared.mk p1 g d tk os)
    refine wpAny_bind (wpAny_nextOf_list_item (t2.at fun o e => (hp1.2 (N + 1) (ad (by omega))).trans ((hs0.2 (N + 1) (ad (by omega))).trans (e))) (L2.at fun o e => (hp1.2 l2 (ad (by omega))).trans ((hs0.2 l2 (ad (by omega))).trans (e))) e2 fun p2 r2 hp2 => wpAny_pure (wpAny_pure ?_))
    replace hp2 : Heap.SameBut (N + 1) p1 p2 := hp2
    have hsz : p2.objs.size = hp.objs.size := by rw [hp2.1, hp1.1, hs0.1]
    refine wpAny_bind (wpAny_pure ?_)
    refine wpAny_pure ?_
    show wpAny _ _ (newTuple [x1, x2] >>= _) _ _ (Shared.mk p2 g d tk os)
    refine wpAny_bind (wpAny_newTuple ?_)
    refine wpAny_pure ⟨_, rfl, ?_⟩
    show Q (.ref p2.objs.size) ⟨p2.push { cls := .type "tuple", data := .seq #[x1, x2] }, g, d, tk, os⟩
    have hnew : (p2.push { cls := .type "tuple", data := .seq #[x1, x2] }).get? p2.objs.size = some { cls := .type "tuple", data := .seq #[x1, x2] } := Heap.get?_push_size _ rfl
    have hms : (p2.push { cls := .type "tuple", data := .seq #[x1, x2] }).objs.size = p2.objs.size + 1 := Heap.size_push ..
    have up : ∀ c o, p2.get? c = some o → (p2.push { cls := .type "tuple", data := .seq #[x1, x2] }).get? c = some o := fun c o e => Heap.get?_push_of_some _ e
    rw [hsz] at hnew hms ⊢
    refine hQ _ ⟨_, _, hf, up _ _ ((hp2.2 (N + 4) (ad (by omega))).trans ((hp1.2 (N + 4) (ad (by omega))).trans (hz0)))⟩ ⟨_, _, up _ _ ((hp2.2 (N + 3) (ad (by omega))).trans ((hp1.2 (N + 3) (ad (by omega))).trans ((hs0.2 (N + 3) (ad (by omega))).trans (hO))))⟩ (r1.at fun o e => up _ _ ((hp2.2 (N + 0) (ad (by omega))).trans (e))) (r2.at fun o e => up _ _ (e)) hnew hms fun c o cz cO c1 c2 e => up c o ((hp2.2 c c2).trans ((hp1.2 c c1).trans ((hs0.2 c cz).trans (e))))
theorem zip2_end {N l1 l2 i : Nat} {f0 : Value} {f1 : Bool} {us1 : Array Value} {Q : Fin → Shared → Prop} (b1 : l1 < N) (hh : A.handled = none)
    (hz : ZS s.heap (N + 4) (N + 2) (N + 3) f0 f1) (hf : OwnV f0) (hI : s.heap.get? (N + 2) = some { cls := .type "tuple", data := .seq #[.ref (N + 0), .ref (N + 1)] }) (t1 : s.heap.IsListIter (N + 0) l1 i) (L1 : s.heap.IsList l1 us1) (e1 : us1[i]? = none)
    (hE : ∀ h x, (∀ c o, c ≠ (N + 4) → c ≠ (N + 3) → c ≠ (N + 0) → c ≠ (N + 1) → s.heap.get? c = some o → h.get? c = some o) → (∃ o, h.get? x = some o ∧ o.cls = .type "StopIteration") → E (.ref x) { s with heap := h }) :
    wpAny (model prog w) A (Builtin.«zip.__next__» ⟨[.ref (N + 4)], []⟩) Q E s := by
  obtain ⟨hp, g, d, tk, os⟩ := s
  show wpAny _ _ (field (.ref (N + 4)) 2 >>= _) _ _ _
  refine wpAny_bind (wpAny_field hz rfl (x := .bool false) rfl ?_)
  show wpAny _ _ (field (.ref (N + 4)) 3 >>= _) _ _ _
  refine wpAny_bind (wpAny_field hz rfl (x := .ref (N + 2)) rfl (wpAny_bind (wpAny_seqItems hI rfl ?_)))
  show wpAny _ _ (Builtin.SmallTypes.ownedTupleIsFree (.ref (N + 4)) >>= _) _ _ _
  refine wpAny_bind (own_free hz hf ?_ fun g0 hz0 hs0 => ?_)
  · rw [if_pos rfl]
    refine wpAny_bind (wpAny_rule (wpAny_bind (wpAny_field hz rfl (x := .ref (N + 3)) rfl ?_)))
    refine wpAny_bind (wpAny_setField_rec hz (by simp) fun g0 hz0 hs0 => ?_)
    replace hz0 : ZS g0 (N + 4) (N + 2) (N + 3) .ellipsis f1 := hz0
    replace hs0 : Heap.SameBut (N + 4) hp g0 := hs0
    simp only [List.forIn_cons, List.forIn_nil, List.zipIdx_cons, List.zipIdx_nil]
    refine wpAny_bind (wpAny_bind (wpAny_bind (wpAny_onRaise ?_)))
    show wpAny _ _ (Builtin.SmallTypes.nextOf (.ref (N + 0)) >>= _) _ _ (Shared.mk g0 g d tk os)
    refine wpAny_bind (wpAny_nextOf_list_end hh (t1.at fun o e => (hs0.2 (N + 0) (ad (by omega))).trans (e)) (L1.at fun o e => (hs0.2 l1 (ad (by omega))).trans (e)) e1 fun p x hp1 hx => ?_)
    replace hp1 : Heap.ExtBut (N + 0) g0 p := hp1
    obtain ⟨ox, hox, hcx⟩ := hx
    replace hox : p.get? x = some ox := hox
    have hzp : ZS p (N + 4) (N + 2) (N + 3) .ellipsis f1 := hp1 _ _ (ad (by omega)) hz0
    have xz : x ≠ (N + 4) := fun y => by
      rw [y, hzp] at hox
      cases hox
      simp at hcx
    refine wpAny_setField_rec (s := ⟨p, g, d, tk, os⟩) hzp (by simp) fun m _ hm => ?_
    replace hm : Heap.SameBut (N + 4) p m := hm
    exact hE m x (fun c o cz cO c1 c2 e => (hm.2 c cz).trans (hp1 c o c1 ((hs0.2 c cz).trans e))) ⟨ox, (hm.2 x xz).trans hox, hcx⟩
  · rw [if_neg (by decide)]
    replace hs0 : Heap.SameBut (N + 4) hp g0 := hs0
    simp only [← Array.forIn_toList, List.forIn_cons, List.forIn_nil]
    refine wpAny_bind (wpAny_bind (wpAny_bind (wpAny_holding ?_)))
    show wpAny _ _ (Builtin.SmallTypes.nextOf (.ref (N + 0)) >>= _) _ _ (Shared.mk g0 g d tk os)
    refine wpAny_bind (wpAny_nextOf_list_end hh (t1.at fun o e => (hs0.2 (N + 0) (ad (by omega))).trans (e)) (L1.at fun o e => (hs0.2 l1 (ad (by omega))).trans (e)) e1 fun p x hp1 hx => ?_)
    exact hE p x (fun c o cz cO c1 c2 e => hp1 c o c1 ((hs0.2 c cz).trans e)) hx
theorem zip3_item {N l1 l2 l3 i : Nat} {f0 : Value} {f1 : Bool} {q1 q2 q3 x1 x2 x3 : Value} {us1 us2 us3 : Array Value} {Q : Value → Shared → Prop} (b1 : l1 < N) (b2 : l2 < N) (b3 : l3 < N)
    (hz : ZS s.heap (N + 5) (N + 3) (N + 4) f0 f1) (hf : OwnV f0) (hI : s.heap.get? (N + 3) = some { cls := .type "tuple", data := .seq #[.ref (N + 0), .ref (N + 1), .ref (N + 2)] }) (hO : s.heap.get? (N + 4) = some { cls := .type "tuple", data := .seq #[q1, q2, q3] })
    (t1 : s.heap.IsListIter (N + 0) l1 i) (L1 : s.heap.IsList l1 us1) (t2 : s.heap.IsListIter (N + 1) l2 i) (L2 : s.heap.IsList l2 us2) (t3 : s.heap.IsListIter (N + 2) l3 i) (L3 : s.heap.IsList l3 us3) (e1 : us1[i]? = some x1) (e2 : us2[i]? = some x2) (e3 : us3[i]? = some x3)
    (hQ : ∀ h, (∃ g0 g1, OwnV g0 ∧ ZS h (N + 5) (N + 3) (N + 4) g0 g1) → (∃ q1 q2 q3, h.get? (N + 4) = some { cls := .type "tuple", data := .seq #[q1, q2, q3] }) → h.IsListIter (N + 0) l1 (i + 1) → h.IsListIter (N + 1) l2 (i + 1) → h.IsListIter (N + 2) l3 (i + 1) → h.get? s.heap.objs.size = some { cls := .type "tuple", data := .seq #[x1, x2, x3] } → h.objs.size = s.heap.objs.size + 1 →
      (∀ c o, c ≠ (N + 5) → c ≠ (N + 4) → c ≠ (N + 0) → c ≠ (N + 1) → c ≠ (N + 2) → s.heap.get? c = some o → h.get? c = some o) → Q (.ref s.heap.objs.size) { s with heap := h }) :
    wpAny (model prog w) A (Builtin.«zip.__next__» ⟨[.ref (N + 5)], []⟩) (fun fin s' => ∃ v, fin = .done (.ret v) ∧ Q v s') E s := by
  obtain ⟨hp, g, d, tk, os⟩ := s
  have zlt : (N + 5) < hp.objs.size := Heap.lt_size hz
  show wpAny _ _ (field (.ref (N + 5)) 2 >>= _) _ _ _
  refine wpAny_bind (wpAny_field hz rfl (x := .bool false) rfl ?_)
  show wpAny _ _ (field (.ref (N + 5)) 3 >>= _) _ _ _
  refine wpAny_bind (wpAny_field hz rfl (x := .ref (N + 3)) rfl (wpAny_bind (wpAny_seqItems hI rfl ?_)))
  show wpAny _ _ (Builtin.SmallTypes.ownedTupleIsFree (.ref (N + 5)) >>= _) _ _ _
  refine wpAny_bind (own_free hz hf ?_ fun g0 hz0 hs0 => ?_)
  · rw [if_pos rfl]
    refine wpAny_bind (wpAny_rule (wpAny_bind (wpAny_field hz rfl (x := .ref (N + 4)) rfl ?_)))
    refine wpAny_bind (wpAny_setField_rec hz (by simp) fun g0 hz0 hs0 => ?_)
    replace hz0 : ZS g0 (N + 5) (N + 3) (N + 4) .ellipsis f1 := hz0
    replace hs0 : Heap.SameBut (N + 5) hp g0 := hs0
    simp only [List.forIn_cons, List.forIn_nil, List.zipIdx_cons, List.zipIdx_nil]
    refine wpAny_bind (wpAny_bind (wpAny_bind (wpAny_onRaise ?_)))
    show wpAny _ _ (Builtin.SmallTypes.nextOf (.ref (N + 0)) >>= _) _ _ (Shared.mk g0 g d tk os)
    refine wpAny_bind (wpAny_nextOf_list_item (t1.at fun o e => (hs0.2 (N + 0) (ad (by omega))).trans (e)) (L1.at fun o e => (hs0.2 l1 (ad (by omega))).trans (e)) e1 fun p1 r1 hp1 => wpAny_pure ?_)
    replace hp1 : Heap.SameBut (N + 0) g0 p1 := hp1
    have hU1 : p1.get? (N + 4) = some { cls := .type "tuple", data := .seq #[q1, q2, q3] } := (hp1.2 (N + 4) (ad (by omega))).trans ((hs0.2 (N + 4) (ad (by omega))).trans (hO))
    refine wpAny_bind (wpAny_seqItems (s := ⟨p1, g, d, tk, os⟩) hU1 rfl ?_)
    refine wpAny_bind (wpAny_updateSeq (s := ⟨p1, g, d, tk, os⟩) (f := fun a => a.setIfInBounds 0 x1) hU1 rfl ?_)
    have hT1 : (p1.update (N + 4) (Obj.mapSeq fun a => a.setIfInBounds 0 x1)).get? (N + 4) = some { cls := .type "tuple", data := .seq #[x1, q2, q3] } := by
      rw [Heap.get?_update_self _ hU1 rfl]
      simp [Obj.mapSeq]
    have hs1 : Heap.SameBut (N + 4) p1 (p1.update (N + 4) (Obj.mapSeq fun a => a.setIfInBounds 0 x1)) := Heap.SameBut.update ..
    generalize p1.update (N + 4) (Obj.mapSeq fun a => a.setIfInBounds 0 x1) = g1 at hT1 hs1
    refine wpAny_bind (wpAny_letGo (wpAny_pure ?_))
    refine wpAny_bind (wpAny_bind (wpAny_onRaise ?_))
    show wpAny _ _ (Builtin.SmallTypes.nextOf (.ref (N + 1)) >>= _) _ _ (Shared.mk g1 g d tk os)
    refine wpAny_bind (wpAny_nextOf_list_item (t2.at fun o e => (hs1.2 (N + 1) (ad (by omega))).trans ((hp1.2 (N + 1) (ad (by omega))).trans ((hs0.2 (N + 1) (ad (by omega))).trans (e)))) (L2.at fun o e => (hs1.2 l2 (ad (by omega))).trans ((hp1.2 l2 (ad (by omega))).trans ((hs0.2 l2 (ad (by omega))).trans (e)))) e2 fun p2 r2 hp2 => wpAny_pure ?_)
    replace hp2 : Heap.SameBut (N + 1) g1 p2 := hp2
    have hU2 : p2.get? (N + 4) = some { cls := .type "tuple", data := .seq #[x1, q2, q3] } := (hp2.2 (N + 4) (ad (by omega))).trans (hT1)
    refine wpAny_bind (wpAny_seqItems (s := ⟨p2, g, d, tk, os⟩) hU2 rfl ?_)
    refine wpAny_bind (wpAny_updateSeq (s := ⟨p2, g, d, tk, os⟩) (f := fun a => a.setIfInBounds 1 x2) hU2 rfl ?_)
    have hT2 : (p2.update (N + 4) (Obj.mapSeq fun a => a.setIfInBounds 1 x2)).get? (N + 4) = some { cls := .type "tuple", data := .seq #[x1, x2, q3] } := by
      rw [Heap.get?_update_self _ hU2 rfl]
      simp [Obj.mapSeq]
    have hs2 : Heap.SameBut (N + 4) p2 (p2.update (N + 4) (Obj.mapSeq fun a => a.setIfInBounds 1 x2)) := Heap.SameBut.update ..
    generalize p2.update (N + 4) (Obj.mapSeq fun a => a.setIfInBounds 1 x2) = g2 at hT2 hs2
    refine wpAny_bind (wpAny_letGo (wpAny_pure ?_))
    refine wpAny_bind (wpAny_bind (wpAny_onRaise ?_))
    show wpAny _ _ (Builtin.SmallTypes.nextOf (.ref (N + 2)) >>= _) _ _ (Shared.mk g2 g d tk os)
    refine wpAny_bind (wpAny_nextOf_list_item (t3.at fun o e => (hs2.2 (N + 2) (ad (by omega))).trans ((hp2.2 (N + 2) (ad (by omega))).trans ((hs1.2 (N + 2) (ad (by omega))).trans ((hp1.2 (N + 2) (ad (by omega))).trans ((hs0.2 (N + 2) (ad (by omega))).trans (e)))))) (L3.at fun o e => (hs2.2 l3 (ad (by omega))).trans ((hp2.2 l3 (ad (by omega))).trans ((hs1.2 l3 (ad (by omega))).trans ((hp1.2 l3 (ad (by omega))).trans ((hs0.2 l3 (ad (by omega))).trans (e)))))) e3 fun p3 r3 hp3 => wpAny_pure ?_)
    replace hp3 : Heap.SameBut (N + 2) g2 p3 := hp3
    have hU3 : p3.get? (N + 4) = some { cls := .type "tuple", data := .seq #[x1, x2, q3] } := (hp3.2 (N + 4) (ad (by omega))).trans (hT2)
    refine wpAny_bind (wpAny_seqItems (s := ⟨p3, g, d, tk, os⟩) hU3 rfl ?_)
    refine wpAny_bind (wpAny_updateSeq (s := ⟨p3, g, d, tk, os⟩) (f := fun a => a.setIfInBounds 2 x3) hU3 rfl ?_)
    have hT3 : (p3.update (N + 4) (Obj.mapSeq fun a => a.setIfInBounds 2 x3)).get? (N + 4) = some { cls := .type "tuple", data := .seq #[x1, x2, x3] } := by
      rw [Heap.get?_update_self _ hU3 rfl]
      simp [Obj.mapSeq]
    have hs3 : Heap.SameBut (N + 4) p3 (p3.update (N + 4) (Obj.mapSeq fun a => a.setIfInBounds 2 x3)) := Heap.SameBut.update ..
    generalize p3.update (N + 4) (Obj.mapSeq fun a => a.setIfInBounds 2 x3) = g3 at hT3 hs3
    refine wpAny_bind (wpAny_letGo (wpAny_pure ?_))
    have hsz : g3.objs.size = hp.objs.size := by rw [hs3.1, hp3.1, hs2.1, hp2.1, hs1.1, hp1.1, hs0.1]
    have hzz : ZS g3 (N + 5) (N + 3) (N + 4) .ellipsis f1 := (hs3.2 (N + 5) (ad (by omega))).trans ((hp3.2 (N + 5) (ad (by omega))).trans ((hs2.2 (N + 5) (ad (by omega))).trans ((hp2.2 (N + 5) (ad (by omega))).trans ((hs1.2 (N + 5) (ad (by omega))).trans ((hp1.2 (N + 5) (ad (by omega))).trans (hz0))))))
    refine wpAny_bind (wpAny_pure ?_)
    refine wpAny_pure ?_
    show wpAny _ _ (seqItems? (.ref (N + 4)) >>= _) _ _ (Shared.mk g3 g d tk os)
    refine wpAny_bind (wpAny_seqItems (s := ⟨g3, g, d, tk, os⟩) hT3 rfl ?_)
    refine wpAny_bind (wpAny_newTuple ?_)
    show wpAny _ _ (Builtin.SmallTypes.ownedTupleHandOut (.ref (N + 5)) (.ref g3.objs.size) >>= _) _ _ (Shared.mk (g3.push { cls := .type "tuple", data := .seq #[x1, x2, x3] }) g d tk os)
    unfold Builtin.SmallTypes.ownedTupleHandOut
    refine wpAny_bind (wpAny_bind (wpAny_setField_rec (Heap.get?_push_of_some _ hzz) (by simp) fun m1 hm1 hn1 => ?_))
    replace hm1 : ZS m1 (N + 5) (N + 3) (N + 4) (rawInt g3.objs.size) f1 := hm1
    refine wpAny_setField_rec hm1 (by simp) fun m2 hm2 hn2 => wpAny_pure ⟨_, rfl, ?_⟩
    replace hm2 : ZS m2 (N + 5) (N + 3) (N + 4) (rawInt g3.objs.size) false := hm2
    replace hn1 : Heap.SameBut (N + 5) (g3.push { cls := .type "tuple", data := .seq #[x1, x2, x3] }) m1 := hn1
    replace hn2 : Heap.SameBut (N + 5) m1 m2 := hn2
    have up : ∀ c o, c ≠ (N + 5) → g3.get? c = some o → m2.get? c = some o := fun c o c1 e => (hn2.2 c c1).trans ((hn1.2 c c1).trans (Heap.get?_push_of_some _ e))
    show Q (.ref g3.objs.size) ⟨m2, g, d, tk, os⟩
    have hnew : m2.get? g3.objs.size = some { cls := .type "tuple", data := .seq #[x1, x2, x3] } := (hn2.2 _ (by rw [hsz]; exact Nat.ne_of_gt zlt)).trans ((hn1.2 _ (by rw [hsz]; exact Nat.ne_of_gt zlt)).trans (Heap.get?_push_size _ rfl))
    have hms : m2.objs.size = g3.objs.size + 1 := by rw [hn2.1, hn1.1, Heap.size_push]
    rw [hsz] at hnew hms ⊢
    refine hQ m2 ⟨_, _, .inr ⟨_, rfl⟩, hm2⟩ ⟨_, _, _, up _ _ (ad (by omega)) hT3⟩ (r1.at fun o e => up _ _ (ad (by omega)) ((hs3.2 (N + 0) (ad (by omega))).trans ((hp3.2 (N + 0) (ad (by omega))).trans ((hs2.2 (N + 0) (ad (by omega))).trans ((hp2.2 (N + 0) (ad (by omega))).trans ((hs1.2 (N + 0) (ad (by omega))).trans (e))))))) (r2.at fun o e => up _ _ (ad (by omega)) ((hs3.2 (N + 1) (ad (by omega))).trans ((hp3.2 (N + 1) (ad (by omega))).trans ((hs2.2 (N + 1) (ad (by omega))).trans (e))))) (r3.at fun o e => up _ _ (ad (by omega)) ((hs3.2 (N + 2) (ad (by omega))).trans (e))) hnew hms fun c o cz cO c1 c2 c3 e => up c o cz ((hs3.2 c cO).trans ((hp3.2 c c3).trans ((hs2.2 c cO).trans ((hp2.2 c c2).trans ((hs1.2 c cO).trans ((hp1.2 c c1).trans ((hs0.2 c cz).trans (e))))))))
  · rw [if_neg (by decide)]
    replace hz0 : ZS g0 (N + 5) (N + 3) (N + 4) f0 true := hz0
    replace hs0 : Heap.SameBut (N + 5) hp g0 := hs0
    simp only [← Array.forIn_toList, List.forIn_cons, List.forIn_nil]
    refine wpAny_bind (wpAny_bind (wpAny_bind (wpAny_holding ?_)))
    show wpAny _ _ (Builtin.SmallTypes.nextOf (.ref (N + 0)) >>= _) _ _ (Shared.mk g0 g d tk os)
    refine wpAny_bind (wpAny_nextOf_list_item (t1.at fun o e => (hs0.2 (N + 0) (ad (by omega))).trans (e)) (L1.at fun o e => (hs0.2 l1 (ad (by omega))).trans (e)) e1 fun p1 r1 hp1 => wpAny_pure (wpAny_pure ?_))
    replace hp1 : Heap.SameBut (N + 0) g0 p1 := hp1
    refine wpAny_bind (wpAny_bind (wpAny_holding ?_))
    show wpAny _ _ (Builtin.SmallTypes.nextOf (.ref (N + 1)) >>= _) _ _ (Shared.mk p1 g d tk os)
    refine wpAny_bind (wpAny_nextOf_list_item (t2.at fun o e => (hp1.2 (N + 1) (ad (by omega))).trans ((hs0.2 (N + 1) (ad (by omega))).trans (e))) (L2.at fun o e => (hp1.2 l2 (ad (by omega))).trans ((hs0.2 l2 (ad (by omega))).trans (e))) e2 fun p2 r2 hp2 => wpAny_pure (wpAny_pure ?_))
    replace hp2 : Heap.SameBut (N + 1) p1 p2 := hp2
    refine wpAny_bind (wpAny_bind (wpAny_holding ?_))
    show wpAny _ _ (Builtin.SmallTypes.nextOf (.ref (N + 2)) >>= _) _ _ (Shared.mk p2 g d tk os)
    refine wpAny_bind (wpAny_nextOf_list_item (t3.at fun o e => (hp2.2 (N + 2) (ad (by omega))).trans ((hp1.2 (N + 2) (ad (by omega))).trans ((hs0.2 (N + 2) (ad (by omega))).trans (e)))) (L3.at fun o e => (hp2.2 l3 (ad (by omega))).trans ((hp1.2 l3 (ad (by omega))).trans ((hs0.2 l3 (ad (by omega))).trans (e)))) e3 fun p3 r3 hp3 => wpAny_pure (wpAny_pure ?_))
    replace hp3 : Heap.SameBut (N + 2) p2 p3 := hp3
    have hsz : p3.objs.size = hp.objs.size := by rw [hp3.1, hp2.1, hp1.1, hs0.1]
    refine wpAny_bind (wpAny_pure ?_)
    refine wpAny_pure ?_
    show wpAny _ _ (newTuple [x1, x2, x3] >>= _) _ _ (Shared.mk p3 g d tk os)
    refine wpAny_bind (wpAny_newTuple ?_)
    refine wpAny_pure ⟨_, rfl, ?_⟩
    show Q (.ref p3.objs.size) ⟨p3.push { cls := .type "tuple", data := .seq #[x1, x2, x3] }, g, d, tk, os⟩
    have hnew : (p3.push { cls := .type "tuple", data := .seq #[x1, x2, x3] }).get? p3.objs.size = some { cls := .type "tuple", data := .seq #[x1, x2, x3] } := Heap.get?_push_size _ rfl
    have hms : (p3.push { cls := .type "tuple", data := .seq #[x1, x2, x3] }).objs.size = p3.objs.size + 1 := Heap.size_push ..
    have up : ∀ c o, p3.get? c = some o → (p3.push { cls := .type "tuple", data := .seq #[x1, x2, x3] }).get? c = some o := fun c o e => Heap.get?_push_of_some _ e
    rw [hsz] at hnew hms ⊢
    refine hQ _ ⟨_, _, hf, up _ _ ((hp3.2 (N + 5) (ad (by omega))).trans ((hp2.2 (N + 5) (ad (by omega))).trans ((hp1.2 (N + 5) (ad (by omega))).trans (hz0))))⟩ ⟨_, _, _, up _ _ ((hp3.2 (N + 4) (ad (by omega))).trans ((hp2.2 (N + 4) (ad (by omega))).trans ((hp1.2 (N + 4) (ad (by omega))).trans ((hs0.2 (N + 4) (ad (by omega))).trans (hO)))))⟩ (r1.at fun o e => up _ _ ((hp3.2 (N + 0) (ad (by omega))).trans ((hp2.2 (N + 0) (ad (by omega))).trans (e)))) (r2.at fun o e => up _ _ ((hp3.2 (N + 1) (ad (by omega))).trans (e))) (r3.at fun o e => up _ _ (e)) hnew hms fun c o cz cO c1 c2 c3 e => up c o ((hp3.2 c c3).trans ((hp2.2 c c2).trans ((hp1.2 c c1).trans ((hs0.2 c cz).trans (e)))))
theorem zip3_end {N l1 l2 l3 i : Nat} {f0 : Value} {f1 : Bool} {us1 : Array Value} {Q : Fin → Shared → Prop} (b1 : l1 < N) (hh : A.handled = none)
    (hz : ZS s.heap (N + 5) (N + 3) (N + 4) f0 f1) (hf : OwnV f0) (hI : s.heap.get? (N + 3) = some { cls := .type "tuple", data := .seq #[.ref (N + 0), .ref (N + 1), .ref (N + 2)] }) (t1 : s.heap.IsListIter (N + 0) l1 i) (L1 : s.heap.IsList l1 us1) (e1 : us1[i]? = none)
    (hE : ∀ h x, (∀ c o, c ≠ (N + 5) → c ≠ (N + 4) → c ≠ (N + 0) → c ≠ (N + 1) → c ≠ (N + 2) → s.heap.get? c = some o → h.get? c = some o) → (∃ o, h.get? x = some o ∧ o.cls = .type "StopIteration") → E (.ref x) { s with heap := h }) :
    wpAny (model prog w) A (Builtin.«zip.__next__» ⟨[.ref (N + 5)], []⟩) Q E s := by
  obtain ⟨hp, g, d, tk, os⟩ := s
  show wpAny _ _ (field (.ref (N + 5)) 2 >>= _) _ _ _
  refine wpAny_bind (wpAny_field hz rfl (x := .bool false) rfl ?_)
  show wpAny _ _ (field (.ref (N + 5)) 3 >>= _) _ _ _
  refine wpAny_bind (wpAny_field hz rfl (x := .ref (N + 3)) rfl (wpAny_bind (wpAny_seqItems hI rfl ?_)))
  show wpAny _ _ (Builtin.SmallTypes.ownedTupleIsFree (.ref (N + 5)) >>= _) _ _ _
  refine wpAny_bind (own_free hz hf ?_ fun g0 hz0 hs0 => ?_)
  · rw [if_pos rfl]
    refine wpAny_bind (wpAny_rule (wpAny_bind (wpAny_field hz rfl (x := .ref (N + 4)) rfl ?_)))
    refine wpAny_bind (wpAny_setField_rec hz (by simp) fun g0 hz0 hs0 => ?_)
    replace hz0 : ZS g0 (N + 5) (N + 3) (N + 4) .ellipsis f1 := hz0
    replace hs0 : Heap.SameBut (N + 5) hp g0 := hs0
    simp only [List.forIn_cons, List.forIn_nil, List.zipIdx_cons, List.zipIdx_nil]
    refine wpAny_bind (wpAny_bind (wpAny_bind (wpAny_onRaise ?_)))
    show wpAny _ _ (Builtin.SmallTypes.nextOf (.ref (N + 0)) >>= _) _ _ (Shared.mk g0 g d tk os)
    refine wpAny_bind (wpAny_nextOf_list_end hh (t1.at fun o e => (hs0.2 (N + 0) (ad (by omega))).trans (e)) (L1.at fun o e => (hs0.2 l1 (ad (by omega))).trans (e)) e1 fun p x hp1 hx => ?_)
    replace hp1 : Heap.ExtBut (N + 0) g0 p := hp1
    obtain ⟨ox, hox, hcx⟩ := hx
    replace hox : p.get? x = some ox := hox
    have hzp : ZS p (N + 5) (N + 3) (N + 4) .ellipsis f1 := hp1 _ _ (ad (by omega)) hz0
    have xz : x ≠ (N + 5) := fun y => by
      rw [y, hzp] at hox
      cases hox
      simp at hcx
    refine wpAny_setField_rec (s := ⟨p, g, d, tk, os⟩) hzp (by simp) fun m _ hm => ?_
    replace hm : Heap.SameBut (N + 5) p m := hm
    exact hE m x (fun c o cz cO c1 c2 c3 e => (hm.2 c cz).trans (hp1 c o c1 ((hs0.2 c cz).trans e))) ⟨ox, (hm.2 x xz).trans hox, hcx⟩
  · rw [if_neg (by decide)]
    replace hs0 : Heap.SameBut (N + 5) hp g0 := hs0
    simp only [← Array.forIn_toList, List.forIn_cons, List.forIn_nil]
    refine wpAny_bind (wpAny_bind (wpAny_bind (wpAny_holding ?_)))
    show wpAny _ _ (Builtin.SmallTypes.nextOf (.ref (N + 0)) >>= _) _ _ (Shared.mk g0 g d tk os)
    refine wpAny_bind (wpAny_nextOf_list_end hh (t1.at fun o e => (hs0.2 (N + 0) (ad (by omega))).trans (e)) (L1.at fun o e => (hs0.2 l1 (ad (by omega))).trans (e)) e1 fun p x hp1 hx => ?_)
    exact hE p x (fun c o cz cO c1 c2 c3 e => hp1 c o c1 ((hs0.2 c cz).trans e)) hx
end
end XV
set_option Elab.async false
set_option linter.all false
set_option maxRecDepth 100000
set_option maxHeartbeats 400000
/-! next of an enumerate over any iterator whose own next is told. -/
namespace XV
open PySem
open PySem.Sem (wp)
section
variable {prog : Program} {w : World} {A : Around} {E : Value → Shared → Prop} {s : Shared}
theorem enum_over {e q : Addr} {c : Int} {old x : Value} {NX : Heap → Prop} {Q : Value → Shared → Prop} (he : IsEnum s.heap e q c old)
    (hn : ∀ Q' : Value → Shared → Prop, (∀ h, NX h → Q' x { s with heap := h }) → wpAny (model prog w) A (Builtin.SmallTypes.nextOf (.ref q)) Q' E s) (hk : ∀ h, NX h → IsEnum h e q c old)
    (hQ : ∀ h1 h2, NX h1 → IsEnumOut h2 e q (c + 1) x h1.objs.size → h2.get? h1.objs.size = some { cls := .type "tuple", data := .seq #[.int c s.toks, x] } → h2.objs.size = h1.objs.size + 1 →
      (∀ b o, b ≠ e → h1.get? b = some o → h2.get? b = some o) → Q (.ref h1.objs.size) { s with heap := h2, toks := s.toks + 1 }) :
    wpAny (model prog w) A (Builtin.«enumerate.__next__» ⟨[.ref e], []⟩) (fun fin s' => ∃ v, fin = .done (.ret v) ∧ Q v s') E s := by
  obtain ⟨hp, gs, dr, tk, os⟩ := s
  show wpAny _ _ (field (.ref e) 2 >>= _) _ _ _
  refine wpAny_bind (wpAny_field he rfl (x := .ref q) rfl (wpAny_bind (hn _ fun h1 n1 => ?_)))
  have u1 := hk h1 n1
  show wpAny _ _ (field (.ref e) 3 >>= _) _ _ (Shared.mk h1 gs dr tk os)
  refine wpAny_bind (wpAny_field u1 rfl (x := rawInt c) rfl ?_)
  show wpAny _ _ (field (.ref e) 4 >>= _) _ _ (Shared.mk h1 gs dr tk os)
  refine wpAny_bind (wpAny_field u1 rfl (x := .none) rfl ?_)
  show wpAny _ _ (mkInt c >>= _) _ _ (Shared.mk h1 gs dr tk os)
  refine wpAny_bind (wpAny_mkInt ?_)
  show wpAny _ _ (setField (.ref e) 3 (rawInt (c + 1)) >>= _) _ _ (Shared.mk h1 gs dr (tk + 1) os)
  refine wpAny_bind (wpAny_setField_rec u1 (by simp) fun h2 u2 s2 => ?_)
  replace s2 : Heap.SameBut e h1 h2 := s2
  replace u2 : IsEnum h2 e q (c + 1) old := u2
  show wpAny _ _ (setField (.ref e) 4 .none >>= _) _ _ (Shared.mk h2 gs dr (tk + 1) os)
  refine wpAny_bind (wpAny_setField_rec u2 (by simp) fun h3 u3 s3 => ?_)
  replace s3 : Heap.SameBut e h2 h3 := s3
  replace u3 : IsEnum h3 e q (c + 1) old := u3
  show wpAny _ _ (newTuple [.int c tk, x] >>= _) _ _ (Shared.mk h3 gs dr (tk + 1) os)
  refine wpAny_bind (wpAny_newTuple ?_)
  have sz : h3.objs.size = h1.objs.size := by rw [s3.1, s2.1]
  have el : e < h1.objs.size := Heap.lt_size u1
  have u4 : IsEnum (h3.push { cls := .type "tuple", data := .seq #[.int c tk, x] }) e q (c + 1) old := Heap.get?_push_of_some _ u3
  have t4 : (h3.push { cls := .type "tuple", data := .seq #[.int c tk, x] }).get? h1.objs.size = some { cls := .type "tuple", data := .seq #[.int c tk, x] } := by
    rw [← sz]
    exact Heap.get?_push_size _ rfl
  have z4 : (h3.push { cls := .type "tuple", data := .seq #[.int c tk, x] }).objs.size = h1.objs.size + 1 := by rw [Heap.size_push, sz]
  have k4 : ∀ b o, b ≠ e → h1.get? b = some o → (h3.push { cls := .type "tuple", data := .seq #[.int c tk, x] }).get? b = some o := fun b o n y => Heap.get?_push_of_some _ ((s3.2 b n).trans ((s2.2 b n).trans y))
  show wpAny _ _ (Builtin.SmallTypes.ownedTupleIsFree (.ref e) >>= _) _ _ (Shared.mk (h3.push { cls := .type "tuple", data := .seq #[.int c tk, x] }) gs dr (tk + 1) os)
  rw [sz]
  generalize h3.push { cls := .type "tuple", data := .seq #[.int c tk, x] } = h4 at u4 t4 z4 k4
  refine wpAny_bind ?_
  unfold Builtin.SmallTypes.ownedTupleIsFree
  refine wpAny_bind (wpAny_field u4 rfl (x := .none) rfl (wpAny_pure ?_))
  rw [if_pos rfl]
  refine wpAny_bind (wpAny_rule (wpAny_bind (wpAny_field u4 rfl (x := old) rfl ?_)))
  refine wpAny_bind (wpAny_setField_rec u4 (by simp) fun h5 u5 s5 => ?_)
  replace s5 : Heap.SameBut e h4 h5 := s5
  replace u5 : IsEnum h5 e q (c + 1) x := u5
  show wpAny _ _ (Builtin.SmallTypes.ownedTupleHandOut (.ref e) (.ref h1.objs.size) >>= _) _ _ (Shared.mk h5 gs dr (tk + 1) os)
  refine wpAny_bind ?_
  unfold Builtin.SmallTypes.ownedTupleHandOut
  refine wpAny_bind (wpAny_setField_rec u5 (by simp) fun h6 u6 s6 => ?_)
  replace s6 : Heap.SameBut e h5 h6 := s6
  replace u6 : IsEnumOut h6 e q (c + 1) x h1.objs.size := u6
  refine wpAny_setField_rec u6 (by simp) fun h7 u7 s7 => ?_
  replace s7 : Heap.SameBut e h6 h7 := s7
  replace u7 : IsEnumOut h7 e q (c + 1) x h1.objs.size := u7
  have up : ∀ b, b ≠ e → h7.get? b = h4.get? b := fun b n => (s7.2 b n).trans ((s6.2 b n).trans (s5.2 b n))
  exact wpAny_bind (wpAny_letGo (wpAny_pure ⟨_, rfl, hQ h1 h7 n1 u7 ((up _ (Nat.ne_of_gt el)).trans t4) (by rw [s7.1, s6.1, s5.1, z4]) fun b o n y => (up b n).trans (k4 b o n y)⟩))
theorem pyNext_enum_over {e q : Addr} {c : Int} {old x : Value} {NX : Heap → Prop} {Q : Option Value → Shared → Prop} (he : IsEnum s.heap e q c old)
    (hn : ∀ (E' : Value → Shared → Prop) (Q' : Value → Shared → Prop), (∀ h, NX h → Q' x { s with heap := h }) → wpAny (model prog w) A.in1 (Builtin.SmallTypes.nextOf (.ref q)) Q' E' s) (hk : ∀ h, NX h → IsEnum h e q c old)
    (hQ : ∀ h1 h2, NX h1 → IsEnumOut h2 e q (c + 1) x h1.objs.size → h2.get? h1.objs.size = some { cls := .type "tuple", data := .seq #[.int c s.toks, x] } → h2.objs.size = h1.objs.size + 1 →
      (∀ b o, b ≠ e → h1.get? b = some o → h2.get? b = some o) → Q (some (.ref h1.objs.size)) { s with heap := h2, toks := s.toks + 1 }) :
    wpAny (model prog w) A (pyNext (.ref e)) Q E s := by
  have ty : s.TypeIs (.ref e) "enumerate" := ⟨_, he, rfl⟩
  unfold pyNext
  exact wpAny_bind (wpAny_attempt (wpAny_callSpecial?_slot (name := Str.ofString "__next__") ty F.slot_enumerate_next (wpAny_call_entry F.slot_enumerate_next ty F.entry_enumerate_next
    (enum_over he (hn _) hk fun h1 h2 n1 a b c d => wpAny_pure (hQ h1 h2 n1 a b c d)) (F.args_enumerate_next_1 _))))
theorem pyNext_enum_stop {e q : Addr} {c : Int} {old : Value} {Q : Option Value → Shared → Prop} {ST : Heap → Prop} (he : IsEnum s.heap e q c old)
    (hn : ∀ (E' : Value → Shared → Prop) (Q' : Value → Shared → Prop), (∀ h x, ST h → (∃ o, h.get? x = some o ∧ o.cls = .type "StopIteration") → E' (.ref x) { s with heap := h }) → wpAny (model prog w) A.in1 (Builtin.SmallTypes.nextOf (.ref q)) Q' E' s)
    (hQ : ∀ h, ST h → Q none { s with heap := h }) : wpAny (model prog w) A (pyNext (.ref e)) Q E s := by
  have ty : s.TypeIs (.ref e) "enumerate" := ⟨_, he, rfl⟩
  unfold pyNext
  refine wpAny_bind (wpAny_attempt (wpAny_callSpecial?_slot (name := Str.ofString "__next__") ty F.slot_enumerate_next (wpAny_call_entry F.slot_enumerate_next ty F.entry_enumerate_next ?_ (F.args_enumerate_next_1 _))))
  show wpAny _ _ (field (.ref e) 2 >>= _) _ _ _
  refine wpAny_bind (wpAny_field he rfl (x := .ref q) rfl (wpAny_bind (hn _ _ fun h x st y => ?_)))
  obtain ⟨o, ho, hc⟩ := y
  exact wpAny_bind (wpAny_isInstance (T := "StopIteration") (b := true) ⟨o, ho, hc⟩ isSubtype_stop (wpAny_pure (hQ h st)))
end
end XV
set_option Elab.async false
set_option linter.all false
set_option maxRecDepth 100000
set_option maxHeartbeats 4000000
/-! enumerate over a text: for at, letter in enumerate(letters), in comprehensions of dicts. -/
namespace XV
open PySem
open PySem.Sem (wp)
section
variable {prog : Program} {w : World} {A : Around} {E : Value → Shared → Prop} {s : Shared}
theorem enum_overT {e q : Addr} {c : Int} {old x : Value} {NX : Heap → Nat → Prop} {Q : Value → Shared → Prop} (he : IsEnum s.heap e q c old)
    (hn : ∀ Q' : Value → Shared → Prop, (∀ h k, NX h k → Q' x { s with heap := h, toks := k }) → wpAny (model prog w) A (Builtin.SmallTypes.nextOf (.ref q)) Q' E s) (hk : ∀ h k, NX h k → IsEnum h e q c old)
    (hQ : ∀ h1 k h2, NX h1 k → IsEnumOut h2 e q (c + 1) x h1.objs.size → h2.get? h1.objs.size = some { cls := .type "tuple", data := .seq #[.int c k, x] } → h2.objs.size = h1.objs.size + 1 →
      (∀ b o, b ≠ e → h1.get? b = some o → h2.get? b = some o) → Q (.ref h1.objs.size) { s with heap := h2, toks := k + 1 }) :
    wpAny (model prog w) A (Builtin.«enumerate.__next__» ⟨[.ref e], []⟩) (fun fin s' => ∃ v, fin = .done (.ret v) ∧ Q v s') E s := by
  obtain ⟨hp, gs, dr, tk0, os⟩ := s
  show wpAny _ _ (field (.ref e) 2 >>= _) _ _ _
  refine wpAny_bind (wpAny_field he rfl (x := .ref q) rfl (wpAny_bind (hn _ fun h1 tk n1 => ?_)))
  have u1 := hk h1 tk n1
  show wpAny _ _ (field (.ref e) 3 >>= _) _ _ (Shared.mk h1 gs dr tk os)
  refine wpAny_bind (wpAny_field u1 rfl (x := rawInt c) rfl ?_)
  show wpAny _ _ (field (.ref e) 4 >>= _) _ _ (Shared.mk h1 gs dr tk os)
  refine wpAny_bind (wpAny_field u1 rfl (x := .none) rfl ?_)
  show wpAny _ _ (mkInt c >>= _) _ _ (Shared.mk h1 gs dr tk os)
  refine wpAny_bind (wpAny_mkInt ?_)
  show wpAny _ _ (setField (.ref e) 3 (rawInt (c + 1)) >>= _) _ _ (Shared.mk h1 gs dr (tk + 1) os)
  refine wpAny_bind (wpAny_setField_rec u1 (by simp) fun h2 u2 s2 => ?_)
  replace s2 : Heap.SameBut e h1 h2 := s2
  replace u2 : IsEnum h2 e q (c + 1) old := u2
  show wpAny _ _ (setField (.ref e) 4 .none >>= _) _ _ (Shared.mk h2 gs dr (tk + 1) os)
  refine wpAny_bind (wpAny_setField_rec u2 (by simp) fun h3 u3 s3 => ?_)
  replace s3 : Heap.SameBut e h2 h3 := s3
  replace u3 : IsEnum h3 e q (c + 1) old := u3
  show wpAny _ _ (newTuple [.int c tk, x] >>= _) _ _ (Shared.mk h3 gs dr (tk + 1) os)
  refine wpAny_bind (wpAny_newTuple ?_)
  have sz : h3.objs.size = h1.objs.size := by rw [s3.1, s2.1]
  have el : e < h1.objs.size := Heap.lt_size u1
  have u4 : IsEnum (h3.push { cls := .type "tuple", data := .seq #[.int c tk, x] }) e q (c + 1) old := Heap.get?_push_of_some _ u3
  have t4 : (h3.push { cls := .type "tuple", data := .seq #[.int c tk, x] }).get? h1.objs.size = some { cls := .type "tuple", data := .seq #[.int c tk, x] } := by
    rw [← sz]
    exact Heap.get?_push_size _ rfl
  have z4 : (h3.push { cls := .type "tuple", data := .seq #[.int c tk, x] }).objs.size = h1.objs.size + 1 := by rw [Heap.size_push, sz]
  have k4 : ∀ b o, b ≠ e → h1.get? b = some o → (h3.push { cls := .type "tuple", data := .seq #[.int c tk, x] }).get? b = some o := fun b o n y => Heap.get?_push_of_some _ ((s3.2 b n).trans ((s2.2 b n).trans y))
  show wpAny _ _ (Builtin.SmallTypes.ownedTupleIsFree (.ref e) >>= _) _ _ (Shared.mk (h3.push { cls := .type "tuple", data := .seq #[.int c tk, x] }) gs dr (tk + 1) os)
  rw [sz]
  generalize h3.push { cls := .type "tuple", data := .seq #[.int c tk, x] } = h4 at u4 t4 z4 k4
  refine wpAny_bind ?_
  unfold Builtin.SmallTypes.ownedTupleIsFree
  refine wpAny_bind (wpAny_field u4 rfl (x := .none) rfl (wpAny_pure ?_))
  rw [if_pos rfl]
  refine wpAny_bind (wpAny_rule (wpAny_bind (wpAny_field u4 rfl (x := old) rfl ?_)))
  refine wpAny_bind (wpAny_setField_rec u4 (by simp) fun h5 u5 s5 => ?_)
  replace s5 : Heap.SameBut e h4 h5 := s5
  replace u5 : IsEnum h5 e q (c + 1) x := u5
  show wpAny _ _ (Builtin.SmallTypes.ownedTupleHandOut (.ref e) (.ref h1.objs.size) >>= _) _ _ (Shared.mk h5 gs dr (tk + 1) os)
  refine wpAny_bind ?_
  unfold Builtin.SmallTypes.ownedTupleHandOut
  refine wpAny_bind (wpAny_setField_rec u5 (by simp) fun h6 u6 s6 => ?_)
  replace s6 : Heap.SameBut e h5 h6 := s6
  replace u6 : IsEnumOut h6 e q (c + 1) x h1.objs.size := u6
  refine wpAny_setField_rec u6 (by simp) fun h7 u7 s7 => ?_
  replace s7 : Heap.SameBut e h6 h7 := s7
  replace u7 : IsEnumOut h7 e q (c + 1) x h1.objs.size := u7
  have up : ∀ b, b ≠ e → h7.get? b = h4.get? b := fun b n => (s7.2 b n).trans ((s6.2 b n).trans (s5.2 b n))
  exact wpAny_bind (wpAny_letGo (wpAny_pure ⟨_, rfl, hQ h1 tk h7 n1 u7 ((up _ (Nat.ne_of_gt el)).trans t4) (by rw [s7.1, s6.1, s5.1, z4]) fun b o n y => (up b n).trans (k4 b o n y)⟩))
theorem pyNext_enum_overT {e q : Addr} {c : Int} {old x : Value} {NX : Heap → Nat → Prop} {Q : Option Value → Shared → Prop} (he : IsEnum s.heap e q c old)
    (hn : ∀ (E' : Value → Shared → Prop) (Q' : Value → Shared → Prop), (∀ h k, NX h k → Q' x { s with heap := h, toks := k }) → wpAny (model prog w) A.in1 (Builtin.SmallTypes.nextOf (.ref q)) Q' E' s) (hk : ∀ h k, NX h k → IsEnum h e q c old)
    (hQ : ∀ h1 k h2, NX h1 k → IsEnumOut h2 e q (c + 1) x h1.objs.size → h2.get? h1.objs.size = some { cls := .type "tuple", data := .seq #[.int c k, x] } → h2.objs.size = h1.objs.size + 1 →
      (∀ b o, b ≠ e → h1.get? b = some o → h2.get? b = some o) → Q (some (.ref h1.objs.size)) { s with heap := h2, toks := k + 1 }) :
    wpAny (model prog w) A (pyNext (.ref e)) Q E s := by
  have ty : s.TypeIs (.ref e) "enumerate" := ⟨_, he, rfl⟩
  unfold pyNext
  exact wpAny_bind (wpAny_attempt (wpAny_callSpecial?_slot (name := Str.ofString "__next__") ty F.slot_enumerate_next (wpAny_call_entry F.slot_enumerate_next ty F.entry_enumerate_next
    (enum_overT he (hn _) hk fun h1 k h2 n1 a b c d => wpAny_pure (hQ h1 k h2 n1 a b c d)) (F.args_enumerate_next_1 _))))
end
end XV
namespace XV
open PySem PySem.Spec PyProof.Rows L2
/-- the letters of a text, each in a new pair with its place -/
def ItEs (x : Str) : It := ⟨fun i _ => i < x.cps.size, fun i H v H' => ∃ T c, v = .ref T ∧ H T = none ∧ H' = upd H T (.tup [.int (i : Nat), .str ⟨#[c]⟩]) ∧ x.cps[i]? = some c, fun i _ => x.cps.size ≤ i⟩
theorem turn_enumS {P : Program} {w : World} {K : PySem.W.Frag} {elts : List Expr} {kk : Nat} {tpos : Pos} (e it : Addr) (x : Str) (t : Tok) :
    Turn P w K (.Tuple elts kk tpos) (ItEs x) [e, it] e (fun i h => (∃ old, IsEnum h e it ((i : Nat) : Int) old) ∧ h.IsStrIter it "str_ascii_iterator" x t i ∧ e ≠ it) where
  mem := by simp
  obj := fun i h st b hb => by
    obtain ⟨⟨old, he⟩, ⟨o, ho, hc, hd⟩, _⟩ := st
    have e' : b = e ∨ b = it := by simpa using hb
    rcases e' with z | z
    · rw [z]; exact ⟨_, he, fun v q => nomatch q⟩
    · rw [z]; exact ⟨o, ho, fun v q => by rw [hd] at q; cases q⟩
  keep := fun i h h' st k => let ⟨⟨old, he⟩, ⟨o, ho, r⟩, hne⟩ := st; ⟨⟨old, k e (by simp) _ he⟩, ⟨o, k it (by simp) o ho, r⟩, hne⟩
  item := by
    intro X hP hw hK hc i pins s σ H E I hf st hg
    subst hP hw hK
    obtain ⟨⟨old, he⟩, hit, hne⟩ := st
    have hg : i < x.cps.size := hg
    have hx : x.cps[i]? = some x.cps[i] := Array.getElem?_eq_getElem hg
    generalize x.cps[i] = c at hx
    have hel : e < s.heap.objs.size := Heap.lt_size he
    have hil : it < s.heap.objs.size := by obtain ⟨_, q, _⟩ := hit; exact Heap.lt_size q
    refine pyNext_enum_overT (c := (i : Int)) (x := .str ⟨#[c]⟩ s.toks) (NX := fun h k => h.IsStrIter it "str_ascii_iterator" x t (i + 1) ∧ Heap.SameBut it s.heap h ∧ k = s.toks + 1) he
      (fun E' Q' q => wpAny_nextOf_ascii_item hit hx fun h' a b => q h' _ ⟨a, b, rfl⟩) (fun h k n => (n.2.1.2 e hne).trans he) fun h1 k h2 n1 o2 t2 z2 k2 => ?_
    obtain ⟨n1, n2, rfl⟩ := n1
    have sz : h1.objs.size = s.heap.objs.size := n2.1
    refine ⟨_, rfl, wpAny_letOwnedTupleGo_enum (s := { s with heap := h2, toks := s.toks + 1 + 1 }) o2 fun h'' he' sb => ?_⟩
    rw [sz] at t2 z2 o2 ⊢
    have hT2 : h''.get? s.heap.objs.size = some { cls := .type "tuple", data := .seq #[.int i (s.toks + 1), .str ⟨#[c]⟩ s.toks] } := (sb.2 _ (Nat.ne_of_gt hel)).trans t2
    have new : ObjOk X.prog X.w (upd H s.heap.objs.size (.tup [.int (i : Nat), .str ⟨#[c]⟩])) h'' s.heap.objs.size (.tup [.int (i : Nat), .str ⟨#[c]⟩]) :=
      ⟨by show 2 ≤ sizeLine; decide, [.int i (s.toks + 1), .str ⟨#[c]⟩ s.toks], .cons ⟨_, rfl⟩ (.cons ⟨_, rfl⟩ .nil), ⟨_, hT2, rfl, _, rfl⟩⟩
    have I1 : Inv X pins σ (upd H s.heap.objs.size (.tup [.int (i : Nat), .str ⟨#[c]⟩])) { s with heap := h'', toks := s.toks + 1 + 1 } :=
      I.turnedNew (ch := [e, it]) (fun b ob hb q => (sb.2 b (fun z => hb (by simp [z]))).trans (k2 b ob (fun z => hb (by simp [z])) ((n2.2 b (fun z => hb (by simp [z]))).trans q))) hf (Nat.le_refl _) new
    refine ⟨.ref s.heap.objs.size, _, I1, rfl, ⟨_, c, rfl, I.hok.fresh (Nat.le_refl _), rfl, hx⟩, ⟨⟨.str ⟨#[c]⟩ s.toks, ?_⟩, ?_, hne⟩, fun b hb => ?_⟩
    · have e1 : ((i + 1 : Nat) : Int) = (i : Int) + 1 := by omega
      rw [e1]; exact he'
    · obtain ⟨o, ho, r⟩ := n1
      exact ⟨o, (sb.2 it (Ne.symm hne)).trans (k2 it o (Ne.symm hne) ho), r⟩
    · have hb' : b < s.heap.objs.size := by
        have e' : b = e ∨ b = it := by simpa using hb
        rcases e' with z | z
        · rw [z]; exact hel
        · rw [z]; exact hil
      rw [upd_ne (Nat.ne_of_lt hb')]
      exact (hf b hb).1
  done := by
    intro X hP hw hK hc i pins s σ H E I hf st hg
    subst hP hw hK
    obtain ⟨⟨old, he⟩, hit, hne⟩ := st
    obtain ⟨f0, f1, f2, f3, f4, f5⟩ := hf it (by simp)
    have hx : x.cps[i]? = none := Array.getElem?_eq_none hg
    exact pyNext_enum_stop (ST := fun h => Heap.ExtBut it s.heap h) he (fun E' Q' q => wpAny_nextOf_ascii_end (I.ok.hd hc) hit hx fun h' y a b => q h' y a b) fun h a => ⟨rfl, I.turned (t' := s.toks) (fun b o hb q => a b o hb q) f0 f1 f3 f4 f5⟩
  self := fun A i s Q E st h => let ⟨⟨_, he⟩, _⟩ := st; wpAny_pyIter_enum he h
def iEnumS (te : TE) : TI := fun σ H R => te σ H fun v H1 => ∃ x, v = .str x ∧ x.cps.all (· < 128) = true ∧ R (ItEs x) H1
theorem pi_enumS {X : Cx} {e : Expr} {te : TE} {p pos tpos : Pos} {elts : List Expr} {kk : Nat} (hg : Gl X "enumerate") (hm : X.mg "enumerate" = none) (ha : PE X e te) (hs : starEach [e] X.env = (false, eval e X.env) :: starEach [] X.env := by rfl) :
    PI X (.Tuple elts kk tpos) (.Call (.Name "enumerate" p) [e] [] pos) (iEnumS te) := by
  refine ⟨fun pins s σ H R I h => ?_⟩
  refine Call_ (ld_blt I hg hm boot_enumerate (PyProof.Rows.callWith_type1 (one_arg ha I h (fun v s1 y H1 I1 r q => ?_) hs) hs))
  obtain ⟨x, rfl, ax, q⟩ := q
  obtain ⟨t, rfl⟩ := r
  refine call_enumerate_str fun h' he hit hsz hk => wpAny_pyIter_enum he ?_
  rw [show strIterType x = "str_ascii_iterator" from if_pos ax] at hit
  have I2 : Inv X pins σ H1 { s1 with heap := h' } := I1.kept (t' := s1.toks) hk
  refine ⟨s1.heap.objs.size + 1, [s1.heap.objs.size + 1, s1.heap.objs.size], _, _, H1, rfl, I2, turn_enumS (s1.heap.objs.size + 1) s1.heap.objs.size x t, ⟨⟨.none, he⟩, hit, Nat.succ_ne_self _⟩, fun b hb => ?_, q⟩
  have e' : b = s1.heap.objs.size + 1 ∨ b = s1.heap.objs.size := by simpa using hb
  have hle : s1.heap.objs.size ≤ b := by
    rcases e' with z | z
    · rw [z]; exact Nat.le_add_right _ _
    · rw [z]; exact Nat.le_refl _
  exact I1.fpOk hle (I1.hok.fresh hle)
end XV
set_option Elab.async false
set_option linter.all false
set_option maxRecDepth 100000
set_option maxHeartbeats 4000000
/-! comprehensions of dicts over anything that walks; enumerate over a text walks. -/
namespace XV
open PySem PySem.Spec PyProof.Rows L2
theorem walk_enumS {x : Str} : Walk (ItEs x) x.cps.size (fun _ => True) (YPair (fun i => some (.int (i : Nat))) (fun i => (x.cps[i]?).map fun c => .str ⟨#[c]⟩)) :=
  ⟨fun _ _ hi _ => hi, fun _ _ => Nat.le_refl _, fun i H v H' _ _ y => by
    obtain ⟨T, c, h1, h2, h3, h4⟩ := y
    exact ⟨T, .int (i : Nat), .str ⟨#[c]⟩, h1, h2, h3, rfl, by show (x.cps[i]?).map _ = _; rw [h4]; rfl⟩⟩
section
variable {J : It} {n : Nat} {G : Hp → Prop} {Y : Nat → Hp → V → Hp → Prop}
/-- a comprehension of a dict over it -/
theorem dc_it (w : Walk J n G Y) {g : TG} {tt : TT} {tk tv : TE} {vs : List Nat} {σ : L2.St} {H1 : Hp} {D : Addr} {Qd : Hp → Prop} (Pv : Nat → Hp → Prop) (h0 : Pv 0 (upd H1 D (.dK []))) (hG : ∀ i H, i ≤ n → Pv i H → G H)
    (hs : ∀ i x H H', i < n → Pv i H → Y i H x H' → g x (wipe σ vs) H' fun σ2 H2 => wipe σ2 vs = wipe σ vs ∧ tt σ2 H2 fun b H3 =>
      if b = true then tk σ2 H3 fun y H4 => tv σ2 H4 fun z H5 => ∃ kvs k, y = kV k ∧ H5 D = some (.dK kvs) ∧ kvs.length < sizeLine ∧ Pv (i + 1) (upd H5 D (.dK (putK kvs k z))) else Pv (i + 1) H3) (hd : ∀ H, Pv n H → Qd H) :
    ∃ W : Nat → Nat → Hp → Prop, (∃ m, W 0 m (upd H1 D (.dK []))) ∧ ∀ i m H, W i m H →
      (J.stop i H ∧ Qd H) ∨ (J.go i H ∧ ∃ Nx : Hp → Prop, (∀ H', Nx H' → ∃ m', m' < m ∧ W (i + 1) m' H') ∧ ∀ x H', J.yld i H x H' → g x (wipe σ vs) H' fun σ2 H2 => wipe σ2 vs = wipe σ vs ∧ tt σ2 H2 fun b H3 =>
        if b = true then tk σ2 H3 fun y H4 => tv σ2 H4 fun z H5 => ∃ kvs k, y = kV k ∧ H5 D = some (.dK kvs) ∧ kvs.length < sizeLine ∧ Nx (upd H5 D (.dK (putK kvs k z))) else Nx H3) := by
  refine ⟨fun i m H => m = n - i ∧ i ≤ n ∧ Pv i H, ⟨n, by simp, Nat.zero_le _, h0⟩, ?_⟩
  rintro i m H ⟨rfl, hi, p⟩
  have q := hG i H hi p
  by_cases hlt : i < n
  · exact .inr ⟨w.goes i H hlt q, Pv (i + 1), fun H' p' => ⟨n - (i + 1), by omega, rfl, hlt, p'⟩, fun x H' y => hs i x H H' hlt p (w.yields i H x H' hlt q y)⟩
  · have e : i = n := by omega
    subst e
    exact .inl ⟨w.stops H q, hd H p⟩
end
end XV
set_option Elab.async false
set_option linter.all false
set_option maxRecDepth 100000
set_option maxHeartbeats 400000
namespace XT
open PySem PySem.Spec PyProof.Rows L2
/-! ### sets of texts: made, added to, their members in order -/
def kS (v : Value) : Str := match v with
  | .str k _ => k
  | _ => Str.empty
def kE (e : Int × Value) : Str := kS e.2
def GdE (w : World) (e : Int × Value) : Prop := ∃ k u, e.2 = Value.str k u ∧ e.1 = hashStr w k
/-- the texts S, n of them, are the set at a; its table can be walked -/
def SetS (w : World) (h : Heap) (a : Addr) (S : Str → Bool) (n : Nat) : Prop :=
  ∃ o es ep t, h.get? a = some o ∧ o.ExactSet ∧ o.data = .set es ep t ∧ (∀ e ∈ es.toList, GdE w e) ∧ (es.toList.map kE).Nodup ∧ (∀ k, S k = true ↔ k ∈ es.toList.map kE) ∧
    es.size < scanBound ∧ t.fits es.size = true ∧ es.size = n ∧ Ris t.place.toList ∧ (w.params.followText "set-order" = true ∨ t.led = true)
section
variable {P : Program} {w : World} {h h' : Heap} {a : Addr} {S : Str → Bool} {n : Nat}
theorem SetS.at (R : SetS w h a S n) (k : ∀ o, h.get? a = some o → h'.get? a = some o) : SetS w h' a S n := by
  obtain ⟨o, es, ep, t, ho, rest⟩ := R
  exact ⟨o, es, ep, t, k o ho, rest⟩
theorem SetS.congr {S2 : Str → Bool} (R : SetS w h a S n) (e : ∀ k, S2 k = S k) : SetS w h a S2 n := by
  rw [show S2 = S from funext e]
  exact R
theorem gd_elems {l : List (Int × Value)} (g : ∀ e ∈ l, GdE w e) : ElemsOf (PySem.strKind P w) l := fun e he => by
  obtain ⟨k, u, h1, h2⟩ := g e he
  exact ⟨⟨k, by rw [h1]; exact strKind_is P w k u, h2⟩, by rw [h1] <;> rfl⟩
theorem gd_is {e : Int × Value} (g : GdE w e) (k : Str) : (PySem.strKind P w).is k e.2 = true ↔ kE e = k := by
  obtain ⟨k0, u, h1, _⟩ := g
  unfold kE
  rw [h1]
  show Value.isStrOf k (.str k0 u) = true ↔ k0 = k
  simp only [Value.isStrOf, beq_iff_eq]
theorem gd_mem {l : List (Int × Value)} (g : ∀ e ∈ l, GdE w e) (k : Str) : k ∈ l.map kE ↔ ∃ e ∈ l, (PySem.strKind P w).is k e.2 = true := by
  rw [List.mem_map]
  exact ⟨fun ⟨e, he, q⟩ => ⟨e, he, (gd_is (g e he) k).2 q⟩, fun ⟨e, he, q⟩ => ⟨e, he, (gd_is (g e he) k).1 q⟩⟩
end
section
variable {P : Program} {w : World} {A : Around} {E : Value → Shared → Prop} {s : Shared} {a : Addr} {S : Str → Bool} {n : Nat}
theorem setS_tail {g : Bool → Sem Unit} (hg : ∀ (b : Bool) (s1 : Shared) (Q1 : Unit → Shared → Prop), Q1 () s1 → wpAny (model P w) A (g b) Q1 E s1)
    {o : Obj} {es : Array (Int × Value)} {ep : Nat} {t : SetTable} (ho : s.heap.get? a = some o) (hex : o.ExactSet) (hd : o.data = .set es ep t)
    {es1 : Array (Int × Value)} {t2 : SetTable} {S2 : Str → Bool} (g1 : ∀ e ∈ es1.toList, GdE w e) (nd1 : (es1.toList.map kE).Nodup) (m1 : ∀ k, S2 k = true ↔ k ∈ es1.toList.map kE)
    (hb1 : es1.size < scanBound) (hf2 : t2.fits es1.size = true) (hr : Ris t2.place.toList) (hl : w.params.followText "set-order" = true ∨ t2.led = true) {wasDummy : Bool} {R : Option Bool → Shared → Prop}
    (hR : ∀ h', Heap.SameBut a s.heap h' → SetS w h' a S2 es1.size → R (some true) { s with heap := h' }) :
    wpAny (model P w) A (do
        storeSet a es1 t2
        if (!wasDummy && t2.tooFull) = true then do
            g (relayAll t2 es1 (SetTable.grown es1.size)).2.2
            storeSet a (relayAll t2 es1 (SetTable.grown es1.size)).1 (relayAll t2 es1 (SetTable.grown es1.size)).2.1
            pure (some true)
          else pure (some true)) R E s := by
  have ho1 := store_at (es' := es1) (t' := t2) ho hd
  have sb1 := Heap.SameBut.update s.heap a (Obj.putSet es1 t2)
  refine wpAny_bind (wpAny_storeSet_of ho hd ?_ (fits_of_scanBound hb1))
  split
  · have pm := relayAll_perm t2 es1 (SetTable.grown es1.size)
    have f3 := relayAll_fits t2 es1 (SetTable.grown es1.size)
    have r3 := relayAll_ris t2 es1 (SetTable.grown es1.size)
    have l3 := relayAll_led t2 es1 (SetTable.grown es1.size)
    generalize relayAll t2 es1 (SetTable.grown es1.size) = Z at pm f3 r3 l3 ⊢
    obtain ⟨es2, t3, gv⟩ := Z
    dsimp only at pm f3 r3 l3 ⊢
    have z2 : es2.size = es1.size := by rw [← Array.length_toList, pm.length_eq, Array.length_toList]
    have hb2 : es2.size < scanBound := z2 ▸ hb1
    refine wpAny_bind (hg _ _ _ (wpAny_bind (wpAny_storeSet_of ho1 rfl ?_ (fits_of_scanBound hb2))))
    have ho2 := store_at (es' := es2) (t' := t3) ho1 rfl
    refine wpAny_pure (hR _ (sb1.trans (Heap.SameBut.update _ a _)) ?_)
    exact ⟨_, es2, _, t3, ho2, hex, rfl, fun e he => g1 e (pm.mem_iff.mp he), (pm.map kE).nodup_iff.mpr nd1, fun k => (m1 k).trans (pm.map kE).mem_iff.symm, hb2, f3, z2, r3,
      hl.imp id fun z => by rw [l3]; exact z⟩
  · exact wpAny_pure (hR _ sb1 ⟨_, es1, _, t2, ho1, hex, rfl, g1, nd1, m1, hb1, hf2, rfl, hr, hl⟩)
theorem setS_add {k : Str} {u : Tok} {Q : Bool → Shared → Prop} (R : SetS w s.heap a S n) (room : n + 1 < scanBound)
    (hQ : ∀ h', Heap.SameBut a s.heap h' → SetS w h' a (fun j => S j || decide (j = k)) (if S k = true then n else n + 1) → Q (!S k) { s with heap := h' }) :
    wpAny (model P w) A (setAddHashed a (.str k u) ((PySem.strKind P w).hash k)) Q E s := by
  obtain ⟨o, es, ep, t, ho, hex, hd, g, nd, hm, hb, hf, hn, hr, hl⟩ := R
  have key : (PySem.strKind P w).is k (.str k u) = true := strKind_is P w k u
  have sc : (Value.str k u).scannable = true := rfl
  have el : ElemsOf (PySem.strKind P w) es.toList := gd_elems g
  unfold setAddHashed setAddHashedIn
  refine wpAny_holding (wpAny_bind (wpAny_setState_of ho hd hf ?_))
  dsimp only
  rw [byScan_of sc hb el]
  simp only [↓reduceIte]
  unfold setAddByScan
  refine wpAny_bind (wpAny_bind (wpAny_rule (wpAny_bind (wpAny_setScan_of key ho hd hf el ?_))))
  cases hfi : List.findIdx? (fun e => (PySem.strKind P w).is k e.2) es.toList with
  | some j =>
    dsimp only
    obtain ⟨hj, pj, _⟩ := List.findIdx?_eq_some_iff_getElem.mp hfi
    have hSk : S k = true := (hm k).2 ((gd_mem (P := P) (w := w) g k).2 ⟨es.toList[j], List.getElem_mem hj, pj⟩)
    refine wpAny_pure (wpAny_pure ?_)
    have q := hQ s.heap (Heap.SameBut.refl a s.heap) ⟨o, es, ep, t, ho, hex, hd, g, nd, fun i => by
      rw [Bool.or_eq_true, decide_eq_true_eq, ← hm i]
      exact ⟨fun z => z.elim id (fun e => e ▸ hSk), .inl⟩, hb, hf, by rw [if_pos hSk]; exact hn, hr, hl⟩
    rw [hSk] at q
    exact q
  | none =>
    dsimp only
    have nk : k ∉ es.toList.map kE := fun z => by
      obtain ⟨e, he, q⟩ := (gd_mem (P := P) (w := w) g k).1 z
      have c := List.findIdx?_eq_none_iff.mp hfi e he
      rw [q] at c
      cases c
    have hSk : S k = false := Bool.eq_false_iff.mpr fun q => nk ((hm k).1 q)
    have gw : ∀ (b : Bool) {s1 : Shared} {Q1 : Unit → Shared → Prop}, Q1 () s1 → wpAny (model P w) A (match b with | true => rule "set.scan.the-table-gave-way" | false => pure ()) Q1 E s1 :=
      fun b s1 Q1 q => by cases b <;> first | exact wpAny_pure q | exact wpAny_rule q
    have pm := layNew_perm t es ((PySem.strKind P w).hash k) (.str k u)
    have f1 := layNew_fits t es ((PySem.strKind P w).hash k) (.str k u)
    have r1 := layNew_ris t es ((PySem.strKind P w).hash k) (.str k u) hr
    have l1 := layNew_led t es ((PySem.strKind P w).hash k) (.str k u)
    generalize layNew t es ((PySem.strKind P w).hash k) (.str k u) = Z at pm f1 r1 l1 ⊢
    obtain ⟨es1, t1, wd, gv⟩ := Z
    dsimp only at pm f1 r1 l1 ⊢
    rw [Array.toList_push] at pm
    have pc : es1.toList.Perm (((PySem.strKind P w).hash k, Value.str k u) :: es.toList) := pm.trans (List.perm_append_singleton _ _)
    have pk : (es1.toList.map kE).Perm (k :: es.toList.map kE) := pc.map kE
    have g1 : ∀ e ∈ es1.toList, GdE w e := fun e he => by
      rcases List.mem_cons.mp (pc.mem_iff.mp he) with z | z
      · rw [z]; exact ⟨k, u, rfl, rfl⟩
      · exact g e z
    have nd1 : (es1.toList.map kE).Nodup := pk.nodup_iff.mpr (List.nodup_cons.mpr ⟨nk, nd⟩)
    have m1 : ∀ i, (S i || decide (i = k)) = true ↔ i ∈ es1.toList.map kE := fun i => by
      rw [Bool.or_eq_true, decide_eq_true_eq, hm i, pk.mem_iff, List.mem_cons]
      exact Or.comm
    have sz1 : es1.size = n + 1 := by rw [← Array.length_toList, pc.length_eq, List.length_cons, Array.length_toList, hn]
    have hb1 : es1.size < scanBound := by rw [sz1]; exact room
    have led1 : w.params.followText "set-order" = true ∨ t1.led = true := hl.imp id fun z => by rw [l1]; exact z
    have fin : ∀ h', Heap.SameBut a s.heap h' → SetS w h' a (fun j => S j || decide (j = k)) es1.size → Q true { s with heap := h' } := fun h' sb r => by
      have q := hQ h' sb
      rw [hSk] at q
      rw [sz1] at r
      exact q r
    refine wpAny_bind (gw _ ?_)
    split
    · refine wpAny_bind ?_
      rw [hashByValue_scannable 8 sc]
      refine wpAny_pure (setS_tail ?_ ho hex hd g1 nd1 m1 hb1 ?_ ?_ ?_ ?_)
      · intro b s1 Q1 q; cases b <;> first | exact wpAny_pure q | exact wpAny_rule q
      · first | (split <;> first | exact f1 | exact SetTable.fits_plain_off f1) | exact f1
      · first | (split <;> exact r1) | exact r1
      · first | (split <;> exact led1) | exact led1
      · intro h' sb r; dsimp only; exact wpAny_pure (fin h' sb r)
    · refine wpAny_bind (wpAny_pure ?_)
      simp only [↓reduceIte]
      refine setS_tail ?_ ho hex hd g1 nd1 m1 hb1 f1 r1 led1 ?_
      · intro b s1 Q1 q; cases b <;> first | exact wpAny_pure q | exact wpAny_rule q
      · intro h' sb r; dsimp only; exact wpAny_pure (fin h' sb r)
theorem nd_len : ∀ (l m : List Str), l.Nodup → (∀ x ∈ l, x ∈ m) → l.length ≤ m.length
  | [], m, _, _ => Nat.zero_le _
  | x :: l, m, nd, h => by
    obtain ⟨h1, h2⟩ := List.nodup_cons.mp nd
    have hx := h x List.mem_cons_self
    have e := List.length_erase_of_mem hx
    have ih := nd_len l (m.erase x) h2 fun y hy => (List.mem_erase_of_ne (fun z : y = x => h1 (by rw [← z]; exact hy))).mpr (h y (List.mem_cons_of_mem _ hy))
    have := List.length_pos_of_mem hx
    rw [List.length_cons]
    omega
abbrev frs (w : World) : Obj := { cls := .type "set", dict := none, data := .set #[] 0 (.fresh 0 0 (!w.params.followText "set-order")) }
theorem setS_at0 {h : Heap} (ho : h.get? a = some (frs w)) : SetS w h a (fun _ => false) 0 :=
  ⟨_, #[], 0, _, ho, ⟨rfl, rfl, rfl⟩, rfl, (fun e he => by simp at he), (by simp), (fun k => by simp), (by decide), (by rfl), rfl, List.Pairwise.nil, by
    show _ ∨ (!w.params.followText "set-order") = true
    cases w.params.followText "set-order"
    · exact .inr rfl
    · exact .inl rfl⟩
/-- set.update's loop over texts -/
theorem upd_texts {I : Addr} {fp wr : List Addr} {G : Array GenState → Array GenState → Prop} {n : Nat} {Pv : Nat → Value → Prop} {St : Nat → Shared → Prop} {R : Result → Shared → Prop}
    (W : WalksS P w A.in1 I fp wr G n Pv St) (D : Addr) (nf : D ∉ fp) (xs : List Str) (hn : n = xs.length) (Ws : List Str) (hF : ∀ x ∈ xs, x ∈ Ws) (hb : Ws.length + 1 < scanBound) (hval : ∀ i v, Pv i v → ∃ k t, xs[i]? = some k ∧ v = .str k t) :
    ∀ (k i : Nat) (s : Shared), n - i = k → i ≤ n → St i s → (∃ c, c ≤ Ws.length ∧ SetS w s.heap D (fun j => decide (j ∈ xs.take i)) c) →
      (∀ s' c, Moved (D :: wr) G s s' → c ≤ Ws.length → SetS w s'.heap D (fun j => decide (j ∈ xs)) c → R (.ok (.ret .none)) s') →
      codeAny (model P w) A (.builtin "set.update.loop" ⟨[.ref D, .ref I], []⟩) R s := by
  have nw : D ∉ wr := fun h => nf (W.sub _ h)
  have sub : ∀ b ∈ wr, b ∈ D :: wr := fun b hb => List.mem_cons_of_mem _ hb
  intro k
  induction k with
  | zero =>
    intro i s hk hi hst ⟨c, hc, hS⟩ hR
    obtain rfl : i = n := by omega
    refine codeAny_builtin F.entry_set_update_loop ?_
    rw [Around.under_plainId F.plain_set_update_loop _]
    show wpAny _ A.in1 (pyNext (.ref I) >>= _) _ _ s
    refine wpAny_bind (W.done s _ _ hst fun s' hm => ?_)
    show wpAny _ A.in1 (ret Value.none) _ _ s'
    have e : xs.take i = xs := List.take_of_length_le (by omega)
    rw [e] at hS
    exact wpAny_pure (hR s' c (hm.mono sub) hc (hS.at fun o e => hm.heap D o nw e))
  | succ k ih =>
    intro i s hk hi hst ⟨c, hc, hS⟩ hR
    have lt : i < n := by omega
    refine codeAny_builtin F.entry_set_update_loop ?_
    rw [Around.under_plainId F.plain_set_update_loop _]
    show wpAny _ A.in1 (pyNext (.ref I) >>= _) _ _ s
    refine wpAny_bind (W.item i s _ _ lt hst fun v s' hP hst2 hm => ?_)
    obtain ⟨z, t, hz, rfl⟩ := hval i v hP
    have hS2 : SetS w s'.heap D (fun j => decide (j ∈ xs.take i)) c := hS.at fun o e => hm.heap D o nw e
    show wpAny _ A.in1 (holding [Value.str z t] (setAdd D (.str z t)) >>= _) _ _ s'
    unfold setAdd
    refine wpAny_bind (wpAny_holding (wpAny_holding (wpAny_bind ((PySem.strKind P w).pyHash (k := z) (strKind_is _ _ _ _) ?_))))
    refine setS_add (s := { s' with toks := s'.toks + 1 }) hS2 (by omega) fun h' hsb hS3 => ?_
    have hS4 : SetS w h' D (fun j => decide (j ∈ xs.take (i + 1))) (if decide (z ∈ xs.take i) = true then c else c + 1) := hS3.congr fun j => by
      rw [List.take_add_one, hz]
      simp [List.mem_append]
    have hc4 : (if decide (z ∈ xs.take i) = true then c else c + 1) ≤ Ws.length := by
      obtain ⟨o, es, ep, t4, _, _, _, _, nd4, m4, _, _, n4, _⟩ := hS4
      rw [← n4, ← Array.length_toList, ← List.length_map (f := kE)]
      exact nd_len _ Ws nd4 fun x hx => hF x (List.mem_of_mem_take (of_decide_eq_true ((m4 x).2 hx)))
    refine wpAny_pure ⟨plainId_quiet F.plain_set_update_loop _, ih (i + 1) _ (by omega) lt (W.frame _ s' _ _ hst2 (Nat.le_succ _) fun b hb o e => ?_) ⟨_, hc4, hS4⟩ fun s3 c2 hm3 hc3 hS5 => ?_⟩
    · rw [hsb.2 b (fun h : b = D => nf (by rw [← h]; exact hb))]; exact e
    · refine hR s3 c2 (Moved.trans W.gtrans ((hm.mono sub).then_heap (Nat.le_succ _) fun b o hb e => ?_) hm3) hc3 hS5
      rw [hsb.2 b (fun h : b = D => hb (by rw [h]; exact List.mem_cons_self))]; exact e
end
end XT
set_option Elab.async false
set_option linter.all false
set_option maxRecDepth 100000
set_option maxHeartbeats 400000
namespace XT
open PySem PySem.Spec PyProof.Rows L2
/-! ### set(x): the call up to its update -/
section
variable {P : Program} {w : World} {A : Around} {E : Value → Shared → Prop} {s : Shared}
set_option maxHeartbeats 3200000 in
theorem call_set_by {x : Value} {Q : Value → Shared → Prop}
    (core : ∀ (A1 : Around) (E1 : Value → Shared → Prop) (Q1 : Unit → Shared → Prop), A1.handled = A.handled → (∀ s2, Q (.ref s.heap.objs.size) s2 → Q1 () s2) →
      wpAny (model P w) A1 (Builtin.Frozenset.updateFrom "set.__init__" s.heap.objs.size x) Q1 E1 { s with heap := s.heap.push (frs w) }) :
    wpAny (model P w) A (call (.type "set") [x]) Q E s := by
  obtain ⟨c, tl, hmro⟩ := F.called_set.mro
  have mk := F.called_set.made
  have sb := F.called_set.sub
  refine wpAny_call (codeAny_of_tree ?_)
  show wpAny _ _ (callAny (.type "set") _) _ _ _
  refine wpAny_pure ⟨Code.quiet_builtin _ (by decide +kernel), codeAny_builtin F.entry_type_call ?_⟩
  rw [Around.under_plain (weight_type_call_type "set" [x] []) rfl]
  have n1 := F.called_set.notType
  have n2 := F.called_set.canCreate
  have ct := F.typeCall_set_1 x
  repeat (any_goals (first | assumption | wp_step))
  refine codeAny_mono (code_set_led1 x (E := E) (Q₁ := fun obj s1 => obj = .ref s.heap.objs.size ∧ s1 = { s with heap := s.heap.push (frs w) }) ⟨rfl, rfl⟩) fun r s1 hr => ?_
  cases r with
  | error e => exact hr
  | ok fl =>
    cases fl with
    | ret obj =>
      obtain ⟨rfl, rfl⟩ := hr
      have hS : (s.heap.push (frs w)).get? s.heap.objs.size = some (frs w) := Heap.get?_push_size _ rfl
      have hT : Shared.TypeIs { s with heap := s.heap.push (frs w) } (.ref s.heap.objs.size) "set" := ⟨_, hS, rfl⟩
      have li := F.called_set.init.lookup
      have bi := F.called_set.init.bind (.ref s.heap.objs.size)
      repeat (any_goals (first | assumption | wp_step))
      refine codeAny_mono (codeAny_call_builtin (R := wants (fun r s2 => r = .none ∧ Q (.ref s.heap.objs.size) s2) E) F.called_set.init.plain F.entry_set_init (check_set_init_1 hT ?_)) fun r2 s2 hr2 => ?_
      · unfold Builtin.«set.__init__» noKeywords
        generalize hU : Builtin.Frozenset.updateFrom "set.__init__" = U
        wp_walk
        subst hU
        refine core _ _ _ (by simp) fun s2 q => ?_
        show wpAny _ _ (ret Value.none) _ _ _
        exact wpAny_pure ⟨rfl, q⟩
      · cases r2 with
        | error e => exact hr2
        | ok fl2 =>
          cases fl2 with
          | ret r =>
            obtain ⟨rfl, q⟩ := hr2
            repeat (any_goals (first | assumption | wp_step))
          | _ => exact hr2.elim
    | _ => exact hr.elim
end
end XT
set_option Elab.async false
set_option linter.all false
set_option maxRecDepth 100000
set_option maxHeartbeats 800000
namespace XT
open PySem PySem.Spec PyProof.Rows L2
/-- the signs of a text, each a text -/
def sgs (x : Str) : List Str := x.cps.toList.map fun c => ⟨#[c]⟩
theorem sgs_at {x : Str} {i c : Nat} (h : x.cps[i]? = some c) : (sgs x)[i]? = some ⟨#[c]⟩ := by
  unfold sgs
  rw [List.getElem?_map, Array.getElem?_toList, h]
  rfl
theorem sgs_len (x : Str) : x.cps.size = (sgs x).length := by simp [sgs]
section
variable {P : Program} {w : World} {A : Around} {E : Value → Shared → Prop} {s : Shared}
/-- set(text) -/
theorem call_set_str {x : Str} {u : Tok} (Ws : List Str) {Q : Value → Shared → Prop} (hh : A.handled = none) (hW : ∀ y ∈ sgs x, y ∈ Ws) (hb : Ws.length + 1 < scanBound)
    (h : ∀ (h' : Heap) (tk c : Nat), SetS w h' s.heap.objs.size (fun j => decide (j ∈ sgs x)) c → c ≤ Ws.length → (∀ b o, s.heap.get? b = some o → h'.get? b = some o) → Q (.ref s.heap.objs.size) { s with heap := h', toks := tk }) :
    wpAny (model P w) A (call (.type "set") [.str x u]) Q E s := by
  refine call_set_by fun A1 E1 Q1 h1 hq => ?_
  have hh1 : A1.handled = none := h1.trans hh
  have hS : (s.heap.push (frs w)).get? s.heap.objs.size = some (frs w) := Heap.get?_push_size _ rfl
  unfold Builtin.Frozenset.updateFrom
  refine wpAny_bind (Fz.anySet ?_)
  simp only [Bool.false_eq_true, if_false]
  refine wpAny_bind (wpAny_typeOf (typeIs_str _ _ _) ?_)
  rw [show (Value.type "str" == Value.type "dict") = false by decide]
  simp only [Bool.false_eq_true, if_false]
  refine wpAny_bind (wpAny_pyIter_strU ?_)
  have z1 : (s.heap.push (frs w)).objs.size = s.heap.objs.size + 1 := Heap.size_push ..
  have go : ∀ {St : Nat → Heap → Prop}, Walks P w A1.in1 (s.heap.push (frs w)).objs.size [(s.heap.push (frs w)).objs.size] [(s.heap.push (frs w)).objs.size] x.cps.size (SignAt x) St →
      St 0 ((s.heap.push (frs w)).push { cls := .type (strIterType x), data := .fields #[.str x u, .int 0 0] }) →
      wpAny (model P w) A1 (runValue (.builtin "set.update.loop" ⟨[.ref s.heap.objs.size, .ref (s.heap.push (frs w)).objs.size], []⟩) >>= fun _ => pure ()) Q1 E1
        { s with heap := (s.heap.push (frs w)).push { cls := .type (strIterType x), data := .fields #[.str x u, .int 0 0] } } := by
    intro St W h0
    refine wpAny_bind (wpAny_runValue ?_)
    have ns : s.heap.objs.size ∉ [(s.heap.push (frs w)).objs.size] := by
      rw [z1, List.mem_singleton]
      omega
    refine upd_texts W.toS s.heap.objs.size ns (sgs x) (sgs_len x) Ws hW hb (fun i v hv => ?_) (x.cps.size - 0) 0 _ (by omega) (Nat.zero_le _) h0 ⟨0, Nat.zero_le _, ?_⟩ fun s' c' hm hc' hS' => ?_
    · obtain ⟨c, t, hc, rfl⟩ := hv
      exact ⟨_, t, sgs_at hc, rfl⟩
    · exact (setS_at0 (Heap.get?_push_of_some _ hS)).congr fun k => by simp
    · obtain ⟨h', g2, d', tk', os'⟩ := s'
      obtain rfl : g2 = s.gens := hm.gens
      obtain rfl : d' = s.drawn := hm.drawn
      obtain rfl : os' = s.os := hm.os
      refine wpAny_pure (hq _ (h h' tk' c' hS' hc' fun b o e => ?_))
      have b0 : b < s.heap.objs.size := Heap.lt_size e
      refine hm.heap b o (fun hb2 => ?_) (Heap.get?_push_of_some _ (Heap.get?_push_of_some _ e))
      rcases List.mem_cons.mp hb2 with z | z
      · exact Nat.ne_of_lt b0 z
      · rw [z1, List.mem_singleton] at z
        exact Nat.ne_of_lt (Nat.lt_succ_of_lt b0) z
  unfold strIterType at *
  cases ha : x.cps.all (· < 128)
  · rw [ha] at go
    exact go (Walks.strWide (A := A1.in1) hh1 _ x u) ⟨_, Heap.get?_push_size _ rfl, rfl, rfl⟩
  · rw [ha] at go
    exact go (Walks.strAscii (A := A1.in1) hh1 _ x u) ⟨_, Heap.get?_push_size _ rfl, rfl, rfl⟩
/-- set(list of ints) -/
theorem call_set_ints {l : Addr} {its : Array Value} (ns : List Int) {Q : Value → Shared → Prop} (hh : A.handled = none) (hl : s.heap.IsList l its) (hi : IntsAre its.toList ns) (hb : ns.length + 1 < scanBound)
    (h : ∀ (h' : Heap) (tk c : Nat), SetR w h' s.heap.objs.size (fun j => decide (j ∈ ns)) c → c ≤ ns.length → (∀ b o, s.heap.get? b = some o → h'.get? b = some o) → Q (.ref s.heap.objs.size) { s with heap := h', toks := tk }) :
    wpAny (model P w) A (call (.type "set") [.ref l]) Q E s := by
  have zi : its.size = ns.length := by
    have q := IntsAre.length hi
    rw [Array.length_toList] at q
    exact q
  refine call_set_by fun A1 E1 Q1 h1 hq => ?_
  have hh1 : A1.handled = none := h1.trans hh
  have hS : (s.heap.push (frs w)).get? s.heap.objs.size = some (frs w) := Heap.get?_push_size _ rfl
  have z1 : (s.heap.push (frs w)).objs.size = s.heap.objs.size + 1 := Heap.size_push ..
  have hl1 : (s.heap.push (frs w)).IsList l its := hl.push _
  have lS : l < s.heap.objs.size := by
    obtain ⟨o, ho, _⟩ := hl
    exact Heap.lt_size ho
  unfold Builtin.Frozenset.updateFrom Builtin.Frozenset.isAnySet orM
  refine wpAny_bind (wpAny_bind (wpAny_isInstance hl1.typeIs F.sub_list_set ?_))
  refine wpAny_isInstance hl1.typeIs F.sub_list_frozenset ?_
  simp only [Bool.false_eq_true, if_false]
  refine wpAny_bind (wpAny_typeOf hl1.typeIs ?_)
  rw [show (Value.type "list" == Value.type "dict") = false by decide]
  simp only [Bool.false_eq_true, if_false]
  refine wpAny_bind (wpAny_pyIter_list hl1 (wpAny_bind (wpAny_runValue ?_)))
  have ne : l ≠ (s.heap.push (frs w)).objs.size := by
    rw [z1]
    exact Nat.ne_of_lt (Nat.lt_succ_of_lt lS)
  have nS : s.heap.objs.size ∉ [(s.heap.push (frs w)).objs.size, l] := by
    rw [z1]
    intro z
    rcases List.mem_cons.mp z with z | z
    · exact Nat.ne_of_lt (Nat.lt_succ_self _) z
    · rw [List.mem_singleton] at z
      exact Nat.ne_of_gt lS z
  have hval : ∀ (i : Nat) (v : Value), its[i]? = some v → ∃ k t, ns[i]? = some k ∧ v = .int k t := fun i v hv => by
    have li : i < ns.length := by rw [← zi]; exact (Array.getElem?_eq_some_iff.mp hv).1
    obtain ⟨t, e⟩ := PyProof.Rows.IntsAre.int_at hi i v (by rw [Array.getElem?_toList]; exact hv)
    refine ⟨ns[i], t, List.getElem?_eq_getElem li, ?_⟩
    rw [e, List.getD_eq_getElem?_getD, List.getElem?_eq_getElem li] <;> rfl
  refine set_update_ints ((Walks.list (A := A1.in1) hh1 _ l ne its).toS) s.heap.objs.size nS ns zi hb hval (its.size - 0) 0 _ (by omega) (Nat.zero_le _) ⟨⟨_, Heap.get?_push_size _ rfl, rfl, rfl⟩, hl1.push _⟩ ⟨0, Nat.le_refl 0, setR_new_at (Heap.get?_push_of_some _ hS)⟩ fun s' c' hm hc' hS' => ?_
  obtain ⟨h', g2, d', tk', os'⟩ := s'
  obtain rfl : g2 = s.gens := hm.gens
  obtain rfl : d' = s.drawn := hm.drawn
  obtain rfl : os' = s.os := hm.os
  refine wpAny_pure (hq _ (h h' tk' c' hS' (by omega) fun b o e => ?_))
  have b0 : b < s.heap.objs.size := Heap.lt_size e
  refine hm.heap b o (fun hb2 => ?_) (Heap.get?_push_of_some _ (Heap.get?_push_of_some _ e))
  rcases List.mem_cons.mp hb2 with z | z
  · exact Nat.ne_of_lt b0 z
  · rw [z1, List.mem_singleton] at z
    exact Nat.ne_of_lt (Nat.lt_succ_of_lt b0) z
end
/-! ### in the hand layer -/
def SetSO (w : World) (a : Addr) (S : Str → Bool) (n : Nat) : HO := .ext fun h => SetS w h a S n
section
variable {X : Cx}
theorem setSO_new {w : World} {P : Program} {H : Hp} {h : Heap} {a : Addr} {S : Str → Bool} {n : Nat} (R : SetS w h a S n) : ObjOk P w H h a (SetSO w a S n) := by
  have ⟨o, _, _, _, ho, _⟩ := R
  exact ⟨R, ⟨o, ho⟩, fun h1 h2 p k => SetS.at p k⟩
/-- set(text), set(list of ints) -/
def rSetStr (w : World) : List L2.V → Hp → VK → Prop := fun vs H Q => ∃ (x : Str) (Ws : List Str), vs = [.str x] ∧ (∀ y ∈ sgs x, y ∈ Ws) ∧ Ws.length < 1000 ∧ ∀ (p : Addr) (c : Nat), H p = none → c ≤ Ws.length → Q (.ref p) (upd H p (SetSO w p (fun j => decide (j ∈ sgs x)) c))
def rSetLI (K : PySem.W.Frag) (w : World) : List L2.V → Hp → VK → Prop := fun vs H Q => ∃ (a : Addr) (ns : List Int), vs = [.ref a] ∧ SqL K H a (ns.map V.int) ∧ ns.length < 1000 ∧ ∀ (p : Addr) (c : Nat), H p = none → c ≤ ns.length → Q (.ref p) (upd H p (SetO w p (fun j => decide (j ∈ ns)) c))
theorem scan1000 {n : Nat} (h : n < 1000) : n + 1 < scanBound := by
  unfold scanBound
  omega
theorem cr_setStr (hc : X.calm = true) : CallR X (.type "set") (rSetStr X.w) := by
  intro pins s σ H vs us Q I r h
  obtain ⟨x, Ws, rfl, hW, hb, q⟩ := h
  cases r with
  | cons r t =>
    cases t
    obtain ⟨tk, rfl⟩ := r
    refine call_set_str Ws (I.ok.hd hc) hW (scan1000 hb) fun h' tk c R hc k => ?_
    exact ⟨.ref _, upd H s.heap.objs.size (SetSO X.w s.heap.objs.size (fun j => decide (j ∈ sgs x)) c), I.laid (t' := tk) k (Nat.le_refl _) (setSO_new R), rfl, q _ c (I.hok.fresh (Nat.le_refl _)) hc⟩
theorem cr_setLI (hc : X.calm = true) : CallR X (.type "set") (rSetLI X.K X.w) := by
  intro pins s σ H vs us Q I r h
  obtain ⟨a, ns, rfl, hs, hb, q⟩ := h
  obtain ⟨its, rv, hl, _⟩ := I.list hs
  rw [Vals.ref1 r]
  refine call_set_ints ns (I.ok.hd hc) hl.isList (by simpa using rv.ints) (scan1000 hb) fun h' tk c R hc k => ?_
  exact ⟨.ref _, upd H s.heap.objs.size (SetO X.w s.heap.objs.size (fun j => decide (j ∈ ns)) c), I.laid (t' := tk) k (Nat.le_refl _) (setO_new R), rfl, q _ c (I.hok.fresh (Nat.le_refl _)) hc⟩
end
end XT
set_option Elab.async false
set_option linter.all false
set_option maxRecDepth 100000
set_option maxHeartbeats 800000
namespace XT
open PySem PySem.Spec PyProof.Rows L2
theorem strs_kS : ∀ (l : List Value), (∀ v ∈ l, ∃ k u, v = Value.str k u) → StrsAre l (l.map kS)
  | [], _ => .nil
  | v :: l, h => by
    obtain ⟨k, u, rfl⟩ := h v List.mem_cons_self
    exact .cons k u (strs_kS l fun y hy => h y (List.mem_cons_of_mem _ hy))
section
variable {P : Program} {w : World} {A : Around} {E : Value → Shared → Prop} {s : Shared} {a : Addr}
/-- sorted(set of texts) -/
theorem sorted_setS {S : Str → Bool} {n : Nat} {Q : Value → Shared → Prop} (R : SetS w s.heap a S n) (hh : A.handled = none) (h64 : n < 64)
    (hQ : ∀ s' p (out : Array Value) (c : Nat) (ks : List Str), (∀ b o, s.heap.get? b = some o → s'.heap.get? b = some o) → s'.gens = s.gens → s'.os = s.os → s.heap.objs.size ≤ p →
      s'.heap.get? p = some (seqObj "list" out c) → StrsAre out.toList ks → ks.Nodup → sortedS ks = true → (∀ k, k ∈ ks ↔ S k = true) → ks.length = n → Q (.ref p) s') :
    wpAny (model P w) A (call (.builtin "sorted") [.ref a]) Q E s := by
  obtain ⟨o, es, ep, t, ho, hex, hd, g, nd, hm, hb, hf, hn, hr, hl⟩ := R
  refine Calls.call_function_entry kind_sorted plain_sorted entry_sorted (args_sorted1 _) ?_
  unfold Builtin.«sorted»
  refine wpAny_bind (m := checkCount "sorted" 1 1 _) (wpAny_pure (wpAny_bind (collect_set (A := A.in1) hh ⟨o, ho, hex.1, hd⟩ hf hb hr hl fun s1 vs k1 hz g1 o1 pm => ?_)))
  have vl : vs.length = n := by rw [pm.length_eq, List.length_map, Array.length_toList]; exact hn
  have hI : StrsAre vs (vs.map kS) := strs_kS vs fun v hv => by
    obtain ⟨e, he, q⟩ := List.mem_map.mp (pm.mem_iff.mp hv)
    obtain ⟨k, u, h1, _⟩ := g e he
    exact ⟨k, u, by rw [← q]; exact h1⟩
  have pk : (vs.map kS).Perm (es.toList.map kE) := by
    have q := pm.map kS
    rw [List.map_map] at q
    exact q
  refine wpAny_bind (wpAny_newList ?_ (by rw [vl, sizeLine_eq]; omega))
  have hoL : (s1.heap.push (seqObj "list" vs.toArray 0)).get? s1.heap.objs.size = some (seqObj "list" vs.toArray 0) := Heap.get?_push_size _ rfl
  refine wpAny_bind (wpAny_holding (wpAny_call_entry slot_list_sort ⟨_, hoL, rfl⟩ entry_list_sort (list_sort_treeK strKind_oneLt hoL hI.keysOf (fun v1 v2 rest e => keyKind_strs (by rw [← e]; exact hI)) (by rw [vl]; exact h64) fun st2 a1 a2 => ⟨_, rfl, ?_⟩) (args_list_sort _)))
  obtain ⟨ks, b1, b2, b3⟩ := sorted_out_str hI a1 a2
  obtain ⟨c, hc⟩ := sortedHeap_at (vs := vs) (out := (arrOf st2).map (·.2)) hoL
  have pn : ks.Perm (es.toList.map kE) := b2.trans pk
  refine wpAny_pure ⟨_, rfl, hQ _ s1.heap.objs.size ((arrOf st2).map (·.2)) c ks (fun b u e => ?_) g1 o1 hz hc b1 (pn.nodup_iff.mpr nd) b3 (fun k => by rw [pn.mem_iff, ← hm k]) ?_⟩
  · have q := k1 b u e
    have lt := Heap.lt_size q
    show (sortedHeap (s1.heap.push (seqObj "list" vs.toArray 0)) s1.heap.objs.size vs ((arrOf st2).map (·.2))).get? b = some u
    rw [sortedHeap_old (Nat.ne_of_lt lt) (by rw [size_push']; exact Nat.lt_succ_of_lt lt)]
    exact Heap.get?_push_of_some _ q
  · rw [pn.length_eq, List.length_map, Array.length_toList]; exact hn
end
section
variable {X : Cx}
def rSortedSS (w : World) : List L2.V → Hp → VK → Prop := fun vs H Q => ∃ (a : Addr) (S : Str → Bool) (n : Nat), vs = [V.ref a] ∧ H a = some (SetSO w a S n) ∧ n < 64 ∧
  ∀ (ks : List Str) (p : Addr), ks.Nodup → sortedS ks = true → (∀ k : Str, k ∈ ks ↔ S k = true) → ks.length = n → H p = none → Q (.ref p) (upd H p (.lst (ks.map V.str)))
theorem cr_sortedSS (hc : X.calm = true) : CallR X (.builtin "sorted") (rSortedSS X.w) := by
  intro pins s σ H vs us Q I r h
  obtain ⟨a, S, n, rfl, ha, h64, q⟩ := h
  have R : SetS X.w s.heap a S n := (I.hok a _ ha).1
  rw [Vals.ref1 r]
  refine sorted_setS R (I.ok.hd hc) h64 fun s' p out c ks k g o hp hg hi hd hs hm hl => ?_
  have le : (ks.map V.str).length ≤ sizeLine := by rw [List.length_map, hl, sizeLine_eq]; omega
  have hn : H p = none := I.hok.fresh hp
  have J : Inv X pins σ (upd H p (.lst (ks.map V.str))) { s with heap := s'.heap, gens := s'.gens, drawn := s'.drawn, toks := s'.toks } :=
    I.call (ch := []) (Un.laid k hp hn) (I.hok.laid k hp ⟨le, out.toList, c, vals_of_strs hi, hg⟩) (by rw [g]; exact I.bare) (fun _ z => nomatch z)
  have e : s' = { s with heap := s'.heap, gens := s'.gens, drawn := s'.drawn, toks := s'.toks } := by
    cases s'
    cases s
    cases o
    rfl
  rw [e]
  exact ⟨.ref p, _, J, rfl, q ks p hd hs hm hl hn⟩
end
/-! ### the texts of one sign each, in order -/
theorem ltc1 (a b : Nat) : ltCps [a] [b] = decide (a < b) := by
  rw [ltCps_eq]
  apply decide_eq_decide.mpr
  constructor
  · intro h
    cases h with
    | rel h => exact h
    | cons h => cases h
  · exact fun h => List.Lex.rel h
/-- rising, strictly -/
def riseN : List Nat → Bool
  | [] => true
  | a :: r => (match r with
    | [] => true
    | b :: _ => decide (a < b)) && riseN r
theorem riseN_iff : ∀ l : List Nat, riseN l = true ↔ l.Pairwise (· < ·)
  | [] => by simp [riseN]
  | [a] => by simp [riseN]
  | a :: b :: r => by
    have ih := riseN_iff (b :: r)
    show (decide (a < b) && riseN (b :: r)) = true ↔ _
    rw [Bool.and_eq_true, decide_eq_true_eq, ih, List.pairwise_cons (a := a)]
    constructor
    · rintro ⟨h1, h2⟩
      refine ⟨fun x hx => ?_, h2⟩
      rcases List.mem_cons.mp hx with rfl | hx
      · exact h1
      · exact Nat.lt_trans h1 ((List.pairwise_cons.mp h2).1 x hx)
    · exact fun h => ⟨h.1 b List.mem_cons_self, h.2⟩
def sg (c : Nat) : Str := ⟨#[c]⟩
theorem sg_inj {a b : Nat} (h : sg a = sg b) : a = b := by
  have q : [a] = [b] := congrArg (fun y : Str => y.cps.toList) h
  exact (List.cons.inj q).1
theorem risingS_sg : ∀ (p : Nat) (ds : List Nat), risingS (sg p) (ds.map sg) = true → (p :: ds).Nodup → (p :: ds).Pairwise (· < ·)
  | _, [], _, _ => List.pairwise_singleton _ _
  | p, d :: ds, h, nd => by
    have h : (!ltCps [d] [p] && risingS (sg d) (ds.map sg)) = true := h
    rw [Bool.and_eq_true, ltc1] at h
    obtain ⟨h1, h2⟩ := h
    have h1 : ¬ d < p := fun z => by
      rw [decide_eq_true z] at h1
      cases h1
    obtain ⟨n1, n2⟩ := List.nodup_cons.mp nd
    have ih := risingS_sg d ds h2 n2
    have ne : p ≠ d := fun z => n1 (z ▸ List.mem_cons_self)
    refine List.pairwise_cons.mpr ⟨fun x hx => ?_, ih⟩
    rcases List.mem_cons.mp hx with rfl | hx
    · omega
    · have := (List.pairwise_cons.mp ih).1 x hx
      omega
theorem sortedS_sg (ds : List Nat) (h : sortedS (ds.map sg) = true) (nd : ds.Nodup) : ds.Pairwise (· < ·) := by
  cases ds with
  | nil => exact List.Pairwise.nil
  | cons d ds => exact risingS_sg d ds h nd
theorem of_sgs : ∀ (ks : List Str), (∀ k ∈ ks, ∃ c, k = sg c) → ∃ ds : List Nat, ks = ds.map sg
  | [], _ => ⟨[], rfl⟩
  | k :: ks, h => by
    obtain ⟨c, rfl⟩ := h k List.mem_cons_self
    obtain ⟨ds, rfl⟩ := of_sgs ks fun x hx => h x (List.mem_cons_of_mem _ hx)
    exact ⟨c :: ds, rfl⟩
theorem same_of_rise {a b : List Nat} (ha : a.Pairwise (· < ·)) (hb : b.Pairwise (· < ·)) (m : ∀ x, x ∈ a ↔ x ∈ b) : a = b := by
  have na : a.Nodup := ha.imp fun h => Nat.ne_of_lt h
  have nb : b.Nodup := hb.imp fun h => Nat.ne_of_lt h
  have p : a.Perm b := (List.perm_ext_iff_of_nodup na nb).mpr m
  exact List.Perm.eq_of_pairwise (fun x y _ _ h1 h2 => absurd h1 (Nat.lt_asymm h2)) ha hb p
/-- the members of a text, in order: as the text itself just if it rises -/
theorem sorted_sgs {x : Str} {ks : List Str} (nd : ks.Nodup) (hs : sortedS ks = true) (hm : ∀ k : Str, k ∈ ks ↔ decide (k ∈ sgs x) = true) :
    ∃ ds : List Nat, ks = ds.map sg ∧ ds.Pairwise (· < ·) ∧ decide (ds = x.cps.toList) = riseN x.cps.toList := by
  obtain ⟨ds, rfl⟩ := of_sgs ks fun k hk => by
    obtain ⟨c, _, e⟩ := List.mem_map.mp (of_decide_eq_true ((hm k).1 hk))
    exact ⟨c, e.symm⟩
  have nd2 : ds.Nodup := by
    rw [List.Nodup, List.pairwise_map] at nd
    exact nd.imp fun h z => h (congrArg sg z)
  have pw := sortedS_sg ds hs nd2
  refine ⟨ds, rfl, pw, ?_⟩
  apply Bool.eq_iff_iff.mpr
  rw [decide_eq_true_eq, riseN_iff]
  refine ⟨fun e => e ▸ pw, fun h => same_of_rise pw h fun c => ?_⟩
  constructor
  · intro hc
    obtain ⟨c2, h2, e⟩ := List.mem_map.mp (of_decide_eq_true ((hm (sg c)).1 (List.mem_map_of_mem hc)))
    rw [← sg_inj e]
    exact h2
  · intro hc
    have : sg c ∈ ds.map sg := (hm (sg c)).2 (decide_eq_true (List.mem_map_of_mem (f := sg) hc))
    obtain ⟨c2, h2, e⟩ := List.mem_map.mp this
    rw [← sg_inj e]
    exact h2
end XT
set_option Elab.async false
set_option linter.all false
set_option maxRecDepth 100000
set_option maxHeartbeats 4000000
/-! What pieces write, and that the normal ones write the same: of lists, no program. -/
namespace NP
section
variable {α : Type}
/-- w, n times -/
def pw (w : List α) (n : Nat) : List α := (List.replicate n w).flatten
theorem pw_zero (w : List α) : pw w 0 = [] := rfl
theorem pw_succ (w : List α) (n : Nat) : pw w (n + 1) = w ++ pw w n := by
  unfold pw
  rw [List.replicate_succ, List.flatten_cons]
theorem pw_one (w : List α) : pw w 1 = w := by rw [pw_succ, pw_zero, List.append_nil]
theorem pw_nil (n : Nat) : pw ([] : List α) n = [] := by
  induction n with
  | zero => rfl
  | succ n ih => rw [pw_succ, ih]; rfl
theorem pw_len (w : List α) (n : Nat) : (pw w n).length = n * w.length := by
  induction n with
  | zero => simp [pw_zero]
  | succ n ih => rw [pw_succ, List.length_append, ih, Nat.succ_mul, Nat.add_comm]
theorem pw_add (w : List α) (m n : Nat) : pw w (m + n) = pw w m ++ pw w n := by
  induction m with
  | zero => rw [Nat.zero_add, pw_zero, List.nil_append]
  | succ m ih => rw [Nat.succ_add, pw_succ, pw_succ, ih, List.append_assoc]
theorem pw_mul (w : List α) (m n : Nat) : pw (pw w m) n = pw w (m * n) := by
  induction n with
  | zero => rfl
  | succ n ih => rw [pw_succ, ih, ← pw_add, Nat.mul_succ, Nat.add_comm]
theorem pw_snoc (w : List α) (n : Nat) : pw w (n + 1) = pw w n ++ w := by rw [pw_add, pw_one]
/-- a letter moved over a power -/
theorem pw_swap (a b : List α) (v : Nat) : pw (a ++ b) v ++ a = a ++ pw (b ++ a) v := by
  induction v with
  | zero => simp [pw_zero]
  | succ v ih => rw [pw_succ, List.append_assoc, ih, pw_succ]; simp [List.append_assoc]
theorem pw_rev (w : List α) (n : Nat) : (pw w n).reverse = pw w.reverse n := by
  induction n with
  | zero => rfl
  | succ n ih => rw [pw_snoc, List.reverse_append, ih, pw_succ]
theorem pw_get (w : List α) : ∀ (n i : Nat), i < n * w.length → (pw w n)[i]? = w[i % w.length]? := by
  intro n
  induction n with
  | zero => intro i h; simp at h
  | succ n ih =>
    intro i h
    rw [pw_succ]
    by_cases c : i < w.length
    · rw [List.getElem?_append_left c, Nat.mod_eq_of_lt c]
    · rw [List.getElem?_append_right (by omega), ih _ (by rw [Nat.succ_mul] at h; omega)]
      congr 1
      rw [Nat.mod_eq_sub_mod (by omega : w.length ≤ i)]
/-! ### the root of a word -/
/-- w stands in w ++ w at p -/
def At (w : List α) (p : Nat) : Prop := ((w ++ w).drop p).take w.length = w
/-- turning w by p changes nothing -/
def Turn (w : List α) (p : Nat) : Prop := ∀ i, i < w.length → w[(i + p) % w.length]? = w[i]?
theorem turn_of_at {w : List α} {p : Nat} (hp : p ≤ w.length) (h : At w p) : Turn w p := by
  intro i hi
  have e := congrArg (fun l => l[i]?) h
  simp only [List.getElem?_take, List.getElem?_drop, hi, if_true] at e
  rw [← e]
  by_cases c : p + i < w.length
  · rw [List.getElem?_append_left c, Nat.add_comm i p, Nat.mod_eq_of_lt c]
  · rw [List.getElem?_append_right (by omega), Nat.add_comm i p, Nat.mod_eq_sub_mod (by omega), Nat.mod_eq_of_lt (by omega)]
theorem at_of_turn {w : List α} {p : Nat} (hp : p ≤ w.length) (h : Turn w p) : At w p := by
  unfold At
  apply List.ext_getElem?
  intro i
  by_cases hi : i < w.length
  · simp only [List.getElem?_take, List.getElem?_drop, hi, if_true]
    rw [← h i hi]
    by_cases c : p + i < w.length
    · rw [List.getElem?_append_left c, Nat.add_comm i p, Nat.mod_eq_of_lt c]
    · rw [List.getElem?_append_right (by omega), Nat.add_comm i p, Nat.mod_eq_sub_mod (by omega), Nat.mod_eq_of_lt (by omega)]
  · rw [List.getElem?_eq_none (by rw [List.length_take]; omega), List.getElem?_eq_none (by omega)]
theorem turn_all (w : List α) : Turn w w.length := by
  intro i hi
  rw [Nat.add_mod_right, Nat.mod_eq_of_lt hi]
theorem turn_add {w : List α} {p q : Nat} (h1 : Turn w p) (h2 : Turn w q) : Turn w (p + q) := by
  intro i hi
  have pos : 0 < w.length := by omega
  have z := h2 ((i + p) % w.length) (Nat.mod_lt _ pos)
  rw [Nat.mod_add_mod, Nat.add_assoc] at z
  rw [z]
  exact h1 i hi
theorem turn_mul {w : List α} {p : Nat} (h : Turn w p) : ∀ k, Turn w (k * p)
  | 0 => by
    intro i hi
    rw [Nat.zero_mul, Nat.add_zero, Nat.mod_eq_of_lt hi]
  | k + 1 => by
    rw [Nat.succ_mul]
    exact turn_add (turn_mul h k) h
theorem turn_rest {w : List α} {p r k : Nat} (h : Turn w p) (e : w.length = k * p + r) : Turn w r := by
  intro i hi
  have pos : 0 < w.length := by omega
  rw [← turn_mul h k _ (Nat.mod_lt (i + r) pos), Nat.mod_add_mod]
  rw [show i + r + k * p = i + w.length by omega]
  exact turn_all w i hi
/-- the least place p at which w stands in w ++ w: w is a power of its first p letters -/
theorem root_power {w : List α} {p : Nat} (h0 : 1 ≤ p) (hp : p ≤ w.length) (h : At w p) (least : ∀ q, 1 ≤ q → q < p → ¬ At w q) : w.length = (w.length / p) * p ∧ w = pw (w.take p) (w.length / p) := by
  have t := turn_of_at hp h
  have e : w.length = (w.length / p) * p + w.length % p := by
    have := Nat.div_add_mod w.length p
    rw [Nat.mul_comm] at this
    omega
  have r0 : w.length % p = 0 := by
    by_cases c : w.length % p = 0
    · exact c
    · have lt := Nat.mod_lt w.length (by omega : p > 0)
      exact absurd (at_of_turn (by omega) (turn_rest t e)) (least _ (by omega) lt)
  have e1 : w.length = (w.length / p) * p := by omega
  refine ⟨e1, ?_⟩
  have lt : (w.take p).length = p := by rw [List.length_take]; omega
  apply List.ext_getElem?
  intro i
  by_cases hi : i < w.length
  · rw [pw_get _ _ _ (by rw [lt]; omega), lt, List.getElem?_take, if_pos (Nat.mod_lt _ (by omega))]
    have m := Nat.mod_lt i (by omega : p > 0)
    have z := turn_mul t (i / p) (i % p) (by omega)
    have d := Nat.div_add_mod i p
    rw [Nat.mul_comm] at d
    rw [show i % p + i / p * p = i by omega, Nat.mod_eq_of_lt hi] at z
    exact z
  · rw [List.getElem?_eq_none (by omega), List.getElem?_eq_none (by rw [pw_len, lt]; omega)]
/-! ### the common end -/
/-- the last letters of u, so many as same, go on as w again and again, read from behind -/
theorem common_tail {u w : List α} {same : Nat} (hw : 0 < w.length) (hs : same ≤ u.length) (h : ∀ i, i < same → u[u.length - 1 - i]? = w[w.length - 1 - i % w.length]?) : u.drop (u.length - same) = w.drop (w.length - same % w.length) ++ pw w (same / w.length) := by
  have hm := Nat.mod_lt same hw
  have hd := Nat.div_add_mod same w.length
  rw [Nat.mul_comm] at hd
  have l1 : (u.drop (u.length - same)).length = same := by rw [List.length_drop]; omega
  have l2 : (w.drop (w.length - same % w.length)).length = same % w.length := by rw [List.length_drop]; omega
  apply List.ext_getElem?
  intro j
  by_cases hj : j < same
  · rw [List.getElem?_drop]
    have e := h (same - 1 - j) (by omega)
    rw [show u.length - 1 - (same - 1 - j) = u.length - same + j by omega] at e
    rw [e]
    by_cases c : j < same % w.length
    · rw [List.getElem?_append_left (by omega), List.getElem?_drop]
      congr 1
      have x : (same - 1 - j) % w.length = same % w.length - 1 - j := by
        rw [show same - 1 - j = (same % w.length - 1 - j) + same / w.length * w.length by omega, Nat.add_mul_mod_self_right, Nat.mod_eq_of_lt (by omega)]
      omega
    · rw [List.getElem?_append_right (by omega), l2, pw_get _ _ _ (by omega)]
      congr 1
      have y : same - 1 - j < same / w.length * w.length := by omega
      have x : (same - 1 - j) % w.length = w.length - 1 - (j - same % w.length) % w.length := by
        have dj := Nat.div_add_mod (j - same % w.length) w.length
        have mj := Nat.mod_lt (j - same % w.length) hw
        rw [Nat.mul_comm] at dj
        have q : (j - same % w.length) / w.length < same / w.length := Nat.div_lt_of_lt_mul (by rw [Nat.mul_comm]; omega)
        have f : same / w.length * w.length = (same / w.length - 1 - (j - same % w.length) / w.length) * w.length + ((j - same % w.length) / w.length) * w.length + w.length := by
          rw [← Nat.add_mul]
          have : same / w.length = (same / w.length - 1 - (j - same % w.length) / w.length + (j - same % w.length) / w.length) + 1 := by omega
          rw [← Nat.succ_mul]
          congr 1
        rw [show same - 1 - j = (w.length - 1 - (j - same % w.length) % w.length) + (same / w.length - 1 - (j - same % w.length) / w.length) * w.length by omega, Nat.add_mul_mod_self_right, Nat.mod_eq_of_lt (by omega)]
      have mj := Nat.mod_lt (j - same % w.length) hw
      omega
  · rw [List.getElem?_eq_none (by omega), List.getElem?_eq_none (by rw [List.length_append, l2, pw_len]; omega)]
/-- w turned by so many letters -/
def turnW (w : List α) (e : Nat) : List α := w.drop (w.length - e) ++ w.take (w.length - e)
/-- such an end is moved behind the power -/
theorem move_end {u w : List α} {same : Nat} (hw : 0 < w.length) (hs : same ≤ u.length) (h : ∀ i, i < same → u[u.length - 1 - i]? = w[w.length - 1 - i % w.length]?) (v : Nat) :
    u ++ pw w v = u.take (u.length - same) ++ (pw (turnW w (same % w.length)) v ++ u.drop (u.length - same)) := by
  have e := common_tail hw hs h
  have e2 : u = u.take (u.length - same) ++ u.drop (u.length - same) := (List.take_append_drop _ _).symm
  have sw := pw_swap (w.drop (w.length - same % w.length)) (w.take (w.length - same % w.length)) v
  rw [List.take_append_drop] at sw
  have k : u.drop (u.length - same) ++ pw w v = pw (turnW w (same % w.length)) v ++ u.drop (u.length - same) := by
    rw [e, List.append_assoc, ← pw_add, Nat.add_comm, pw_add, ← List.append_assoc, ← List.append_assoc]
    unfold turnW
    rw [sw]
  calc u ++ pw w v = u.take (u.length - same) ++ (u.drop (u.length - same) ++ pw w v) := by rw [← List.append_assoc, ← e2]
    _ = _ := by rw [k]
/-! ### what runs write, letter by letter -/
def wr (rs : List (List α × Nat)) : List α := rs.flatMap fun r => pw r.1 r.2
theorem wr_cons (r : List α × Nat) (rs : List (List α × Nat)) : wr (r :: rs) = pw r.1 r.2 ++ wr rs := List.flatMap_cons
theorem wr_append (rs ss : List (List α × Nat)) : wr (rs ++ ss) = wr rs ++ wr ss := List.flatMap_append
def lettersR (rs : List (List α × Nat)) : Nat := (rs.map fun r => r.1.length * r.2).sum
theorem wr_len (rs : List (List α × Nat)) : (wr rs).length = lettersR rs := by
  induction rs with
  | nil => rfl
  | cons r rs ih =>
    rw [wr_cons, List.length_append, ih, pw_len, Nat.mul_comm]
    rfl
/-- the letter at a place, run by run -/
def letterR : List (List α × Nat) → Nat → Option α
  | [], _ => none
  | r :: rs, i => if i < r.1.length * r.2 then r.1[i % r.1.length]? else letterR rs (i - r.1.length * r.2)
theorem letterR_eq : ∀ (rs : List (List α × Nat)) (i : Nat), letterR rs i = (wr rs)[i]?
  | [], i => rfl
  | r :: rs, i => by
    rw [wr_cons]
    unfold letterR
    by_cases c : i < r.1.length * r.2
    · rw [if_pos c, List.getElem?_append_left (by rw [pw_len, Nat.mul_comm]; exact c), pw_get _ _ _ (by rw [Nat.mul_comm]; exact c)]
    · rw [if_neg c, List.getElem?_append_right (by rw [pw_len, Nat.mul_comm]; omega), letterR_eq rs, pw_len, Nat.mul_comm r.2]
end
end NP
set_option Elab.async false
set_option linter.all false
set_option maxRecDepth 100000
set_option maxHeartbeats 4000000
namespace NP
open PySem PySem.StrLaws Builtin Builtin.Str
/-- the letters of a text -/
abbrev cs (z : Str) : List Nat := z.cps.toList
theorem cs_len (z : Str) : z.length = (cs z).length := by simp [cs, Str.length]
theorem cs_ext {x y : Str} (h : cs x = cs y) : x = y := Str.ext' (Array.toList_inj.mp h)
theorem cs_app (x y : Str) : cs (x ++ y) = cs x ++ cs y := by
  show (x ++ y).cps.toList = _
  rw [Str.cps_append, Array.toList_append]
theorem fold_rep (l : Array Nat) (n : Nat) (z : Array Nat) : ((List.replicate n l).foldl (· ++ ·) z).toList = z.toList ++ pw l.toList n := by
  induction n generalizing z with
  | zero => simp [pw_zero]
  | succ n ih => rw [List.replicate_succ, List.foldl_cons, ih, Array.toList_append, pw_succ, List.append_assoc]
theorem cs_mul (z : Str) {i : Int} (h : 0 ≤ i) : cs (Txt.mul z i) = pw (cs z) i.toNat := by
  unfold Txt.mul
  by_cases c : i < 1
  · rw [if_pos c, show i.toNat = 0 by omega, pw_zero]
    rfl
  · rw [if_neg c]
    by_cases d : (i == 1 || z.length == 0) = true
    · rw [if_pos d]
      rcases (Bool.or_eq_true _ _).mp d with e | e
      · have : i = 1 := beq_iff_eq.mp e
        subst this
        exact (pw_one _).symm
      · have e2 : (cs z).length = 0 := by rw [← cs_len]; exact beq_iff_eq.mp e
        rw [List.length_eq_zero_iff.mp e2, pw_nil]
    · rw [if_neg d]
      show ((List.replicate i.toNat z.cps).foldl (· ++ ·) #[]).toList = _
      rw [fold_rep]
      rfl
/-! ### the first place -/
theorem occ_full (s sub : Str) (hi : Nat) : ∀ (l : List Nat) (st : Array Nat × Nat), st.fst.size = 1 → (forIn l st (occBody s sub hi 1)).run.fst = st.fst
  | [], st, _ => rfl
  | a :: l, st, h => by
    rw [List.forIn_cons]
    unfold occBody
    have c : ¬ (((st.fst.size < 1 ∧ st.snd ≤ a) ∧ a + sub.length ≤ hi) ∧ subAt s sub a = true) := fun z => by omega
    rw [if_neg c]
    exact occ_full s sub hi l _ h
def hit (s sub : Str) (hi i : Nat) : Bool := decide (i + sub.length ≤ hi) && subAt s sub i
theorem occ_first (s sub : Str) (hi : Nat) : ∀ (l : List Nat) (free : Nat), (∀ i ∈ l, free ≤ i) →
    (forIn l ((#[] : Array Nat), free) (occBody s sub hi 1)).run.fst.toList = match l.find? (hit s sub hi) with
      | some i => [i]
      | none => []
  | [], free, _ => rfl
  | a :: l, free, hf => by
    rw [List.forIn_cons, List.find?_cons]
    have ha : free ≤ a := hf a (List.mem_cons_self ..)
    by_cases hc : hit s sub hi a = true
    · have hc2 := hc
      unfold hit at hc2
      rw [Bool.and_eq_true, decide_eq_true_eq] at hc2
      rw [hc]
      unfold occBody
      rw [if_pos ⟨⟨⟨by simp, ha⟩, hc2.1⟩, hc2.2⟩]
      show ((forIn l ((#[] : Array Nat).push a, a + sub.length) (occBody s sub hi 1)).run.fst).toList = [a]
      rw [occ_full s sub hi l _ (by simp)]
      rfl
    · have hc2 : ¬ (((((#[] : Array Nat), free).fst.size < 1 ∧ ((#[] : Array Nat), free).snd ≤ a) ∧ a + sub.length ≤ hi) ∧ subAt s sub a = true) := fun h => hc (by
        unfold hit
        rw [Bool.and_eq_true, decide_eq_true_eq]
        exact ⟨h.1.2, h.2⟩)
      rw [Bool.eq_false_iff.mpr hc]
      unfold occBody
      rw [if_neg hc2]
      exact occ_first s sub hi l free fun i hi' => hf i (List.mem_cons_of_mem _ hi')
theorem find_some {P : Nat → Bool} : ∀ (k lo p : Nat), (List.range' lo k).find? P = some p → lo ≤ p ∧ P p = true ∧ ∀ q, lo ≤ q → q < p → P q = false
  | 0, lo, p, h => by simp at h
  | k + 1, lo, p, h => by
    rw [List.range'_succ, List.find?_cons] at h
    cases e : P lo with
    | true =>
      rw [e] at h
      cases h
      exact ⟨Nat.le_refl _, e, fun q h1 h2 => by omega⟩
    | false =>
      rw [e] at h
      obtain ⟨h1, h2, h3⟩ := find_some k (lo + 1) p h
      refine ⟨by omega, h2, fun q q1 q2 => ?_⟩
      by_cases c : q = lo
      · rw [c]; exact e
      · exact h3 q (by omega) q2
theorem find_none {P : Nat → Bool} : ∀ (k lo : Nat), (List.range' lo k).find? P = none → ∀ q, lo ≤ q → q < lo + k → P q = false
  | 0, lo, _, q, h1, h2 => by omega
  | k + 1, lo, h, q, h1, h2 => by
    rw [List.range'_succ, List.find?_cons] at h
    cases e : P lo with
    | true =>
      rw [e] at h
      cases h
    | false =>
      rw [e] at h
      by_cases c : q = lo
      · rw [c]; exact e
      · exact find_none k (lo + 1) h q (by omega) (by omega)
theorem hit_at (w : Str) (i : Nat) : hit (w ++ w) w (w ++ w).length i = true ↔ i ≤ (cs w).length ∧ At (cs w) i := by
  unfold hit
  rw [Bool.and_eq_true, decide_eq_true_eq, subAt_eq, show (w ++ w).cps.toList = cs w ++ cs w from cs_app w w, cs_len (w ++ w), cs_app, List.length_append, cs_len w]
  unfold At
  constructor
  · rintro ⟨h1, h2⟩
    exact ⟨by omega, eq_of_beq h2⟩
  · rintro ⟨h1, h2⟩
    exact ⟨by omega, beq_iff_eq.mpr h2⟩
/-- (w + w).find(w, 1) -/
theorem root_find {w : Str} (hw : cs w ≠ []) : ∃ p : Nat, Txt.find3 (w ++ w) w 1 = (p : Int) ∧ 1 ≤ p ∧ p ≤ (cs w).length ∧ At (cs w) p ∧ ∀ q, 1 ≤ q → q < p → ¬ At (cs w) q := by
  have n0 : 0 < (cs w).length := List.length_pos_iff.mpr hw
  have lw : (w ++ w).length = (cs w).length + (cs w).length := by rw [cs_len, cs_app, List.length_append]
  have fi : fromIndex (w ++ w).length 1 = 1 := by
    unfold fromIndex
    rw [if_neg (by decide)]
    rfl
  unfold Txt.find3
  rw [fi, occ_eq, occ_first _ _ _ _ _ (fun i hi => by simp [List.mem_range'] at hi; omega)]
  cases e : (List.range' 1 ((w ++ w).length + 1 - 1)).find? (hit (w ++ w) w (w ++ w).length) with
  | none =>
    have z := find_none _ _ e (cs w).length (by omega) (by omega)
    have t : hit (w ++ w) w (w ++ w).length (cs w).length = true := (hit_at w _).mpr ⟨Nat.le_refl _, at_of_turn (Nat.le_refl _) (turn_all _)⟩
    rw [t] at z
    cases z
  | some p =>
    obtain ⟨h1, h2, h3⟩ := find_some _ _ _ e
    obtain ⟨h4, h5⟩ := (hit_at w p).mp h2
    refine ⟨p, rfl, h1, h4, h5, fun q q1 q2 hq => ?_⟩
    have := h3 q q1 q2
    rw [(hit_at w q).mpr ⟨by omega, hq⟩] at this
    cases this
end NP
set_option Elab.async false
set_option linter.all false
set_option maxRecDepth 100000
set_option maxHeartbeats 4000000
/-! the place of a letter in a text: of texts, no program. -/
namespace NP
open PySem PySem.StrLaws Builtin Builtin.Str
theorem idx_first {c : Nat} : ∀ {l : List Nat} {p : Nat}, l[p]? = some c → (∀ q, q < p → l[q]? ≠ some c) → l.idxOf c = p
  | [], _, h, _ => by simp at h
  | a :: l, 0, h, _ => by
    have : a = c := Option.some.inj h
    rw [this, List.idxOf_cons_self]
  | a :: l, p + 1, h, k => by
    have ne : a ≠ c := fun e => k 0 (by omega) (by rw [e]; rfl)
    have e : (a == c) = false := by simpa using ne
    rw [List.idxOf_cons, e, idx_first (l := l) (p := p) h fun q hq => k (q + 1) (by omega)]
    rfl
theorem idx_none {c : Nat} {l : List Nat} (h : ∀ q, q < l.length → l[q]? ≠ some c) : l.idxOf c = l.length := by
  apply List.idxOf_eq_length
  intro hm
  obtain ⟨i, hi⟩ := List.mem_iff_getElem?.mp hm
  exact h i (List.getElem?_eq_some_iff.mp hi).1 hi
theorem find_one (z : Str) (c : Nat) : Txt.find z ⟨#[c]⟩ = if (cs z).idxOf c < (cs z).length then (((cs z).idxOf c : Nat) : Int) else -1 := by
  have lz := cs_len z
  have hit1 : ∀ i, hit z ⟨#[c]⟩ z.length i = true ↔ (cs z)[i]? = some c := fun i => by
    unfold hit
    rw [Bool.and_eq_true, decide_eq_true_eq, subAt_eq]
    show (i + 1 ≤ z.length ∧ (((cs z).drop i).take 1 == [c]) = true) ↔ _
    rw [beq_iff_eq]
    constructor
    · rintro ⟨h1, h2⟩
      have := congrArg (fun l => l[0]?) h2
      simp only [List.getElem?_take, List.getElem?_drop] at this
      simpa using this
    · intro h
      have hi := (List.getElem?_eq_some_iff.mp h).1
      refine ⟨by omega, ?_⟩
      rw [List.drop_eq_getElem_cons hi, List.take_succ_cons, List.take_zero]
      rw [List.getElem?_eq_getElem hi] at h
      rw [Option.some.inj h]
  unfold Txt.find
  rw [occ_eq, occ_first _ _ _ _ _ (fun i hi => Nat.zero_le _)]
  cases e : (List.range' 0 (z.length + 1 - 0)).find? (hit z ⟨#[c]⟩ z.length) with
  | none =>
    have no : ∀ q, q < (cs z).length → (cs z)[q]? ≠ some c := fun q hq h => by
      have := find_none _ _ e q (Nat.zero_le _) (by omega)
      rw [(hit1 q).mpr h] at this
      cases this
    rw [idx_none no, if_neg (by omega)]
  | some p =>
    obtain ⟨h1, h2, h3⟩ := find_some _ _ _ e
    have hp := (hit1 p).mp h2
    have e2 := idx_first hp fun q hq h => by
      have := h3 q (Nat.zero_le _) hq
      rw [(hit1 q).mpr h] at this
      cases this
    rw [e2, if_pos (List.getElem?_eq_some_iff.mp hp).1]
end NP
set_option Elab.async false
set_option linter.all false
set_option maxRecDepth 100000
set_option maxHeartbeats 4000000
namespace KF
open PySem PySem.Spec PyProof.Rows L2 XV NM XT
theorem call_list_ofK {X : Cx} {K : PySem.W.Frag} (e : X.K = K) : CallR X (.type "list") (fun xs H Q => ∃ p ys, xs = [.ref p] ∧ (SqL K H p ys ∨ SqT K H p ys) ∧ ∀ l, H l = none → Q (.ref l) (upd H l (.lst ys))) := by
  subst e
  exact call_list_of
def tysD : List String := ["NoneType", "int", "str", "list", "tuple"]
def RL (H : Hp) (r : Addr) (R : List (List Nat)) : Prop := ∃ xs, H r = some (.lst xs) ∧ Pts H xs (R.map natI)
theorem RL.keep {H H' : Hp} (s : Same H H') {r : Addr} {R : List (List Nat)} (h : RL H r R) : RL H' r R := by
  obtain ⟨xs, e, p⟩ := h
  exact ⟨xs, s _ _ e, p.keep s⟩
abbrev FnM (K : PySem.W.Frag) (m q : Str) (st : Stmt) (f : Addr) (fd : FuncData) : Prop := FunD K m q (defArgs st) (defBody st) (defScope st) [] [] f fd
theorem call_lenK {X : Cx} {K : PySem.W.Frag} (e : X.K = K) : CallR X (.builtin "len") (fun xs H Q => ∃ x n, xs = [x] ∧ LenV K x H n ∧ Q (.int n) H) := by
  subst e
  exact call_len
abbrev cz (z : Str) : List Nat := z.cps.toList
theorem cz_at (z : Str) (i : Nat) : z.cps[i]? = (cz z)[i]? := by simp
theorem cz_len (z : Str) : z.length = (cz z).length := by simp [Str.length]
def colsN (z w : Str) : List Nat := (cz w).map fun c => (cz z).idxOf c
theorem idx_at {l : List Nat} (h : l.Nodup) {i c : Nat} (e : l[i]? = some c) : l.idxOf c = i := by
  obtain ⟨hi, rfl⟩ := List.getElem?_eq_some_iff.mp e
  exact List.Nodup.idxOf_getElem h i hi
def NoA (K : PySem.W.Frag) (H : Hp) (v : L2.V) : Prop := ∃ T ∈ tysD, TyX K H v (.type T)
theorem join0 (ys : List Str) : cz (Txt.join "" ys) = ys.flatMap cz := by
  have e : ∀ L : List (List Nat), TL.joinL [] L = L.flatten := fun L => by
    induction L with
    | nil => rfl
    | cons p L ih =>
      cases L with
      | nil => simp [TL.joinL]
      | cons q r =>
        show p ++ ([] ++ TL.joinL [] (q :: r)) = _
        rw [ih]
        simp
  have h := TL.tl_join "" ys
  have t : TL.tl ("" : Str) = [] := by decide +kernel
  rw [TL.join_eq]
  show TL.tl (Str.join "" ys) = _
  rw [h, t, e, ← List.flatMap_def]
theorem sum_len (ys : List Str) : (ys.map (·.length)).sum = (ys.flatMap cz).length := by
  induction ys with
  | nil => rfl
  | cons y ys ih => rw [List.map_cons, List.sum_cons, ih, List.flatMap_cons, List.length_append, cz_len]
abbrev sAlph : Stmt := top 19
abbrev sLRows : Stmt := top 20
abbrev sRow : Stmt := top 21
abbrev sRis : Stmt := top 22
theorem scAlph : FnScope ["value"] ["value"] (defScope sAlph) := ⟨rfl, rfl, rfl, by decide +kernel, rfl, by decide +kernel, by decide +kernel⟩
theorem scLRows : FnScope ["value", "width", "item"] ["value", "width"] (defScope sLRows) := ⟨rfl, rfl, rfl, by decide +kernel, rfl, by decide +kernel, by decide +kernel⟩
theorem scRow : FnScope ["value", "width", "how_many", "state"] ["value", "width", "how_many"] (defScope sRow) := ⟨rfl, rfl, rfl, by decide +kernel, rfl, by decide +kernel, by decide +kernel⟩
theorem scRis : FnScope ["how_many", "value"] ["how_many", "value"] (defScope sRis) := ⟨rfl, rfl, rfl, by decide +kernel, rfl, by decide +kernel, by decide +kernel⟩
def alphV : L2.V → Bool
  | .str z => wordV (.str z) && riseN (cz z)
  | _ => false
def spAlph : Sp := fun vs H Q _ => ∃ v, vs = [v] ∧ Kn H v ∧ (∀ z, v = .str z → z.length < 64) ∧ ∀ H', Same H H' → Q (.bl (alphV v)) H'
def spRow : Sp := fun vs H Q _ => ∃ (a : Addr) (st : List Nat) (wd n : Nat), vs = [.ref a, .int wd, .int n] ∧ H a = some (.lst ((natI st).map V.int)) ∧ st.length ≤ 100 ∧ ∀ H', Same H H' → Q (.bl (decide (st.length = wd) && st.all fun x => decide (x < n))) H'
def spLRows : Sp := fun vs H Q _ => ∃ (a : Addr) (R : List (List Nat)) (wd : Nat), vs = [.ref a, .int wd] ∧ RL H a R ∧ 1 ≤ R.length ∧ R.length ≤ 12 ∧ (∀ r ∈ R, r.length = wd ∧ ∀ x ∈ r, x < R.length) ∧ wd ≤ 100 ∧ ∀ H', Same H H' → Q (.bl true) H'
def spRis : Sp := fun vs H Q _ => ∃ (a : Addr) (n : Nat) (es : List Nat), vs = [.int n, .ref a] ∧ H a = some (.lst ((natI es).map V.int)) ∧ es.length < 64 ∧ (∀ x ∈ es, x < n) ∧ es.Pairwise (· < ·) ∧ ∀ H', Same H H' → Q (.bl true) H'
theorem below_lt (n x : Nat) : belV (n : Int) (.int (x : Int)) = decide (x < n) := by
  show (decide (0 ≤ (x : Int)) && decide ((x : Int) < n)) = _
  rw [decide_eq_true (Int.natCast_nonneg x), Bool.true_and]
  exact decide_eq_decide.mpr ⟨fun h => by omega, fun h => by omega⟩
section
variable {P : Program} {w : World} {K : PySem.W.Frag} {mg : Str → Option Value} {base : Heap} {f : Addr} {fd : FuncData} {C : Addr}
theorem ok_alph (F : FnP K "is_alphabet" sAlph f fd) (o_word : Ok P w K mg base "is_word" 2 ["value"] spIsWord) (z_sorted : mg "sorted" = none) (z_set : mg "set" = none) : FnOk P w K mg base CX0 3 f fd ["value"] spAlph := by
  refine F.ok scAlph (fun vs H Q E h => ?_) (fun cdv A outer s H vs Q E hr h => ?_)
  · obtain ⟨v, rfl, _⟩ := h
    rfl
  · obtain ⟨v, rfl, kn, lv, q⟩ := h
    have szl := sizeLine_eq
    refine ⟨_, PSs.nox (pss_one (ps_ret (pe_and (pe_callO o_word hr (by rfl) (pa_cons (pv 0) pa_nil)) (pe_one (pe_cmpR op_eq (pe_join pe_str (pe_callB (cr_sortedSS rfl) (by rfl) z_sorted (by decide +kernel) (pa_cons (pe_callTy (cr_setStr rfl) (by rfl) z_set (by decide +kernel) (pa_cons (pv 0) pa_nil)) pa_nil))) (pv 0) (nomark _)))))), ?_⟩
    refine ⟨_, rfl, v, rfl, kn, fun z e => by have := lv z e; omega, ?_⟩
    have no : wordV v = false → ∃ b, V.bl (wordV v) = .bl b ∧ (if b = true then False else Q (.bl false) H) := fun e => ⟨false, by rw [e], by
      rw [if_neg (by decide)]
      have : alphV v = false := by
        cases v <;> first | rfl | (show (wordV _ && _) = false; rw [e]; rfl)
      rw [← this]
      exact q H (Same.refl _)⟩
    cases e : wordV v with
    | false =>
      obtain ⟨b, h1, h2⟩ := no e
      rw [e] at h1
      refine ⟨false, rfl, iteF ?_⟩
      have : alphV v = false := by
        cases v <;> first | rfl | (show (wordV _ && _) = false; rw [e]; rfl)
      have q1 := q H (Same.refl _)
      rw [this] at q1
      exact q1
    | true =>
      cases v with
      | str z =>
        have lz := lv z rfl
        refine ⟨true, rfl, iteT ?_⟩
        refine ⟨⟨_, rfl⟩, _, rfl, z, sgs z, rfl, fun y hy => hy, by rw [← sgs_len]; show z.length < 1000; omega, fun p c np lc => ?_⟩
        have lsg : (sgs z).length = z.length := (sgs_len z).symm
        refine ⟨p, _, c, rfl, upd_same, by omega, fun ks p2 knd ks1 km kl np2 => ?_⟩
        obtain ⟨ds, rfl, pw, ed⟩ := sorted_sgs knd ks1 km
        have sm := (same_new (o := SetSO w p (fun j => decide (j ∈ sgs z)) c) np).trans (same_new (o := .lst ((ds.map sg).map V.str)) np2)
        have hk : ∀ ds : List Nat, (ds.map sg).flatMap cz = ds := fun ds => by
          induction ds with
          | nil => rfl
          | cons d ds ih => rw [List.map_cons, List.flatMap_cons, ih]; rfl
        refine ⟨_, p2, ds.map sg, rfl, rfl, .inl (SqL.of upd_same), ?_, ?_⟩
        · rw [sum_len, hk, show ("" : Str).length = 0 by decide +kernel, Nat.mul_zero]
          rw [List.length_map] at kl
          omega
        · refine ⟨_, rfl, rfl, ?_⟩
          have e2 : decide (V.str (Txt.join "" (ds.map sg)) = V.str z) = riseN (cz z) := by
            rw [← ed]
            apply decide_eq_decide.mpr
            have ej : cz (Txt.join "" (ds.map sg)) = ds := by rw [join0, hk]
            constructor
            · intro h
              rw [← ej, V.str.inj h]
            · intro h
              rw [h] at ej
              have : Txt.join "" (ds.map sg) = z := by
                have e3 := congrArg List.toArray ej
                have ext : ∀ a b : Str, a.cps = b.cps → a = b := fun ⟨_⟩ ⟨_⟩ h => congrArg Str.mk h
                refine ext _ _ ?_
                rw [h]
                exact (by simpa using e3)
              rw [this]
          have q1 := q _ sm
          have e3 : alphV (.str z) = riseN (cz z) := by
            show (wordV (.str z) && riseN (cz z)) = _
            rw [e, Bool.true_and]
          rw [e3, ← e2] at q1
          exact q1
      | _ => cases e
theorem ok_row (F : FnP K "is_row" sRow f fd) (o_below : Ok P w K mg base "is_count_below" 3 ["bound", "value"] spBelow) (z_isinstance : mg "isinstance" = none) (z_list : mg "list" = none) (z_len : mg "len" = none) (z_all : mg "all" = none) : FnOk P w K mg base CX0 4 f fd ["value", "width", "how_many"] spRow := by
  have nd := scRow.nd
  refine F.ok scRow (fun vs H Q E h => ?_) (fun cdv A outer s H vs Q E hr h => ?_)
  · obtain ⟨a, st, wd, n, rfl, _⟩ := h
    rfl
  · obtain ⟨a, st, wd, n, rfl, ha, l100, q⟩ := h
    have r3 : Room 3 (A.deeper (envOfC "is_row" (defScope sRow) s.heap.objs.size f cdv)) := hr
    refine ⟨_, PSs.nox (pss_cons (ps_if (PW.pt (pw_or (pt_not (pt_val (pe_callB call_isi (by rfl) z_isinstance (by decide +kernel) (pa_cons (pv 0) (pa_cons (pe_bltn (v := .ty "list") (by rfl) z_list (by decide +kernel) rfl) pa_nil))))) (pw_or1 (pt_cmpR op_ne (pe_callB call_len (by rfl) z_len boot_len (pa_cons (pv 0) pa_nil)) (pv 1) (nomark _))))) (pss_one (ps_ret pe_bl)) pss_nil)
      (pss_one (ps_ret (pe_callB (cr_all rfl) (by rfl) z_all (by decide +kernel) (pa_cons
      (pe_lc (own := [("state", 3)]) (g := gName 3) (by rfl) nd (pi_list (pv 0)) (blkOk_by (N := ["value", "width", "how_many", "state"]) (sc := defScope sRow) (own := [("state", 3)]) (by decide +kernel)) (fun _ _ _ _ _ => pg_name (i := 3) nd rfl (Or.inl rfl)) (fun _ _ _ _ _ => pts_nil) (fun _ _ _ _ _ => pe_callO o_below r3 (by rfl) (pa_cons (pv 2) (pa_cons (pv 3) pa_nil)))) pa_nil))))), ?_⟩
    have ll : ((natI st).map V.int).length = st.length := by rw [List.length_map, natI_len]
    refine ⟨_, rfl, _, _, _, _, true, rfl, .ty "list", .base (.lst ha), kit_ty (by decide +kernel), true, rfl, iteF ⟨_, rfl, _, st.length, rfl, .inl ⟨_, SqL.of ha, ll.symm⟩, _, rfl, rfl, !decide (V.int (st.length : Int) = V.int (wd : Int)), rfl, ?_⟩⟩
    by_cases c : st.length = wd
    · have e : decide (V.int (st.length : Int) = V.int (wd : Int)) = true := decide_eq_true (by rw [c])
      rw [e]
      refine iteF ?_
      refine ⟨_, rfl, a, rfl, ⟨_, SqL.of ha⟩, fun D nD => lc_list (K := K) (a := a) (xs := (natI st).map V.int) (fun k H' => Same H H' ∧ H' D = some (.lst (((st.take k).map fun x => decide (x < n)).map V.bl))) ⟨same_new nD, upd_same⟩ (fun k H' _ p => SqL.of (p.1 _ _ ha)) ?_ ?_⟩
      · rintro k y H' hk ⟨sm, hD⟩
        rw [List.getElem?_map, natI_get, Option.map_map] at hk
        obtain ⟨x, ex, rfl⟩ := Option.map_eq_some_iff.mp hk
        have li := (List.getElem?_eq_some_iff.mp ex).1
        refine ⟨rfl, ?_⟩
        refine ⟨_, rfl, _, rfl, _, _, rfl, .int _, _, hD, ?_, fun b o e => ?_, ?_⟩
        · rw [List.length_map, List.length_map, List.length_take]
          exact small1000 (by omega)
        · rw [upd_ne (ne_of_none (H := H) e nD)]
          exact sm _ _ e
        · rw [upd_same, List.take_add_one, ex, List.map_append, List.map_append]
          show some (HO.lst (_ ++ [V.bl (belV (n : Int) (.int (x : Int)))])) = _
          rw [below_lt]
          rfl
      · rintro H' ⟨sm, hD⟩
        rw [ll, List.take_length] at hD
        refine ⟨D, _, rfl, SqL.of hD, ?_⟩
        have q1 := q H' sm
        rw [decide_eq_true c, Bool.true_and] at q1
        rw [List.all_map]
        exact q1
    · have e : decide (V.int (st.length : Int) = V.int (wd : Int)) = false := decide_eq_false fun z => c (by have := V.int.inj z; omega)
      rw [e]
      have q1 := q H (Same.refl _)
      rw [decide_eq_false c, Bool.false_and] at q1
      exact iteT q1
theorem ok_lrows (F : FnP K "is_list_of_rows" sLRows f fd) (o_row : Ok P w K mg base "is_row" 4 ["value", "width", "how_many"] spRow) (z_isinstance : mg "isinstance" = none) (z_list : mg "list" = none) (z_len : mg "len" = none) (z_all : mg "all" = none) {tM : Tok} (h_M : mg "MOST_STATES" = some (.int 12 tM)) : FnOk P w K mg base CX0 5 f fd ["value", "width"] spLRows := by
  have nd := scLRows.nd
  refine F.ok scLRows (fun vs H Q E h => ?_) (fun cdv A outer s H vs Q E hr h => ?_)
  · obtain ⟨a, R, wd, rfl, _⟩ := h
    rfl
  · obtain ⟨a, R, wd, rfl, ⟨xs, ha, hP⟩, r1, r12, hR, w100, q⟩ := h
    have r4 : Room 4 (A.deeper (envOfC "is_list_of_rows" (defScope sLRows) s.heap.objs.size f cdv)) := hr
    have lx := hP.len
    rw [List.length_map] at lx
    refine ⟨_, PSs.nox (pss_cons (ps_if (PW.pt (pw_or (pt_not (pt_val (pe_callB call_isi (by rfl) z_isinstance (by decide +kernel) (pa_cons (pv 0) (pa_cons (pe_bltn (v := .ty "list") (by rfl) z_list (by decide +kernel) rfl) pa_nil))))) (pw_or1 (pt_not (pt_chain op_le op_le pe_int (pe_callB call_len (by rfl) z_len boot_len (pa_cons (pv 0) pa_nil)) (pe_glob (v := .int 12) (by rfl) h_M ⟨_, rfl⟩)))))) (pss_one (ps_ret pe_bl)) pss_nil)
      (pss_one (ps_ret (pe_callB (cr_all rfl) (by rfl) z_all (by decide +kernel) (pa_cons
      (pe_lc (own := [("item", 2)]) (g := gName 2) (by rfl) nd (pi_list (pv 0)) (blkOk_by (N := ["value", "width", "item"]) (sc := defScope sLRows) (own := [("item", 2)]) (by decide +kernel)) (fun _ _ _ _ _ => pg_name (i := 2) nd rfl (Or.inl rfl)) (fun _ _ _ _ _ => pts_nil) (fun _ _ _ _ _ => pe_callO o_row r4 (by rfl) (pa_cons (pv 2) (pa_cons (pv 1) (pa_cons (pe_callB (call_lenK (K := K) rfl) (by rfl) z_len boot_len (pa_cons (pv 0) pa_nil)) pa_nil))))) pa_nil))))), ?_⟩
    refine ⟨_, rfl, _, _, _, _, true, rfl, .ty "list", .base (.lst ha), kit_ty (by decide +kernel), true, rfl, iteF ⟨_, rfl, _, R.length, rfl, .inl ⟨_, SqL.of ha, lx.symm⟩, ?_⟩⟩
    refine ⟨_, _, rfl, rfl, true, congrArg V.bl (decide_eq_true (by omega)), ⟨_, _, rfl, rfl, true, congrArg V.bl (decide_eq_true (by omega)), iteF ?_⟩⟩
    refine ⟨_, rfl, a, rfl, ⟨_, SqL.of ha⟩, fun D nD => lc_list (K := K) (a := a) (xs := xs) (fun k H' => Same H H' ∧ H' D = some (.lst ((List.replicate k true).map V.bl))) ⟨same_new nD, upd_same⟩ (fun k H' _ p => SqL.of (p.1 _ _ ha)) ?_ ?_⟩
    · rintro k y H' hk ⟨sm, hD⟩
      obtain ⟨p, ep, b, rfl, hb⟩ := hP.get hk
      rw [List.getElem?_map] at ep
      obtain ⟨row, er, rfl⟩ := Option.map_eq_some_iff.mp ep
      have li := (List.getElem?_eq_some_iff.mp er).1
      obtain ⟨w1, w2⟩ := hR row (List.mem_of_getElem? er)
      refine ⟨rfl, ?_⟩
      refine ⟨_, rfl, _, rfl, _, rfl, _, R.length, rfl, .inl ⟨_, SqL.of (sm _ _ ha), lx.symm⟩, b, row, wd, R.length, rfl, sm _ _ hb, by omega, fun H2 s2 => ?_⟩
      have e : (decide (row.length = wd) && row.all fun x => decide (x < R.length)) = true := by
        rw [decide_eq_true w1, Bool.true_and, List.all_eq_true]
        exact fun x hx => decide_eq_true (w2 x hx)
      rw [e]
      refine ⟨_, s2 _ _ hD, ?_, fun c o e => ?_, ?_⟩
      · rw [List.length_map, List.length_replicate]
        exact small1000 (by omega)
      · rw [upd_ne (ne_of_none (H := H) e nD)]
        exact s2 _ _ (sm _ _ e)
      · rw [upd_same, List.replicate_succ', List.map_append]
        rfl
    · rintro H' ⟨sm, hD⟩
      refine ⟨D, _, rfl, SqL.of hD, ?_⟩
      have e : ((List.replicate xs.length true).all id) = true := by
        rw [List.all_eq_true]
        intro x hx
        rw [(List.mem_replicate.mp hx).2]
        rfl
      rw [e]
      exact q H' sm
theorem ok_ris (F : FnP K "is_rising" sRis f fd) (o_row : Ok P w K mg base "is_row" 4 ["value", "width", "how_many"] spRow) (z_isinstance : mg "isinstance" = none) (z_list : mg "list" = none) (z_len : mg "len" = none) (z_sorted : mg "sorted" = none) (z_set : mg "set" = none) : FnOk P w K mg base CX0 5 f fd ["how_many", "value"] spRis := by
  refine F.ok scRis (fun vs H Q E h => ?_) (fun cdv A outer s H vs Q E hr h => ?_)
  · obtain ⟨a, n, es, rfl, _⟩ := h
    rfl
  · obtain ⟨a, n, es, rfl, ha, l64, hlt, pw, q⟩ := h
    have hu := hr.units
    have r4 : Room 4 (A.deeper (envOfC "is_rising" (defScope sRis) s.heap.objs.size f cdv)) := hr
    refine ⟨_, PSs.nox (pss_cons (ps_if (PW.pt (pw_or (pt_not (pt_val (pe_callB call_isi (by rfl) z_isinstance (by decide +kernel) (pa_cons (pv 1) (pa_cons (pe_bltn (v := .ty "list") (by rfl) z_list (by decide +kernel) rfl) pa_nil))))) (pw_or1 (pt_not (pt_val (pe_callO o_row r4 (by rfl) (pa_cons (pv 1) (pa_cons (pe_callB call_len (by rfl) z_len boot_len (pa_cons (pv 1) pa_nil)) (pa_cons (pv 0) pa_nil))))))))) (pss_one (ps_ret pe_bl)) pss_nil)
      (pss_one (ps_ret (pe_cmpR (op_eqD hu) (pv 1) (pe_callB (cr_sortedSet rfl) (by rfl) z_sorted (by decide +kernel) (pa_cons (pe_callTy (cr_setLI rfl) (by rfl) z_set (by decide +kernel) (pa_cons (pv 1) pa_nil)) pa_nil)) (nomark _))))), ?_⟩
    have ll : ((natI es).map V.int).length = es.length := by rw [List.length_map, natI_len]
    refine ⟨_, rfl, _, _, _, _, true, rfl, .ty "list", .base (.lst ha), kit_ty (by decide +kernel), true, rfl, iteF ⟨_, rfl, _, rfl, _, es.length, rfl, .inl ⟨_, SqL.of ha, ll.symm⟩, _, rfl, a, es, es.length, n, rfl, ha, by omega, fun H1 s1 => ?_⟩⟩
    have e : (decide (es.length = es.length) && es.all fun x => decide (x < n)) = true := by
      rw [decide_eq_true rfl, Bool.true_and, List.all_eq_true]
      exact fun x hx => decide_eq_true (hlt x hx)
    rw [e]
    refine ⟨true, rfl, iteF ?_⟩
    have ha1 := s1 _ _ ha
    refine ⟨_, rfl, _, rfl, a, natI es, rfl, SqL.of ha1, by rw [natI_len]; omega, fun p c np lc => ?_⟩
    rw [natI_len] at lc
    refine ⟨p, _, c, rfl, upd_same, by omega, fun ns p2 pn mn ln np2 => ?_⟩
    have en : ns = natI es := by
      have pe : (natI es).Pairwise (· < ·) := by
        unfold natI
        rw [List.pairwise_map]
        exact pw.imp fun h => by omega
      have na : ns.Nodup := pn.imp fun h => by omega
      have nb : (natI es).Nodup := pe.imp fun h => by omega
      have pm : ns.Perm (natI es) := (List.perm_ext_iff_of_nodup na nb).mpr fun x => by rw [mn x, decide_eq_true_eq]
      exact List.Perm.eq_of_pairwise (fun x y _ _ h1 h2 => by omega) pn pe pm
    subst en
    have s2 := (same_new (o := SetO w p (fun j => decide (j ∈ natI es)) c) np).trans (same_new (o := .lst ((natI es).map V.int)) np2)
    refine ⟨ptD (natI es), ptD (natI es), .lst (SqL.of (s2 _ _ ha1)) (dp_ints _), .lst (SqL.of upd_same) (dp_ints _), pt_shaped _, pt_shaped _, ?_⟩
    rw [SeqAt.eqv_refl _ (SeqAt.canLay_of_shaped (pt_shaped _))]
    exact q _ (s1.trans s2)
end
theorem Pts.updI {H : Hp} {x : Addr} {C dx : Addr} {fs : List (Str × V)} {o : HO} (hx : H x = some (.ins C dx fs)) : ∀ {xs : List V} {R : List (List Int)}, Pts H xs R → Pts (upd H x o) xs R
  | _, _, .nil => .nil
  | _, _, .cons h r => .cons (by
      obtain ⟨a, e, t⟩ := h
      refine ⟨a, e, ?_⟩
      rw [upd_ne (ne_of t hx (by intro z; cases z))]
      exact t) (Pts.updI hx r)
theorem RL.updI {H : Hp} {x r : Addr} {C dx : Addr} {fs : List (Str × V)} {o : HO} {R : List (List Nat)} (hx : H x = some (.ins C dx fs)) (h : RL H r R) : RL (upd H x o) r R := by
  obtain ⟨xs, e, p⟩ := h
  refine ⟨xs, ?_, p.updI hx⟩
  rw [upd_ne (ne_of e hx (by intro z; cases z))]
  exact e
end KF
set_option Elab.async false
set_option linter.all false
set_option maxRecDepth 100000
set_option maxHeartbeats 2000000
/-! A lambda with parameters, handed to a def and called there. -/
namespace XA
open PySem PySem.Spec PyProof.Rows L2 LamX
/-- the maker's names, those of the parameters hidden -/
def hideN (ps l : List Str) : List Str := l.map fun y => if ps.contains y then "" else y
structure LamP (sc scope : Scope) (ps : List Str) : Prop where
  kind : scope.kind = .function
  co : scope.isCoroutine = false
  gen : scope.isGenerator = false
  nc : ∀ y ∈ scope.names, y.2 ≠ .cell
  par : ∀ x ∈ ps, scope.names.lookup x = some .local
  loc : ∀ y ∈ scope.names, y.2 = .local → y.1 ∈ ps
  nd : ps.Nodup
  noE : scope.names.lookup ("" : Str) = none
  free : ∀ y ∈ scope.names, y.2 = .free → sc.names.lookup y.1 = some .cell ∨ sc.names.lookup y.1 = some .free
def lamPB (sc scope : Scope) (ps : List Str) : Bool :=
  decide (scope.kind = .function) && (!scope.isCoroutine && (!scope.isGenerator && ((scope.names.all fun y => !decide (y.2 = .cell) && ((!decide (y.2 = .local) || decide (y.1 ∈ ps)) && (!decide (y.2 = .free) || (decide (sc.names.lookup y.1 = some .cell) || decide (sc.names.lookup y.1 = some .free))))) &&
    ((ps.all fun x => decide (scope.names.lookup x = some .local)) && (decide ps.Nodup && decide (scope.names.lookup ("" : Str) = none))))))
theorem lamP_by {sc scope : Scope} {ps : List Str} (h : lamPB sc scope ps = true) : LamP sc scope ps := by
  unfold lamPB at h
  simp only [Bool.and_eq_true, Bool.or_eq_true, Bool.not_eq_true', decide_eq_true_eq, decide_eq_false_iff_not, List.all_eq_true] at h
  obtain ⟨k1, k2, k3, k4, k5, k6, k7⟩ := h
  refine ⟨k1, k2, k3, fun y hy => (k4 y hy).1, k5, fun y hy e => ?_, k6, k7, fun y hy e => ?_⟩
  · exact (k4 y hy).2.1.elim (fun z => absurd e z) id
  · exact (k4 y hy).2.2.elim (fun z => absurd e z) id
theorem LamP.has {X : Cx} {scope : Scope} {ps : List Str} (L : LamP X.env.scope scope ps) (ok : X.Ok) : ∀ y ∈ scope.names, y.2 = .free → ∃ c, X.env.cells.lookup y.1 = some c := fun y hy e =>
  (L.free y hy e).elim (fun k => ok.has _ (.inl k)) fun k => ok.has _ (.inr k)
/-- the context of the body -/
def lamPx (X : Cx) (A : Around) (outer : List Env) (s : Shared) (H : Hp) (E : XK) (scope : Scope) (ps : List Str) (f c' : Addr) : Cx :=
  { lamCx X A outer s H E scope f c' with N := ps ++ hideN ps X.N }
section
variable {X : Cx} {pins : List (Addr × Obj)} {σ : L2.St} {H HZ : Hp} {s s1 : Shared}
theorem lam_startP {A : Around} {outer : List Env} {E : XK} {scope : Scope} {ps : List Str} {f c' : Addr} {h1 : Heap} {tk : Nat} {us : List Value} {vs : List L2.V} (I : Inv X pins σ H s) (L : LamP X.env.scope scope ps) (e0 : Env0 X.prog X.w X.K X.mg X.base A outer s1 HZ) (hd : A.handled = none)
    (un : Un (frs X.stack) [] H HZ s.heap s1.heap) (hl : vs.length = ps.length) (r : Vals vs us) (ns1 : h1.Ns s1.heap.objs.size fun y => (ps.zip us).reverse.lookup y) (kp : ∀ b o, s1.heap.get? b = some o → h1.get? b = some o) :
    Inv (lamPx X A outer s1 HZ E scope ps f c') [] (vs.map some ++ σ) HZ { s1 with heap := h1, toks := tk } := by
  have own := L.has I.ok
  have up : ∀ {y c}, (cloFrom X.env.cells scope.names []).lookup y = some c → X.env.cells.lookup y = some c := by
    intro y c e
    rcases cloFrom_mem (PySem.mem_of_lookup e) with hm | ⟨h2, h3⟩
    · cases hm
    · obtain ⟨c1, hc⟩ := own _ h2 rfl
      have hc : X.env.cells.lookup y = some c1 := hc
      rw [show c = c1 by rw [h3, hc] <;> rfl]
      exact hc
  have down : ∀ {y}, scope.names.lookup y = some .free → ∃ c, (cloFrom X.env.cells scope.names []).lookup y = some c := fun {y} q =>
    mem_lookup (cloFrom_has (cells := X.env.cells) (acc := []) (PySem.mem_of_lookup q))
  have celK : ∀ {c : Addr} {v : Option Value}, H c = none → s.heap.IsCell c v → h1.IsCell c v := by
    rintro c v n ⟨o, ho, hd2⟩
    obtain ⟨sl, q⟩ := un.any ho n (by simp)
    exact ⟨_, kp _ _ q, hd2⟩
  have nx : ∀ b : Addr, b ∉ (lamPx X A outer s1 HZ E scope ps f c').ex := fun b z => nomatch (show b ∈ ([] : List Addr) from z)
  have okL : (lamPx X A outer s1 HZ E scope ps f c').Ok := by
    refine ⟨e0.mod, L.kind, rfl, rfl, Nat.le_refl _, fun y z c e1 e2 => I.ok.inj y z c (up e1) (up e2), fun y hy => ?_, fun y c z _ => ?_, fun _ => hd, Around.frames_deeper e0.frames, .inr ⟨rfl, rfl⟩, fun b z => absurd z (nx b), e0.bs, e0.bsz, fun b _ _ => nx b,
      fun b z => absurd z (nx b), e0.funs, e0.frf⟩
    · rcases (show scope.names.lookup y = some .cell ∨ scope.names.lookup y = some .free from hy) with k | k
      · exact absurd rfl (L.nc _ (PySem.mem_of_lookup k))
      · exact down k
    · exact nomatch (show false = true from z)
  refine ⟨okL, rfl, e0.bare, Un.kept kp, ⟨_, ns1, fun i y v e1 e2 e3 => ?_⟩, fun y c e => ?_, e0.hok.fresh (Nat.le_refl _), fun y c e => ?_, fun q hq => (nomatch (show q ∈ ([] : List (Addr × Obj)) ++ [] from hq)), e0.hok.kept kp, ?_⟩
  · have e1 : (ps ++ hideN ps X.N)[i]? = some y := e1
    have e3 : Vis scope y := e3
    by_cases li : i < ps.length
    · rw [List.getElem?_append_left li] at e1
      rw [List.getElem?_append_left (by rw [List.length_map, hl]; exact li), List.getElem?_map] at e2
      obtain ⟨v', ev, e2⟩ := Option.map_eq_some_iff.mp e2
      cases e2
      obtain ⟨u, hu, rv⟩ := r.get ev
      exact ⟨u, rv, .inl ⟨L.par y (List.mem_of_getElem? e1), NdefX.zip_look L.nd e1 hu⟩⟩
    · rw [List.getElem?_append_right (by omega)] at e1
      rw [List.getElem?_append_right (by rw [List.length_map]; omega), List.length_map, hl] at e2
      unfold hideN at e1
      rw [List.getElem?_map] at e1
      obtain ⟨y0, ey, e1⟩ := Option.map_eq_some_iff.mp e1
      by_cases hp : ps.contains y0 = true
      · rw [if_pos hp] at e1
        subst e1
        rcases e3 with k | k | k <;> rw [L.noE] at k <;> cases k
      · rw [if_neg hp] at e1
        subst e1
        rcases e3 with k | k | k
        · exact absurd (List.contains_iff_mem.mpr (L.loc _ (PySem.mem_of_lookup k) rfl)) hp
        · exact absurd rfl (L.nc _ (PySem.mem_of_lookup k))
        · obtain ⟨m, hn, lks⟩ := I.loc
          have side := L.free _ (PySem.mem_of_lookup k) rfl
          obtain ⟨u, ru, q⟩ := lks _ y0 v ey e2 (side.elim (fun z => .inr (.inl z)) fun z => .inr (.inr z))
          obtain ⟨c2, h2⟩ := down k
          have c1 := up h2
          refine ⟨u, ru, .inr ⟨.inr k, c2, h2, ?_⟩⟩
          rcases q with ⟨k', _⟩ | ⟨_, c3, e', z⟩
          · have k' : X.env.scope.names.lookup y0 = some .local := k'
            rcases side with k2 | k2 <;> rw [show X.env.scope.names.lookup y0 = _ from k2] at k' <;> cases k'
          · cases c1.symm.trans e'
            exact celK (I.freeC y0 _ c1) z
  · obtain ⟨u, z⟩ := I.cell y c (up e)
    exact ⟨u, celK (I.freeC y c (up e)) z⟩
  · obtain ⟨v, o, ho, hd2⟩ := I.cell y c (up e)
    exact un.free c o ho (I.freeC y c (up e)) (by simp)
  · show (vs.map some ++ σ).length = (ps ++ hideN ps X.N).length
    unfold hideN
    rw [List.length_append, List.length_append, List.length_map, List.length_map, hl, I.len]
/-- x(e, ..), in the def that got the lambda -/
theorem pe_actP {CXg : CXT} {Eg : XK} {Ng : List Str} {qg : Str} {sg : Scope} {g f c' : Addr} {cdg pm ctv : Value} {params : Arguments} {body : Expr} {scope : Scope} {ps : List Str} {k i : Nat} {a : Str} {pn : List (Addr × Obj)} {xe : Value → Shared → Prop} {E : XK} {tb : TE} {p1 p2 : Pos} {e : Expr} {es : List Expr} {t : TA}
    (I : Inv X pins σ H s) (L : LamP X.env.scope scope ps) (hf : s.heap.get? f = some (PySem.W.kla_obj "<lambda>" (X.env.qual ++ "<lambda>") params body scope (cloFrom X.env.cells scope.names []) pm c' ctv)) (fn0 : H f = none) (fr0 : f ∉ frs X.stack)
    (hb : ∀ us : List Value, us.length = ps.length → bindArgs (PySem.W.kla_fn "<lambda>" (X.env.qual ++ "<lambda>") params body scope (cloFrom X.env.cells scope.names []) pm (.ref c') ctv) ⟨us, []⟩ = pure (ps.zip us))
    (hx : Passes (L2.CX X.prog X.w) ((cxOf CXg X.prog X.w X.K X.mg X.base Ng qg sg g cdg X.A X.stack s H Eg).tr pn xe) E) (hr : Room (k + 1) (X.A.deeper (envOfC qg sg s.heap.objs.size g cdg)))
    (bd : ∀ (A : Around) (outer : List Env) (s : Shared) (H : Hp), Room k (A.deeper (lamEnv X scope s.heap.objs.size f c')) → PE (lamPx X A outer s H E scope ps f c') body tb)
    (hN : Ng[i]? = some a) (hv : Vis sg a) (ha : PA ((cxOf CXg X.prog X.w X.K X.mg X.base Ng qg sg g cdg X.A X.stack s H Eg).tr pn xe) (e :: es) t)
    (he : starEach (e :: es) ((cxOf CXg X.prog X.w X.K X.mg X.base Ng qg sg g cdg X.A X.stack s H Eg).tr pn xe).env = (false, eval e ((cxOf CXg X.prog X.w X.K X.mg X.base Ng qg sg g cdg X.A X.stack s H Eg).tr pn xe).env) :: starEach es ((cxOf CXg X.prog X.w X.K X.mg X.base Ng qg sg g cdg X.A X.stack s H Eg).tr pn xe).env := by rfl)
    (hpl : (backTo p2 (starEach es ((cxOf CXg X.prog X.w X.K X.mg X.base Ng qg sg g cdg X.A X.stack s H Eg).tr pn xe).env)).any (·.1) = false := by rfl)
    (hd : (a == ("__debug__" : Str)) = false := by decide) (hcd : (a == ("__classdict__" : Str)) = false := by decide) :
    PE ((cxOf CXg X.prog X.w X.K X.mg X.base Ng qg sg g cdg X.A X.stack s H Eg).tr pn xe) (.Call (.Name a p1) (e :: es) [] p2)
      (fun σZ HZ Q => σZ[i]? = some (some (.ref f)) ∧ t σZ HZ fun vs HY => vs.length = ps.length ∧ HY c' = some (CodeO c' (X.env.qual ++ "<lambda>")) ∧ tb (vs.map some ++ σ) HY Q) := by
  refine ⟨fun pinsZ sZ σZ HZ Q IZ ⟨hs, ht⟩ => ?_⟩
  have here : ∀ {σY : L2.St} {HY : Hp} {sY : Shared} {pY : List (Addr × Obj)}, Inv ((cxOf CXg X.prog X.w X.K X.mg X.base Ng qg sg g cdg X.A X.stack s H Eg).tr pn xe) pY σY HY sY → sY.heap.get? f = some (PySem.W.kla_obj "<lambda>" (X.env.qual ++ "<lambda>") params body scope (cloFrom X.env.cells scope.names []) pm c' ctv) := fun IY =>
    IY.base.keep f _ hf fn0 fr0 (fun z => nomatch (show f ∈ ([] : List Addr) from z))
  refine wpAny_Call_Name_kw (thn ((pe_var (pos := p1) (i := i) hN hv hd hcd).run pinsZ sZ σZ HZ (fun v H1 => v = .ref f ∧ H1 = HZ) IZ ⟨.ref f, hs, rfl, rfl⟩) fun u s1 ⟨v, H1, I1, r1, q1⟩ => ?_)
  obtain ⟨rfl, rfl⟩ := q1
  obtain rfl : u = Value.ref f := r1
  refine PySem.W.callWith_F (first := []) ⟨_, _, _, _, here I1⟩ (thn (ha.run p2 pinsZ s1 σZ H1 _ I1 ht) fun us s2 ⟨vs, H2, I2, r, hl, hc, hq⟩ => ⟨⟨_, _, _, _, here I2⟩, ?_⟩) he hpl
  have un : Un (frs X.stack) [] H H2 s.heap s2.heap := I2.base
  obtain ⟨⟨oc, ws, tk, o1, o2, o3⟩, _, _⟩ := I2.hok c' _ hc
  have lu : us.length = ps.length := r.length ▸ hl
  have run : codeAny (model X.prog X.w) (X.A.deeper (envOfC qg sg s.heap.objs.size g cdg)) (.call (.ref f) ⟨us, []⟩) (CR (L2.CX X.prog X.w) (envOfC qg sg s.heap.objs.size g cdg :: X.stack) X.prog X.w H2 s2 Q E) s2 := by
    refine PySem.W.kla_callFunE hr.depth (here I2) rfl L.co L.gen rfl ⟨c', oc, ws, tk, rfl, o1, o2, o3⟩ ?_
    rw [hb us lu]
    refine wpAny_pure (wpAny_newFunctionEnv L.nc (fun y hy => L.par _ (List.of_mem_zip hy).1) (fun h1 ns1 sb => ⟨I2.nolimit.fresh _ sb, ?_⟩) L.kind)
    show codeAny _ _ (.expr body (lamEnv X scope s2.heap.objs.size f c')) _ _
    have kp : ∀ b o, s2.heap.get? b = some o → h1.get? b = some o := fun b o e => sb.extBut b o (Nat.ne_of_lt (Heap.lt_size e)) (Heap.get?_push_of_some _ e)
    have J : Inv (lamPx X (X.A.deeper (envOfC qg sg s.heap.objs.size g cdg)) (envOfC qg sg s.heap.objs.size g cdg :: X.stack) s2 H2 E scope ps f c') [] (vs.map some ++ σ) H2 { s2 with heap := h1, toks := s2.toks + (ps.zip us).length } :=
      lam_startP I L I2.env0 hr.hd un hl r ns1 kp
    refine PySem.W.kla_codeExpr (wpAny_mono ((bd _ _ s2 H2 (hr.deeper _)).run [] _ _ H2 Q J hq) (fun v s' z => ?_) fun e s' z => z)
    obtain ⟨w', H', J', rv, q⟩ := z
    exact ⟨w', H', J'.os, J'.bare, J'.base, J'.hok, rv, q⟩
  refine wpAny_call (codeAny_mono run fun r' s' z => ?_)
  cases r' with
  | error er => exact hx pinsZ σZ H2 s2 er s' I2 z
  | ok fl => cases fl with
    | ret u => exact I2.after z
    | next => exact z.elim
    | brk => exact z.elim
    | cont => exact z.elim
end
end XA
set_option Elab.async false
set_option linter.all false
set_option maxRecDepth 100000
set_option maxHeartbeats 2000000
/-! x(e, lambda ..: ..): the def x, told what the lambda does. -/
namespace XA
open PySem PySem.Spec PyProof.Rows L2 LamX
/-- the context of the def x that got the lambda, called out of X -/
abbrev inX (X : Cx) (Ng : List Str) (x : Str) (sg : Scope) (g : Addr) (cdg : Value) (s : Shared) (H : Hp) : Cx := cxOf C8.CX0 X.prog X.w X.K X.mg X.base Ng x sg g cdg X.A X.stack s H C8.E0
/-- what the call of the lambda does there; i: the place of its name -/
abbrev ActP (X : Cx) (Ng : List Str) (x : Str) (sg : Scope) (g : Addr) (cdg : Value) (a : Str) (i np : Nat) (f : Addr) (s : Shared) (H : Hp) (tl : List L2.V → Hp → VK → Prop) (C : Hp → Prop) : Prop :=
  ∀ (pn : List (Addr × Obj)) (xe : Value → Shared → Prop) (e : Expr) (es : List Expr) (t : TA) (p1 p2 : Pos), PA ((inX X Ng x sg g cdg s H).tr pn xe) (e :: es) t →
    starEach (e :: es) ((inX X Ng x sg g cdg s H).tr pn xe).env = (false, eval e ((inX X Ng x sg g cdg s H).tr pn xe).env) :: starEach es ((inX X Ng x sg g cdg s H).tr pn xe).env →
    (backTo p2 (starEach es ((inX X Ng x sg g cdg s H).tr pn xe).env)).any (·.1) = false →
    PE ((inX X Ng x sg g cdg s H).tr pn xe) (.Call (.Name a p1) (e :: es) [] p2) (fun σ HZ Q => σ[i]? = some (some (.ref f)) ∧ t σ HZ fun vs HY => vs.length = np ∧ C HY ∧ tl vs HY Q)
def Gives2 (X : Cx) (Ng : List Str) (x : Str) (sg : Scope) (g : Addr) (cdg : Value) (bg : List Stmt) (a : Str) (i np : Nat) (TT : L2.V → (List L2.V → Hp → VK → Prop) → Hp → VK → Prop) : Prop :=
  ∀ (f : Addr) (s : Shared) (H : Hp) (v : L2.V) (Q : VK) (tl : List L2.V → Hp → VK → Prop) (C : Hp → Prop), ActP X Ng x sg g cdg a i np f s H tl C → (∀ H1 H2, ExtN H1 H2 → C H1 → C H2) → C H → TT v tl H Q →
    ∃ t, PSs (inX X Ng x sg g cdg s H).nox bg t ∧ t { nx := fun _ H' => Q .non H', rt := Q } (L2.start Ng [v, .ref f]) H
def tLam2 (T : List (Addr × Str)) (TT : L2.V → (List L2.V → Hp → VK → Prop) → Hp → VK → Prop) (t1 tb : TE) : TE := fun σ H Q => t1 σ H fun v H0 => Tabs T H0 ∧ ∀ H1, ExtN H0 H1 → Tabs T H1 → TT v (fun vs HY Q' => tb (vs.map some ++ σ) HY Q') H1 Q
theorem codeO_ext {H1 H2 : Hp} {c : Addr} {q : Str} (e : ExtN H1 H2) (h : H1 c = some (CodeO c q)) : H2 c = some (CodeO c q) := e _ _ h fun ps => codeO_ne ps
section
variable {X : Cx}
theorem pe_lamcall2 {T : List (Addr × Str)} {TT : L2.V → (List L2.V → Hp → VK → Prop) → Hp → VK → Prop} {x a b : Str} {g c P : Addr} {k : Nat} {pg : Arguments} {bg : List Stmt} {sg : Scope} {fdg : FuncData} {Ng : List Str} {params : Arguments} {body : Expr} {scope : Scope} {ps : List Str} {e1 : Expr} {t1 tb : TE} {p lpos pos : Pos}
    (F : FunD X.K x x pg bg sg [] [] g fdg) (hm : X.mg x = some (.ref g)) (hg : Gl X x) (bnd : L2.Binds X.K fdg [b, a] []) (Sg : FnScope Ng [b, a] sg) (hNg : Ng[1]? = some a) (hva : Vis sg a) (h1 : PE X e1 t1)
    (hG : ∀ cdg, Gives2 X Ng x sg g cdg bg a 1 ps.length TT)
    (TB : TabB X.base X.mg c P) (hcode : X.env.code = .ref c) (hmT : (P, X.env.qual ++ "<lambda>") ∈ T) (hu : ∀ p ∈ T, p.1 = P → p.2 = X.env.qual ++ "<lambda>") (hr : Room (k + 2) X.A) (L : LamP X.env.scope scope ps) (hdef : defaultsOf params X.env = ([], []))
    (hb : ∀ (q : Str) (cl : List (Str × Addr)) (pm cv ctv : Value) (us : List Value), us.length = ps.length → bindArgs (PySem.W.kla_fn "<lambda>" q params body scope cl pm cv ctv) ⟨us, []⟩ = pure (ps.zip us))
    (bd : ∀ (A : Around) (outer : List Env) (s : Shared) (H : Hp) (E : XK) (f c' : Addr), Room k (A.deeper (lamEnv X scope s.heap.objs.size f c')) → PE (lamPx X A outer s H E scope ps f c') body tb)
    (hdb : (x == ("__debug__" : Str)) = false := by decide) (hd : (a == ("__debug__" : Str)) = false := by decide) (hcd : (a == ("__classdict__" : Str)) = false := by decide)
    (hst : starEach [e1, .Lambda params body scope lpos] X.env = (false, eval e1 X.env) :: (false, eval (.Lambda params body scope lpos) X.env) :: [] := by rfl) :
    PE X (.Call (.Name x p) [e1, .Lambda params body scope lpos] [] pos) (tLam2 T TT t1 tb) := by
  obtain ⟨oc, od, dV, kV, doc, pm0, an, cdv, ct, osl, rfl, lk, hcg, _, _⟩ := F.ex
  refine ⟨fun pins s σ H Q I h => ?_⟩
  refine wpAny_Call_Name_kw (ld_glob I hg hm ?_ hdb)
  refine PySem.W.callWith_K (h₀ := X.base) I.ok.mod.kin F.kp ?_ (by rw [hst]; rfl) (by rfl)
  rw [hst]
  show wpAny _ _ (spliced [(false, eval e1 X.env), (false, eval (.Lambda params body scope lpos) X.env)]) _ _ s
  refine Calls.spliced_cons (thn (h1.run pins s σ H _ I h) fun u1 s1 z1 => ?_)
  obtain ⟨v, H0, I0, rv, hT, hq⟩ := z1
  refine Calls.spliced_cons (lam_make2 I0 TB hcode hmT hu hT hdef (L.has I0.ok) fun f c' pm' ctv H1 s' I1 eN T1 hf fn0 fr0 hco => ?_)
  refine Calls.spliced_nil ⟨I1.kIn, ?_⟩
  have run : codeAny (model X.prog X.w) X.A (.call (.ref g) ⟨[u1, .ref f], []⟩) (CR C8.CX0 X.stack X.prog X.w H1 s' Q C8.E0) s' := by
    refine run_ofS (N := Ng) (ps := [b, a]) (us := [u1, .ref f]) (vs := [v, .ref f]) lk hcg Sg hr I1.env0 (bnd s' [u1, .ref f] I1.kIn rfl) (.cons rv (.cons rfl .nil)) rfl fun hr' => ?_
    obtain ⟨t', ht', hq'⟩ := hG cdv f s' H1 v Q (fun vs HY Q' => tb (vs.map some ++ σ) HY Q') (fun HY => HY c' = some (CodeO c' (X.env.qual ++ "<lambda>")))
      (fun pn xe e es t p1 p2 ha he hpl => pe_actP (i := 1) (E := fun _ _ _ => False) I1 L hf fn0 fr0 (fun us lu => hb _ _ _ _ _ us lu) (passes_call LamX.takes0 fun _ _ _ _ z => z) hr' (fun A outer s H hr2 => bd A outer s H _ f c' hr2) hNg hva ha he hpl hd hcd)
      (fun H1 H2 e h => codeO_ext e h) hco (hq H1 eN T1)
    exact ⟨t', ht'.nox, hq'⟩
  refine wpAny_call (codeAny_mono run fun r' s2 z => ?_)
  cases r' with
  | error er => exact (show False from z).elim
  | ok fl => cases fl with
    | ret u => exact I1.after z
    | next => exact z.elim
    | brk => exact z.elim
    | cont => exact z.elim
end
end XA
set_option Elab.async false
set_option linter.all false
set_option maxRecDepth 100000
set_option maxHeartbeats 4000000
namespace KF
open PySem PySem.Spec PyProof.Rows L2 XV NM XT
/-! ### the errors -/
def nmF (i : Nat) : Str := (["InvalidAutomaton"] : List Str).getD i "LoopError"
abbrev CF (K : PySem.W.Frag) (i : Nat) : Addr := He.ga K (nmF i)
structure ClF (P : Program) (w : World) (K : PySem.W.Frag) (mg : Str → Option Value) (base : Heap) : Prop where
  x : ∀ i, i < 1 → ∃ fI fd, XCls P w K mg base (nmF i) "value" (CF K i) fI fd
  g : ∀ i, i < 2 → mg (nmF i) = some (.ref (CF K i))
  e : ∀ i, i < 1 → ExcC K (CF K i)
  f : ∀ i, i < 1 → XF K (CF K i) "value"
  kit : ∀ i, i < 1 → ∀ j, j < 1 → PySem.W.kitOne K (.ref (CF K i)) (.ref (CF K j)) = some (decide (i = j))
  exm : ∀ i, i < 1 → PySem.W.exmOne K (.ref (CF K i)) (.ref (CF K 1)) = some true
  own : ∀ i, i < 1 → PySem.W.exmOne K (.ref (CF K i)) (.ref (CF K i)) = some true
/-- the wish: an error of the class at C with the value v -/
def Rz (E : XK) (H : Hp) (C : Addr) (v : L2.V) : Prop := ∀ (H' : Hp) (d : Addr), Same H H' → H' d = none → E (.ref C) (some d) (upd H' d (.xd [("value", v)]))
theorem Rz.at {E : XK} {H H1 : Hp} {C : Addr} {v : L2.V} (h : Rz E H C v) (s : Same H H1) : Rz E H1 C v := fun H' d s1 n => h H' d (s.trans s1) n
/-! ### automata -/
structure Am where
  z : Str
  R : List (List Nat)
  s : Nat
  es : List Nat
deriving DecidableEq
structure AmOk (m : Am) : Prop where
  al : alphV (.str m.z) = true
  ascii : m.z.cps.all (· < 128) = true
  lz : m.z.length ≤ 26
  r1 : 1 ≤ m.R.length
  r2 : m.R.length ≤ 12
  rw : ∀ r ∈ m.R, r.length = m.z.length + 1 ∧ ∀ x ∈ r, x < m.R.length
  hs : m.s < m.R.length
  he : ∀ x ∈ m.es, x < m.R.length
  pw : m.es.Pairwise (· < ·)
theorem pw_len : ∀ (l : List Nat) (k n : Nat), (∀ x ∈ l, k ≤ x ∧ x < n) → l.Pairwise (· < ·) → l.length ≤ n - k
  | [], _, _, _, _ => Nat.zero_le _
  | x :: l, k, n, h, pw => by
    obtain ⟨h1, h2⟩ := List.pairwise_cons.mp pw
    have hx := h x List.mem_cons_self
    have := pw_len l (x + 1) n (fun y hy => ⟨h1 y hy, (h y (List.mem_cons_of_mem _ hy)).2⟩) h2
    rw [List.length_cons]
    omega
theorem AmOk.el {m : Am} (o : AmOk m) : m.es.length ≤ 12 := by
  have := pw_len m.es 0 m.R.length (fun x hx => ⟨Nat.zero_le _, o.he x hx⟩) o.pw
  have := o.r2
  omega
theorem AmOk.nd {m : Am} (o : AmOk m) : (cz m.z).Nodup := by
  have h := o.al
  have h : (wordV (.str m.z) && riseN (cz m.z)) = true := h
  rw [Bool.and_eq_true] at h
  exact ((riseN_iff _).1 h.2).imp fun h => Nat.ne_of_lt h
def fldA (z : Str) (s : Nat) (r e : Addr) : List (Str × V) := putF "_ends" (.ref e) (putF "_start" (.int s) (putF "_rows" (.ref r) (putF "_letters" (.str z) [])))
theorem fldA_l (z : Str) (s : Nat) (r e : Addr) : (fldA z s r e).lookup ("_letters" : Str) = some (.str z) := by
  unfold fldA
  rw [lookup_putF, if_neg (by decide +kernel), lookup_putF, if_neg (by decide +kernel), lookup_putF, if_neg (by decide +kernel), lookup_putF, if_pos rfl]
theorem fldA_r (z : Str) (s : Nat) (r e : Addr) : (fldA z s r e).lookup ("_rows" : Str) = some (.ref r) := by
  unfold fldA
  rw [lookup_putF, if_neg (by decide +kernel), lookup_putF, if_neg (by decide +kernel), lookup_putF, if_pos rfl]
theorem fldA_s (z : Str) (s : Nat) (r e : Addr) : (fldA z s r e).lookup ("_start" : Str) = some (.int s) := by
  unfold fldA
  rw [lookup_putF, if_neg (by decide +kernel), lookup_putF, if_pos rfl]
theorem fldA_e (z : Str) (s : Nat) (r e : Addr) : (fldA z s r e).lookup ("_ends" : Str) = some (.ref e) := by
  unfold fldA
  rw [lookup_putF, if_pos rfl]
theorem fldA_no (z : Str) (s : Nat) (r e : Addr) {x : Str} (h1 : ¬ x = "_ends") (h2 : ¬ x = "_start") (h3 : ¬ x = "_rows") (h4 : ¬ x = "_letters") : (fldA z s r e).lookup x = none := by
  unfold fldA
  rw [lookup_putF, if_neg h1, lookup_putF, if_neg h2, lookup_putF, if_neg h3, lookup_putF, if_neg h4]
  rfl
structure AT (K : PySem.W.Frag) (mg : Str → Option Value) (C : Addr) : Prop where
  ic : C8.InsC K C
  nL : NoAttr K C "_letters"
  nR : NoAttr K C "_rows"
  nS : NoAttr K C "_start"
  nE : NoAttr K C "_ends"
  g : mg "Automaton" = some (.ref C)
  kt : ∀ T ∈ tysD, PySem.W.kitOne K (.type T) (.ref C) = some false
theorem AT.ty {K : PySem.W.Frag} {mg : Str → Option Value} {C : Addr} (T : AT K mg C) {H : Hp} {a dx : Addr} {fs : List (Str × V)} (e : H a = some (.ins C dx fs)) : TyX K H (.ref a) (.ref C) := .base (.ins e T.ic.cl T.ic.ha T.ic.hn T.ic.htk T.ic.hm)
theorem AT.nC {K : PySem.W.Frag} {C : Addr} : PySem.W.notFirst K C (.ref C) = true := by
  unfold PySem.W.notFirst
  rw [beq_self_eq_true]
  rfl
/-- an automaton stands at x -/
def Au (C : Addr) (H : Hp) (x : Addr) (m : Am) : Prop := ∃ dx r e, H x = some (.ins C dx (fldA m.z m.s r e)) ∧ RL H r m.R ∧ H e = some (.lst ((natI m.es).map V.int))
/-- all but the tables of code objects stay -/
abbrev ExN (H H' : Hp) : Prop := LamX.ExtN H H'
theorem ExN.of {H H' : Hp} (s : Same H H') : ExN H H' := LamX.ExtN.of s
theorem ExN.lst {H H' : Hp} (s : ExN H H') {a : Addr} {xs : List V} (h : H a = some (.lst xs)) : H' a = some (.lst xs) := s _ _ h fun _ z => by cases z
theorem ExN.tup {H H' : Hp} (s : ExN H H') {a : Addr} {xs : List V} (h : H a = some (.tup xs)) : H' a = some (.tup xs) := s _ _ h fun _ z => by cases z
theorem ExN.ins {H H' : Hp} (s : ExN H H') {a C d : Addr} {xs : List (Str × V)} (h : H a = some (.ins C d xs)) : H' a = some (.ins C d xs) := s _ _ h fun _ z => by cases z
theorem Pts.keepN {H H' : Hp} (s : ExN H H') : ∀ {xs : List V} {P : List (List Int)}, Pts H xs P → Pts H' xs P
  | _, _, .nil => .nil
  | _, _, .cons h r => .cons (by
      obtain ⟨a, e, t⟩ := h
      exact ⟨a, e, s.lst t⟩) (Pts.keepN s r)
theorem RL.keepN {H H' : Hp} (s : ExN H H') {r : Addr} {R : List (List Nat)} (h : RL H r R) : RL H' r R := by
  obtain ⟨xs, e, p⟩ := h
  exact ⟨xs, s.lst e, p.keepN s⟩
theorem Au.keepN {C : Addr} {H H' : Hp} (s : ExN H H') {x : Addr} {m : Am} (h : Au C H x m) : Au C H' x m := by
  obtain ⟨dx, r, e, h1, h2, h3⟩ := h
  exact ⟨dx, r, e, s.ins h1, h2.keepN s, s.lst h3⟩
theorem Au.keep {C : Addr} {H H' : Hp} (s : Same H H') {x : Addr} {m : Am} (h : Au C H x m) : Au C H' x m := h.keepN (ExN.of s)
abbrev sInitA : Stmt := inClass (top 16) 0
abbrev sLettersA : Stmt := inClass (top 16) 1
abbrev sRowsA : Stmt := inClass (top 16) 2
abbrev sStartA : Stmt := inClass (top 16) 3
abbrev sEndsA : Stmt := inClass (top 16) 4
abbrev sEqA : Stmt := inClass (top 16) 5
abbrev sReqA : Stmt := top 23
abbrev sReqR : Stmt := top 24
abbrev sCols : Stmt := top 25
theorem scInitA : FnScope ["self", "letters", "rows", "start", "ends", "row"] ["self", "letters", "rows", "start", "ends"] (defScope sInitA) := ⟨rfl, rfl, rfl, by decide +kernel, rfl, by decide +kernel, by decide +kernel⟩
theorem scLettersA : FnScope ["self"] ["self"] (defScope sLettersA) := ⟨rfl, rfl, rfl, by decide +kernel, rfl, by decide +kernel, by decide +kernel⟩
theorem scRowsA : FnScope ["self", "row"] ["self"] (defScope sRowsA) := ⟨rfl, rfl, rfl, by decide +kernel, rfl, by decide +kernel, by decide +kernel⟩
theorem scStartA : FnScope ["self"] ["self"] (defScope sStartA) := ⟨rfl, rfl, rfl, by decide +kernel, rfl, by decide +kernel, by decide +kernel⟩
theorem scEndsA : FnScope ["self"] ["self"] (defScope sEndsA) := ⟨rfl, rfl, rfl, by decide +kernel, rfl, by decide +kernel, by decide +kernel⟩
theorem scEqA : FnScope ["self", "other"] ["self", "other"] (defScope sEqA) := ⟨rfl, rfl, rfl, by decide +kernel, rfl, by decide +kernel, by decide +kernel⟩
theorem scReqA : FnScope ["automaton"] ["automaton"] (defScope sReqA) := ⟨rfl, rfl, rfl, by decide +kernel, rfl, by decide +kernel, by decide +kernel⟩
theorem scReqR : FnScope ["automaton", "word"] ["automaton", "word"] (defScope sReqR) := ⟨rfl, rfl, rfl, by decide +kernel, rfl, by decide +kernel, by decide +kernel⟩
abbrev nCols : List Str := ["machine", "word", "letters", "places", "letter", "at"]
theorem scCols : FnScope nCols ["machine", "word"] (defScope sCols) := ⟨rfl, rfl, rfl, by decide +kernel, rfl, by decide +kernel, by decide +kernel⟩
def spInitA (C : Addr) : Sp := fun vs H Q _ => ∃ (x dx ra en : Addr) (m : Am), vs = [.ref x, .str m.z, .ref ra, .int m.s, .ref en] ∧ H x = some (.ins C dx []) ∧ H en = some (.lst ((natI m.es).map V.int)) ∧ RL H ra m.R ∧ AmOk m ∧
  ∀ H' : Hp, (∀ b o, b ≠ x → H b = some o → H' b = some o) → Au C H' x m → Q .non H'
def spLetA (C : Addr) : Sp := fun vs H Q _ => ∃ (x : Addr) (m : Am), vs = [.ref x] ∧ Au C H x m ∧ Q (.str m.z) H
def spStartA (C : Addr) : Sp := fun vs H Q _ => ∃ (x : Addr) (m : Am), vs = [.ref x] ∧ Au C H x m ∧ Q (.int m.s) H
def spRowsA (C : Addr) : Sp := fun vs H Q _ => ∃ (x : Addr) (m : Am), vs = [.ref x] ∧ Au C H x m ∧ m.R.length ≤ 12 ∧ ∀ (H' : Hp) (p : Addr), Same H H' → H p = none → RL H' p m.R → Q (.ref p) H'
def spEndsA (C : Addr) : Sp := fun vs H Q _ => ∃ (x : Addr) (m : Am), vs = [.ref x] ∧ Au C H x m ∧ ∀ (p : Addr), H p = none → Q (.ref p) (upd H p (.lst ((natI m.es).map V.int)))
def spEqA (K : PySem.W.Frag) (C : Addr) : Sp := fun vs H Q _ => ∃ (x : Addr) (y : V) (m : Am), vs = [.ref x, y] ∧ Au C H x m ∧ ((∃ y' m2, y = .ref y' ∧ Au C H y' m2 ∧ Q (.bl (decide (m = m2))) H) ∨ (NoA K H y ∧ Q (.bl false) H))
def spReqA (K : PySem.W.Frag) (C : Addr) : Sp := fun vs H Q E => ∃ v, vs = [v] ∧ ((∃ x m, v = .ref x ∧ Au C H x m ∧ Q .non H) ∨ (NoA K H v ∧ Rz E H (CF K 0) v))
def spReqR (C : Addr) : Sp := fun vs H Q _ => ∃ (x : Addr) (m : Am) (y : Str), vs = [.ref x, .str y] ∧ Au C H x m ∧ wordV (.str y) = true ∧ Q .non H
def spCols (C : Addr) : Sp := fun vs H Q _ => ∃ (x : Addr) (m : Am) (y : Str), vs = [.ref x, .str y] ∧ Au C H x m ∧ AmOk m ∧ y.length ≤ 100000 ∧ ∀ (H' : Hp) (p : Addr), Same H H' → H p = none → H' p = some (.lst ((natI (colsN m.z y)).map V.int)) → Q (.ref p) H'
theorem eqv_rows (R S : List (List Nat)) : PyData.eqv (PD (R.map natI)) (PD (S.map natI)) = decide (R = S) := by
  rw [eqv_P]
  apply decide_eq_decide.mpr
  constructor
  · intro h
    exact List.map_inj_right (fun a b => natI_inj.mp) |>.mp h
  · exact fun h => by rw [h]
theorem eqv_es (a b : List Nat) : PyData.eqv (ptD (natI a)) (ptD (natI b)) = decide (a = b) := by
  rw [show PyData.eqv (ptD (natI a)) (ptD (natI b)) = decide (natI a = natI b) from eqv_ints _ _]
  exact decide_eq_decide.mpr natI_inj
section
variable {P : Program} {w : World} {K : PySem.W.Frag} {mg : Str → Option Value} {base : Heap} {f : Addr} {fd : FuncData} {C : Addr}
theorem ok_letA (F : FnM K "letters" "Automaton.letters" sLettersA f fd) (T : AT K mg C) : FnOk P w K mg base CX0 1 f fd ["self"] (spLetA C) := by
  refine F.ok scLettersA (fun vs H Q E h => ?_) (fun cdv A outer s H vs Q E hr h => ?_)
  · obtain ⟨x, m, rfl, _⟩ := h
    rfl
  · obtain ⟨x, m, rfl, ⟨dx, r, e, hx, hR, he⟩, q⟩ := h
    refine ⟨_, PSs.nox (pss_one (ps_ret (pe_fld (pv 0) rfl))), ?_⟩
    exact ⟨_, rfl, x, C, dx, _, _, rfl, hx, T.ic.cl, T.nL, fldA_l _ _ _ _, q⟩
theorem ok_startA (F : FnM K "start" "Automaton.start" sStartA f fd) (T : AT K mg C) : FnOk P w K mg base CX0 1 f fd ["self"] (spStartA C) := by
  refine F.ok scStartA (fun vs H Q E h => ?_) (fun cdv A outer s H vs Q E hr h => ?_)
  · obtain ⟨x, m, rfl, _⟩ := h
    rfl
  · obtain ⟨x, m, rfl, ⟨dx, r, e, hx, hR, he⟩, q⟩ := h
    refine ⟨_, PSs.nox (pss_one (ps_ret (pe_fld (pv 0) rfl))), ?_⟩
    exact ⟨_, rfl, x, C, dx, _, _, rfl, hx, T.ic.cl, T.nS, fldA_s _ _ _ _, q⟩
theorem ok_endsA (F : FnM K "ends" "Automaton.ends" sEndsA f fd) (T : AT K mg C) (z_list : mg "list" = none) : FnOk P w K mg base CX0 1 f fd ["self"] (spEndsA C) := by
  refine F.ok scEndsA (fun vs H Q E h => ?_) (fun cdv A outer s H vs Q E hr h => ?_)
  · obtain ⟨x, m, rfl, _⟩ := h
    rfl
  · obtain ⟨x, m, rfl, ⟨dx, r, e, hx, hR, he⟩, q⟩ := h
    refine ⟨_, PSs.nox (pss_one (ps_ret (pe_callTy call_list_of (by rfl) z_list (by decide +kernel) (pa_cons (pe_fld (pv 0) rfl) pa_nil)))), ?_⟩
    exact ⟨_, rfl, x, C, dx, _, _, rfl, hx, T.ic.cl, T.nE, fldA_e _ _ _ _, e, _, rfl, .inl (SqL.of he), fun l nl => q l nl⟩
theorem ok_rowsA (F : FnM K "rows" "Automaton.rows" sRowsA f fd) (T : AT K mg C) (z_list : mg "list" = none) : FnOk P w K mg base CX0 1 f fd ["self"] (spRowsA C) := by
  have nd := scRowsA.nd
  refine F.ok scRowsA (fun vs H Q E h => ?_) (fun cdv A outer s H vs Q E hr h => ?_)
  · obtain ⟨x, m, rfl, _⟩ := h
    rfl
  · obtain ⟨x, m, rfl, ⟨dx, r, e, hx, ⟨xs, hr1, hP⟩, he⟩, l12, q⟩ := h
    have lx := hP.len
    rw [List.length_map] at lx
    refine ⟨_, PSs.nox (pss_one (ps_ret (pe_lc (own := [("row", 1)]) (g := gName 1) (by rfl) nd (pi_list (pe_fld (pv 0) rfl)) (blkOk_by (N := ["self", "row"]) (sc := defScope sRowsA) (own := [("row", 1)]) (by decide +kernel)) (fun _ _ _ _ _ => pg_name (i := 1) nd rfl (Or.inl rfl)) (fun _ _ _ _ _ => pts_nil)
      (fun _ _ _ _ _ => pe_callTy (call_list_ofK (K := K) rfl) (by rfl) z_list (by decide +kernel) (pa_cons (pv 1) pa_nil))))), ?_⟩
    refine ⟨_, rfl, x, C, dx, _, _, rfl, hx, T.ic.cl, T.nR, fldA_r _ _ _ _, r, rfl, ⟨_, SqL.of hr1⟩, fun D nD => lc_list (K := K) (a := r) (xs := xs) (fun i H' => Same H H' ∧ ∃ acc, H' D = some (.lst acc) ∧ Pts H' acc ((m.R.take i).map natI) ∧ ∀ y ∈ acc, y ≠ .ref D) ⟨same_new nD, [], upd_same, .nil, fun y hy => (by cases hy)⟩ (fun i H' _ p => SqL.of (p.1 _ _ hr1)) ?_ ?_⟩
    · rintro i y H' hi ⟨sm, acc, hD, hA, nA⟩
      obtain ⟨p, ep, ⟨b, rfl, hb⟩⟩ := hP.get hi
      rw [List.getElem?_map] at ep
      obtain ⟨row, er, rfl⟩ := Option.map_eq_some_iff.mp ep
      have li := (List.getElem?_eq_some_iff.mp er).1
      have la := hA.len
      rw [List.length_map, List.length_take] at la
      refine ⟨rfl, ?_⟩
      refine ⟨_, rfl, b, _, rfl, .inl (SqL.of (sm _ _ hb)), fun l nl => ?_⟩
      have s2 := same_new (o := .lst ((natI row).map V.int)) nl
      have hD2 := s2 _ _ hD
      have nlD : l ≠ D := fun z => by
        rw [z, hD] at nl
        cases nl
      have nA2 : ∀ y ∈ acc ++ [V.ref l], y ≠ .ref D := fun y hy => by
        rcases List.mem_append.mp hy with h | h
        · exact nA y h
        · rw [List.mem_singleton.mp h]
          exact fun z => nlD (V.ref.inj z)
      refine ⟨acc, hD2, small1000 (by omega), fun c o e => ?_, acc ++ [.ref l], upd_same, ?_, nA2⟩
      · rw [upd_ne (ne_of_none (H := H) e nD)]
        exact s2 _ _ (sm _ _ e)
      · rw [List.take_add_one, er, List.map_append]
        exact Pts.updL nA2 (Pts.snoc ⟨l, rfl, upd_same⟩ (hA.keep s2))
    · rintro H' ⟨sm, acc, hD, hA, nA⟩
      rw [lx, List.take_length] at hA
      exact q H' D sm nD ⟨acc, hD, hA⟩
theorem ok_eqA (F : FnM K "__eq__" "Automaton.__eq__" sEqA f fd) (T : AT K mg C) (z_isinstance : mg "isinstance" = none) : FnOk P w K mg base CX0 1 f fd ["self", "other"] (spEqA K C) := by
  refine F.ok scEqA (fun vs H Q E h => ?_) (fun cdv A outer s H vs Q E hr h => ?_)
  · obtain ⟨x, y, m, rfl, _⟩ := h
    rfl
  · obtain ⟨x, y, m, rfl, ⟨dx, r, e, hx, hR, he⟩, h⟩ := h
    have hu := hr.units
    refine ⟨_, PSs.nox (pss_cons (ps_if (pt_not (pt_val (pe_callB call_isi (by rfl) z_isinstance (by decide +kernel) (pa_cons (pv 1) (pa_cons (pe_glob (v := .ref C) (by rfl) T.g rfl) pa_nil))))) (pss_one (ps_ret pe_bl)) pss_nil)
      (pss_cons (ps_if (PW.pt (pw_or (pt_cmpR op_ne (pe_fld (pv 0) rfl) (pe_fld (pv 1) rfl) (nomark _)) (pw_or1 (pt_cmpR op_ne (pe_fld (pv 0) rfl) (pe_fld (pv 1) rfl) (nomark _))))) (pss_one (ps_ret pe_bl)) pss_nil)
      (pss_one (ps_ret (pe_and (pe_cmpR (op_eqD hu) (pe_fld (pv 0) rfl) (pe_fld (pv 1) rfl) (nomark _)) (pe_one (pe_cmpR (op_eqD hu) (pe_fld (pv 0) rfl) (pe_fld (pv 1) rfl) (nomark _)))))))), ?_⟩
    rcases h with ⟨y', m2, rfl, ⟨dy, r2, e2, hy, hR2, he2⟩, q⟩ | ⟨⟨T', hT, ty⟩, q⟩
    · refine ⟨_, rfl, _, _, _, _, true, rfl, .own C, T.ty hy, T.ic.me, true, rfl, iteF ?_⟩
      have cmp : decide (m = m2) = (decide (m.z = m2.z) && (decide (m.s = m2.s) && (decide (m.R = m2.R) && decide (m.es = m2.es)))) := by
        obtain ⟨a1, a2, a3, a4⟩ := m
        obtain ⟨b1, b2, b3, b4⟩ := m2
        simp only [Am.mk.injEq, Bool.decide_and]
        cases decide (a1 = b1) <;> cases decide (a2 = b2) <;> cases decide (a3 = b3) <;> rfl
      rw [cmp] at q
      refine ⟨_, rfl, x, C, dx, _, _, rfl, hx, T.ic.cl, T.nL, fldA_l _ _ _ _, _, rfl, y', C, dy, _, _, rfl, hy, T.ic.cl, T.nL, fldA_l _ _ _ _, rfl, _, rfl, ?_⟩
      by_cases c1 : m.z = m2.z
      · rw [show decide (V.str m.z = V.str m2.z) = true from decide_eq_true (by rw [c1])]
        rw [decide_eq_true c1, Bool.true_and] at q
        refine iteF ⟨_, rfl, x, C, dx, _, _, rfl, hx, T.ic.cl, T.nS, fldA_s _ _ _ _, _, rfl, y', C, dy, _, _, rfl, hy, T.ic.cl, T.nS, fldA_s _ _ _ _, rfl, _, rfl, ?_⟩
        by_cases c2 : m.s = m2.s
        · rw [show decide (V.int (m.s : Int) = V.int (m2.s : Int)) = true from decide_eq_true (by rw [c2])]
          rw [decide_eq_true c2, Bool.true_and] at q
          refine iteF ⟨_, rfl, x, C, dx, _, _, rfl, hx, T.ic.cl, T.nR, fldA_r _ _ _ _, _, rfl, y', C, dy, _, _, rfl, hy, T.ic.cl, T.nR, fldA_r _ _ _ _, ?_⟩
          obtain ⟨xs, hr1, hP⟩ := hR
          obtain ⟨xs2, hr2, hP2⟩ := hR2
          refine ⟨PD (m.R.map natI), PD (m2.R.map natI), .lst (SqL.of hr1) hP.dp, .lst (SqL.of hr2) hP2.dp, shaped_P _, shaped_P _, ?_⟩
          rw [eqv_rows]
          by_cases c3 : m.R = m2.R
          · rw [decide_eq_true c3] at q ⊢
            rw [Bool.true_and] at q
            refine ⟨true, rfl, iteT ⟨_, rfl, x, C, dx, _, _, rfl, hx, T.ic.cl, T.nE, fldA_e _ _ _ _, _, rfl, y', C, dy, _, _, rfl, hy, T.ic.cl, T.nE, fldA_e _ _ _ _, ptD (natI m.es), ptD (natI m2.es), .lst (SqL.of he) (dp_ints _), .lst (SqL.of he2) (dp_ints _), pt_shaped _, pt_shaped _, ?_⟩⟩
            rw [eqv_es]
            exact q
          · rw [decide_eq_false c3] at q ⊢
            exact ⟨false, rfl, iteF q⟩
        · rw [show decide (V.int (m.s : Int) = V.int (m2.s : Int)) = false from decide_eq_false fun z => c2 (by have := V.int.inj z; omega)]
          rw [decide_eq_false c2] at q
          exact iteT q
      · rw [show decide (V.str m.z = V.str m2.z) = false from decide_eq_false fun z => c1 (V.str.inj z)]
        rw [decide_eq_false c1] at q
        exact iteT q
    · exact ⟨_, rfl, _, _, _, _, false, rfl, .own C, ty, T.kt T' hT, false, rfl, iteT q⟩
theorem ok_reqA (F : FnP K "require_automaton" sReqA f fd) (T : AT K mg C) (Z : ClF P w K mg base) (z_isinstance : mg "isinstance" = none) : FnOk P w K mg base (L2.CX P w) 3 f fd ["automaton"] (spReqA K C) := by
  refine F.ok scReqA (fun vs H Q E h => ?_) (fun cdv A outer s H vs Q E hr h => ?_)
  · obtain ⟨v, rfl, _⟩ := h
    rfl
  · obtain ⟨v, rfl, h⟩ := h
    obtain ⟨fI, fdI, XT⟩ := Z.x 0 (by decide)
    have XT : XCls P w K mg base "InvalidAutomaton" "value" (CF K 0) fI fdI := XT
    refine ⟨_, pss_one (ps_if (pt_not (pt_val (pe_callB call_isi (by rfl) z_isinstance (by decide +kernel) (pa_cons (pv 0) (pa_cons (pe_glob (v := .ref C) (by rfl) T.g rfl) pa_nil))))) (pss_one (ps_raiseX (nm := "InvalidAutomaton") rfl XT hr (takes_of rfl rfl rfl rfl) (by rfl) (pv 0))) pss_nil), ?_⟩
    rcases h with ⟨x, m, rfl, ⟨dx, r, e, hx, hR, he⟩, q⟩ | ⟨⟨T', hT, ty⟩, r⟩
    · exact ⟨_, rfl, _, _, _, _, true, rfl, .own C, T.ty hx, T.ic.me, true, rfl, iteF q⟩
    · exact ⟨_, rfl, _, _, _, _, false, rfl, .own C, ty, T.kt T' hT, false, rfl, iteT ⟨_, rfl, fun d nd => r H d (Same.refl _) nd⟩⟩
theorem ok_reqR (F : FnP K "require_reading" sReqR f fd) (o_aut : Ok P w K mg base "require_automaton" 3 ["automaton"] (cm (spReqA K C))) (o_word : Ok P w K mg base "is_word" 2 ["value"] spIsWord) :
    FnOk P w K mg base CX0 4 f fd ["automaton", "word"] (spReqR C) := by
  refine F.ok scReqR (fun vs H Q E h => ?_) (fun cdv A outer s H vs Q E hr h => ?_)
  · obtain ⟨x, m, y, rfl, _⟩ := h
    rfl
  · obtain ⟨x, m, y, rfl, hx, hy, q⟩ := h
    have r3 : Room 3 (A.deeper (envOfC "require_reading" (defScope sReqR) s.heap.objs.size f cdv)) := hr
    refine ⟨_, PSs.nox (pss_cons (ps_expr (pe_callO o_aut r3 (by rfl) (pa_cons (pv 0) pa_nil)))
      (pss_one (ps_if (pt_not (pt_val (pe_callO o_word (r3.mono (by decide)) (by rfl) (pa_cons (pv 1) pa_nil)))) (pss_one ps_never) pss_nil))), ?_⟩
    refine ⟨_, rfl, _, rfl, .inl ⟨x, m, rfl, hx, ?_⟩⟩
    refine ⟨_, rfl, .str y, rfl, .str y, fun z e => ?_, ?_⟩
    · cases e
      have hy : (lowS y && decide (y.length ≤ 20000)) = true := hy
      rw [Bool.and_eq_true, decide_eq_true_eq] at hy
      omega
    · rw [hy]
      exact ⟨true, rfl, iteF q⟩
end
end KF
set_option Elab.async false
set_option linter.all false
set_option maxRecDepth 100000
set_option maxHeartbeats 4000000
namespace KF
open PySem PySem.Spec PyProof.Rows L2 XV NM XT
structure OkMa (P : Program) (w : World) (K : PySem.W.Frag) (mg : Str → Option Value) (base : Heap) (C : Addr) (m : Str) (sp : Sp) : Prop where
  ex : ∃ f fd, FnOk P w K mg base CX0 1 f fd ["self"] sp ∧ Meth K C m f ∧ Binds K fd ["self"] []
section
variable {X : Cx} {C : Addr} {e : Expr} {te : TE} {apos pos : Pos}
theorem pe_letA {pl : Sem Bool} (o : OkMa X.prog X.w X.K X.mg X.base C "letters" (spLetA C)) (T : AT X.K X.mg C) (he : PE X e te) (hr : Room 1 X.A) (ht : eval (.Call (.Attribute e "letters" apos) [] [] pos) X.env = (do
      let ov ← eval e X.env
      standAt apos.atName
      let (f, first) ← holding [ov] (getMethod ov "letters" pl)
      callWith pos f first (backTo pos (starEach [] X.env)) (backToKw pos (keywordEach [] X.env))) := by rfl) :
    PE X (.Call (.Attribute e "letters" apos) [] [] pos) (fun σ H Q => te σ H fun x H1 => ∃ a m, x = .ref a ∧ Au C H1 a m ∧ Q (.str m.z) H1) := by
  obtain ⟨f, fd, F, hm, b⟩ := o.ex
  refine PE.le (pe_meth0 (pl := pl) (pe_mono he) T.ic.cl hm F hr b .nil pass0 ht) fun σ H Q h => ⟨_, h, ?_⟩
  rintro x H1 ⟨a, m, rfl, hg, q⟩
  obtain ⟨dx, r, en, hx, hL⟩ := id hg
  exact ⟨a, dx, _, rfl, hx, fldA_no _ _ _ _ (by decide +kernel) (by decide +kernel) (by decide +kernel) (by decide +kernel), a, m, rfl, hg, q⟩
theorem pe_startA {pl : Sem Bool} (o : OkMa X.prog X.w X.K X.mg X.base C "start" (spStartA C)) (T : AT X.K X.mg C) (he : PE X e te) (hr : Room 1 X.A) (ht : eval (.Call (.Attribute e "start" apos) [] [] pos) X.env = (do
      let ov ← eval e X.env
      standAt apos.atName
      let (f, first) ← holding [ov] (getMethod ov "start" pl)
      callWith pos f first (backTo pos (starEach [] X.env)) (backToKw pos (keywordEach [] X.env))) := by rfl) :
    PE X (.Call (.Attribute e "start" apos) [] [] pos) (fun σ H Q => te σ H fun x H1 => ∃ a m, x = .ref a ∧ Au C H1 a m ∧ Q (.int m.s) H1) := by
  obtain ⟨f, fd, F, hm, b⟩ := o.ex
  refine PE.le (pe_meth0 (pl := pl) (pe_mono he) T.ic.cl hm F hr b .nil pass0 ht) fun σ H Q h => ⟨_, h, ?_⟩
  rintro x H1 ⟨a, m, rfl, hg, q⟩
  obtain ⟨dx, r, en, hx, hL⟩ := id hg
  exact ⟨a, dx, _, rfl, hx, fldA_no _ _ _ _ (by decide +kernel) (by decide +kernel) (by decide +kernel) (by decide +kernel), a, m, rfl, hg, q⟩
theorem pe_rowsA {pl : Sem Bool} (o : OkMa X.prog X.w X.K X.mg X.base C "rows" (spRowsA C)) (T : AT X.K X.mg C) (he : PE X e te) (hr : Room 1 X.A) (ht : eval (.Call (.Attribute e "rows" apos) [] [] pos) X.env = (do
      let ov ← eval e X.env
      standAt apos.atName
      let (f, first) ← holding [ov] (getMethod ov "rows" pl)
      callWith pos f first (backTo pos (starEach [] X.env)) (backToKw pos (keywordEach [] X.env))) := by rfl) :
    PE X (.Call (.Attribute e "rows" apos) [] [] pos) (fun σ H Q => te σ H fun x H1 => ∃ a m, x = .ref a ∧ Au C H1 a m ∧ m.R.length ≤ 12 ∧ ∀ (H' : Hp) (p : Addr), Same H1 H' → H1 p = none → RL H' p m.R → Q (.ref p) H') := by
  obtain ⟨f, fd, F, hm, b⟩ := o.ex
  refine PE.le (pe_meth0 (pl := pl) (pe_mono he) T.ic.cl hm F hr b .nil pass0 ht) fun σ H Q h => ⟨_, h, ?_⟩
  rintro x H1 ⟨a, m, rfl, hg, q⟩
  obtain ⟨dx, r, en, hx, hL⟩ := id hg
  exact ⟨a, dx, _, rfl, hx, fldA_no _ _ _ _ (by decide +kernel) (by decide +kernel) (by decide +kernel) (by decide +kernel), a, m, rfl, hg, q⟩
theorem pe_endsA {pl : Sem Bool} (o : OkMa X.prog X.w X.K X.mg X.base C "ends" (spEndsA C)) (T : AT X.K X.mg C) (he : PE X e te) (hr : Room 1 X.A) (ht : eval (.Call (.Attribute e "ends" apos) [] [] pos) X.env = (do
      let ov ← eval e X.env
      standAt apos.atName
      let (f, first) ← holding [ov] (getMethod ov "ends" pl)
      callWith pos f first (backTo pos (starEach [] X.env)) (backToKw pos (keywordEach [] X.env))) := by rfl) :
    PE X (.Call (.Attribute e "ends" apos) [] [] pos) (fun σ H Q => te σ H fun x H1 => ∃ a m, x = .ref a ∧ Au C H1 a m ∧ ∀ (p : Addr), H1 p = none → Q (.ref p) (upd H1 p (.lst ((natI m.es).map V.int)))) := by
  obtain ⟨f, fd, F, hm, b⟩ := o.ex
  refine PE.le (pe_meth0 (pl := pl) (pe_mono he) T.ic.cl hm F hr b .nil pass0 ht) fun σ H Q h => ⟨_, h, ?_⟩
  rintro x H1 ⟨a, m, rfl, hg, q⟩
  obtain ⟨dx, r, en, hx, hL⟩ := id hg
  exact ⟨a, dx, _, rfl, hx, fldA_no _ _ _ _ (by decide +kernel) (by decide +kernel) (by decide +kernel) (by decide +kernel), a, m, rfl, hg, q⟩
end
section
variable {P : Program} {w : World} {K : PySem.W.Frag} {mg : Str → Option Value} {base : Heap} {f : Addr} {fd : FuncData} {C : Addr}
theorem ok_cols (F : FnP K "columns_of" sCols f fd) (T : AT K mg C) (o_let : OkMa P w K mg base C "letters" (spLetA C)) (z_enum : mg "enumerate" = none) (z_len : mg "len" = none) : FnOk P w K mg base CX0 2 f fd ["machine", "word"] (spCols C) := by
  have nd := scCols.nd
  refine F.ok scCols (fun vs H Q E h => ?_) (fun cdv A outer s H vs Q E hr h => ?_)
  · obtain ⟨x, m, y, rfl, _⟩ := h
    rfl
  · obtain ⟨x, ⟨z, R, st, es⟩, y, rfl, hx, ok, ly, q⟩ := h
    have nz := ok.nd
    have lz0 : z.length ≤ 26 := ok.lz
    dsimp only at *
    have szl := sizeLine_eq
    have r1 : Room 1 (A.deeper (envOfC "columns_of" (defScope sCols) s.heap.objs.size f cdv)) := hr
    have hu1 : (A.deeper (envOfC "columns_of" (defScope sCols) s.heap.objs.size f cdv)).units + 1 < cLine := by have := hr.un; omega
    refine ⟨_, PSs.nox (pss_cons (ps_set (i := 2) nd rfl (Or.inr rfl) (pe_letA o_let T (pv 0) r1))
      (pss_cons (ps_set (i := 3) nd rfl (Or.inr rfl) (pe_dc (own := [("letter", 4), ("at", 5)]) (g := gTup K 2 (gCons (gName 5) (gCons (gName 4) gNil))) (by rfl) nd (pi_enumS (by rfl) z_enum (pv 2)) (blkOk_by (N := nCols) (sc := defScope sCols) (own := [("letter", 4), ("at", 5)]) (by decide +kernel))
          (fun _ _ _ _ _ => pg_tup rfl (pgs_cons (pg_name (i := 5) nd rfl (Or.inl rfl)) (pgs_cons (pg_name (i := 4) nd rfl (Or.inl rfl)) pgs_nil))) (fun _ _ _ _ _ => pts_nil) (fun _ _ _ _ _ => pv 4) (fun _ _ _ _ _ => pv 5)))
      (pss_one (ps_ret (pe_lc (own := [("letter", 4)]) (g := gName 4) (by rfl) nd (pi_str (pv 1)) (blkOk_by (N := nCols) (sc := defScope sCols) (own := [("letter", 4)]) (by decide +kernel)) (fun _ _ _ _ _ => pg_name (i := 4) nd rfl (Or.inl rfl)) (fun _ _ _ _ _ => pts_nil)
          (fun _ _ _ _ _ => pe_dget2 hu1 (pv 3) (pv 4) (pe_callB call_len_str (by rfl) z_len boot_len (pa_cons (pv 2) pa_nil)) ⟨rfl, rfl, rfl, rfl⟩)))))), ?_⟩
    refine ⟨_, rfl, x, ⟨z, R, st, es⟩, rfl, hx, ?_⟩
    have lz : z.length ≤ 26 := ok.lz
    have sz : z.cps.size = (cz z).length := by simp
    have lcz := cz_len z
    refine ⟨_, rfl, z, rfl, ok.ascii, fun D nD => dc_it walk_enumS (fun i H' => Same H H' ∧ ∃ kvs : List (Key × V), H' D = some (.dK kvs) ∧ kvs.length ≤ i ∧ ∀ c : Nat, valV kvs (.inr ⟨#[c]⟩) = if (cz z).idxOf c < i then some (.int (((cz z).idxOf c : Nat) : Int)) else none)
      ⟨same_new nD, [], upd_same, Nat.le_refl _, fun c => by rw [if_neg (by omega)]; rfl⟩ (fun _ _ _ _ => trivial) ?_ ?_⟩
    · rintro i v H' H2 hi ⟨sm, kvs, hD, lk, hv⟩ ⟨T', a, b, rfl, nT, rfl, ea, eb⟩
      obtain rfl : V.int (i : Nat) = a := Option.some.inj ea
      obtain ⟨c, ec, rfl⟩ := Option.map_eq_some_iff.mp eb
      rw [cz_at] at ec
      have ic := idx_at nz ec
      have li := (List.getElem?_eq_some_iff.mp ec).1
      have sT := same_new (o := .tup [.int (i : Nat), .str ⟨#[c]⟩]) nT
      refine ⟨T', _, rfl, SqT.of upd_same, rfl, _, _, rfl, _, _, rfl, rfl, rfl, ?_⟩
      refine ⟨_, rfl, _, rfl, kvs, .inr ⟨#[c]⟩, rfl, sT _ _ hD, small1000 (by omega), fun d o e => ?_, _, upd_same, Nat.le_trans (length_putK _ _ _) (by omega), fun c2 => ?_⟩
      · rw [upd_ne (ne_of_none (H := H) e nD)]
        exact sT _ _ (sm _ _ e)
      · rw [valV_put]
        by_cases e : c2 = c
        · subst e
          rw [if_pos rfl, ic, if_pos (by omega)]
        · have ne : ¬ ((.inr ⟨#[c2]⟩ : Key) = .inr ⟨#[c]⟩) := fun h => e (by
            have := Str.mk.inj (Sum.inr.inj h)
            simpa using this)
          rw [if_neg ne, hv]
          have ni : (cz z).idxOf c2 ≠ i := fun h => by
            have l2 : (cz z).idxOf c2 < (cz z).length := by omega
            have e2 : (cz z)[(cz z).idxOf c2] = c2 := List.getElem_idxOf l2
            obtain ⟨h3, e4⟩ := List.getElem?_eq_some_iff.mp ec
            apply e
            rw [← e2, ← e4]
            congr 1
          by_cases h : (cz z).idxOf c2 < i
          · rw [if_pos h, if_pos (by omega)]
          · rw [if_neg h, if_neg (by omega)]
    rintro H1 ⟨sm, kvs, hD, lk, hv⟩
    refine ⟨_, rfl, y, rfl, fun D2 nD2 => lc_it walk_str (fun i H' => Same H1 H' ∧ H' D2 = some (.lst ((natI ((colsN z y).take i)).map V.int))) ⟨same_new nD2, upd_same⟩ (fun _ _ _ _ => trivial) ?_ ?_⟩
    · rintro i v H' H2 hi ⟨s2, hD2⟩ ⟨rfl, c, ec, rfl⟩
      rw [cz_at] at ec
      have li := (List.getElem?_eq_some_iff.mp ec).1
      have ly2 := cz_len y
      have egd : (valV kvs (.inr ⟨#[c]⟩)).getD (V.int (z.length : Int)) = .int (((cz z).idxOf c : Nat) : Int) := by
        rw [hv, sz]
        by_cases h : (cz z).idxOf c < (cz z).length
        · rw [if_pos h]
          rfl
        · rw [if_neg h]
          have := List.idxOf_le_length (a := c) (l := cz z)
          show V.int (z.length : Int) = _
          rw [cz_len z, show (cz z).idxOf c = (cz z).length by omega]
      refine ⟨rfl, ?_⟩
      refine ⟨_, rfl, D, rfl, .inl ⟨kvs, .inl (s2 _ _ hD)⟩, _, rfl, _, rfl, z, rfl, by omega, _, DGet.k (k := .inr ⟨#[c]⟩) (s2 _ _ hD), _, hD2, ?_, fun d o e => ?_, ?_⟩
      · rw [List.length_map, natI_len, List.length_take]
        omega
      · rw [upd_ne (ne_of_none (H := H1) e nD2)]
        exact s2 _ _ e
      · rw [upd_same, egd]
        have et : (colsN z y)[i]? = some ((cz z).idxOf c) := by
          unfold colsN
          rw [List.getElem?_map, ec]
          rfl
        rw [List.take_add_one, et]
        unfold natI
        rw [List.map_append, List.map_append]
        rfl
    · rintro H' ⟨s2, hD2⟩
      have ly2 : y.cps.size = (colsN z y).length := by simp [colsN]
      rw [ly2, List.take_length] at hD2
      refine q H' D2 (sm.trans s2) ?_ hD2
      cases e : H D2 with
      | none => rfl
      | some o =>
        rw [sm _ _ e] at nD2
        cases nD2
end
/-! ### the making -/
structure OkMk (P : Program) (w : World) (K : PySem.W.Frag) (mg : Str → Option Value) (base : Heap) (C : Addr) : Prop where
  ex : ∃ f fd mv, Mk K C f ∧ FnOk P w K mg base CX0 6 f fd ["self", "letters", "rows", "start", "ends"] (spInitA C) ∧ KBn K fd ["self", "letters", "rows", "start", "ends"] 3 ["ends"] (fun us ws => us ++ mv ++ ws) (fun vs zs => vs ++ [V.int 0] ++ zs) ∧ KBn K fd ["self", "letters", "rows", "start", "ends"] 3 ["start", "ends"] (fun us ws => us ++ ws) (fun vs zs => vs ++ zs) ∧ mg "Automaton" = some (.ref C)
section
variable {X : Cx} {C : Addr} {e1 e2 : Expr} {kws : List Keyword} {t tk : TA} {pos p : Pos}
/-- Automaton(letters, rows, ends=..) -/
theorem pe_mk0 (o : OkMk X.prog X.w X.K X.mg X.base C) (hr : Room 7 X.A) (hg : Gl X "Automaton") (ha : PA X [e1, e2] t) (hk : PK X kws tk)
    (hall : (backToKw pos (keywordEach kws X.env)).all (·.1.isSome) = true := by rfl) (hks : (backToKw pos (keywordEach kws X.env)).filterMap (·.1) = (["ends"] : List Str) := by rfl)
    (he : starEach [e1, e2] X.env = (false, eval e1 X.env) :: starEach [e2] X.env := by rfl) (hpl : ((backTo pos (starEach [e1, e2] X.env)).any (·.1) || (backToKw pos (keywordEach kws X.env)).any (·.1.isNone)) = false := by rfl) :
    PE X (.Call (.Name "Automaton" p) [e1, e2] kws pos) (tMakeK C 2 1 (spInitA C) (fun vs zs => vs ++ [V.int 0] ++ zs) E0 t tk) := by
  obtain ⟨f, fd, mv, M, F, b, b2, g⟩ := o.ex
  exact pe_makeK M F hr hg g b pass0 ha hk hall hks (by decide) he hpl
/-- Automaton(letters, rows, start=.., ends=..) -/
theorem pe_mk1 (o : OkMk X.prog X.w X.K X.mg X.base C) (hr : Room 7 X.A) (hg : Gl X "Automaton") (ha : PA X [e1, e2] t) (hk : PK X kws tk)
    (hall : (backToKw pos (keywordEach kws X.env)).all (·.1.isSome) = true := by rfl) (hks : (backToKw pos (keywordEach kws X.env)).filterMap (·.1) = (["start", "ends"] : List Str) := by rfl)
    (he : starEach [e1, e2] X.env = (false, eval e1 X.env) :: starEach [e2] X.env := by rfl) (hpl : ((backTo pos (starEach [e1, e2] X.env)).any (·.1) || (backToKw pos (keywordEach kws X.env)).any (·.1.isNone)) = false := by rfl) :
    PE X (.Call (.Name "Automaton" p) [e1, e2] kws pos) (tMakeK C 2 2 (spInitA C) (fun vs zs => vs ++ zs) E0 t tk) := by
  obtain ⟨f, fd, mv, M, F, b, b2, g⟩ := o.ex
  exact pe_makeK M F hr hg g b2 pass0 ha hk hall hks (by decide) he hpl
end
/-- what the making asks, its instance new -/
theorem mk_sp {C : Addr} {H : Hp} {Q : VK} {x dx ra en : Addr} {m : Am} (nx : H x = none) (ndx : H dx = none) (ne : dx ≠ x) (hen : H en = some (.lst ((natI m.es).map V.int))) (hR : RL H ra m.R) (ok : AmOk m) (q : ∀ H' : Hp, Same H H' → Au C H' x m → Q .non H') :
    spInitA C [V.ref x, V.str m.z, V.ref ra, V.int m.s, V.ref en] (upd (upd H dx (.own x)) x (.ins C dx [])) Q E0 := by
  have s1 := same_new (o := .own x) ndx
  have s2 : Same (upd H dx (.own x)) (upd (upd H dx (.own x)) x (.ins C dx [])) := same_new (by rw [upd_ne (Ne.symm ne)]; exact nx)
  have s := s1.trans s2
  refine ⟨x, dx, ra, en, m, rfl, upd_same, s _ _ hen, hR.keep s, ok, fun H' hb ha => q H' (fun b o e => ?_) ha⟩
  exact hb _ _ (ne_of_none e nx) (s _ _ e)
section
variable {P : Program} {w : World} {K : PySem.W.Frag} {mg : Str → Option Value} {base : Heap} {f : Addr} {fd : FuncData} {C : Addr}
theorem ok_initA (F : FunD K "__init__" "Automaton.__init__" (defArgs sInitA) (defBody sInitA) (defScope sInitA) [] [("start", .int 0)] f fd) (T : AT K mg C) (o_alph : Ok P w K mg base "is_alphabet" 3 ["value"] spAlph) (o_lrows : Ok P w K mg base "is_list_of_rows" 5 ["value", "width"] spLRows) (o_below : Ok P w K mg base "is_count_below" 3 ["bound", "value"] spBelow) (o_ris : Ok P w K mg base "is_rising" 5 ["how_many", "value"] spRis) (z_len : mg "len" = none) (z_list : mg "list" = none) : FnOk P w K mg base CX0 6 f fd ["self", "letters", "rows", "start", "ends"] (spInitA C) := by
  have nd := scInitA.nd
  refine F.ok scInitA (fun vs H Q E h => ?_) (fun cdv A outer s H vs Q E hr h => ?_)
  · obtain ⟨x, dx, ra, en, m, rfl, _⟩ := h
    rfl
  · obtain ⟨x, dx, ra, en, ⟨z, R, st, es⟩, rfl, hx, hen, hR, ok, q⟩ := h
    dsimp only at *
    have r5 : Room 5 (A.deeper (envOfC "Automaton.__init__" (defScope sInitA) s.heap.objs.size f cdv)) := hr
    have r3 := r5.mono (by decide : 3 ≤ 5)
    have az : alphV (.str z) = true := ok.al
    have l3 : z.length ≤ 26 := ok.lz
    have hst : st < R.length := ok.hs
    have el : es.length ≤ 12 := ok.el
    have szl := sizeLine_eq
    refine ⟨_, PSs.nox (pss_cons (ps_if (pt_not (pt_val (pe_callO o_alph r3 (by rfl) (pa_cons (pv 1) pa_nil)))) (pss_one ps_never) pss_nil)
      (pss_cons (ps_if (pt_not (pt_val (pe_callO o_lrows r5 (by rfl) (pa_cons (pv 2) (pa_cons (pe_op op_add (pe_callB call_len_str (by rfl) z_len boot_len (pa_cons (pv 1) pa_nil)) pe_int) pa_nil))))) (pss_one ps_never) pss_nil)
      (pss_cons (ps_if (pt_not (pt_val (pe_callO o_below r3 (by rfl) (pa_cons (pe_callB call_len (by rfl) z_len boot_len (pa_cons (pv 2) pa_nil)) (pa_cons (pv 3) pa_nil))))) (pss_one ps_never) pss_nil)
      (pss_cons (ps_if (pt_not (pt_val (pe_callO o_ris r5 (by rfl) (pa_cons (pe_callB call_len (by rfl) z_len boot_len (pa_cons (pv 2) pa_nil)) (pa_cons (pv 4) pa_nil))))) (pss_one ps_never) pss_nil)
      (pss_cons (ps_fld (pv 0) (pv 1) rfl)
      (pss_cons (ps_fld (pv 0) (pe_lc (own := [("row", 5)]) (g := gName 5) (by rfl) nd (pi_list (pv 2)) (blkOk_by (N := ["self", "letters", "rows", "start", "ends", "row"]) (sc := defScope sInitA) (own := [("row", 5)]) (by decide +kernel)) (fun _ _ _ _ _ => pg_name (i := 5) nd rfl (Or.inl rfl)) (fun _ _ _ _ _ => pts_nil)
        (fun _ _ _ _ _ => pe_callTy (call_list_ofK (K := K) rfl) (by rfl) z_list (by decide +kernel) (pa_cons (pv 5) pa_nil))) rfl)
      (pss_cons (ps_fld (pv 0) (pv 3) rfl)
      (pss_one (ps_fld (pv 0) (pe_callTy call_list_of (by rfl) z_list (by decide +kernel) (pa_cons (pv 4) pa_nil)) rfl))))))))), ?_⟩
    refine ⟨_, rfl, _, rfl, .str z, fun z' e => (by
      cases e
      omega), fun H1 s1 => ⟨_, rfl, ?_⟩⟩
    rw [az]
    refine iteF ?_
    obtain ⟨xs, hra, hP⟩ := id hR
    have lx := hP.len
    rw [List.length_map] at lx
    have q1 : 1 ≤ R.length := ok.r1
    have q2 : R.length ≤ 12 := ok.r2
    refine ⟨_, rfl, _, rfl, z, rfl, by omega, _, _, rfl, rfl, ra, R, z.length + 1, rfl, hR.keep s1, q1, q2, ok.rw, by omega, fun H2 s2 => ⟨true, rfl, iteF ?_⟩⟩
    have s02 := s1.trans s2
    refine ⟨_, rfl, _, R.length, rfl, .inl ⟨_, SqL.of (s02 _ _ hra), lx.symm⟩, _, rfl, _, _, rfl, .int _, ?_⟩
    rw [show belV (R.length : Int) (.int (st : Int)) = true from (below_lt _ _).trans (decide_eq_true hst)]
    refine ⟨true, rfl, iteF ?_⟩
    refine ⟨_, rfl, _, R.length, rfl, .inl ⟨_, SqL.of (s02 _ _ hra), lx.symm⟩, _, rfl, en, R.length, es, rfl, s02 _ _ hen, by omega, ok.he, ok.pw, fun H3 s3 => ⟨true, rfl, iteF ?_⟩⟩
    have s03 := s02.trans s3
    have hx3 := s03 _ _ hx
    have hra3 := s03 _ _ hra
    have hen3 := s03 _ _ hen
    refine ⟨_, rfl, _, rfl, x, C, dx, _, rfl, hx3, T.ic.cl, T.nL, (by show 0 < 1000; decide), ?_⟩
    have nrx : ra ≠ x := ne_of hra hx (by intro z; cases z)
    have nex : en ≠ x := ne_of hen hx (by intro z; cases z)
    have hx4 : upd H3 x (.ins C dx (putF "_letters" (.str z) [])) x = some (.ins C dx (putF "_letters" (.str z) [])) := upd_same
    have hra4 : upd H3 x (.ins C dx (putF "_letters" (.str z) [])) ra = some (.lst xs) := by rw [upd_ne nrx]; exact hra3
    have hen4 : upd H3 x (.ins C dx (putF "_letters" (.str z) [])) en = some (.lst ((natI es).map V.int)) := by rw [upd_ne nex]; exact hen3
    have hP4 : Pts (upd H3 x (.ins C dx (putF "_letters" (.str z) []))) xs (R.map natI) := Pts.updI hx3 (hP.keep s03)
    have k4 : ∀ b o, b ≠ x → H b = some o → upd H3 x (.ins C dx (putF "_letters" (.str z) [])) b = some o := fun b o nb e => by
      rw [upd_ne nb]
      exact s03 _ _ e
    generalize upd H3 x (.ins C dx (putF "_letters" (.str z) [])) = H4 at *
    refine ⟨_, rfl, ra, rfl, ⟨_, SqL.of hra4⟩, fun D nD => lc_list (K := K) (a := ra) (xs := xs) (fun i H' => Same H4 H' ∧ ∃ acc, H' D = some (.lst acc) ∧ Pts H' acc ((R.take i).map natI) ∧ ∀ y ∈ acc, y ≠ .ref D) ⟨same_new nD, [], upd_same, .nil, fun y hy => (by cases hy)⟩ (fun i H' _ p => SqL.of (p.1 _ _ hra4)) ?_ ?_⟩
    · rintro i y H' hi ⟨sm, acc, hD, hA, nA⟩
      obtain ⟨p, ep, b, rfl, hb⟩ := hP4.get hi
      rw [List.getElem?_map] at ep
      obtain ⟨row, er, rfl⟩ := Option.map_eq_some_iff.mp ep
      have li := (List.getElem?_eq_some_iff.mp er).1
      have la := hA.len
      rw [List.length_map, List.length_take] at la
      refine ⟨rfl, ?_⟩
      refine ⟨_, rfl, b, _, rfl, .inl (SqL.of (sm _ _ hb)), fun l nl => ?_⟩
      have s5 := same_new (o := .lst ((natI row).map V.int)) nl
      have hD5 := s5 _ _ hD
      have nlD : l ≠ D := fun e => by
        rw [e, hD] at nl
        cases nl
      have nA5 : ∀ y ∈ acc ++ [V.ref l], y ≠ .ref D := fun y hy => by
        rcases List.mem_append.mp hy with h | h
        · exact nA y h
        · rw [List.mem_singleton.mp h]
          exact fun e => nlD (V.ref.inj e)
      refine ⟨acc, hD5, small1000 (by omega), fun c o e => ?_, acc ++ [.ref l], upd_same, ?_, nA5⟩
      · rw [upd_ne (ne_of_none (H := H4) e nD)]
        exact s5 _ _ (sm _ _ e)
      · rw [List.take_add_one, er, List.map_append]
        exact Pts.updL nA5 (Pts.snoc ⟨l, rfl, upd_same⟩ (hA.keep s5))
    rintro H5 ⟨s5, acc, hD, hA, nA⟩
    rw [lx, List.take_length] at hA
    have hx5 := s5 _ _ hx4
    refine ⟨_, rfl, x, C, dx, _, rfl, hx5, T.ic.cl, T.nR, (by show 1 < 1000; decide), ?_⟩
    refine ⟨_, rfl, _, rfl, x, C, dx, _, rfl, upd_same, T.ic.cl, T.nS, (by show 2 < 1000; decide), ?_⟩
    have Dx : D ≠ x := ne_of hD hx5 (by intro z; cases z)
    have hA6 : Pts (upd (upd H5 x (.ins C dx (putF "_rows" (.ref D) (putF "_letters" (.str z) [])))) x (.ins C dx (putF "_start" (.int st) (putF "_rows" (.ref D) (putF "_letters" (.str z) []))))) acc (R.map natI) := Pts.updI upd_same (Pts.updI hx5 hA)
    have hD6 : upd (upd H5 x (.ins C dx (putF "_rows" (.ref D) (putF "_letters" (.str z) [])))) x (.ins C dx (putF "_start" (.int st) (putF "_rows" (.ref D) (putF "_letters" (.str z) [])))) D = some (.lst acc) := by
      rw [upd_ne Dx, upd_ne Dx]
      exact hD
    have hen6 : upd (upd H5 x (.ins C dx (putF "_rows" (.ref D) (putF "_letters" (.str z) [])))) x (.ins C dx (putF "_start" (.int st) (putF "_rows" (.ref D) (putF "_letters" (.str z) [])))) en = some (.lst ((natI es).map V.int)) := by
      rw [upd_ne nex, upd_ne nex]
      exact s5 _ _ hen4
    have hx6 : upd (upd H5 x (.ins C dx (putF "_rows" (.ref D) (putF "_letters" (.str z) [])))) x (.ins C dx (putF "_start" (.int st) (putF "_rows" (.ref D) (putF "_letters" (.str z) [])))) x = some (.ins C dx (putF "_start" (.int st) (putF "_rows" (.ref D) (putF "_letters" (.str z) [])))) := upd_same
    have k6 : ∀ b o, b ≠ x → H b = some o → upd (upd H5 x (.ins C dx (putF "_rows" (.ref D) (putF "_letters" (.str z) [])))) x (.ins C dx (putF "_start" (.int st) (putF "_rows" (.ref D) (putF "_letters" (.str z) [])))) b = some o := fun b o nb e => by
      rw [upd_ne nb, upd_ne nb]
      exact s5 _ _ (k4 b o nb e)
    generalize upd (upd H5 x (.ins C dx (putF "_rows" (.ref D) (putF "_letters" (.str z) [])))) x (.ins C dx (putF "_start" (.int st) (putF "_rows" (.ref D) (putF "_letters" (.str z) [])))) = H6 at *
    refine ⟨_, rfl, en, _, rfl, .inl (SqL.of hen6), fun l nl => ?_⟩
    have s7 := same_new (o := .lst ((natI es).map V.int)) nl
    have hx7 := s7 _ _ hx6
    refine ⟨_, rfl, x, C, dx, _, rfl, hx7, T.ic.cl, T.nE, (by show 3 < 1000; decide), ?_⟩
    refine q _ (fun b o nb e => ?_) ⟨dx, D, l, upd_same, RL.updI hx7 ⟨acc, s7 _ _ hD6, hA6.keep s7⟩, ?_⟩
    · rw [upd_ne nb]
      exact s7 _ _ (k6 b o nb e)
    · rw [upd_ne (ne_of (upd_same (H := H6) (a := l)) hx7 (by intro z; cases z))]
      exact upd_same
end
end KF
set_option Elab.async false
set_option linter.all false
/-! Seeking through the states that words lead to, shorter words first. -/
namespace NB
section
variable {α : Type} [DecidableEq α] (f : α → Nat → α)
def add1 (p : α) (w : List Nat) (L : List (α × List Nat)) (k : Nat) : List (α × List Nat) := if f p k ∈ L.map Prod.fst then L else L ++ [(f p k, w ++ [97 + k])]
def grow (p : α) (w : List Nat) (L : List (α × List Nat)) : Nat → List (α × List Nat)
  | 0 => L
  | k + 1 => add1 f p w (grow p w L k) k
def bfs (p0 : α) : Nat → List (α × List Nat)
  | 0 => [(p0, [])]
  | t + 1 => match (bfs p0 t)[t]? with
    | some (p, w) => grow f p w (bfs p0 t) 26
    | none => bfs p0 t
variable {f}
theorem add1_pre (p : α) (w : List Nat) (L : List (α × List Nat)) (k : Nat) : L <+: add1 f p w L k := by
  unfold add1
  split
  · exact List.prefix_refl L
  · exact List.prefix_append L _
theorem grow_pre (p : α) (w : List Nat) (L : List (α × List Nat)) : ∀ k, L <+: grow f p w L k
  | 0 => List.prefix_refl L
  | k + 1 => (grow_pre p w L k).trans (add1_pre p w _ k)
theorem bfs_succ {p0 : α} {t : Nat} {p : α} {w : List Nat} (h : (bfs f p0 t)[t]? = some (p, w)) : bfs f p0 (t + 1) = grow f p w (bfs f p0 t) 26 := by
  show (match (bfs f p0 t)[t]? with
    | some (p, w) => grow f p w (bfs f p0 t) 26
    | none => bfs f p0 t) = _
  rw [h]
theorem bfs_end {p0 : α} {t : Nat} (h : (bfs f p0 t).length ≤ t) : bfs f p0 (t + 1) = bfs f p0 t := by
  show (match (bfs f p0 t)[t]? with
    | some (p, w) => grow f p w (bfs f p0 t) 26
    | none => bfs f p0 t) = _
  rw [List.getElem?_eq_none h]
theorem bfs_pre1 (p0 : α) (t : Nat) : bfs f p0 t <+: bfs f p0 (t + 1) := by
  cases h : (bfs f p0 t)[t]? with
  | none =>
    rw [bfs_end (List.getElem?_eq_none_iff.mp h)]
    exact List.prefix_refl _
  | some q =>
    obtain ⟨p, w⟩ := q
    rw [bfs_succ h]
    exact grow_pre p w _ 26
theorem bfs_pre (p0 : α) {t u : Nat} (h : t ≤ u) : bfs f p0 t <+: bfs f p0 u := by
  induction u with
  | zero =>
    obtain rfl : t = 0 := by omega
    exact List.prefix_refl _
  | succ u ih =>
    by_cases e : t = u + 1
    · rw [e]
      exact List.prefix_refl _
    · exact (ih (by omega)).trans (bfs_pre1 p0 u)
theorem pre_get {l m : List (α × List Nat)} (h : l <+: m) {i : Nat} {x : α × List Nat} (e : l[i]? = some x) : m[i]? = some x := by
  obtain ⟨r, rfl⟩ := h
  rw [List.getElem?_append_left (List.getElem?_eq_some_iff.mp e).1]
  exact e
/-- what holds of the start and stays along the way -/
theorem grow_all {Pr : α → List Nat → Prop} {p : α} {w : List Nat} {L : List (α × List Nat)} (hL : ∀ x ∈ L, Pr x.1 x.2) (st : ∀ k, k < 26 → Pr (f p k) (w ++ [97 + k])) : ∀ k, k ≤ 26 → ∀ x ∈ grow f p w L k, Pr x.1 x.2
  | 0, _, x, hx => hL x hx
  | k + 1, hk, x, hx => by
    have hx : x ∈ add1 f p w (grow f p w L k) k := hx
    unfold add1 at hx
    split at hx
    · exact grow_all hL st k (by omega) x hx
    · rcases List.mem_append.mp hx with h | h
      · exact grow_all hL st k (by omega) x h
      · rw [List.mem_singleton.mp h]
        exact st k (by omega)
theorem bfs_all {Pr : α → List Nat → Prop} {p0 : α} (h0 : Pr p0 []) (st : ∀ p w k, Pr p w → k < 26 → Pr (f p k) (w ++ [97 + k])) : ∀ t, ∀ x ∈ bfs f p0 t, Pr x.1 x.2
  | 0, x, hx => by
    rw [List.mem_singleton.mp hx]
    exact h0
  | t + 1, x, hx => by
    cases h : (bfs f p0 t)[t]? with
    | none =>
      rw [bfs_end (List.getElem?_eq_none_iff.mp h)] at hx
      exact bfs_all h0 st t x hx
    | some q =>
      obtain ⟨p, w⟩ := q
      rw [bfs_succ h] at hx
      exact grow_all (bfs_all h0 st t) (fun k hk => st p w k (bfs_all h0 st t _ (List.mem_of_getElem? h)) hk) 26 (Nat.le_refl _) x hx
theorem grow_nd {p : α} {w : List Nat} {L : List (α × List Nat)} (hL : (L.map Prod.fst).Nodup) : ∀ k, ((grow f p w L k).map Prod.fst).Nodup
  | 0 => hL
  | k + 1 => by
    show ((add1 f p w (grow f p w L k) k).map Prod.fst).Nodup
    unfold add1
    split
    · exact grow_nd hL k
    · rename_i h
      rw [List.map_append, List.nodup_append]
      refine ⟨grow_nd hL k, List.nodup_cons.mpr ⟨List.not_mem_nil, List.nodup_nil⟩, fun a ha b hb => ?_⟩
      have hb : b = f p k := List.mem_singleton.mp hb
      rw [hb]
      exact fun z => h (z ▸ ha)
theorem bfs_nd (p0 : α) : ∀ t, ((bfs f p0 t).map Prod.fst).Nodup
  | 0 => List.nodup_cons.mpr ⟨List.not_mem_nil, List.nodup_nil⟩
  | t + 1 => by
    cases h : (bfs f p0 t)[t]? with
    | none =>
      rw [bfs_end (List.getElem?_eq_none_iff.mp h)]
      exact bfs_nd p0 t
    | some q =>
      obtain ⟨p, w⟩ := q
      rw [bfs_succ h]
      exact grow_nd (bfs_nd p0 t) 26
/-- a word is no longer than its place -/
theorem grow_len {p : α} {w : List Nat} {L : List (α × List Nat)} (hL : ∀ (i : Nat) (x : α × List Nat), L[i]? = some x → x.2.length ≤ i) (hw : w.length + 1 ≤ L.length) : ∀ (k i : Nat) (x : α × List Nat), (grow f p w L k)[i]? = some x → x.2.length ≤ i
  | 0, i, x, h => hL i x h
  | k + 1, i, x, h => by
    have h : (add1 f p w (grow f p w L k) k)[i]? = some x := h
    unfold add1 at h
    split at h
    · exact grow_len hL hw k i x h
    · have l1 := (grow_pre (f := f) p w L k).length_le
      by_cases c : i < (grow f p w L k).length
      · rw [List.getElem?_append_left c] at h
        exact grow_len hL hw k i x h
      · rw [List.getElem?_append_right (by omega)] at h
        have := (List.getElem?_eq_some_iff.mp h).1
        have e : i - (grow f p w L k).length = 0 := by simpa using this
        rw [e] at h
        cases h
        show (w ++ [97 + k]).length ≤ i
        rw [List.length_append]
        show w.length + 1 ≤ i
        omega
theorem bfs_len (p0 : α) : ∀ (t i : Nat) (x : α × List Nat), (bfs f p0 t)[i]? = some x → x.2.length ≤ i
  | 0, i, x, h => by
    cases i with
    | zero => cases h; exact Nat.le_refl 0
    | succ i => cases h
  | t + 1, i, x, h => by
    cases e : (bfs f p0 t)[t]? with
    | none =>
      rw [bfs_end (List.getElem?_eq_none_iff.mp e)] at h
      exact bfs_len p0 t i x h
    | some q =>
      obtain ⟨p, w⟩ := q
      rw [bfs_succ e] at h
      have h1 : w.length ≤ t := bfs_len p0 t t (p, w) e
      have h2 := (List.getElem?_eq_some_iff.mp e).1
      exact grow_len (bfs_len p0 t) (by omega) 26 i x h
theorem nd_le : ∀ (l m : List α), l.Nodup → (∀ x ∈ l, x ∈ m) → l.length ≤ m.length
  | [], m, _, _ => Nat.zero_le _
  | x :: l, m, nd, h => by
    obtain ⟨h1, h2⟩ := List.nodup_cons.mp nd
    have hx := h x List.mem_cons_self
    have e := List.length_erase_of_mem hx
    have ih := nd_le l (m.erase x) h2 fun y hy => (List.mem_erase_of_ne (fun z : y = x => h1 (by rw [← z]; exact hy))).mpr (h y (List.mem_cons_of_mem _ hy))
    have := List.length_pos_of_mem hx
    rw [List.length_cons]
    omega
theorem bfs_size {p0 : α} {S : List α} (h0 : p0 ∈ S) (st : ∀ p k, p ∈ S → k < 26 → f p k ∈ S) (t : Nat) : (bfs f p0 t).length ≤ S.length := by
  have h := bfs_all (f := f) (Pr := fun p _ => p ∈ S) h0 (fun p w k hp hk => st p k hp hk) t
  have := nd_le _ S (bfs_nd (f := f) p0 t) fun x hx => by
    obtain ⟨y, hy, rfl⟩ := List.mem_map.mp hx
    exact h y hy
  rw [List.length_map] at this
  exact this
theorem bfs_stay {p0 : α} {t : Nat} (h : (bfs f p0 t).length ≤ t) {u : Nat} (hu : t ≤ u) : bfs f p0 u = bfs f p0 t := by
  induction u with
  | zero =>
    obtain rfl : t = 0 := by omega
    rfl
  | succ u ih =>
    by_cases e : t = u + 1
    · rw [e]
    · have i := ih (by omega)
      rw [bfs_end (by rw [i]; omega), i]
/-- the first word that parts -/
def res (u : α → Bool) (L : List (α × List Nat)) : Option (List Nat) := (L.find? fun x => u x.1).map Prod.snd
/-- what is found one by one is what is found in the whole -/
theorem res_step {p0 : α} {u : α → Bool} {t T : Nat} (hT : (bfs f p0 T).length ≤ T) {x : α × List Nat} (hx : (bfs f p0 t)[t]? = some x) (no : ∀ j y, j < t → (bfs f p0 j)[j]? = some y → u y.1 = false) (yes : u x.1 = true) : res u (bfs f p0 T) = some x.2 := by
  have tT : t < T := by
    apply Nat.lt_of_not_le
    intro c
    have e := bfs_stay hT c
    rw [e] at hx
    have := (List.getElem?_eq_some_iff.mp hx).1
    omega
  have gx := pre_get (bfs_pre p0 (Nat.le_of_lt tT)) hx
  unfold res
  have : (bfs f p0 T).find? (fun y => u y.1) = some x := by
    rw [List.find?_eq_some_iff_getElem]
    refine ⟨yes, t, (List.getElem?_eq_some_iff.mp gx).1, (List.getElem?_eq_some_iff.mp gx).2, fun j hj => ?_⟩
    have lj : j < (bfs f p0 T).length := by have := (List.getElem?_eq_some_iff.mp gx).1; omega
    have l2 : j < (bfs f p0 j).length := by
      apply Nat.lt_of_not_le
      intro c
      rw [bfs_stay c (by omega : j ≤ T)] at lj
      omega
    have gj : (bfs f p0 j)[j]? = some (bfs f p0 j)[j] := List.getElem?_eq_getElem l2
    have g2 := pre_get (bfs_pre p0 (by omega : j ≤ T)) gj
    have e : (bfs f p0 T)[j] = (bfs f p0 j)[j] := by
      rw [List.getElem?_eq_getElem lj] at g2
      exact Option.some.inj g2
    rw [e, no j _ hj gj]
    rfl
  rw [this]
  rfl
theorem res_none {p0 : α} {u : α → Bool} {t T : Nat} (hT : (bfs f p0 T).length ≤ T) (ht : (bfs f p0 t).length ≤ t) (no : ∀ j y, j < t → (bfs f p0 j)[j]? = some y → u y.1 = false) : res u (bfs f p0 T) = none := by
  have e : bfs f p0 T = bfs f p0 t := by
    rcases Nat.le_total t T with h | h
    · exact bfs_stay ht h
    · exact (bfs_stay hT h).symm
  rw [e]
  unfold res
  have : (bfs f p0 t).find? (fun y => u y.1) = none := by
    rw [List.find?_eq_none]
    intro y hy
    obtain ⟨j, hj, rfl⟩ := List.mem_iff_getElem.mp hy
    have l2 : j < (bfs f p0 j).length := by
      apply Nat.lt_of_not_le
      intro c
      rw [bfs_stay c (by omega : j ≤ t)] at hj
      omega
    have gj : (bfs f p0 j)[j]? = some (bfs f p0 j)[j] := List.getElem?_eq_getElem l2
    have g2 := pre_get (bfs_pre p0 (by omega : j ≤ t)) gj
    have e2 : (bfs f p0 t)[j] = (bfs f p0 j)[j] := by
      rw [List.getElem?_eq_getElem hj] at g2
      exact Option.some.inj g2
    rw [e2, no j _ (by omega) gj]
    simp
  rw [this]
  rfl
end
/-! ### the same by other names -/
section
variable {α β : Type} [DecidableEq α] [DecidableEq β] {f : α → Nat → α} {g : β → Nat → β} {h : α → β}
theorem grow_map (inj : ∀ a b, h a = h b → a = b) (cm : ∀ a k, h (f a k) = g (h a) k) (p : α) (w : List Nat) (L : List (α × List Nat)) : ∀ k, (grow f p w L k).map (fun x => (h x.1, x.2)) = grow g (h p) w (L.map fun x => (h x.1, x.2)) k
  | 0 => rfl
  | k + 1 => by
    show (add1 f p w (grow f p w L k) k).map _ = add1 g (h p) w (grow g (h p) w (L.map fun x => (h x.1, x.2)) k) k
    rw [← grow_map inj cm p w L k]
    unfold add1
    have e : (g (h p) k ∈ ((grow f p w L k).map fun x => (h x.1, x.2)).map Prod.fst) ↔ (f p k ∈ (grow f p w L k).map Prod.fst) := by
      rw [List.map_map]
      constructor
      · intro hm
        obtain ⟨x, hx, e⟩ := List.mem_map.mp hm
        have e : h x.1 = g (h p) k := e
        rw [← cm] at e
        rw [← inj _ _ e]
        exact List.mem_map_of_mem hx
      · intro hm
        obtain ⟨x, hx, e⟩ := List.mem_map.mp hm
        refine List.mem_map.mpr ⟨x, hx, ?_⟩
        show h x.1 = _
        rw [e, cm]
    by_cases c : f p k ∈ (grow f p w L k).map Prod.fst
    · rw [if_pos c, if_pos (e.mpr c)]
    · rw [if_neg c, if_neg (fun z => c (e.mp z)), List.map_append]
      show _ ++ [(h (f p k), w ++ [97 + k])] = _
      rw [cm]
theorem bfs_map (inj : ∀ a b, h a = h b → a = b) (cm : ∀ a k, h (f a k) = g (h a) k) (p0 : α) : ∀ t, (bfs f p0 t).map (fun x => (h x.1, x.2)) = bfs g (h p0) t
  | 0 => rfl
  | t + 1 => by
    have ih := bfs_map inj cm p0 t
    cases e : (bfs f p0 t)[t]? with
    | none =>
      have l := List.getElem?_eq_none_iff.mp e
      rw [bfs_end l, bfs_end (by rw [← ih, List.length_map]; exact l), ih]
    | some q =>
      obtain ⟨p, w⟩ := q
      have e2 : (bfs g (h p0) t)[t]? = some (h p, w) := by
        rw [← ih, List.getElem?_map, e]
        rfl
      rw [bfs_succ e, bfs_succ e2, grow_map inj cm, ih]
theorem res_map {u : α → Bool} {v : β → Bool} (hu : ∀ a, v (h a) = u a) (L : List (α × List Nat)) : res v (L.map fun x => (h x.1, x.2)) = res u L := by
  unfold res
  induction L with
  | nil => rfl
  | cons x L ih =>
    rw [List.map_cons, List.find?_cons, List.find?_cons]
    show (Option.map Prod.snd (match v (h x.1) with | true => _ | false => _)) = _
    rw [hu]
    cases u x.1 with
    | true => rfl
    | false => exact ih
end
end NB
set_option Elab.async false
set_option linter.all false
set_option maxRecDepth 100000
set_option maxHeartbeats 4000000
namespace KF
open PySem PySem.Spec PyProof.Rows L2 XV NM XT
/-! ### where words lead -/
theorem int_get {l : List Nat} {i : Nat} {y : V} (h : ((natI l).map V.int)[i]? = some y) : ∃ s, l[i]? = some s ∧ y = .int (s : Int) := by
  rw [List.getElem?_map, natI_get] at h
  cases e : l[i]? with
  | none =>
    rw [e] at h
    cases h
  | some s =>
    rw [e] at h
    cases h
    exact ⟨s, rfl, rfl⟩
def stepN (R : List (List Nat)) (c s : Nat) : Nat := (R.getD s []).getD c 0
def runN (R : List (List Nat)) (cols : List Nat) (s : Nat) : Nat := cols.foldl (fun s c => stepN R c s) s
theorem run_snoc (R : List (List Nat)) (cols : List Nat) (c s : Nat) : runN R (cols ++ [c]) s = stepN R c (runN R cols s) := by
  unfold runN
  rw [List.foldl_append]
  rfl
theorem cols_le (z y : Str) : ∀ c ∈ colsN z y, c ≤ z.length := fun c hc => by
  obtain ⟨a, _, rfl⟩ := List.mem_map.mp hc
  rw [cz_len]
  exact List.idxOf_le_length
theorem step_at {m : Am} (ok : AmOk m) {c s : Nat} (hc : c ≤ m.z.length) (hs : s < m.R.length) : stepN m.R c s < m.R.length ∧ ∃ r, m.R[s]? = some r ∧ r[c]? = some (stepN m.R c s) := by
  have e1 : m.R[s]? = some m.R[s] := List.getElem?_eq_getElem hs
  obtain ⟨h1, h2⟩ := ok.rw _ (List.getElem_mem hs)
  have lc : c < m.R[s].length := by omega
  have e2 : m.R[s][c]? = some m.R[s][c] := List.getElem?_eq_getElem lc
  have e3 : stepN m.R c s = m.R[s][c] := by
    unfold stepN
    have e4 : m.R.getD s [] = m.R[s] := by
      rw [List.getD_eq_getElem?_getD, e1]
      rfl
    rw [e4, List.getD_eq_getElem?_getD, e2]
    rfl
  rw [e3]
  exact ⟨h2 _ (List.getElem_mem lc), _, e1, e2⟩
theorem run_lt {m : Am} (ok : AmOk m) : ∀ (cols : List Nat), (∀ c ∈ cols, c ≤ m.z.length) → ∀ s, s < m.R.length → runN m.R cols s < m.R.length
  | [], _, s, h => h
  | c :: cols, hc, s, h => run_lt ok cols (fun d hd => hc d (List.mem_cons_of_mem _ hd)) _ (step_at ok (hc c List.mem_cons_self) h).1
def abc : Str := "abcdefghijklmnopqrstuvwxyz"
theorem abc_cz : cz abc = (List.range 26).map (97 + ·) := by decide +kernel
theorem abc_len : abc.length = 26 := by decide +kernel
/-- the column of a letter, a step by its number -/
def colA (m : Am) (k : Nat) : Nat := (cz m.z).idxOf (97 + k)
def stp (m : Am) (s k : Nat) : Nat := stepN m.R (colA m k) s
theorem colA_le (m : Am) (k : Nat) : colA m k ≤ m.z.length := by
  unfold colA
  rw [cz_len]
  exact List.idxOf_le_length
theorem stp_lt {m : Am} (ok : AmOk m) {s : Nat} (hs : s < m.R.length) (k : Nat) : stp m s k < m.R.length := (step_at ok (colA_le m k) hs).1
theorem cols_abc (m : Am) : colsN m.z abc = (List.range 26).map (colA m) := by
  unfold colsN
  rw [abc_cz, List.map_map]
  rfl
/-- the rows for all letters -/
def fullN (m : Am) : List (List Nat) := m.R.map fun r => (List.range 26).map fun k => r.getD (colA m k) 0
theorem full_at {m : Am} (ok : AmOk m) {s k : Nat} (hs : s < m.R.length) (hk : k < 26) : ∃ r, (fullN m)[s]? = some r ∧ r[k]? = some (stp m s k) := by
  obtain ⟨_, r, e1, e2⟩ := step_at ok (colA_le m k) hs
  refine ⟨_, by unfold fullN; rw [List.getElem?_map, e1]; rfl, ?_⟩
  rw [List.getElem?_map, List.getElem?_range hk]
  show some (r.getD (colA m k) 0) = _
  rw [List.getD_eq_getElem?_getD, e2]
  rfl
/-- whether a word is accepted -/
def behN (m : Am) (y : Str) : Nat := runN m.R (colsN m.z y) m.s
def accN (m : Am) (y : Str) : Bool := decide (behN m y ∈ m.es)
theorem inV_nat (x : Nat) (es : List Nat) : inV (V.int (x : Int)) ((natI es).map V.int) = decide (x ∈ es) := by
  unfold inV natI
  induction es with
  | nil => rfl
  | cons a es ih =>
    rw [List.map_cons, List.map_cons, List.any_cons, ih]
    show (((a : Int) == (x : Int)) || _) = _
    by_cases h : a = x
    · subst h
      simp
    · have h2 : ((a : Int) == (x : Int)) = false := beq_eq_false_iff_ne.mpr fun z => h (by omega)
      have h3 : ¬ x = a := fun z => h z.symm
      rw [h2, Bool.false_or]
      exact decide_eq_decide.mpr ⟨fun z => List.mem_cons_of_mem _ z, fun z => (List.mem_cons.mp z).resolve_left h3⟩
theorem flat_nat (es : List Nat) : (((natI es).map V.int).all flatV) = true := by
  rw [List.all_eq_true]
  intro v hv
  obtain ⟨i, _, rfl⟩ := List.mem_map.mp hv
  rfl
theorem was_none {H H' : Hp} (s : Same H H') {D : Addr} (n : H' D = none) : H D = none := by
  cases e : H D with
  | none => rfl
  | some o =>
    rw [s _ _ e] at n
    cases n
abbrev sBeh : Stmt := top 17
abbrev sAcc : Stmt := top 18
abbrev sFull : Stmt := top 28
abbrev nBeh : List Str := ["automaton", "word", "rows", "state", "column"]
theorem scBeh : FnScope nBeh ["automaton", "word"] (defScope sBeh) := ⟨rfl, rfl, rfl, by decide +kernel, rfl, by decide +kernel, by decide +kernel⟩
theorem scAcc : FnScope ["automaton", "word"] ["automaton", "word"] (defScope sAcc) := ⟨rfl, rfl, rfl, by decide +kernel, rfl, by decide +kernel, by decide +kernel⟩
abbrev nFull : List Str := ["automaton", "columns", "row", "column"]
theorem scFull : FnScope nFull ["automaton"] (defScope sFull) := ⟨rfl, rfl, rfl, by decide +kernel, rfl, by decide +kernel, by decide +kernel⟩
abbrev scFO : Scope := { kind := .function, names := [(Str.ofString ".0", .local), (Str.ofString "row", .cell), (Str.ofString "columns", .cell)], isGenerator := false, isCoroutine := false }
abbrev scFI : Scope := { kind := .function, names := [(Str.ofString ".0", .local), (Str.ofString "column", .local), (Str.ofString "row", .free)], isGenerator := false, isCoroutine := false }
theorem blkF : BlkOk nFull scFO scFI [("column", 3)] := blkOk_by (by decide +kernel)
def spBeh (C : Addr) : Sp := fun vs H Q _ => ∃ (x : Addr) (m : Am) (y : Str), vs = [.ref x, .str y] ∧ Au C H x m ∧ AmOk m ∧ wordV (.str y) = true ∧ ∀ H', Same H H' → Q (.int (behN m y : Nat)) H'
def spAcc (C : Addr) : Sp := fun vs H Q _ => ∃ (x : Addr) (m : Am) (y : Str), vs = [.ref x, .str y] ∧ Au C H x m ∧ AmOk m ∧ wordV (.str y) = true ∧ ∀ H', Same H H' → Q (.bl (accN m y)) H'
def spFull (C : Addr) : Sp := fun vs H Q _ => ∃ (x : Addr) (m : Am), vs = [.ref x] ∧ Au C H x m ∧ AmOk m ∧ ∀ (H' : Hp) (p : Addr), Same H H' → H p = none → RL H' p (fullN m) → Q (.ref p) H'
section
variable {P : Program} {w : World} {K : PySem.W.Frag} {mg : Str → Option Value} {base : Heap} {f : Addr} {fd : FuncData} {C : Addr}
theorem ok_beh (F : FnP K "state_behind" sBeh f fd) (T : AT K mg C) (o_req : Ok P w K mg base "require_reading" 4 ["automaton", "word"] (spReqR C)) (o_rows : OkMa P w K mg base C "rows" (spRowsA C)) (o_start : OkMa P w K mg base C "start" (spStartA C)) (o_cols : Ok P w K mg base "columns_of" 2 ["machine", "word"] (spCols C)) :
    FnOk P w K mg base CX0 5 f fd ["automaton", "word"] (spBeh C) := by
  have nd := scBeh.nd
  refine F.ok scBeh (fun vs H Q E h => ?_) (fun cdv A outer s H vs Q E hr h => ?_)
  · obtain ⟨x, m, y, rfl, _⟩ := h
    rfl
  · obtain ⟨x, m, y, rfl, hx, ok, hy, q⟩ := h
    have r4 : Room 4 (A.deeper (envOfC "state_behind" (defScope sBeh) s.heap.objs.size f cdv)) := hr
    have r1 := r4.mono (by decide : 1 ≤ 4)
    have r2 := r4.mono (by decide : 2 ≤ 4)
    have ly : y.length ≤ 20000 := by
      have hy : (lowS y && decide (y.length ≤ 20000)) = true := hy
      rw [Bool.and_eq_true, decide_eq_true_eq] at hy
      exact hy.2
    refine ⟨_, PSs.nox (pss_cons (ps_expr (pe_callO o_req r4 (by rfl) (pa_cons (pv 0) (pa_cons (pv 1) pa_nil))))
      (pss_cons (ps_par (i := 2) (j := 3) rfl nd rfl rfl (by decide) rfl rfl (pa_cons (pe_rowsA o_rows T (pv 0) r1) (pa_cons (pe_startA o_start T (pv 0) r1) pa_nil)) (by rfl))
      (pss_cons (ps_for PassesOwn.never rfl (pi_list (pe_callO o_cols r2 (by rfl) (pa_cons (pv 0) (pa_cons (pv 1) pa_nil)))) (pg_name (i := 4) nd rfl (Or.inl rfl))
        (pss_one (ps_set (i := 3) nd rfl (Or.inl rfl) (pe_ix (ix_listK (K := K) rfl) (pe_ix (ix_listK (K := K) rfl) (pv 2) (pv 3) (fun _ _ => rfl)) (pv 4) (fun _ _ => rfl)))))
      (pss_one (ps_ret (pv 3)))))), ?_⟩
    refine ⟨_, rfl, _, rfl, x, m, y, rfl, hx, hy, ?_⟩
    refine ⟨_, rfl, x, m, rfl, hx, ok.r2, fun H1 rp s1 nrp ⟨xs, hrp, hP⟩ => ⟨_, rfl, x, m, rfl, hx.keep s1, ⟨_, _, rfl, ?_⟩⟩⟩
    have lx := hP.len
    rw [List.length_map] at lx
    refine ⟨_, rfl, _, rfl, x, m, y, rfl, hx.keep s1, ok, by omega, fun H2 cp s2 ncp hc => ?_⟩
    refine ⟨cp, rfl, ⟨_, SqL.of hc⟩, for_list (K := K) (a := cp) (xs := (natI (colsN m.z y)).map V.int) (fun i σ H' => (∃ t x4, σ = [some (.ref x), some (.str y), some (.ref rp), some (.int ((t : Nat) : Int)), x4] ∧ t < m.R.length ∧ t = runN m.R ((colsN m.z y).take i) m.s) ∧ H' = H2) ⟨⟨m.s, _, rfl, ok.hs, rfl⟩, rfl⟩ (fun i σ H' _ k => k.2 ▸ SqL.of hc) ?_ ?_⟩
    · rintro i v σ H' hi ⟨⟨t, x4, rfl, lt, et⟩, rfl⟩
      obtain ⟨c, ec, rfl⟩ := int_get hi
      have hcz := cols_le m.z y c (List.mem_of_getElem? ec)
      obtain ⟨l2, row, er, ev⟩ := step_at ok hcz lt
      have ex : xs[t]? = some (xs[t]'(by omega)) := List.getElem?_eq_getElem (by omega)
      obtain ⟨pp, ep, ⟨b, eb, hb⟩⟩ := hP.get ex
      rw [List.getElem?_map, er] at ep
      cases ep
      rw [eb] at ex
      refine ⟨_, rfl, _, rfl, rp, xs, _, _, rfl, rfl, SqL.of (s2 _ _ hrp), atI_nat ex, _, rfl, b, _, _, .int ((stepN m.R c t : Nat) : Int), rfl, rfl, SqL.of (s2 _ _ hb), ?_, ⟨stepN m.R c t, _, rfl, l2, ?_⟩, rfl⟩
      · refine atI_nat ?_
        rw [List.getElem?_map, natI_get, ev]
        rfl
      · rw [List.take_add_one, ec]
        show _ = runN m.R (_ ++ [c]) m.s
        rw [run_snoc, ← et]
    · rintro σ H' ⟨⟨t, x4, rfl, lt, et⟩, rfl⟩
      rw [List.length_map, natI_len, List.take_length] at et
      rw [et]
      exact ⟨_, rfl, q H' (s1.trans s2)⟩
theorem ok_acc (F : FnP K "accepts" sAcc f fd) (T : AT K mg C) (o_beh : Ok P w K mg base "state_behind" 5 ["automaton", "word"] (spBeh C)) (o_ends : OkMa P w K mg base C "ends" (spEndsA C)) : FnOk P w K mg base CX0 6 f fd ["automaton", "word"] (spAcc C) := by
  refine F.ok scAcc (fun vs H Q E h => ?_) (fun cdv A outer s H vs Q E hr h => ?_)
  · obtain ⟨x, m, y, rfl, _⟩ := h
    rfl
  · obtain ⟨x, m, y, rfl, hx, ok, hy, q⟩ := h
    have r5 : Room 5 (A.deeper (envOfC "accepts" (defScope sAcc) s.heap.objs.size f cdv)) := hr
    refine ⟨_, PSs.nox (pss_one (ps_ret (pe_cmpR op_in_seq (pe_callO o_beh r5 (by rfl) (pa_cons (pv 0) (pa_cons (pv 1) pa_nil))) (pe_endsA o_ends T (pv 0) (r5.mono (by decide))) (by with_unfolding_all rfl)))), ?_⟩
    refine ⟨_, rfl, _, rfl, x, m, y, rfl, hx, ok, hy, fun H1 s1 => ⟨_, rfl, x, m, rfl, hx.keep s1, fun p np => ⟨p, _, rfl, .inl (SqL.of upd_same), rfl, flat_nat _, ?_⟩⟩⟩
    show Q (.bl (inV _ _)) _
    rw [inV_nat]
    exact q _ (s1.trans (same_new np))
theorem ok_full (F : FnP K "rows_for_all_letters" sFull f fd) (T : AT K mg C) (o_cols : Ok P w K mg base "columns_of" 2 ["machine", "word"] (spCols C)) (o_rows : OkMa P w K mg base C "rows" (spRowsA C)) {tM : Tok} (h_A : mg "ALPHABET" = some (.str abc tM)) : FnOk P w K mg base CX0 3 f fd ["automaton"] (spFull C) := by
  have nd := scFull.nd
  refine F.ok scFull (fun vs H Q E h => ?_) (fun cdv A outer s H vs Q E hr h => ?_)
  · obtain ⟨x, m, rfl, _⟩ := h
    rfl
  · obtain ⟨x, m, rfl, hx, ok, q⟩ := h
    have r2 : Room 2 (A.deeper (envOfC "rows_for_all_letters" (defScope sFull) s.heap.objs.size f cdv)) := hr
    have al := abc_len
    refine ⟨_, PSs.nox (pss_cons (ps_set (i := 1) nd rfl (Or.inr rfl) (pe_callO o_cols r2 (by rfl) (pa_cons (pv 0) (pa_cons (pe_glob (v := .str abc) (by rfl) h_A ⟨_, rfl⟩) pa_nil))))
      (pss_one (ps_ret (pe_lc (own := [("row", 2)]) (g := gName 2) (by rfl) nd (pi_list (pe_rowsA o_rows T (pv 0) (r2.mono (by decide)))) (blkOk_by (N := nFull) (sc := defScope sFull) (own := [("row", 2)]) (by decide +kernel)) (fun _ _ _ _ _ => pg_name (i := 2) nd rfl (Or.inr rfl)) (fun _ _ _ _ _ => pts_nil)
        (fun _ _ _ _ _ => pe_lc (own := [("column", 3)]) (g := gName 3) (by rfl) nd (pi_listK (K := K) rfl (pv 1)) blkF (fun _ _ _ _ _ => pg_name (i := 3) nd rfl (Or.inl rfl)) (fun _ _ _ _ _ => pts_nil)
          (fun _ _ _ _ _ => pe_ix (ix_listK (K := K) rfl) (pv 2) (pv 3) (fun _ _ => rfl))))))), ?_⟩
    refine ⟨_, rfl, x, m, abc, rfl, hx, ok, by omega, fun H1 cp s1 ncp hc => ?_⟩
    rw [cols_abc] at hc
    refine ⟨_, rfl, x, m, rfl, hx.keep s1, ok.r2, fun H2 rp s2 nrp ⟨xs, hrp, hP⟩ => ?_⟩
    have lx := hP.len
    rw [List.length_map] at lx
    have r12 := ok.r2
    refine ⟨rp, rfl, ⟨_, SqL.of hrp⟩, fun D nD => lc_list (K := K) (a := rp) (xs := xs) (fun i H' => Same H2 H' ∧ ∃ acc, H' D = some (.lst acc) ∧ Pts H' acc (((fullN m).take i).map natI) ∧ ∀ y ∈ acc, y ≠ .ref D) ⟨same_new nD, [], upd_same, .nil, fun y hy => (by cases hy)⟩ (fun i H' _ p => SqL.of (p.1 _ _ hrp)) ?_ ?_⟩
    · rintro i y H' hi ⟨sm, acc, hD, hA, nA⟩
      obtain ⟨p, ep, ⟨b, rfl, hb⟩⟩ := hP.get hi
      rw [List.getElem?_map] at ep
      obtain ⟨row, er, rfl⟩ := Option.map_eq_some_iff.mp ep
      have li := (List.getElem?_eq_some_iff.mp er).1
      obtain ⟨lrow, _⟩ := ok.rw row (List.mem_of_getElem? er)
      have ef : (fullN m)[i]? = some ((List.range 26).map fun k => row.getD (colA m k) 0) := by
        unfold fullN
        rw [List.getElem?_map, er]
        rfl
      have la := hA.len
      have lf : (fullN m).length = m.R.length := by simp [fullN]
      rw [List.length_map, List.length_take, lf] at la
      have hcp : H' cp = some (.lst ((natI ((List.range 26).map (colA m))).map V.int)) := sm _ _ (s2 _ _ hc)
      refine ⟨rfl, ?_⟩
      refine ⟨_, rfl, cp, rfl, ⟨_, SqL.of hcp⟩, fun D2 nD2 => lc_list (K := K) (a := cp) (xs := (natI ((List.range 26).map (colA m))).map V.int) (fun j H3 => Same H' H3 ∧ H3 D2 = some (.lst ((natI (((List.range 26).map fun k => row.getD (colA m k) 0).take j)).map V.int))) ⟨same_new nD2, upd_same⟩ (fun j H3 _ p => SqL.of (p.1 _ _ hcp)) ?_ ?_⟩
      · rintro j v H3 hj ⟨s3, hD2⟩
        obtain ⟨c, ec, rfl⟩ := int_get hj
        rw [List.getElem?_map] at ec
        obtain ⟨k, ek, rfl⟩ := Option.map_eq_some_iff.mp ec
        have lj := (List.getElem?_eq_some_iff.mp ek).1
        have ej : k = j := by
          rw [List.getElem?_range (by simpa using lj)] at ek
          exact (Option.some.inj ek).symm
        subst ej
        have lc : colA m k < row.length := by
          have := colA_le m k
          omega
        refine ⟨rfl, ?_⟩
        refine ⟨_, rfl, _, rfl, b, _, _, .int ((row.getD (colA m k) 0 : Nat) : Int), rfl, rfl, SqL.of (s3 _ _ (sm _ _ hb)), atI_nat ?_, _, hD2, ?_, fun d o e => ?_, ?_⟩
        · rw [List.getElem?_map, natI_get, List.getD_eq_getElem?_getD, List.getElem?_eq_getElem lc]
          rfl
        · rw [List.length_map, natI_len, List.length_take, List.length_map, List.length_range]
          exact small1000 (by omega)
        · rw [upd_ne (ne_of_none (H := H') e nD2)]
          exact s3 _ _ e
        · rw [upd_same, List.take_add_one, List.getElem?_map, ek]
          unfold natI
          rw [List.map_append, List.map_append]
          rfl
      · rintro H3 ⟨s3, hD2⟩
        rw [List.length_map, natI_len, List.take_of_length_le (Nat.le_of_eq (by simp))] at hD2
        have hD3 := s3 _ _ hD
        have nDD : D2 ≠ D := fun z => by
          rw [z, hD] at nD2
          cases nD2
        have nA3 : ∀ y ∈ acc ++ [V.ref D2], y ≠ .ref D := fun y hy => by
          rcases List.mem_append.mp hy with h | h
          · exact nA y h
          · rw [List.mem_singleton.mp h]
            exact fun z => nDD (V.ref.inj z)
        refine ⟨acc, hD3, small1000 (by omega), fun c o e => ?_, acc ++ [.ref D2], upd_same, ?_, nA3⟩
        · rw [upd_ne (ne_of_none (H := H2) e nD)]
          exact s3 _ _ (sm _ _ e)
        · rw [List.take_add_one, ef, List.map_append]
          exact Pts.updL nA3 (Pts.snoc ⟨D2, rfl, hD2⟩ (hA.keep s3))
    · rintro H' ⟨sm, acc, hD, hA, nA⟩
      have lf : (fullN m).length = m.R.length := by simp [fullN]
      rw [lx, ← lf, List.take_length] at hA
      exact q H' D (((s1.trans s2)).trans sm) (was_none (s1.trans s2) nD) ⟨acc, hD, hA⟩
end
end KF
set_option Elab.async false
set_option linter.all false
set_option maxRecDepth 100000
set_option maxHeartbeats 2000000
/-! for k, v in d.items(), the keys of d tuples. -/
namespace XD
open PySem PySem.Spec PyProof.Rows L2 DT
section
variable {X : Cx} {pins : List (Addr × Obj)} {σ : L2.St} {H : Hp} {s : Shared} {d : Addr} {o : Obj}
theorem frzV {kvs : List (List L2.Key × L2.V)} (I : Inv X pins σ H s) (h : H d = some (.frz o (.dT kvs))) :
    (d == sysModules) = false ∧ s.heap.get? d = some o ∧ o.ExactDict ∧ ∃ (es : Array DictEntry) (ep : Nat), o.data = .dict es ep ∧ es.size = kvs.length ∧
      ∀ (i : Nat) (k : List L2.Key) (v : L2.V), kvs[i]? = some (k, v) → ∃ (en : DictEntry) (q : Addr), es[i]? = some en ∧ en.key = .ref q ∧ H q = some (.tup (k.map kV)) ∧ RelV v en.val := by
  obtain ⟨hd, z, hs, xs, pr, o', es, ep, ho, hx, hdt, he, _⟩ := I.hok d _ h
  cases hd.symm.trans ho
  have l1 : es.size = xs.length := by
    have q := congrArg List.length he
    rw [Array.length_toList, List.length_map] at q
    exact q
  refine ⟨hs, hd, hx, es, ep, hdt, l1.trans (Paired.length pr).symm, fun i k v e => ?_⟩
  obtain ⟨b, hb, e1, e2, e3⟩ := L2.paired_get pr e
  have en : es[i]? = some (entryOfKey (tupleKind (mixKind X.prog X.w)) b) := by
    rw [← Array.getElem?_toList, he, List.getElem?_map, hb]
    rfl
  exact ⟨_, b.2.1, en, rfl, e2, e3⟩
end
/-- the pairs of the locked dict at d, each a new tuple of the key's own tuple and the value -/
def ItiT (d : Addr) (o : Obj) (kvs : List (List L2.Key × L2.V)) : It :=
  ⟨fun i H => H d = some (.frz o (.dT kvs)) ∧ i < kvs.length, fun i H x H' => ∃ T k v q, kvs[i]? = some (k, v) ∧ H q = some (.tup (k.map kV)) ∧ x = .ref T ∧ H T = none ∧ H' = upd H T (.tup [.ref q, v]), fun i H => H d = some (.frz o (.dT kvs)) ∧ kvs.length ≤ i⟩
section
variable {P : Program} {w : World} {K : PySem.W.Frag} {d : Addr} {o : Obj} {es : Array DictEntry} {ep : Nat}
theorem turn_itemsT {kvs : List (List L2.Key × L2.V)} {elts : List Expr} {kk : Nat} {tpos : Pos} (it : Addr) (hod : o.data = .dict es ep) :
    Turn P w K (.Tuple elts kk tpos) (ItiT d o kvs) [it] it (fun i h => ∃ ok ov, IsItemIter h it d i kvs.length ep ok ov) where
  mem := List.mem_singleton.mpr rfl
  obj := fun i h ⟨ok, ov, e⟩ b hb => by
    obtain rfl := List.mem_singleton.mp hb
    exact ⟨_, e, fun v z => nomatch z⟩
  keep := fun i h h' ⟨ok, ov, e⟩ k => ⟨ok, ov, k it (List.mem_singleton.mpr rfl) _ e⟩
  item := by
    intro X hP hw hK hc i pins s σ H E I hf st hg
    subst hP hw hK
    obtain ⟨hd, hi⟩ := hg
    obtain ⟨hs, hgd, hx, es', ep', hdt, hsz, ent⟩ := frzV I hd
    cases hod.symm.trans hdt
    obtain ⟨⟨k, v⟩, hkv⟩ : ∃ p, kvs[i]? = some p := ⟨kvs[i], List.getElem?_eq_getElem hi⟩
    obtain ⟨en, q, hen, hkey, hq, hv⟩ := ent i k v hkv
    obtain ⟨hi2, een⟩ := Array.getElem?_eq_some_iff.mp hen
    obtain ⟨ok, ov, he⟩ := st
    rw [← hsz] at he
    have lt : it < s.heap.objs.size := Heap.lt_size he
    refine nextI he ⟨o, hgd, hx, hdt⟩ hi2 fun h' ho hT hz hk => ?_
    rw [een] at ho hT
    refine ⟨_, rfl, wpAny_letOwnedTupleGo_items (s := { s with heap := h' }) ho fun h2 he2 sb => ?_⟩
    have hT2 : h2.get? s.heap.objs.size = some { cls := .type "tuple", data := .seq #[en.key, en.val] } := (sb.2 _ (Nat.ne_of_gt lt)).trans hT
    have new : ObjOk X.prog X.w (upd H s.heap.objs.size (.tup [.ref q, v])) h2 s.heap.objs.size (.tup [.ref q, v]) :=
      ⟨by show 2 ≤ sizeLine; decide, [en.key, en.val], .cons hkey (.cons hv .nil), ⟨_, hT2, rfl, _, rfl⟩⟩
    have J : Inv X pins σ (upd H s.heap.objs.size (.tup [.ref q, v])) { s with heap := h2 } :=
      I.turnedNew (t' := s.toks) (ch := [it]) (fun b ob hb e => (sb.2 b (fun z => hb (List.mem_singleton.mpr z))).trans (hk b ob (fun z => hb (List.mem_singleton.mpr z)) e)) hf (Nat.le_refl _) new
    refine ⟨.ref s.heap.objs.size, _, J, rfl, ⟨_, k, v, q, hkv, hq, rfl, I.hok.fresh (Nat.le_refl _), rfl⟩, ⟨en.key, en.val, ?_⟩, fun b hb => ?_⟩
    · rw [← hsz]; exact he2
    · obtain rfl := List.mem_singleton.mp hb
      rw [upd_ne (Nat.ne_of_lt lt)]
      exact (hf b (List.mem_singleton.mpr rfl)).1
  done := by
    intro X hP hw hK hc i pins s σ H E I hf st hg
    subst hP hw hK
    obtain ⟨hd, hi⟩ := hg
    obtain ⟨f0, f1, f2, f3, f4, f5⟩ := hf it (List.mem_singleton.mpr rfl)
    obtain ⟨hs, hgd, hx, es', ep', hdt, hsz, ent⟩ := frzV I hd
    cases hod.symm.trans hdt
    obtain ⟨ok, ov, he⟩ := st
    rw [← hsz] at he hi
    exact endI (I.ok.hd hc) he ⟨o, hgd, hx, hdt⟩ hi fun h' eb => ⟨rfl, I.turned (t' := s.toks) (fun b ob hb e => eb b ob hb e) f0 f1 f3 f4 f5⟩
  self := fun A i s Q E st h => let ⟨_, _, e⟩ := st; PySem.W.kcp_self e h
end
def iItemsT (td : TE) : TI := fun σ H R => td σ H fun x H1 => ∃ d o kvs, x = .ref d ∧ H1 d = some (.frz o (.dT kvs)) ∧ R (ItiT d o kvs) H1
section
variable {X : Cx} {e : Expr} {td : TE} {apos cpos : Pos}
theorem pi_itemsT {elts : List Expr} {kk : Nat} {tpos : Pos} (he : PE X e td) (hb : attributeBase e "items" X.env (eval e X.env) = eval e X.env := by rfl) (hl : (apos.endLine == cpos.line) = true := by rfl) :
    PI X (.Tuple elts kk tpos) (.Call (.Attribute e "items" apos) [] [] cpos) (iItemsT td) := by
  refine ⟨fun pins s σ H R I h => ?_⟩
  refine wpAny_Call_method (T := "dict") (id := "dict.items") hb rfl hl F.plainAttrs_dict F.slot_dict_items F.type_dict_items (thn (he.run pins s σ H _ I h) fun u s1 ⟨x, H1, I1, rx, d, o, kvs, ex, hd, q⟩ => ?_)
  subst ex
  obtain rfl : u = Value.ref d := rx
  obtain ⟨hs, hgd, hx, es, ep, hdt, hsz, ent⟩ := frzV I1 hd
  refine ⟨⟨o, hgd, hx.1⟩, fun a e => ?_, ?_⟩
  · cases e
    exact ⟨o, hgd, hx.2.1⟩
  have raw : Raw s1.heap d es ep := ⟨o, hgd, hx, hdt⟩
  have I2 : Inv X pins σ H1 { s1 with heap := s1.heap.push { cls := .type "dict_items", data := .fields #[.ref d] } } := I1.kept (t' := s1.toks) fun b ob q => Heap.get?_push_of_some _ q
  show wpAny _ _ (callWith cpos (.builtin "dict.items") [.ref d] [] []) _ X.xe s1
  refine method_meetsIn F.slot_dict_items F.entry_dict_items rfl (PySem.evalArgs_none ⟨rfl, ⟨o, hgd, hx.1⟩, F.args_dict_items_1 _, _, meetsItems (es := es) (ep := ep) hs, raw, ?_⟩)
  refine iterI (d := d) (es := es) (ep := ep) ⟨_, Heap.get?_push_size _ rfl, rfl, rfl⟩ (raw.push _) (pi_one (tk := s1.toks) I2 _ (turn_itemsT _ hdt) ⟨.none, .none, ?_⟩ q)
  rw [← hsz]
  exact Heap.get?_push_size _ rfl
end
theorem walk_itemsT {d : Addr} {o : Obj} {kvs : List (List L2.Key × L2.V)} : Walk (ItiT d o kvs) kvs.length (fun H => H d = some (.frz o (.dT kvs))) (fun i H x H' => ∃ T k v q, kvs[i]? = some (k, v) ∧ H q = some (.tup (k.map kV)) ∧ x = .ref T ∧ H T = none ∧ H' = upd H T (.tup [.ref q, v])) :=
  ⟨fun _ _ hi q => ⟨q, hi⟩, fun _ q => ⟨q, Nat.le_refl _⟩, fun _ _ _ _ _ _ y => y⟩
end XD
set_option Elab.async false
set_option linter.all false
set_option maxRecDepth 100000
set_option maxHeartbeats 2000000
/-! {k: v}, k a tuple. -/
namespace XD
open PySem PySem.Spec PyProof.Rows L2
def tDisp1T (tk tv : TE) : TE := fun σ H Q => ∀ p, H p = none → tk σ (upd H p (.dT [])) fun y H1 => tv σ H1 fun v H2 => H2 p = some (.dT []) ∧ ∃ (k : List L2.Key) (b : Addr), y = .ref b ∧ H2 b = some (.tup (k.map kV)) ∧ Q (.ref p) (upd H2 p (.dT [(k, v)]))
section
variable {X : Cx} {ke ve : Expr} {tk tv : TE} {pos : Pos}
theorem pe_disp1T (hu : X.A.units < cLine) (hk : PE X ke tk) (hv : PE X ve tv) : PE X (.Dict [some ke] [ve] pos) (tDisp1T tk tv) := by
  refine ⟨fun pins s σ H Q I h => ?_⟩
  have fresh : H s.heap.objs.size = none := I.hok.fresh (Nat.le_refl _)
  have I1 := I.laid (a := s.heap.objs.size) (o := .dT []) (h' := s.heap.push { cls := .type "dict", data := .dict #[] }) (t' := s.toks) (fun _ _ q => Heap.get?_push_of_some _ q) (Nat.le_refl _) (dt_empty s.heap I.big)
  rw [arm_eval_Dict, zip_pairTrees [some ke] [ve] X.env pos rfl rfl, dictDisplay_pairs (pairTrees [some ke] [ve] X.env pos) (fun z => nomatch (show [_] = ([] : List (Sem Value × Sem Value)) from z)) (by show 1 < 17; decide)]
  refine wpAny_bind (wpAny_standAt (wpAny_bind (wpAny_subDictH (knd := tupleKind (mixKind X.prog X.w)) hu (by show 1 ≤ 15; decide) ?_)))
  refine pairTrees_cons_walk (thn (hk.run pins _ σ _ _ I1 (h _ fresh)) fun ku s1 ⟨y, H1, I2, ry, q1⟩ => thn (hv.run pins s1 σ H1 _ I2 q1) fun vu s2 ⟨v, H2, I3, rv, q2⟩ => pairTrees_nil_walk ?_)
  obtain ⟨e, k, b, rfl, eb, q⟩ := q2
  cases (show ku = Value.ref b from ry)
  obtain ⟨z, nd, xs, rl, dict⟩ := dt_of I3.hok e
  cases rl
  refine ⟨[(k, b, vu)], ⟨rfl, rfl, key_of I3.hok eb, trivial⟩, dict, fun h' t' d2 sb => wpAny_pure ?_⟩
  obtain ⟨o, fs, ep, ho, c2, c3, c4, _, c5⟩ := d2
  refine ⟨.ref s.heap.objs.size, upd H2 s.heap.objs.size (.dT [(k, v)]), d_write I3 (by rw [e]; exact True.intro) sb ⟨o, ho⟩ ⟨by show 1 ≤ sizeLine; decide, nd, [(k, b, vu)], .cons ⟨rfl, ?_, rv⟩ .nil, o, fs, ep, ho, c2, c3, c4, c5⟩, rfl, q⟩
  show upd H2 s.heap.objs.size (.dT [(k, v)]) b = _
  rw [upd_ne (ne_of eb e (fun z => nomatch z))]
  exact eb
end
end XD
set_option Elab.async false
set_option linter.all false
set_option maxRecDepth 100000
set_option maxHeartbeats 4000000
namespace KF
open PySem PySem.Spec PyProof.Rows L2 XV NM XT XD XA NB
/-! ### pairs of states as keys -/
abbrev Pr := Nat × Nat
def IsP (H : Hp) (a : Addr) (p : Pr) : Prop := H a = some (.tup [.int (p.1 : Int), .int (p.2 : Int)])
theorem IsP.upd' {H : Hp} {b a : Addr} {o : HO} {p : Pr} (hb : H b = none) (h : IsP H a p) : IsP (L2.upd H b o) a p := by
  unfold IsP
  rw [upd_ne (ne_of_none h hb)]
  exact h
inductive Tps (H : Hp) : List V → List Pr → Prop
  | nil : Tps H [] []
  | cons {a : Addr} {xs : List V} {p : Pr} {ps : List Pr} : IsP H a p → Tps H xs ps → Tps H (.ref a :: xs) (p :: ps)
theorem Tps.keep {H H' : Hp} (s : Same H H') : ∀ {xs : List V} {ps : List Pr}, Tps H xs ps → Tps H' xs ps
  | _, _, .nil => .nil
  | _, _, .cons h r => .cons (s _ _ h) (Tps.keep s r)
theorem Tps.len {H : Hp} : ∀ {xs : List V} {ps : List Pr}, Tps H xs ps → xs.length = ps.length
  | _, _, .nil => rfl
  | _, _, .cons _ r => congrArg (· + 1) (Tps.len r)
theorem Tps.get {H : Hp} : ∀ {xs : List V} {ps : List Pr} {i : Nat} {p : Pr}, Tps H xs ps → ps[i]? = some p → ∃ a, xs[i]? = some (.ref a) ∧ IsP H a p
  | _, _, i, p, .nil, h => by simp at h
  | _, _, 0, p, .cons a r, h => by
    cases h
    exact ⟨_, rfl, a⟩
  | _, _, i + 1, p, .cons a r, h => by
    obtain ⟨l, e, z⟩ := Tps.get (i := i) r (by simpa using h)
    exact ⟨l, by simpa using e, z⟩
theorem Tps.snoc {H : Hp} {a : Addr} {p : Pr} (h : IsP H a p) : ∀ {xs : List V} {ps : List Pr}, Tps H xs ps → Tps H (xs ++ [.ref a]) (ps ++ [p])
  | _, _, .nil => .cons h .nil
  | _, _, .cons g r => .cons g (Tps.snoc h r)
theorem IsP.upd {H : Hp} {b a : Addr} {o u : HO} {p : Pr} (hb : H b = some u) (nu : ∀ l, u ≠ .tup l) (h : IsP H a p) : IsP (upd H b o) a p := by
  unfold IsP
  rw [upd_ne (ne_of h hb (fun z => nu _ z.symm))]
  exact h
theorem Tps.upd {H : Hp} {b : Addr} {o u : HO} (hb : H b = some u) (nu : ∀ l, u ≠ .tup l) : ∀ {xs : List V} {ps : List Pr}, Tps H xs ps → Tps (upd H b o) xs ps
  | _, _, .nil => .nil
  | _, _, .cons g r => .cons (g.upd hb nu) (Tps.upd hb nu r)
/-- a word by its signs -/
def tx (w : List Nat) : Str := ⟨w.toArray⟩
theorem tx_snoc (w : List Nat) (c : Nat) : tx w ++ (⟨#[c]⟩ : Str) = tx (w ++ [c]) := by
  show (⟨w.toArray ++ #[c]⟩ : Str) = ⟨(w ++ [c]).toArray⟩
  congr 1
  simp
theorem tx_len (w : List Nat) : (tx w).length = w.length := by
  show w.toArray.size = _
  simp
theorem cz_tx (w : List Nat) : cz (tx w) = w := by
  show w.toArray.toList = w
  simp
def kp (p : Pr) : List Key := [.inl (p.1 : Int), .inl (p.2 : Int)]
theorem kp_inj {p q : Pr} (h : kp p = kp q) : p = q := by
  unfold kp at h
  simp only [List.cons.injEq, Sum.inl.injEq, Int.natCast_inj, and_true] at h
  exact Prod.ext h.1 h.2
def dictL (L : List (Pr × List Nat)) : List (List Key × V) := L.map fun x => (kp x.1, V.str (tx x.2))
theorem val_none {L : List (Pr × List Nat)} {p : Pr} (h : p ∉ L.map Prod.fst) : valV (dictL L) (kp p) = none := by
  unfold valV
  rw [List.find?_eq_none.mpr]
  · rfl
  · intro x hx
    obtain ⟨y, hy, rfl⟩ := List.mem_map.mp hx
    simp only [decide_eq_true_eq]
    exact fun z => h (List.mem_map.mpr ⟨y, hy, kp_inj z⟩)
theorem val_some {L : List (Pr × List Nat)} {p : Pr} (h : p ∈ L.map Prod.fst) : ∃ v, valV (dictL L) (kp p) = some v := by
  cases e : valV (dictL L) (kp p) with
  | some v => exact ⟨v, rfl⟩
  | none =>
    exfalso
    unfold valV at e
    rw [Option.map_eq_none_iff, List.find?_eq_none] at e
    obtain ⟨x, hx, rfl⟩ := List.mem_map.mp h
    exact e _ (List.mem_map_of_mem (f := fun x : Pr × List Nat => (kp x.1, V.str (tx x.2))) hx) (decide_eq_true rfl)
theorem val_at : ∀ {L : List (Pr × List Nat)} {t : Nat} {p : Pr} {w : List Nat}, (L.map Prod.fst).Nodup → L[t]? = some (p, w) → valV (dictL L) (kp p) = some (.str (tx w))
  | [], t, p, w, _, h => by simp at h
  | (q, u) :: L, 0, p, w, _, h => by
    cases h
    exact valV_pos rfl
  | (q, u) :: L, t + 1, p, w, nd, h => by
    obtain ⟨h1, h2⟩ := List.nodup_cons.mp nd
    have h3 : L[t]? = some (p, w) := by simpa using h
    have ne : ¬ kp q = kp p := fun z => h1 (by rw [kp_inj z]; exact List.mem_map.mpr ⟨_, List.mem_of_getElem? h3, rfl⟩)
    exact (valV_neg (p := (kp q, V.str (tx u))) ne).trans (val_at h2 h3)
/-! ### first_words -/
abbrev sFw : Stmt := top 29
abbrev nFw : List Str := ["start", "follow", "words", "queue", "turn", "state", "at", "letter", "reached"]
theorem scFw : FnScope nFw ["start", "follow"] (defScope sFw) := ⟨rfl, rfl, rfl, by decide +kernel, rfl, by decide +kernel, by decide +kernel⟩
theorem grow_le {α : Type} [DecidableEq α] {f : α → Nat → α} (p : α) (w : List Nat) (L : List (α × List Nat)) {k j : Nat} (h : k ≤ j) : grow f p w L k <+: grow f p w L j := by
  induction j with
  | zero =>
    obtain rfl : k = 0 := by omega
    exact List.prefix_refl _
  | succ j ih =>
    by_cases e : k = j + 1
    · rw [e]
      exact List.prefix_refl _
    · exact (ih (by omega)).trans (add1_pre p w _ j)
structure FwIn (f : Pr → Nat → Pr) (p0 : Pr) (S : List Pr) : Prop where
  h0 : p0 ∈ S
  st : ∀ p k, p ∈ S → k < 26 → f p k ∈ S
  ls : S.length ≤ 150
/-- what first_words makes of a lambda that follows f -/
def TTfw : V → (List V → Hp → VK → Prop) → Hp → VK → Prop := fun v tl H Q => ∃ (f : Pr → Nat → Pr) (p0 : Pr) (S : List Pr) (sa : Addr), v = .ref sa ∧ IsP H sa p0 ∧ FwIn f p0 S ∧
  (∀ (H1 : Hp) (pa : Addr) (p : Pr) (k : Nat) (Q1 : VK), Same H H1 → IsP H1 pa p → p ∈ S → k < 26 → (∀ (H2 : Hp) (t : Addr), Same H1 H2 → IsP H2 t (f p k) → Q1 (.ref t) H2) → tl [.ref pa, .int (k : Int)] H1 Q1) ∧
  ∀ (H1 : Hp) (w : Addr) (T : Nat), Same H H1 → H w = none → H1 w = some (.dT (dictL (bfs f p0 T))) → (bfs f p0 T).length ≤ T → Q (.ref w) H1
section
variable {X : Cx}
theorem fw_gives {g : Addr} {cdg : Value} (z_len : X.mg "len" = none) (z_enum : X.mg "enumerate" = none) {tM : Tok} (h_A : X.mg "ALPHABET" = some (.str abc tM)) (hu : ∀ (s : Shared) (H : Hp), (inX X nFw "first_words" (defScope sFw) g cdg s H).A.units + 64 < cLine) :
    Gives2 X nFw "first_words" (defScope sFw) g cdg (defBody sFw) "follow" 1 2 TTfw := by
  intro fa s H v Q tl Cc act mono hC h
  have nd := scFw.nd
  have hu1 : (inX X nFw "first_words" (defScope sFw) g cdg s H).A.units + 1 < cLine := by have := hu s H; omega
  have hu0 : (inX X nFw "first_words" (defScope sFw) g cdg s H).A.units < cLine := by omega
  obtain ⟨f, p0, S, sa, rfl, hsa, fin, hstep, q⟩ := h
  have szl := sizeLine_eq
  refine ⟨_, pss_cons (ps_par3 (i := 2) (j := 3) (l := 4) rfl nd rfl rfl rfl (by decide) (by decide) (by decide) rfl rfl rfl (pa_cons (pe_disp1T hu0 (pv 0) pe_str) (pa_cons (pe_lst (pa_cons (pv 0) pa_nil)) (pa_cons pe_int pa_nil))) (by rfl))
    (pss_cons (ps_while PassesOwn.never (pt_cmpR op_lt (pv 4) (pe_callB call_len (by rfl) z_len boot_len (pa_cons (pv 3) pa_nil)) (nomark _))
      (pss_cons (ps_set (i := 5) nd rfl (Or.inl rfl) (pe_ix ix_list (pv 3) (pv 4) (fun _ _ => rfl)))
      (pss_cons (ps_for PassesOwn.never rfl (pi_enumS (by rfl) z_enum (pe_glob (v := .str abc) (by rfl) h_A ⟨_, rfl⟩)) (pg_tup rfl (pgs_cons (pg_name (i := 6) nd rfl (Or.inl rfl)) (pgs_cons (pg_name (i := 7) nd rfl (Or.inl rfl)) pgs_nil)))
        (pss_cons (ps_set (i := 8) nd rfl (Or.inl rfl) (act [] _ _ _ _ _ _ (pa_cons (pv 5) (pa_cons (pv 6) pa_nil)) (by rfl) (by rfl)))
        (pss_one (ps_if (pt_cmp (pc_dnotin hu1 (pv 8) (pv 2)))
          (pss_cons (ps_asg (pe_op op_add_str (pe_dget hu1 (pv 2) (pv 5) (fun _ _ => rfl)) (pv 7)) (pg_sub (pv 2) (pv 8) (set_dict hu1)))
          (pss_one (ps_expr (pe_bm PySem.F.plainAttrs_list PySem.F.slot_list_append PySem.F.type_list_append mt_append (pv 3) (pa_cons (pv 8) pa_nil))))) pss_nil))))
      (pss_one (ps_aug (i := 4) nd rfl (Or.inl rfl) pe_int ip_add)))))
    (pss_one (ps_ret (pv 2)))), ?_⟩
  refine fun w0 nw => ⟨_, rfl, upd_same, kp p0, sa, rfl, IsP.upd' nw hsa, _, rfl, (by show 1 ≤ sizeLine; omega), fun qa nq => ⟨_, _, _, rfl, ?_⟩⟩
  have e0 : upd (upd H w0 (.dT [])) w0 (.dT [(kp p0, V.str "")]) = upd H w0 (.dT [(kp p0, V.str "")]) := by
    funext b
    by_cases hb : b = w0
    · rw [hb, upd_same, upd_same]
    · rw [upd_ne hb, upd_ne hb, upd_ne hb]
  rw [e0] at nq ⊢
  have s1 := same_new (o := .dT [(kp p0, V.str "")]) nw
  have s2 := same_new (o := .lst [V.ref sa]) nq
  have nqH := was_none s1 nq
  have wq : w0 ≠ qa := ne_of_none (H := upd H w0 (.dT [(kp p0, V.str "")])) upd_same nq
  have bd := fun t => bfs_size (f := f) fin.h0 fin.st t
  have l150 := fin.ls
  refine ⟨fun m σ H1 => ∃ t qs x5 x6 x7 x8, m + t = 151 ∧ σ = [some (.ref sa), some (.ref fa), some (.ref w0), some (.ref qa), some (.int ((t : Nat) : Int)), x5, x6, x7, x8] ∧ Same H H1 ∧ H1 w0 = some (.dT (dictL (bfs f p0 t))) ∧ H1 qa = some (.lst qs) ∧ Tps H1 qs ((bfs f p0 t).map Prod.fst) ∧ t ≤ (bfs f p0 t).length,
    ⟨151, 0, [V.ref sa], _, _, _, _, rfl, rfl, s1.trans s2, s2 _ _ upd_same, upd_same, .cons (s2 _ _ (s1 _ _ hsa)) .nil, Nat.zero_le _⟩, ?_⟩
  rintro m σ H1 ⟨t, qs, x5, x6, x7, x8, em, rfl, sm, hw, hq, hT, lt⟩
  have lq := hT.len
  rw [List.length_map] at lq
  have bt := bd t
  refine ⟨_, rfl, _, rfl, _, (bfs f p0 t).length, rfl, .inl ⟨_, SqL.of hq, lq.symm⟩, _, _, rfl, rfl, _, rfl, ?_⟩
  by_cases c : t < (bfs f p0 t).length
  · rw [decide_eq_true (show ((t : Nat) : Int) < ((bfs f p0 t).length : Int) by omega)]
    refine iteT ⟨_, fun σ' H' z => ⟨m - 1, by omega, z⟩, ?_⟩
    obtain ⟨⟨p, wd⟩, hp⟩ : ∃ x, (bfs f p0 t)[t]? = some x := ⟨_, List.getElem?_eq_getElem c⟩
    obtain ⟨pa, ep, hpa⟩ := hT.get (by rw [List.getElem?_map, hp]; rfl)
    have pS : p ∈ S := bfs_all (f := f) (Pr := fun p _ => p ∈ S) fin.h0 (fun p _ k hp hk => fin.st p k hp hk) t _ (List.mem_of_getElem? hp)
    have lw : wd.length ≤ t := bfs_len (f := f) p0 t t _ hp
    refine ⟨_, rfl, _, rfl, qa, qs, _, _, rfl, rfl, SqL.of hq, atI_nat ep, ?_⟩
    refine ⟨abc, rfl, by decide +kernel, for_it walk_enumS (fun k σ H2 => ∃ qs x6 x7 x8, σ = [some (.ref sa), some (.ref fa), some (.ref w0), some (.ref qa), some (.int ((t : Nat) : Int)), some (.ref pa), x6, x7, x8] ∧ Same H H2 ∧ H2 w0 = some (.dT (dictL (grow f p wd (bfs f p0 t) k))) ∧ H2 qa = some (.lst qs) ∧ Tps H2 qs ((grow f p wd (bfs f p0 t) k).map Prod.fst) ∧ IsP H2 pa p)
      ⟨qs, _, _, _, rfl, sm, hw, hq, hT, hpa⟩ (fun _ _ _ _ _ => trivial) ?_ ?_⟩
    · rintro k v σ H2 H3 hk ⟨qs2, x6, x7, x8, rfl, sm2, hw2, hq2, hT2, hpa2⟩ ⟨T', a, b, rfl, nT, rfl, ea, eb⟩
      obtain rfl : V.int (k : Nat) = a := Option.some.inj ea
      obtain ⟨cc, ec, rfl⟩ := Option.map_eq_some_iff.mp eb
      have hk26 : k < 26 := by
        have := abc_len
        have e : abc.cps.size = abc.length := rfl
        omega
      have ecc : cc = 97 + k := by
        have e1 : (cz abc)[k]? = some cc := by rw [← cz_at]; exact ec
        rw [abc_cz, List.getElem?_map, List.getElem?_range hk26] at e1
        exact (Option.some.inj e1).symm
      subst ecc
      have sT := same_new (o := .tup [.int (k : Nat), .str ⟨#[97 + k]⟩]) nT
      have hw3 := sT _ _ hw2
      have hq3 := sT _ _ hq2
      have hT3 := hT2.keep sT
      have hpa3 : IsP _ pa p := sT _ _ hpa2
      have sm3 := sm2.trans sT
      refine ⟨T', _, rfl, SqT.of upd_same, rfl, ?_⟩
      generalize upd H2 T' (.tup [.int (k : Nat), .str ⟨#[97 + k]⟩]) = H3 at *
      refine ⟨_, _, rfl, _, _, rfl, rfl, ?_⟩
      refine ⟨rfl, _, rfl, _, rfl, rfl, mono _ _ (LamX.ExtN.of sm3) hC, hstep H3 pa p k _ sm3 hpa3 pS hk26 fun H4 tt s4 htt => ?_⟩
      have hw4 := s4 _ _ hw3
      have hq4 := s4 _ _ hq3
      have hT4 := hT3.keep s4
      have hpa4 : IsP _ pa p := s4 _ _ hpa3
      have sm4 := sm3.trans s4
      have gl : (grow f p wd (bfs f p0 t) k).length ≤ 150 := by
        have h1 : (grow f p wd (bfs f p0 t) k) <+: (bfs f p0 (t + 1)) := by
          rw [bfs_succ hp]
          exact grow_le p wd _ (by omega : k ≤ 26)
        have h2 := h1.length_le
        have := bd (t + 1)
        omega
      refine ⟨_, rfl, _, rfl, w0, _, rfl, DGet.t hw4 (k := kp (f p k)) htt, ?_⟩
      by_cases cm : f p k ∈ (grow f p wd (bfs f p0 t) k).map Prod.fst
      · obtain ⟨vv, ev⟩ := val_some cm
        rw [ev]
        refine ⟨_, rfl, iteF ⟨qs2, _, _, _, rfl, sm4, ?_, hq4, ?_, hpa4⟩⟩
        · show _ = some (HO.dT (dictL (add1 f p wd (grow f p wd (bfs f p0 t) k) k)))
          unfold add1
          rw [if_pos cm]
          exact hw4
        · show Tps _ _ ((add1 f p wd (grow f p wd (bfs f p0 t) k) k).map Prod.fst)
          unfold add1
          rw [if_pos cm]
          exact hT4
      · rw [val_none cm]
        have ew : valV (dictL (grow f p wd (bfs f p0 t) k)) (kp p) = some (.str (tx wd)) := val_at (grow_nd (bfs_nd p0 t) k) (pre_get (grow_pre p wd _ k) hp)
        refine ⟨_, rfl, iteT ?_⟩
        have gd := DGet.t hw4 (k := kp p) hpa4
        rw [ew] at gd
        refine ⟨_, rfl, _, rfl, w0, _, rfl, gd, _, rfl, _, _, rfl, rfl, ?_, ?_⟩
        · rw [tx_len]
          show wd.length + 1 ≤ sizeLine
          omega
        rw [tx_snoc]
        refine ⟨_, rfl, _, rfl, w0, _, rfl, DPut.t hw4 (k := kp (f p k)) htt (by unfold dictL; rw [List.length_map]; omega), ?_⟩
        rw [putK_new _ (val_none cm)]
        have hw5 : upd H4 w0 (HO.dT (dictL (grow f p wd (bfs f p0 t) k) ++ [(kp (f p k), V.str (tx (wd ++ [97 + k])))])) w0 = some (HO.dT (dictL (grow f p wd (bfs f p0 t) k) ++ [(kp (f p k), V.str (tx (wd ++ [97 + k])))])) := upd_same
        have hq5 : upd H4 w0 (HO.dT (dictL (grow f p wd (bfs f p0 t) k) ++ [(kp (f p k), V.str (tx (wd ++ [97 + k])))])) qa = some (.lst qs2) := by
          rw [upd_ne (Ne.symm wq)]
          exact hq4
        have hT5 := Tps.upd (o := HO.dT (dictL (grow f p wd (bfs f p0 t) k) ++ [(kp (f p k), V.str (tx (wd ++ [97 + k])))])) hw4 (fun l z => by cases z) hT4
        have htt5 := IsP.upd (o := HO.dT (dictL (grow f p wd (bfs f p0 t) k) ++ [(kp (f p k), V.str (tx (wd ++ [97 + k])))])) hw4 (fun l z => by cases z) htt
        have hpa5 := IsP.upd (o := HO.dT (dictL (grow f p wd (bfs f p0 t) k) ++ [(kp (f p k), V.str (tx (wd ++ [97 + k])))])) hw4 (fun l z => by cases z) hpa4
        have sm5 : Same H (upd H4 w0 (HO.dT (dictL (grow f p wd (bfs f p0 t) k) ++ [(kp (f p k), V.str (tx (wd ++ [97 + k])))]))) := fun b o e => by
          rw [upd_ne (ne_of_none e nw)]
          exact sm4 _ _ e
        generalize upd H4 w0 (HO.dT (dictL (grow f p wd (bfs f p0 t) k) ++ [(kp (f p k), V.str (tx (wd ++ [97 + k])))])) = H5 at *
        have lq2 := hT2.len
        rw [List.length_map] at lq2
        refine ⟨_, rfl, .inl ⟨rfl, _, SqL.of hq5⟩, _, rfl, qa, qs2, .ref tt, rfl, rfl, hq5, small1000 (by omega), ?_⟩
        have eg : grow f p wd (bfs f p0 t) (k + 1) = grow f p wd (bfs f p0 t) k ++ [(f p k, wd ++ [97 + k])] := by
          show add1 f p wd (grow f p wd (bfs f p0 t) k) k = _
          unfold add1
          rw [if_neg cm]
        refine ⟨qs2 ++ [.ref tt], _, _, _, rfl, fun b o e => ?_, ?_, upd_same, ?_, IsP.upd hq5 (fun l z => by cases z) hpa5⟩
        · rw [upd_ne (ne_of_none e nqH)]
          exact sm5 _ _ e
        · rw [upd_ne wq, hw5, eg]
          unfold dictL
          rw [List.map_append]
          rfl
        · rw [eg, List.map_append]
          exact Tps.upd hq5 (fun l z => by cases z) (Tps.snoc htt5 hT5)
    · rintro σ H2 ⟨qs2, x6, x7, x8, rfl, sm2, hw2, hq2, hT2, hpa2⟩
      have e26 : abc.cps.size = 26 := abc_len
      rw [e26, ← bfs_succ hp] at hw2 hT2
      have l1 := (bfs_pre1 (f := f) p0 t).length_le
      have g26 : grow f p wd (bfs f p0 t) 26 = bfs f p0 (t + 1) := (bfs_succ hp).symm
      have lt2 : t + 1 ≤ (bfs f p0 (t + 1)).length := by omega
      have bt1 := bd (t + 1)
      refine ⟨_, rfl, _, _, rfl, rfl, ?_⟩
      exact ⟨t + 1, qs2, _, _, _, _, by omega, rfl, sm2, hw2, hq2, hT2, lt2⟩
  · rw [decide_eq_false (show ¬ ((t : Nat) : Int) < ((bfs f p0 t).length : Int) by omega)]
    refine iteF ⟨_, rfl, ?_⟩
    exact q H1 w0 t sm nw hw (by omega)
end
end KF
set_option Elab.async false
set_option linter.all false
set_option maxRecDepth 100000
set_option maxHeartbeats 2000000
/-! A def by its body, its code object known. -/
namespace XA
open PySem PySem.Spec PyProof.Rows L2 LamX
section
variable {P : Program} {w : World} {K : PySem.W.Frag} {mg : Str → Option Value} {base : Heap} {x qual : Str} {params : Arguments} {body : List Stmt} {scope : Scope} {dvs : List L2.V} {kws : List (Str × L2.V)} {f : Addr} {fd : FuncData}
theorem okC {CX : CXT} {N ps : List Str} {k : Nat} {sp : Sp} {c : Addr} (F : FunD K x qual params body scope dvs kws f fd) (hc : fd.code = .ref c) (S : FnScope N ps scope) (len : ∀ vs H Q E, sp vs H Q E → vs.length = ps.length)
    (bd : ∀ (A : Around) (o : List Env) (s : Shared) (H : Hp) (vs : List L2.V) (Q : VK) (E : XK), Room k (A.deeper (envOfC qual scope s.heap.objs.size f (.ref c))) → sp vs H Q E →
      ∃ t, PSs (cxOf CX P w K mg base N qual scope f (.ref c) A o s H E) body t ∧ t { nx := fun _ H' => Q .non H', rt := Q } (start N vs) H) : FnOk P w K mg base CX (k + 1) f fd ps sp := by
  obtain ⟨oc, od, dV, kV, doc, pm, an, cdv, ct, osl, rfl, lk, hcd, _, _⟩ := F.ex
  obtain rfl : cdv = .ref c := hc
  exact fn_of lk hcd S len bd
end
end XA
set_option Elab.async false
set_option linter.all false
set_option maxRecDepth 100000
set_option maxHeartbeats 4000000
namespace KF
open PySem PySem.Spec PyProof.Rows L2 XV NM XT XD XA NB LamX
/-! ### parting_word -/
abbrev sPw : Stmt := top 27
abbrev nPw : List Str := ["one", "other", "rows", "rivals", "ends", "lasts", "words", "pair", "word"]
theorem scPw : FnScope nPw ["one", "other"] (defScope sPw) := ⟨rfl, rfl, rfl, by decide +kernel, rfl, by decide +kernel, by decide +kernel⟩
abbrev scLam : Scope := { kind := .function, names := [(Str.ofString "pair", .local), (Str.ofString "at", .local), (Str.ofString "rivals", .free), (Str.ofString "rows", .free)], isGenerator := false, isCoroutine := false }
theorem lamOk : LamP (defScope sPw) scLam ["pair", "at"] := lamP_by (by decide +kernel)
def qLam : Str := "parting_word.<locals>.<lambda>"
def pst (m n : Am) (p : Pr) (k : Nat) : Pr := (stp m p.1 k, stp n p.2 k)
def allP (m n : Am) : List Pr := (List.range m.R.length).flatMap fun a => (List.range n.R.length).map fun b => (a, b)
theorem allP_mem {m n : Am} {p : Pr} : p ∈ allP m n ↔ p.1 < m.R.length ∧ p.2 < n.R.length := by
  unfold allP
  rw [List.mem_flatMap]
  constructor
  · rintro ⟨a, ha, h⟩
    obtain ⟨b, hb, rfl⟩ := List.mem_map.mp h
    exact ⟨List.mem_range.mp ha, List.mem_range.mp hb⟩
  · rintro ⟨h1, h2⟩
    exact ⟨p.1, List.mem_range.mpr h1, List.mem_map.mpr ⟨p.2, List.mem_range.mpr h2, rfl⟩⟩
theorem sum_const (c : Nat) : ∀ l : List Nat, (l.map fun _ => c).sum = l.length * c
  | [] => by simp
  | x :: l => by
    rw [List.map_cons, List.sum_cons, sum_const c l, List.length_cons, Nat.succ_mul, Nat.add_comm]
theorem allP_len (m n : Am) : (allP m n).length = m.R.length * n.R.length := by
  unfold allP
  rw [List.length_flatMap]
  rw [show (List.map (fun a => ((List.range n.R.length).map fun b => ((a, b) : Pr)).length) (List.range m.R.length)) = (List.range m.R.length).map (fun _ => n.R.length) from List.map_congr_left fun a _ => by rw [List.length_map, List.length_range]]
  rw [sum_const, List.length_range]
theorem fwIn {m n : Am} (om : AmOk m) (on : AmOk n) : FwIn (pst m n) (m.s, n.s) (allP m n) := by
  refine ⟨allP_mem.mpr ⟨om.hs, on.hs⟩, fun p k hp _ => ?_, ?_⟩
  · obtain ⟨h1, h2⟩ := allP_mem.mp hp
    exact allP_mem.mpr ⟨stp_lt om h1 k, stp_lt on h2 k⟩
  · rw [allP_len]
    have h1 := om.r2
    have h2 := on.r2
    have : m.R.length * n.R.length ≤ 12 * 12 := Nat.mul_le_mul h1 h2
    omega
def unl (m n : Am) (p : Pr) : Bool := decide (p.1 ∈ m.es) != decide (p.2 ∈ n.es)
/-- the word that parts two automata -/
def prt (m n : Am) : Option (List Nat) := res (unl m n) (bfs (pst m n) (m.s, n.s) 151)
def optV : Option (List Nat) → V
  | none => .non
  | some w => .str (tx w)
theorem bfs_fin {α : Type} [DecidableEq α] {f : α → Nat → α} {p0 : α} {t u : Nat} (ht : (bfs f p0 t).length ≤ t) (hu : (bfs f p0 u).length ≤ u) : bfs f p0 t = bfs f p0 u := by
  rcases Nat.le_total t u with h | h
  · exact (bfs_stay ht h).symm
  · exact bfs_stay hu h
theorem pst_fin {m n : Am} (om : AmOk m) (on : AmOk n) {T : Nat} (hT : (bfs (pst m n) (m.s, n.s) T).length ≤ T) : bfs (pst m n) (m.s, n.s) T = bfs (pst m n) (m.s, n.s) 151 := by
  have fi := fwIn om on
  have h := bfs_size (f := pst m n) fi.h0 fi.st 151
  have := fi.ls
  exact bfs_fin hT (by omega)
theorem res_at {α : Type} {u : α → Bool} : ∀ {L : List (α × List Nat)} {i : Nat} {x : α × List Nat}, L[i]? = some x → (∀ j y, j < i → L[j]? = some y → u y.1 = false) → u x.1 = true → res u L = some x.2
  | [], i, x, h, _, _ => by simp at h
  | y :: L, 0, x, h, _, hx => by
    cases h
    unfold res
    rw [List.find?_cons_of_pos (by exact hx)]
    rfl
  | y :: L, i + 1, x, h, no, hx => by
    have hy := no 0 y (by omega) rfl
    have ih := res_at (L := L) (i := i) (by simpa using h) (fun j z hj hz => no (j + 1) z (by omega) (by simpa using hz)) hx
    unfold res at ih ⊢
    rw [List.find?_cons_of_neg (by rw [hy]; decide)]
    exact ih
theorem res_no {α : Type} {u : α → Bool} {L : List (α × List Nat)} (no : ∀ j y, j < L.length → L[j]? = some y → u y.1 = false) : res u L = none := by
  unfold res
  rw [List.find?_eq_none.mpr]
  · rfl
  · intro y hy
    obtain ⟨j, hj, rfl⟩ := List.mem_iff_getElem.mp hy
    rw [no j _ hj (List.getElem?_eq_getElem hj)]
    decide
theorem rl_at {H : Hp} {a : Addr} {R : List (List Nat)} {i k x : Nat} {r : List Nat} (h : RL H a R) (e : R[i]? = some r) (ek : r[k]? = some x) : ∃ xs b, H a = some (.lst xs) ∧ xs[i]? = some (.ref b) ∧ H b = some (.lst ((natI r).map V.int)) ∧ ((natI r).map V.int)[k]? = some (.int (x : Int)) := by
  obtain ⟨xs, ha, hP⟩ := h
  have li := (List.getElem?_eq_some_iff.mp e).1
  have lx := hP.len
  rw [List.length_map] at lx
  have ex : xs[i]? = some (xs[i]'(by omega)) := List.getElem?_eq_getElem (by omega)
  obtain ⟨pp, ep, ⟨b, eb, hb⟩⟩ := hP.get ex
  rw [List.getElem?_map, e] at ep
  cases ep
  rw [eb] at ex
  refine ⟨xs, b, ha, ex, hb, ?_⟩
  rw [List.getElem?_map, natI_get, ek]
  rfl
/-- two automata, or what is none -/
def PwA (K : PySem.W.Frag) (C : Addr) (H : Hp) (u v : V) (E : XK) (R : Am → Am → Prop) : Prop := (NoA K H u ∧ Rz E H (CF K 0) u) ∨ ∃ x m, u = .ref x ∧ Au C H x m ∧ ((NoA K H v ∧ Rz E H (CF K 0) v) ∨ ∃ y n, v = .ref y ∧ Au C H y n ∧ AmOk m ∧ AmOk n ∧ R m n)
def spPw (K : PySem.W.Frag) (C P : Addr) : Sp := fun vs H Q E => ∃ u v, vs = [u, v] ∧ PwA K C H u v E fun m n => Tabs [(P, qLam)] H ∧ ∀ H', ExN H H' → Tabs [(P, qLam)] H' → Q (optV (prt m n)) H'
section
variable {P : Program} {w : World} {K : PySem.W.Frag} {mg : Str → Option Value} {base : Heap} {f : Addr} {fd : FuncData} {C : Addr}
theorem ok_pw {cd Tb ffw : Addr} {fdw : FuncData} (F : FnP K "parting_word" sPw f fd) (hcd : fd.code = .ref cd) (TB : TabB base mg cd Tb) (Fw : FnP K "first_words" sFw ffw fdw) (g_fw : mg "first_words" = some (.ref ffw)) (bfw : Binds K fdw ["start", "follow"] []) (T : AT K mg C)
    (o_reqA : OkX P w K mg base "require_automaton" 3 ["automaton"] (spReqA K C)) (o_full : Ok P w K mg base "rows_for_all_letters" 3 ["automaton"] (spFull C)) (o_ends : OkMa P w K mg base C "ends" (spEndsA C)) (o_start : OkMa P w K mg base C "start" (spStartA C))
    (z_len : mg "len" = none) (z_enumerate : mg "enumerate" = none) {tM : Tok} (h_ALPHABET : mg "ALPHABET" = some (.str abc tM)) : FnOk P w K mg base (L2.CX P w) 5 f fd ["one", "other"] (spPw K C Tb) := by
  have nd := scPw.nd
  refine okC F hcd scPw (fun vs H Q E h => ?_) (fun A outer s H vs Q E hr h => ?_)
  · obtain ⟨u, v, rfl, _⟩ := h
    rfl
  · obtain ⟨u, v, rfl, h⟩ := h
    have r3 : Room 3 (A.deeper (envOfC "parting_word" (defScope sPw) s.heap.objs.size f (.ref cd))) := hr.mono (by decide)
    have r1 := r3.mono (by decide : 1 ≤ 3)
    have r2 := r3.mono (by decide : 2 ≤ 3)
    refine ⟨_, pss_cons (ps_expr (pe_callX (E := E) o_reqA (takes_of rfl rfl rfl rfl) r3 (by rfl) (pa_cons (pv 0) pa_nil)))
      (pss_cons (ps_expr (pe_callX (E := E) o_reqA (takes_of rfl rfl rfl rfl) r3 (by rfl) (pa_cons (pv 1) pa_nil)))
      (pss_cons (ps_asg (pe_tup (pa_cons (pe_callO o_full r3 (by rfl) (pa_cons (pv 0) pa_nil)) (pa_cons (pe_callO o_full r3 (by rfl) (pa_cons (pv 1) pa_nil)) pa_nil))) (pg_tup rfl (pgs_cons (pg_name (i := 2) nd rfl (Or.inr rfl)) (pgs_cons (pg_name (i := 3) nd rfl (Or.inr rfl)) pgs_nil))))
      (pss_cons (ps_par (i := 4) (j := 5) rfl nd rfl rfl (by decide) rfl rfl (pa_cons (pe_endsA o_ends T (pv 0) r1) (pa_cons (pe_endsA o_ends T (pv 1) r1) pa_nil)) (by rfl))
      (pss_cons (ps_set (i := 6) nd rfl (Or.inl rfl) (pe_lamcall2 (k := 1) (T := [(Tb, qLam)]) (ps := ["pair", "at"]) (tb := _) Fw g_fw (by rfl) bfw scFw rfl (Or.inl rfl) (pe_tup (pa_cons (pe_startA o_start T (pv 0) r1) (pa_cons (pe_startA o_start T (pv 1) r1) pa_nil)))
          (fun cdg => fw_gives z_len z_enumerate h_ALPHABET (fun s H => (r3.deeper _).units)) TB rfl (List.mem_singleton.mpr rfl) (fun p hp _ => by rw [List.mem_singleton.mp hp]; rfl) r3 lamOk rfl (fun _ _ _ _ _ us hl => match us, hl with | [_, _], _ => rfl)
          (fun A outer s H E f c' hr2 => pe_tup (pa_cons (pe_ix (ix_listK (K := K) rfl) (pe_ix (ix_listK (K := K) rfl) (pv 4) (pe_ix (ix_tupK (K := K) rfl) (pv 0) pe_int (fun _ _ => rfl)) (fun _ _ => rfl)) (pv 1) (fun _ _ => rfl)) (pa_cons (pe_ix (ix_listK (K := K) rfl) (pe_ix (ix_listK (K := K) rfl) (pv 5) (pe_ix (ix_tupK (K := K) rfl) (pv 0) pe_int (fun _ _ => rfl)) (fun _ _ => rfl)) (pv 1) (fun _ _ => rfl)) pa_nil)))))
      (pss_cons (ps_lock (ps_for (passes_of rfl) rfl (pi_itemsT (pv 6)) (pg_tup rfl (pgs_cons (pg_name (i := 7) nd rfl (Or.inl rfl)) (pgs_cons (pg_name (i := 8) nd rfl (Or.inl rfl)) pgs_nil)))
        (pss_one (ps_if (pt_cmpR op_ne (pe_cmpR op_in_seq (pe_ix (ix_tupK (K := K) rfl) (pv 7) pe_int (fun _ _ => rfl)) (pv 4) (by with_unfolding_all rfl)) (pe_cmpR op_in_seq (pe_ix (ix_tupK (K := K) rfl) (pv 7) pe_int (fun _ _ => rfl)) (pv 5) (by with_unfolding_all rfl)) (nomark _)) (pss_one (ps_ret (pv 8))) pss_nil))))
      (pss_one (ps_ret pe_non))))))), ?_⟩
    rcases h with ⟨n, r⟩ | ⟨x, m, rfl, hx, h⟩
    · exact ⟨_, rfl, _, rfl, .inr ⟨n, r⟩⟩
    refine ⟨_, rfl, _, rfl, .inl ⟨x, m, rfl, hx, ?_⟩⟩
    rcases h with ⟨n, r⟩ | ⟨y, n, rfl, hy, om, on, hT, q⟩
    · exact ⟨_, rfl, _, rfl, .inr ⟨n, r⟩⟩
    refine ⟨_, rfl, _, rfl, .inl ⟨y, n, rfl, hy, ?_⟩⟩
    refine ⟨_, rfl, x, m, rfl, hx, om, fun H1 ra s1 nra hra => ?_⟩
    refine ⟨_, rfl, y, n, rfl, hy.keep s1, on, fun H2 rb s2 nrb hrb => ?_⟩
    have s02 := s1.trans s2
    refine ⟨(by show 2 ≤ sizeLine; rw [sizeLine_eq]; decide), fun t nt => ⟨t, _, rfl, SqT.of upd_same, rfl, _, _, rfl, _, _, rfl, rfl, ?_⟩⟩
    have s03 := s02.trans (same_new (o := .tup [V.ref ra, V.ref rb]) nt)
    have hra3 := (hra.keep s2).keep (same_new (o := .tup [V.ref ra, V.ref rb]) nt)
    have hrb3 := hrb.keep (same_new (o := .tup [V.ref ra, V.ref rb]) nt)
    generalize upd H2 t (.tup [V.ref ra, V.ref rb]) = H3 at *
    have hx3 := hx.keep s03
    have hy3 := hy.keep s03
    refine ⟨_, rfl, x, m, rfl, hx3, fun ea nea => ?_⟩
    have s34 := same_new (o := .lst ((natI m.es).map V.int)) nea
    refine ⟨_, rfl, y, n, rfl, hy3.keep s34, fun eb neb => ⟨_, _, rfl, ?_⟩⟩
    have s45 := same_new (o := .lst ((natI n.es).map V.int)) neb
    have hea : upd (upd H3 ea (.lst ((natI m.es).map V.int))) eb (.lst ((natI n.es).map V.int)) ea = some (.lst ((natI m.es).map V.int)) := s45 _ _ upd_same
    have heb : upd (upd H3 ea (.lst ((natI m.es).map V.int))) eb (.lst ((natI n.es).map V.int)) eb = some (.lst ((natI n.es).map V.int)) := upd_same
    have s05 := (s03.trans s34).trans s45
    have hra5 := (hra3.keep s34).keep s45
    have hrb5 := (hrb3.keep s34).keep s45
    have hx5 := (hx3.keep s34).keep s45
    have hy5 := (hy3.keep s34).keep s45
    generalize upd (upd H3 ea (.lst ((natI m.es).map V.int))) eb (.lst ((natI n.es).map V.int)) = H5 at *
    have hT5 : Tabs [(Tb, qLam)] H5 := hT.ext s05
    -- the start
    refine ⟨_, rfl, x, m, rfl, hx5, _, rfl, y, n, rfl, hy5, (by show 2 ≤ sizeLine; rw [sizeLine_eq]; decide), fun sa nsa => ?_⟩
    have s56 := same_new (o := .tup [V.int (m.s : Int), V.int (n.s : Int)]) nsa
    refine ⟨hT5.ext s56, fun H6 e6 T6 => ?_⟩
    have hsa6 : IsP H6 sa (m.s, n.s) := ExN.tup e6 upd_same
    have e56 : ExN H5 H6 := (ExN.of s56).trans e6
    have hra6 := hra5.keepN e56
    have hrb6 := hrb5.keepN e56
    have hea6 := ExN.lst e56 hea
    have heb6 := ExN.lst e56 heb
    have e06 : ExN H H6 := (ExN.of s05).trans e56
    refine ⟨pst m n, (m.s, n.s), allP m n, sa, rfl, hsa6, fwIn om on, fun H7 pa p k Q7 s7 hpa pS hk q7 => ?_, fun H7 wd Tt s7 nwd hwd hlt => ?_⟩
    · obtain ⟨p1, p2⟩ := allP_mem.mp pS
      obtain ⟨r1', er1, ek1⟩ := full_at om p1 hk
      obtain ⟨r2', er2, ek2⟩ := full_at on p2 hk
      obtain ⟨xs1, b1, ha1, ex1, hb1, ey1⟩ := rl_at (hra6.keep s7) er1 ek1
      obtain ⟨xs2, b2, ha2, ex2, hb2, ey2⟩ := rl_at (hrb6.keep s7) er2 ek2
      have at0 : atI [V.int (p.1 : Int), V.int (p.2 : Int)] ((0 : Nat) : Int) = some (V.int (p.1 : Int)) := atI_nat rfl
      have at1 : atI [V.int (p.1 : Int), V.int (p.2 : Int)] ((1 : Nat) : Int) = some (V.int (p.2 : Int)) := atI_nat rfl
      refine ⟨_, rfl, _, rfl, pa, _, _, _, rfl, rfl, SqT.of hpa, at0, ra, xs1, _, _, rfl, rfl, SqL.of ha1, atI_nat ex1, _, rfl, b1, _, _, _, rfl, rfl, SqL.of hb1, atI_nat ey1, ?_⟩
      refine ⟨_, rfl, _, rfl, pa, _, _, _, rfl, rfl, SqT.of hpa, at1, rb, xs2, _, _, rfl, rfl, SqL.of ha2, atI_nat ex2, _, rfl, b2, _, _, _, rfl, rfl, SqL.of hb2, atI_nat ey2, ?_⟩
      exact ⟨(by show 2 ≤ sizeLine; rw [sizeLine_eq]; decide), fun tt ntt => q7 _ tt (same_new ntt) upd_same⟩
    · have eL := pst_fin om on hlt
      have er : prt m n = res (unl m n) (bfs (pst m n) (m.s, n.s) Tt) := by
        unfold prt
        rw [eL]
      rw [er] at q
      have hea7 := s7 _ _ hea6
      have heb7 := s7 _ _ heb6
      generalize bfs (pst m n) (m.s, n.s) Tt = L at hwd hlt q
      refine ⟨wd, _, hwd, trivial, fun od => ?_⟩
      have key : ∀ H', Same (upd H7 wd (.frz od (.dT (dictL L)))) H' → ExN H (upd H' wd (.dT (dictL L))) ∧ Tabs [(Tb, qLam)] (upd H' wd (.dT (dictL L))) := fun H' s8 => by
        have s68 : Same H6 (upd H' wd (.dT (dictL L))) := fun b o e => by
          have nb : b ≠ wd := fun z => by
            rw [z, nwd] at e
            cases e
          rw [upd_ne nb]
          refine s8 _ _ ?_
          rw [upd_ne nb]
          exact s7 _ _ e
        exact ⟨e06.trans (ExN.of s68), T6.ext s68⟩
      have wea : ea ≠ wd := fun z => by rw [z, nwd] at hea6; cases hea6
      have web : eb ≠ wd := fun z => by rw [z, nwd] at heb6; cases heb6
      have hea8 : upd H7 wd (.frz od (.dT (dictL L))) ea = some (.lst ((natI m.es).map V.int)) := by rw [upd_ne wea]; exact hea7
      have heb8 : upd H7 wd (.frz od (.dT (dictL L))) eb = some (.lst ((natI n.es).map V.int)) := by rw [upd_ne web]; exact heb7
      have hwd8 : upd H7 wd (.frz od (.dT (dictL L))) wd = some (.frz od (.dT (dictL L))) := upd_same
      generalize upd H7 wd (.frz od (.dT (dictL L))) = H8 at *
      have lD : (dictL L).length = L.length := by unfold dictL; rw [List.length_map]
      refine ⟨_, rfl, wd, od, _, rfl, hwd8, for_it walk_itemsT (fun i σ H' => (∃ x7 x8, σ = [some (.ref x), some (.ref y), some (.ref ra), some (.ref rb), some (.ref ea), some (.ref eb), some (.ref wd), x7, x8]) ∧ Same H8 H' ∧ ∀ j z, j < i → L[j]? = some z → unl m n z.1 = false) ⟨⟨_, _, rfl⟩, Same.refl _, fun j z hj => absurd hj (Nat.not_lt_zero j)⟩ (fun i σ H' _ p => p.2.1 _ _ hwd8) ?_ ?_⟩
      · rintro i v σ H' H9 hi ⟨⟨x7, x8, rfl⟩, s8, no⟩ ⟨Tx, kk, vv, qq, ekv, hqq, rfl, nTx, rfl⟩
        obtain ⟨⟨p, w1⟩, hp⟩ : ∃ z, L[i]? = some z := ⟨_, List.getElem?_eq_getElem (by omega)⟩
        unfold dictL at ekv
        rw [List.getElem?_map, hp] at ekv
        cases ekv
        have s9 := same_new (o := .tup [V.ref qq, V.str (tx w1)]) nTx
        have hqq9 := s9 _ _ hqq
        have s89 := s8.trans s9
        have hea9 := s89 _ _ hea8
        have heb9 := s89 _ _ heb8
        refine ⟨Tx, _, rfl, SqT.of upd_same, rfl, ?_⟩
        generalize upd H' Tx (.tup [V.ref qq, V.str (tx w1)]) = H9 at *
        refine ⟨_, _, rfl, _, _, rfl, rfl, ?_⟩
        have at0 : atI [V.int (p.1 : Int), V.int (p.2 : Int)] ((0 : Nat) : Int) = some (V.int (p.1 : Int)) := atI_nat rfl
        have at1 : atI [V.int (p.1 : Int), V.int (p.2 : Int)] ((1 : Nat) : Int) = some (V.int (p.2 : Int)) := atI_nat rfl
        refine ⟨_, rfl, qq, _, _, _, rfl, rfl, SqT.of hqq9, at0, _, rfl, ea, _, rfl, .inl (SqL.of hea9), rfl, flat_nat _, ?_⟩
        refine ⟨_, rfl, qq, _, _, _, rfl, rfl, SqT.of hqq9, at1, _, rfl, eb, _, rfl, .inl (SqL.of heb9), rfl, flat_nat _, ?_⟩
        refine ⟨rfl, _, rfl, ?_⟩
        have eu : (!decide (V.bl (if false = true then !inV (V.int (p.1 : Int)) ((natI m.es).map V.int) else inV (V.int (p.1 : Int)) ((natI m.es).map V.int)) = V.bl (if false = true then !inV (V.int (p.2 : Int)) ((natI n.es).map V.int) else inV (V.int (p.2 : Int)) ((natI n.es).map V.int)))) = unl m n p := by
          rw [if_neg (by decide), if_neg (by decide), inV_nat, inV_nat]
          unfold unl
          cases decide (p.1 ∈ m.es) <;> cases decide (p.2 ∈ n.es) <;> rfl
        refine ite2 (fun c => ?_) (fun c => ?_)
        · have c := eu.symm.trans c
          refine ⟨_, rfl, s89 _ _ hwd8, ?_⟩
          rw [res_at hp no c] at q
          obtain ⟨e1, e2⟩ := key H9 s89
          exact q _ e1 e2
        · have c : unl m n p = false := by
            rw [← eu]
            exact Bool.eq_false_iff.mpr c
          refine ⟨⟨_, _, rfl⟩, s89, fun j z hj hz => ?_⟩
          by_cases e : j = i
          · subst e
            rw [hp] at hz
            cases hz
            exact c
          · exact no j z (by omega) hz
      · rintro σ H' ⟨⟨x7, x8, rfl⟩, s8, no⟩
        refine ⟨s8 _ _ hwd8, ?_⟩
        rw [res_no (fun j z hj hz => no j z (by omega) hz)] at q
        obtain ⟨e1, e2⟩ := key H' s8
        exact q _ e1 e2
end
end KF
set_option Elab.async false
set_option linter.all false
set_option maxRecDepth 100000
set_option maxHeartbeats 4000000
namespace KF
open PySem PySem.Spec PyProof.Rows L2 XV NM XT
theorem dr_neK {H : Hp} {g p : Addr} {n : Nat} (d : Dr H g n) (np : H p = none) : g ≠ p := by
  obtain ⟨a, b, c, e, _⟩ := d
  exact ne_of_none e np
theorem dr_updK {H : Hp} {g p : Addr} {n : Nat} {o : HO} (d : Dr H g n) (h : g ≠ p) : Dr (L2.upd H p o) g n := by
  obtain ⟨a, b, c, e, r⟩ := d
  exact ⟨a, b, c, by rw [upd_ne h]; exact e, r⟩
theorem dr_newK {H : Hp} {g p : Addr} {n : Nat} {o : HO} (d : Dr H g n) (np : H p = none) : Dr (L2.upd H p o) g n := dr_updK d (dr_neK d np)
def LO (z : Str) : Prop := ∀ c ∈ cz z, c = 97 ∨ c = 98 ∨ c = 99 ∨ c = 122 ∨ c = 113 ∨ c = 109
def loB (c : Nat) : Bool := decide (c = 97) || decide (c = 98) || decide (c = 99) || decide (c = 122) || decide (c = 113) || decide (c = 109)
theorem LO.of {z : Str} (h : (cz z).all loB = true) : LO z := fun c hc => by
  have := List.all_eq_true.mp h c hc
  simp only [loB, Bool.or_eq_true, decide_eq_true_eq] at this
  omega
theorem lo_all {z : Str} (h : LO z) {p : Nat → Bool} (h1 : ([97, 98, 99, 122, 113, 109] : List Nat).all p = true) : z.cps.all p = true := by
  rw [show z.cps.all p = (cz z).all p by simp, List.all_eq_true]
  intro c hc
  refine List.all_eq_true.mp h1 c ?_
  rcases h c hc with rfl | rfl | rfl | rfl | rfl | rfl <;> simp
theorem lo_any {z : Str} (h : LO z) {p : Nat → Bool} (h1 : ([97, 98, 99, 122, 113, 109] : List Nat).any p = false) : z.cps.any p = false := by
  rw [show z.cps.any p = (cz z).any p by simp, List.any_eq_false]
  intro c hc
  refine List.any_eq_false.mp h1 c ?_
  rcases h c hc with rfl | rfl | rfl | rfl | rfl | rfl <;> simp
theorem lo_low {z : Str} (h : LO z) : lowS z = true := by
  unfold lowS
  by_cases e : z = ""
  · rw [decide_eq_true e]
    rfl
  rw [decide_eq_false e, Bool.false_or]
  have n : cz z ≠ [] := fun q => e (Str.ext' (Array.toList_inj.mp (q.trans (by decide +kernel))))
  have l : 0 < z.length := by
    rw [cz_len]
    exact List.length_pos_iff.mpr n
  have a1 : Txt.isascii z = true := lo_all h (by decide)
  have a2 : Txt.isalpha z = true := by
    unfold Txt.isalpha
    rw [lo_all h (by decide +kernel), Bool.and_true]
    exact decide_eq_true l
  have a3 : Txt.islower z = true := by
    unfold Txt.islower
    rw [lo_any h (p := fun c => Unicode.isUpper c || Unicode.isTitle c) (by decide +kernel)]
    have e : z.cps.any Unicode.isLower = true := by
      rw [show z.cps.any Unicode.isLower = (cz z).any Unicode.isLower by simp, List.any_eq_true]
      obtain ⟨c, r, hc⟩ := List.exists_cons_of_ne_nil n
      refine ⟨c, by rw [hc]; exact List.mem_cons_self, ?_⟩
      rcases h c (by rw [hc]; exact List.mem_cons_self) with rfl | rfl | rfl | rfl | rfl | rfl <;> decide +kernel
    rw [e]
    rfl
  rw [a1, a2, a3]
  rfl
theorem lo_word {y : Str} (h : LO y) (l : y.length ≤ 20000) : wordV (.str y) = true := by
  show (lowS y && decide (y.length ≤ 20000)) = true
  rw [lo_low h, decide_eq_true l]
  rfl
abbrev sSigns : Stmt := top 34
abbrev sRowsL : Stmt := top 35
theorem scSigns : FnScope ["_law_generator_here"] ["_law_generator_here"] (defScope sSigns) := ⟨rfl, rfl, rfl, by decide +kernel, rfl, by decide +kernel, by decide +kernel⟩
abbrev nRowsL : List Str := ["_law_generator_here", "_law_letters", "_law_states", "_law_turn", "_law_state"]
theorem scRowsL : FnScope nRowsL ["_law_generator_here", "_law_letters", "_law_states"] (defScope sRowsL) := ⟨rfl, rfl, rfl, by decide +kernel, rfl, by decide +kernel, by decide +kernel⟩
abbrev scRO : Scope := { kind := .function, names := [(Str.ofString ".0", .local), (Str.ofString "_law_state", .local), (Str.ofString "range", .globalImplicit), (Str.ofString "len", .globalImplicit), (Str.ofString "_law_generator_here", .cell), (Str.ofString "_law_letters", .cell), (Str.ofString "_law_states", .cell)], isGenerator := false, isCoroutine := false }
abbrev scRI : Scope := { kind := .function, names := [(Str.ofString ".0", .local), (Str.ofString "_law_turn", .local), (Str.ofString "_law_random", .globalImplicit), (Str.ofString "_law_generator_here", .free), (Str.ofString "_law_states", .free)], isGenerator := false, isCoroutine := false }
theorem blkR : BlkOk nRowsL scRO scRI [("_law_turn", 3)] := blkOk_by (by decide +kernel)
def menu : List Str := ["a", "ab", "b", "bz", "abc", "z", "", "ac"]
def spSigns : Sp := fun vs H Q _ => ∃ (g : Addr) (n : Nat), vs = [.ref g] ∧ Dr H g n ∧ n ≤ 500000 ∧ ∀ (H' : Hp) (z : Str), z ∈ menu → But H H' g → Dr H' g (n + 20) → Q (.str z) H'
def RG (H : Hp) (r g : Addr) (R : List (List Nat)) : Prop := ∃ xs, H r = some (.lst xs) ∧ Pts H xs (R.map natI) ∧ ∀ x ∈ xs, x ≠ .ref g
theorem RG.rl {H : Hp} {r g : Addr} {R : List (List Nat)} (h : RG H r g R) : RL H r R := by
  obtain ⟨xs, a, b, _⟩ := h
  exact ⟨xs, a, b⟩
theorem Pts.butG {H H' : Hp} {g : Addr} (b : But H H' g) : ∀ {xs : List V} {P : List (List Int)}, (∀ x ∈ xs, x ≠ .ref g) → Pts H xs P → Pts H' xs P
  | _, _, _, .nil => .nil
  | _, _, n, .cons h r => .cons (by
      obtain ⟨a, e, t⟩ := h
      exact ⟨a, e, b _ _ (fun z => n _ List.mem_cons_self (by rw [e, z])) t⟩) (Pts.butG b (fun x hx => n x (List.mem_cons_of_mem _ hx)) r)
theorem RG.but {H H' : Hp} {r g : Addr} {R : List (List Nat)} (h : RG H r g R) (n : r ≠ g) (b : But H H' g) : RG H' r g R := by
  obtain ⟨xs, e, p, q⟩ := h
  exact ⟨xs, b _ _ n e, Pts.butG b q p, q⟩
def spRowsL : Sp := fun vs H Q _ => ∃ (g : Addr) (n s : Nat) (z : Str), vs = [.ref g, .str z, .int s] ∧ Dr H g n ∧ n ≤ 500000 ∧ z.length ≤ 3 ∧ 1 ≤ s ∧ s ≤ 12 ∧
  ∀ (H' : Hp) (p : Addr) (R : List (List Nat)), H p = none → RG H' p g R → R.length = s → (∀ r ∈ R, r.length = z.length + 1 ∧ ∀ x ∈ r, x < s) → But H H' g → Dr H' g (n + 2000) → Q (.ref p) H'
section
variable {P : Program} {w : World} {K : PySem.W.Frag} {mg : Str → Option Value} {base : Heap} {f : Addr} {fd : FuncData} {C : Addr}
theorem ok_signs (F : FnP K "_law_signs" sSigns f fd) (o_rand : Ok P w K mg base "_law_random" 2 ["_law_generator_here", "_law_bound"] spRand) : FnOk P w K mg base CX0 3 f fd ["_law_generator_here"] spSigns := by
  refine F.ok scSigns (fun vs H Q E h => ?_) (fun cdv A outer s H vs Q E hr h => ?_)
  · obtain ⟨g, n, rfl, _⟩ := h
    rfl
  · obtain ⟨g, n, rfl, dr, hn, q⟩ := h
    have szl := sizeLine_eq
    have r2 : Room 2 (A.deeper (envOfC "_law_signs" (defScope sSigns) s.heap.objs.size f cdv)) := hr
    refine ⟨_, PSs.nox (pss_one (ps_ret (pe_ix ix_list (pe_lst (pa_cons pe_str (pa_cons pe_str (pa_cons pe_str (pa_cons pe_str (pa_cons pe_str (pa_cons pe_str (pa_cons pe_str (pa_cons pe_str pa_nil))))))))) (pe_callO o_rand r2 (by rfl) (pa_cons (pv 0) (pa_cons pe_int pa_nil))) (fun _ _ => rfl)))), ?_⟩
    refine ⟨(by show 8 ≤ sizeLine; omega), fun l nl => ?_⟩
    have sl := same_new (o := .lst (menu.map V.str)) nl
    have gl := dr_neK dr nl
    refine ⟨_, rfl, g, n, 8, rfl, dr_newK dr nl, by omega, by decide, by decide +kernel, fun H1 r r0 r8 bt1 d1 => ?_⟩
    have hl1 := bt1 _ _ (Ne.symm gl) (upd_same (H := H) (a := l) (o := .lst (menu.map V.str)))
    have bt0 : But H H1 g := (Same.but sl).trans bt1
    obtain ⟨z, ez, hz⟩ : ∃ z : Str, atI (menu.map V.str) r = some (.str z) ∧ z ∈ menu := by
      obtain ⟨k, rfl⟩ := Int.eq_ofNat_of_zero_le r0
      have hk : k < menu.length := by show k < 8; omega
      exact ⟨menu[k], atI_nat (by rw [List.getElem?_map, List.getElem?_eq_getElem hk]; rfl), List.getElem_mem hk⟩
    exact ⟨l, _, r, _, rfl, rfl, SqL.of hl1, ez, q H1 z hz bt0 d1⟩
theorem ok_rowsL (F : FnP K "_law_automaton_rows" sRowsL f fd) (o_rand : Ok P w K mg base "_law_random" 2 ["_law_generator_here", "_law_bound"] spRand) (z_range : mg "range" = none) (z_len : mg "len" = none) : FnOk P w K mg base CX0 3 f fd ["_law_generator_here", "_law_letters", "_law_states"] spRowsL := by
  have nd := scRowsL.nd
  refine F.ok scRowsL (fun vs H Q E h => ?_) (fun cdv A outer s H vs Q E hr h => ?_)
  · obtain ⟨g, n, s, z, rfl, _⟩ := h
    rfl
  · obtain ⟨g, n, s', z, rfl, hd, hn, lz, s1, s12, q⟩ := h
    have szl := sizeLine_eq
    have r2 : Room 2 (A.deeper (envOfC "_law_automaton_rows" (defScope sRowsL) s.heap.objs.size f cdv)) := hr
    refine ⟨_, PSs.nox (pss_one (ps_ret (pe_lc (own := [("_law_state", 4)]) (g := gName 4) (by rfl) nd (pi_range1 (by rfl) z_range (pa_cons (pv 2) pa_nil)) (blkOk_by (N := nRowsL) (sc := defScope sRowsL) (own := [("_law_state", 4)]) (by decide +kernel)) (fun _ _ _ _ _ => pg_name (i := 4) nd rfl (Or.inl rfl)) (fun _ _ _ _ _ => pts_nil)
      (fun _ _ _ _ _ => pe_lc (own := [("_law_turn", 3)]) (g := gName 3) (by rfl) nd (pi_range1 (by rfl) z_range (pa_cons (pe_op op_add (pe_callB call_len_str (by rfl) z_len boot_len (pa_cons (pv 1) pa_nil)) pe_int) pa_nil)) blkR (fun _ _ _ _ _ => pg_name (i := 3) nd rfl (Or.inl rfl)) (fun _ _ _ _ _ => pts_nil)
        (fun _ _ _ _ _ => pe_callO o_rand r2 (by rfl) (pa_cons (pv 0) (pa_cons (pv 2) pa_nil))))))), ?_⟩
    refine ⟨_, rfl, ((s' : Nat) : Int), rfl, by omega, by omega, fun D nD => lc_range (lo := 0) (n := ((s' : Nat) : Int).toNat) (fun i H' => But H H' g ∧ Dr H' g (n + 160 * i) ∧ ∃ (acc : List V) (R : List (List Nat)), H' D = some (.lst acc) ∧ Pts H' acc (R.map natI) ∧ R.length = i ∧ (∀ r ∈ R, r.length = z.length + 1 ∧ ∀ x ∈ r, x < s') ∧ ∀ y ∈ acc, y ≠ .ref D ∧ y ≠ .ref g)
      ⟨Same.but (same_new nD), dr_newK hd nD, [], [], upd_same, .nil, rfl, fun r hr => (by cases hr), fun y hy => (by cases hy)⟩ ?_ ?_⟩
    · rintro i H1 hi ⟨b1, d1, acc, R, hD, hP, lR, hR, nA⟩
      have gD := dr_neK hd nD
      have la := hP.len
      rw [List.length_map] at la
      refine ⟨rfl, ?_⟩
      refine ⟨_, rfl, z, rfl, by omega, _, _, rfl, rfl, (z.length : Int) + 1, rfl, by omega, by omega, fun D2 nD2 => ?_⟩
      have gD2 := dr_neK d1 nD2
      have nDD : D2 ≠ D := fun e => by
        rw [e, hD] at nD2
        cases nD2
      refine lc_range (lo := 0) (n := ((z.length : Int) + 1).toNat) (fun k H3 => But H1 H3 g ∧ Dr H3 g (n + 160 * i + 20 * k) ∧ ∃ row : List Nat, H3 D2 = some (.lst ((natI row).map V.int)) ∧ row.length = k ∧ ∀ x ∈ row, x < s') ⟨Same.but (same_new nD2), dr_newK d1 nD2, [], upd_same, rfl, fun x hx => (by cases hx)⟩ ?_ ?_
      · rintro k H3 hk ⟨b3, d3, row, hD2, lr, hr⟩
        refine ⟨rfl, ?_⟩
        refine ⟨_, rfl, _, rfl, g, n + 160 * i + 20 * k, (s' : Int), rfl, d3, by omega, by omega, Int.lt_of_le_of_lt (b := 12) (by omega) (by decide +kernel), fun H4 r r0 rs b4 d4 => ?_⟩
        obtain ⟨v, rfl⟩ := Int.eq_ofNat_of_zero_le r0
        refine ⟨_, b4 _ _ (Ne.symm gD2) hD2, ?_, fun b o nb e => ?_, dr_updK (d4.mono (by omega)) gD2, row ++ [v], ?_, ?_, fun x hx => ?_⟩
        · rw [List.length_map, natI_len]
          exact small1000 (by omega)
        · rw [upd_ne (ne_of_none (H := H1) e nD2)]
          exact b4 _ _ nb (b3 _ _ nb e)
        · rw [upd_same]
          unfold natI
          rw [List.map_append, List.map_append]
          rfl
        · rw [List.length_append, lr]
          rfl
        · rcases List.mem_append.mp hx with h | h
          · exact hr x h
          · rw [List.mem_singleton.mp h]
            omega
      · rintro H3 ⟨b3, d3, row, hD2, lr, hr⟩
        have nA3 : ∀ y ∈ acc ++ [V.ref D2], y ≠ .ref D ∧ y ≠ .ref g := fun y hy => by
          rcases List.mem_append.mp hy with h | h
          · exact nA y h
          · rw [List.mem_singleton.mp h]
            exact ⟨fun e => nDD (V.ref.inj e), fun e => gD2 (V.ref.inj e).symm⟩
        refine ⟨acc, b3 _ _ (Ne.symm gD) hD, small1000 (by omega), fun b o nb e => ?_, dr_updK (d3.mono (by omega)) gD, acc ++ [.ref D2], R ++ [row], upd_same, ?_, ?_, fun r hr2 => ?_, nA3⟩
        · rw [upd_ne (ne_of_none (H := H) e nD)]
          exact b3 _ _ nb (b1 _ _ nb e)
        · rw [List.map_append]
          exact Pts.updL (fun y hy => (nA3 y hy).1) (Pts.snoc ⟨D2, rfl, hD2⟩ (Pts.butG b3 (fun y hy => (nA y hy).2) hP))
        · rw [List.length_append, lR]
          rfl
        · rcases List.mem_append.mp hr2 with h | h
          · exact hR r h
          · rw [List.mem_singleton.mp h]
            exact ⟨by omega, hr⟩
    · rintro H1 ⟨b1, d1, acc, R, hD, hP, lR, hR, nA⟩
      exact q H1 D R nD ⟨acc, hD, hP, fun y hy => (nA y hy).2⟩ (by omega) hR b1 (d1.mono (by omega))
end
theorem Pts.set {H : Hp} {b : Addr} {q : List Int} (hb : H b = some (.lst (q.map V.int))) : ∀ {xs : List V} {P : List (List Int)} (i : Nat), Pts H xs P → Pts H (xs.set i (.ref b)) (P.set i q)
  | _, _, _, .nil => .nil
  | _, _, 0, .cons _ r => .cons ⟨b, rfl, hb⟩ r
  | _, _, i + 1, .cons h r => .cons h (Pts.set hb i r)
theorem fold_lo (q : Nat) (hq : ([97, 98, 99, 122, 113, 109] : List Nat).all (fun c => decide (Builtin.Str.reprChar q c = [c])) = true) : ∀ (l : List Nat) (acc : Array Nat), (∀ c ∈ l, c = 97 ∨ c = 98 ∨ c = 99 ∨ c = 122 ∨ c = 113 ∨ c = 109) → (l.foldl (fun out c => out ++ (Builtin.Str.reprChar q c).toArray) acc).toList = acc.toList ++ l
  | [], acc, _ => by simp
  | c :: l, acc, h => by
    have hc : Builtin.Str.reprChar q c = [c] := of_decide_eq_true (List.all_eq_true.mp hq c (by
      rcases h c List.mem_cons_self with rfl | rfl | rfl | rfl | rfl | rfl <;> simp))
    rw [List.foldl_cons, fold_lo q hq l _ (fun d hd => h d (List.mem_cons_of_mem _ hd)), hc]
    simp
theorem repr_lo {z : Str} (h : LO z) : (reprText z).cps.toList = 39 :: (cz z ++ [39]) := by
  have e : reprQuote z = 39 := by
    unfold reprQuote
    have : z.cps.contains 39 = false := by
      cases c : z.cps.contains 39 with
      | false => rfl
      | true =>
        have := h 39 (by simpa using c)
        omega
    rw [this]
    rfl
  unfold reprText
  rw [e]
  show ((z.cps.foldl (fun out c => out ++ (Builtin.Str.reprChar 39 c).toArray) #[39]).push 39).toList = _
  rw [Array.toList_push, ← Array.foldl_toList, fold_lo 39 (by decide +kernel) _ _ h]
  rfl
structure ShOk (d : PyData) : Prop where
  s : d.showable = true
  h : d.hasDict = false
  dp : d.depth ≤ 60
  l : d.shown.length ≤ 100000
  o : PyData.strOk d.shown = true
def shB (d : PyData) : Bool := d.showable && (!d.hasDict && (decide (d.depth ≤ 60) && (decide (d.shown.length ≤ 100000) && PyData.strOk d.shown)))
theorem shB_ok {d : PyData} (h : shB d = true) : ShOk d := by
  unfold shB at h
  simp only [Bool.and_eq_true, Bool.not_eq_true', decide_eq_true_eq] at h
  obtain ⟨h1, h2, h3, h4, h5⟩ := h
  exact ⟨h1, h2, h3, h4, h5⟩
theorem sh_lo {z : Str} (h : LO z) (l : z.length ≤ 50000) : ShOk (.str z) := by
  have e : (PyData.str z).shown = reprText z := by simp [PyData.shown]
  have r := repr_lo h
  refine ⟨by simp [PyData.showable], by simp [PyData.hasDict], by simp [PyData.depth], ?_, ?_⟩
  · rw [e, cz_len, show cz (reprText z) = _ from r]
    simp only [List.length_cons, List.length_append, List.length_singleton]
    rw [← cz_len]
    simp
    omega
  · rw [e]
    unfold PyData.strOk
    rw [show (reprText z).cps.all (fun x => decide (x < 0x110000)) = ((reprText z).cps.toList).all (fun x => decide (x < 0x110000)) by simp, r, List.all_eq_true]
    intro c hc
    rcases List.mem_cons.mp hc with rfl | hc
    · decide
    · rcases List.mem_append.mp hc with hc | hc
      · have := h c hc
        exact decide_eq_true (by omega)
      · rw [List.mem_singleton.mp hc]
        decide
theorem look_v (f : Str) (v : L2.V) : List.lookup f [(f, v)] = some v := by simp [List.lookup]
theorem da_ints {H : Hp} : ∀ (l : List Int) (vs : List L2.V), DaAll H vs (l.map PyData.int) → vs = l.map L2.V.int
  | [], _, .nil => rfl
  | x :: l, _, .cons (.int _) r => congrArg (L2.V.int x :: ·) (da_ints l _ r)
theorem da_pts {H : Hp} : ∀ (P : List (List Int)) (vs : List L2.V), DaAll H vs (P.map ptD) → Pts H vs P
  | [], _, .nil => .nil
  | p :: P, _, .cons h r => .cons (by
      cases h with
      | @lst a xs _ h1 h2 => exact ⟨a, rfl, by rw [h1, da_ints p xs h2]⟩) (da_pts P _ r)
theorem da_rows {H : Hp} {v : V} {R : List (List Nat)} (h : Da H v (PD (R.map natI))) : ∃ a, v = .ref a ∧ RL H a R := by
  cases h with
  | @lst a xs _ h r => exact ⟨a, rfl, xs, h, da_pts _ xs r⟩
theorem Pts.app {H : Hp} : ∀ {xs ys : List V} {P R : List (List Int)}, Pts H xs P → Pts H ys R → Pts H (xs ++ ys) (P ++ R)
  | _, _, _, _, .nil, h => h
  | _, _, _, _, .cons a r, h => .cons a (Pts.app r h)
theorem da_noA {K : PySem.W.Frag} {H : Hp} {v : V} {d : PyData} (h : Da H v d) (n : ∀ b, d ≠ .bool b) : NoA K H v := by
  cases h with
  | non => exact ⟨"NoneType", by simp [tysD], .base .non⟩
  | bl b => exact absurd rfl (n b)
  | int i => exact ⟨"int", by simp [tysD], .base (.int i)⟩
  | str x => exact ⟨"str", by simp [tysD], .base (.str x)⟩
  | lst h _ => exact ⟨"list", by simp [tysD], .base (.lst h)⟩
  | tup h _ => exact ⟨"tuple", by simp [tysD], .base (.tup h)⟩
theorem da_kn {H : Hp} {v : V} {d : PyData} (h : Da H v d) : Kn H v := by
  cases h with
  | non => exact .non
  | bl b => exact .bl b
  | int i => exact .int i
  | str x => exact .str x
  | lst h _ => exact .lst h
  | tup h _ => exact .tup h
end KF
set_option Elab.async false
set_option linter.all false
set_option maxRecDepth 100000
set_option maxHeartbeats 4000000
namespace KF
open PySem PySem.Spec PyProof.Rows L2 XV NM XT XD XA NB LamX
/-! ### the law's own way -/
abbrev sMach : Stmt := top 38
abbrev sStep : Stmt := top 39
abbrev sUnl : Stmt := top 40
abbrev sFirst : Stmt := top 41
theorem scMach : FnScope ["_law_drawn"] ["_law_drawn"] (defScope sMach) := ⟨rfl, rfl, rfl, by decide +kernel, rfl, by decide +kernel, by decide +kernel⟩
abbrev nStep : List Str := ["_law_drawn", "_law_state", "_law_letter", "_law_at"]
theorem scStep : FnScope nStep ["_law_drawn", "_law_state", "_law_letter"] (defScope sStep) := ⟨rfl, rfl, rfl, by decide +kernel, rfl, by decide +kernel, by decide +kernel⟩
theorem scUnl : FnScope ["_law_one", "_law_other", "_law_pair"] ["_law_one", "_law_other", "_law_pair"] (defScope sUnl) := ⟨rfl, rfl, rfl, by decide +kernel, rfl, by decide +kernel, by decide +kernel⟩
abbrev nFirst : List Str := ["_law_one", "_law_other", "_law_reached", "_law_words", "_law_at", "_law_letter", "_law_pair"]
theorem scFirst : FnScope nFirst ["_law_one", "_law_other"] (defScope sFirst) := ⟨rfl, rfl, rfl, by decide +kernel, rfl, by decide +kernel, by decide +kernel⟩
/-- an automaton as the law draws it: letters, rows, start, ends -/
def Dn (H : Hp) (d : Addr) (m : Am) : Prop := ∃ ra ea, H d = some (.lst [.str m.z, .ref ra, .int (m.s : Int), .ref ea]) ∧ RL H ra m.R ∧ H ea = some (.lst ((natI m.es).map V.int))
theorem Dn.keepN {H H' : Hp} (s : ExN H H') {d : Addr} {m : Am} (h : Dn H d m) : Dn H' d m := by
  obtain ⟨ra, ea, h1, h2, h3⟩ := h
  exact ⟨ra, ea, s.lst h1, h2.keepN s, s.lst h3⟩
theorem Dn.keep {H H' : Hp} (s : Same H H') {d : Addr} {m : Am} (h : Dn H d m) : Dn H' d m := h.keepN (ExN.of s)
def spMach (C : Addr) : Sp := fun vs H Q _ => ∃ (d : Addr) (m : Am), vs = [.ref d] ∧ Dn H d m ∧ AmOk m ∧ ∀ (H' : Hp) (x : Addr), Same H H' → Au C H' x m → Q (.ref x) H'
def spStep : Sp := fun vs H Q _ => ∃ (d : Addr) (m : Am) (s k : Nat), vs = [.ref d, .int (s : Int), .str ⟨#[97 + k]⟩] ∧ Dn H d m ∧ AmOk m ∧ s < m.R.length ∧ Q (.int (stp m s k : Nat)) H
def spUnl : Sp := fun vs H Q _ => ∃ (d e pa : Addr) (m n : Am) (p : Pr), vs = [.ref d, .ref e, .ref pa] ∧ Dn H d m ∧ Dn H e n ∧ H pa = some (.lst [.int (p.1 : Int), .int (p.2 : Int)]) ∧ Q (.bl (unl m n p)) H
def spFirst : Sp := fun vs H Q _ => ∃ (d e : Addr) (m n : Am), vs = [.ref d, .ref e] ∧ Dn H d m ∧ Dn H e n ∧ AmOk m ∧ AmOk n ∧ m.R.length ≤ 5 ∧ n.R.length ≤ 5 ∧ ∀ H', Same H H' → Q (optV (prt m n)) H'
def ptP (p : Pr) : List Int := [(p.1 : Int), (p.2 : Int)]
theorem ptP_inj {p q : Pr} (h : ptP p = ptP q) : p = q := by
  unfold ptP at h
  simp only [List.cons.injEq, Int.natCast_inj, and_true] at h
  exact Prod.ext h.1 h.2
def ptsL (L : List (Pr × List Nat)) : List (List Int) := L.map fun x => ptP x.1
def wsL (L : List (Pr × List Nat)) : List V := L.map fun x => V.str (tx x.2)
theorem ptP_mem {L : List (Pr × List Nat)} {q : Pr} : ptP q ∈ ptsL L ↔ q ∈ L.map Prod.fst := by
  unfold ptsL
  rw [List.mem_map, List.mem_map]
  exact ⟨fun ⟨x, hx, e⟩ => ⟨x, hx, ptP_inj e⟩, fun ⟨x, hx, e⟩ => ⟨x, hx, by rw [e]⟩⟩
section
variable {P : Program} {w : World} {K : PySem.W.Frag} {mg : Str → Option Value} {base : Heap} {f : Addr} {fd : FuncData} {C : Addr}
theorem ok_mach (F : FnP K "_law_machine" sMach f fd) (o_mk : OkMk P w K mg base C) : FnOk P w K mg base CX0 8 f fd ["_law_drawn"] (spMach C) := by
  refine F.ok scMach (fun vs H Q E h => ?_) (fun cdv A outer s H vs Q E hr h => ?_)
  · obtain ⟨d, m, rfl, _⟩ := h
    rfl
  · obtain ⟨d, m, rfl, ⟨ra, ea, hd, hR, he⟩, ok, q⟩ := h
    have r7 : Room 7 (A.deeper (envOfC "_law_machine" (defScope sMach) s.heap.objs.size f cdv)) := hr
    refine ⟨_, PSs.nox (pss_one (ps_ret (pe_mk1 o_mk r7 (by rfl) (pa_cons (pe_ix ix_list (pv 0) pe_int (fun _ _ => rfl)) (pa_cons (pe_ix ix_list (pv 0) pe_int (fun _ _ => rfl)) pa_nil)) (pk_cons (pe_ix ix_list (pv 0) pe_int (fun _ _ => rfl)) (pk_cons (pe_ix ix_list (pv 0) pe_int (fun _ _ => rfl)) pk_nil))))), ?_⟩
    have a0 : atI [V.str m.z, .ref ra, .int (m.s : Int), .ref ea] ((0 : Nat) : Int) = some (.str m.z) := atI_nat rfl
    have a1 : atI [V.str m.z, .ref ra, .int (m.s : Int), .ref ea] ((1 : Nat) : Int) = some (.ref ra) := atI_nat rfl
    have a2 : atI [V.str m.z, .ref ra, .int (m.s : Int), .ref ea] ((2 : Nat) : Int) = some (.int (m.s : Int)) := atI_nat rfl
    have a3 : atI [V.str m.z, .ref ra, .int (m.s : Int), .ref ea] ((3 : Nat) : Int) = some (.ref ea) := atI_nat rfl
    refine ⟨_, rfl, d, _, _, _, rfl, rfl, SqL.of hd, a0, _, rfl, d, _, _, _, rfl, rfl, SqL.of hd, a1, _, rfl, d, _, _, _, rfl, rfl, SqL.of hd, a2, _, rfl, d, _, _, _, rfl, rfl, SqL.of hd, a3, rfl, rfl, fun x dx nx ndx ne => ?_⟩
    exact mk_sp nx ndx ne he hR ok fun H1 s1 ha => ⟨rfl, q H1 x s1 ha⟩
theorem ok_step (F : FnP K "_law_step" sStep f fd) (z_len : mg "len" = none) : FnOk P w K mg base CX0 1 f fd ["_law_drawn", "_law_state", "_law_letter"] spStep := by
  have nd := scStep.nd
  refine F.ok scStep (fun vs H Q E h => ?_) (fun cdv A outer s H vs Q E hr h => ?_)
  · obtain ⟨d, m, t, k, rfl, _⟩ := h
    rfl
  · obtain ⟨d, m, t, k, rfl, ⟨ra, ea, hd, hR, he⟩, ok, lt, q⟩ := h
    have a0 : atI [V.str m.z, .ref ra, .int (m.s : Int), .ref ea] ((0 : Nat) : Int) = some (.str m.z) := atI_nat rfl
    have a1 : atI [V.str m.z, .ref ra, .int (m.s : Int), .ref ea] ((1 : Nat) : Int) = some (.ref ra) := atI_nat rfl
    have lz := ok.lz
    have lz2 := cz_len m.z
    refine ⟨_, PSs.nox (pss_cons (ps_set (i := 3) nd rfl (Or.inl rfl) (pe_bm PySem.F.plainAttrs_str PySem.F.slot_str_find PySem.F.type_str_find mt_find (pe_ix ix_list (pv 0) pe_int (fun _ _ => rfl)) (pa_cons (pv 2) pa_nil)))
      (pss_one (ps_ret (pe_ix ix_list (pe_ix ix_list (pe_ix ix_list (pv 0) pe_int (fun _ _ => rfl)) (pv 1) (fun _ _ => rfl)) (pe_ifExp (pt_cmpR op_ge (pv 3) pe_int (nomark _)) (pv 3) (pe_callB call_len_str (by rfl) z_len boot_len (pa_cons (pe_ix ix_list (pv 0) pe_int (fun _ _ => rfl)) pa_nil))) (fun _ _ => rfl))))), ?_⟩
    have szl := sizeLine_eq
    have fo := NP.find_one m.z (97 + k)
    refine ⟨_, rfl, d, _, _, _, rfl, rfl, SqL.of hd, a0, rfl, _, rfl, m.z, ⟨#[97 + k]⟩, rfl, rfl, ?_⟩
    rw [fo]
    obtain ⟨l2, row, er, ek⟩ := step_at ok (colA_le m k) lt
    obtain ⟨xs, b, hxs, ex, hb, ey⟩ := rl_at hR er ek
    refine ⟨_, rfl, d, _, _, _, rfl, rfl, SqL.of hd, a1, _, rfl, ra, xs, _, _, rfl, rfl, SqL.of hxs, atI_nat ex, ?_⟩
    have cl : (cz m.z).idxOf (97 + k) = colA m k := rfl
    by_cases h : (cz m.z).idxOf (97 + k) < (cz m.z).length
    · rw [if_pos h]
      refine ⟨_, rfl, _, _, rfl, rfl, _, rfl, ite2 (fun _ => ?_) (fun n => absurd (decide_eq_true (Int.natCast_nonneg _)) n)⟩
      exact ⟨_, rfl, b, _, _, _, rfl, rfl, SqL.of hb, atI_nat ey, q⟩
    · rw [if_neg h]
      refine ⟨_, rfl, _, _, rfl, rfl, _, rfl, ite2 (fun n => absurd (of_decide_eq_true n) (by decide)) (fun _ => ?_)⟩
      have e2 : (m.z.length : Int) = ((colA m k : Nat) : Int) := by
        have h1 : colA m k ≤ m.z.length := colA_le m k
        have h2 : ¬ colA m k < (cz m.z).length := h
        omega
      refine ⟨_, rfl, d, _, _, _, rfl, rfl, SqL.of hd, a0, m.z, rfl, by omega, ?_⟩
      rw [e2]
      exact ⟨b, _, _, _, rfl, rfl, SqL.of hb, atI_nat ey, q⟩
theorem ok_unl (F : FnP K "_law_unlike" sUnl f fd) : FnOk P w K mg base CX0 1 f fd ["_law_one", "_law_other", "_law_pair"] spUnl := by
  refine F.ok scUnl (fun vs H Q E h => ?_) (fun cdv A outer s H vs Q E hr h => ?_)
  · obtain ⟨d, e, pa, m, n, p, rfl, _⟩ := h
    rfl
  · obtain ⟨d, e, pa, m, n, p, rfl, ⟨ra, ea, hd, hR, he⟩, ⟨rb, eb, hd2, hR2, he2⟩, hpa, q⟩ := h
    have a3 : ∀ (m : Am) ra ea, atI [V.str m.z, .ref ra, .int (m.s : Int), .ref ea] ((3 : Nat) : Int) = some (.ref ea) := fun _ _ _ => atI_nat rfl
    have at0 : atI [V.int (p.1 : Int), V.int (p.2 : Int)] ((0 : Nat) : Int) = some (V.int (p.1 : Int)) := atI_nat rfl
    have at1 : atI [V.int (p.1 : Int), V.int (p.2 : Int)] ((1 : Nat) : Int) = some (V.int (p.2 : Int)) := atI_nat rfl
    refine ⟨_, PSs.nox (pss_one (ps_ret (pe_cmpR op_ne (pe_cmpR op_in_seq (pe_ix ix_list (pv 2) pe_int (fun _ _ => rfl)) (pe_ix ix_list (pv 0) pe_int (fun _ _ => rfl)) (by with_unfolding_all rfl)) (pe_cmpR op_in_seq (pe_ix ix_list (pv 2) pe_int (fun _ _ => rfl)) (pe_ix ix_list (pv 1) pe_int (fun _ _ => rfl)) (by with_unfolding_all rfl)) (nomark _)))), ?_⟩
    refine ⟨_, rfl, pa, _, _, _, rfl, rfl, SqL.of hpa, at0, _, rfl, d, _, _, _, rfl, rfl, SqL.of hd, a3 _ _ _, ea, _, rfl, .inl (SqL.of he), rfl, flat_nat _, ?_⟩
    refine ⟨_, rfl, pa, _, _, _, rfl, rfl, SqL.of hpa, at1, _, rfl, e, _, _, _, rfl, rfl, SqL.of hd2, a3 _ _ _, eb, _, rfl, .inl (SqL.of he2), rfl, flat_nat _, ?_⟩
    refine ⟨rfl, ?_⟩
    have eu : (!decide (V.bl (if false = true then !inV (V.int (p.1 : Int)) ((natI m.es).map V.int) else inV (V.int (p.1 : Int)) ((natI m.es).map V.int)) = V.bl (if false = true then !inV (V.int (p.2 : Int)) ((natI n.es).map V.int) else inV (V.int (p.2 : Int)) ((natI n.es).map V.int)))) = unl m n p := by
      rw [if_neg (by decide), if_neg (by decide), inV_nat, inV_nat]
      unfold unl
      cases decide (p.1 ∈ m.es) <;> cases decide (p.2 ∈ n.es) <;> rfl
    rw [← eu] at q
    exact q
theorem ok_first (F : FnP K "_law_first" sFirst f fd) (o_unl : Ok P w K mg base "_law_unlike" 1 ["_law_one", "_law_other", "_law_pair"] spUnl) (o_step : Ok P w K mg base "_law_step" 1 ["_law_drawn", "_law_state", "_law_letter"] spStep) (z_len : mg "len" = none) (z_range : mg "range" = none) : FnOk P w K mg base CX0 2 f fd ["_law_one", "_law_other"] spFirst := by
  have nd := scFirst.nd
  refine F.ok scFirst (fun vs H Q E h => ?_) (fun cdv A outer s H vs Q E hr h => ?_)
  · obtain ⟨d, e, m, n, rfl, _⟩ := h
    rfl
  · obtain ⟨d, e, m, n, rfl, hd, he, om, on, m5, n5, q⟩ := h
    have r1 : Room 1 (A.deeper (envOfC "_law_first" (defScope sFirst) s.heap.objs.size f cdv)) := hr
    have hu65 : (A.deeper (envOfC "_law_first" (defScope sFirst) s.heap.objs.size f cdv)).units + 65 < cLine := by have := hr.un; omega
    have szl := sizeLine_eq
    refine ⟨_, PSs.nox (pss_cons (ps_par (i := 2) (j := 3) rfl nd rfl rfl (by decide) rfl rfl (pa_cons (pe_lst (pa_cons (pe_lst (pa_cons (pe_ix ix_list (pv 0) pe_int (fun _ _ => rfl)) (pa_cons (pe_ix ix_list (pv 1) pe_int (fun _ _ => rfl)) pa_nil))) pa_nil)) (pa_cons (pe_lst (pa_cons pe_str pa_nil)) pa_nil)) (by rfl))
      (pss_cons (ps_for PassesOwn.never rfl (pi_range1 (by rfl) z_range (pa_cons pe_int pa_nil)) (pg_name (i := 4) nd rfl (Or.inl rfl))
        (pss_cons (ps_if (pt_cmpR op_ge (pv 4) (pe_callB call_len (by rfl) z_len boot_len (pa_cons (pv 2) pa_nil)) (nomark _)) (pss_one (ps_ret pe_non)) pss_nil)
        (pss_cons (ps_if (pt_val (pe_callO o_unl r1 (by rfl) (pa_cons (pv 0) (pa_cons (pv 1) (pa_cons (pe_ix ix_list (pv 2) (pv 4) (fun _ _ => rfl)) pa_nil))))) (pss_one (ps_ret (pe_ix ix_list (pv 3) (pv 4) (fun _ _ => rfl)))) pss_nil)
        (pss_one (ps_for PassesOwn.never rfl (pi_str pe_str) (pg_name (i := 5) nd rfl (Or.inl rfl))
          (pss_cons (ps_set (i := 6) nd rfl (Or.inl rfl) (pe_lst (pa_cons (pe_callO o_step r1 (by rfl) (pa_cons (pv 0) (pa_cons (pe_ix ix_list (pe_ix ix_list (pv 2) (pv 4) (fun _ _ => rfl)) pe_int (fun _ _ => rfl)) (pa_cons (pv 5) pa_nil)))) (pa_cons (pe_callO o_step r1 (by rfl) (pa_cons (pv 1) (pa_cons (pe_ix ix_list (pe_ix ix_list (pv 2) (pv 4) (fun _ _ => rfl)) pe_int (fun _ _ => rfl)) (pa_cons (pv 5) pa_nil)))) pa_nil))))
          (pss_one (ps_if (pt_cmpR (op_notInD hu65) (pv 6) (pv 2) (by with_unfolding_all rfl))
            (pss_cons (ps_expr (pe_bm PySem.F.plainAttrs_list PySem.F.slot_list_append PySem.F.type_list_append mt_append (pv 2) (pa_cons (pv 6) pa_nil)))
            (pss_one (ps_expr (pe_bm PySem.F.plainAttrs_list PySem.F.slot_list_append PySem.F.type_list_append mt_append (pv 3) (pa_cons (pe_op op_add_str (pe_ix ix_list (pv 3) (pv 4) (fun _ _ => rfl)) (pv 5)) pa_nil))))) pss_nil))))))))
      (pss_one (ps_ret pe_non)))), ?_⟩
    have dn0 : ∀ {H' : Hp} {d : Addr} {m : Am}, Dn H' d m → ∃ xs, SqL K H' d xs ∧ atI xs ((2 : Nat) : Int) = some (.int (m.s : Int)) := by
      rintro H' d m ⟨ra, ea, h1, h2, h3⟩
      exact ⟨_, SqL.of h1, atI_nat rfl⟩
    obtain ⟨xd, sd, ad⟩ := dn0 hd
    obtain ⟨xe, se, ae⟩ := dn0 he
    have fi := fwIn om on
    have bd : ∀ t, (bfs (pst m n) (m.s, n.s) t).length ≤ 25 := fun t => by
      have := bfs_size (f := pst m n) fi.h0 fi.st t
      rw [allP_len] at this
      have := Nat.mul_le_mul m5 n5
      omega
    have inS := fun t => bfs_all (f := pst m n) (Pr := fun p _ => p ∈ allP m n) fi.h0 (fun p _ k hp hk => fi.st p k hp hk) t
    refine ⟨_, rfl, d, _, _, _, rfl, rfl, sd, ad, _, rfl, e, _, _, _, rfl, rfl, se, ae, (by show 2 ≤ sizeLine; omega), fun p1 np1 => ⟨(by show 1 ≤ sizeLine; omega), fun rl nrl => ⟨(by show 1 ≤ sizeLine; omega), fun wl nwl => ⟨_, _, rfl, ?_⟩⟩⟩⟩
    have s1 := same_new (o := .lst [V.int (m.s : Int), V.int (n.s : Int)]) np1
    have s2 := same_new (o := .lst [V.ref p1]) nrl
    have s3 := same_new (o := .lst [V.str ""]) nwl
    have hrl := s3 _ _ (upd_same (H := upd H p1 (.lst [V.int (m.s : Int), V.int (n.s : Int)])) (a := rl) (o := .lst [V.ref p1]))
    have hp1 := s3 _ _ (s2 _ _ (upd_same (H := H) (a := p1) (o := .lst [V.int (m.s : Int), V.int (n.s : Int)])))
    have hwl : upd (upd (upd H p1 (.lst [V.int (m.s : Int), V.int (n.s : Int)])) rl (.lst [V.ref p1])) wl (.lst [V.str ""]) wl = some (.lst [V.str ""]) := upd_same
    have s03 := (s1.trans s2).trans s3
    have nrlH := was_none s1 nrl
    have nwlH := was_none (s1.trans s2) nwl
    have rw_ : rl ≠ wl := ne_of_none (H := upd (upd H p1 (.lst [V.int (m.s : Int), V.int (n.s : Int)])) rl (.lst [V.ref p1])) upd_same nwl
    have pr_ : p1 ≠ rl := ne_of_none (H := upd H p1 (.lst [V.int (m.s : Int), V.int (n.s : Int)])) upd_same nrl
    have pw_ : p1 ≠ wl := ne_of_none (H := upd (upd H p1 (.lst [V.int (m.s : Int), V.int (n.s : Int)])) rl (.lst [V.ref p1])) (s2 _ _ upd_same) nwl
    generalize upd (upd (upd H p1 (.lst [V.int (m.s : Int), V.int (n.s : Int)])) rl (.lst [V.ref p1])) wl (.lst [V.str ""]) = H0 at *
    refine ⟨26, rfl, by decide, by decide, for_range (lo := 0) (n := 26) (fun i σ H' => (∃ x4 x5 x6, σ = [some (.ref d), some (.ref e), some (.ref rl), some (.ref wl), x4, x5, x6]) ∧ Same H H' ∧ i ≤ (bfs (pst m n) (m.s, n.s) i).length ∧ (∃ rs, H' rl = some (.lst rs) ∧ Pts H' rs (ptsL (bfs (pst m n) (m.s, n.s) i)) ∧ ∀ y ∈ rs, y ≠ .ref rl ∧ y ≠ .ref wl) ∧ H' wl = some (.lst (wsL (bfs (pst m n) (m.s, n.s) i))) ∧ ∀ j z, j < i → (bfs (pst m n) (m.s, n.s) j)[j]? = some z → unl m n z.1 = false)
      ⟨⟨_, _, _, rfl⟩, s03, Nat.zero_le _, ⟨_, hrl, .cons ⟨p1, rfl, hp1⟩ .nil, fun y hy => ?_⟩, hwl, fun j z hj => absurd hj (Nat.not_lt_zero j)⟩ ?_ ?_⟩
    · rw [List.mem_singleton.mp hy]
      exact ⟨fun z => pr_ (V.ref.inj z), fun z => pw_ (V.ref.inj z)⟩
    · rintro i σ H1 hi ⟨⟨x4, x5, x6, rfl⟩, sm, li, ⟨rs, hr1, hP, nA⟩, hw1, no⟩
      rw [Int.zero_add]
      have lr : rs.length = (bfs (pst m n) (m.s, n.s) i).length := by
        have := hP.len
        unfold ptsL at this
        rw [List.length_map] at this
        exact this
      refine ⟨_, rfl, _, rfl, _, (bfs (pst m n) (m.s, n.s) i).length, rfl, .inl ⟨_, SqL.of hr1, lr.symm⟩, _, _, rfl, rfl, _, rfl, ite2 (fun c => ?_) (fun c => ?_)⟩
      · have c := of_decide_eq_true c
        have hl : (bfs (pst m n) (m.s, n.s) i).length ≤ i := by omega
        have h151 := bd 151
        have er : prt m n = none := res_none (by omega) hl no
        rw [er] at q
        exact q H1 sm
      have c : i < (bfs (pst m n) (m.s, n.s) i).length := by
        apply Nat.lt_of_not_le
        intro z
        exact c (decide_eq_true (by omega))
      obtain ⟨⟨p, wd⟩, hp⟩ : ∃ x, (bfs (pst m n) (m.s, n.s) i)[i]? = some x := ⟨_, List.getElem?_eq_getElem c⟩
      have ex : rs[i]? = some (rs[i]'(by omega)) := List.getElem?_eq_getElem (by omega)
      obtain ⟨pp, ep, ⟨pa, epa, hpa⟩⟩ := hP.get ex
      unfold ptsL at ep
      rw [List.getElem?_map, hp] at ep
      cases ep
      rw [epa] at ex
      have hd1 := hd.keep sm
      have he1 := he.keep sm
      have pS := inS i _ (List.mem_of_getElem? hp)
      obtain ⟨p1l, p2l⟩ := allP_mem.mp pS
      refine ⟨_, rfl, _, rfl, _, rfl, _, rfl, rl, rs, _, _, rfl, rfl, SqL.of hr1, atI_nat ex, d, e, pa, m, n, p, rfl, hd1, he1, hpa, _, rfl, ite2 (fun c2 => ?_) (fun c2 => ?_)⟩
      · have h151 := bd 151
        have er : prt m n = some wd := res_step (by omega) hp no c2
        rw [er] at q
        refine ⟨_, rfl, _, rfl, wl, _, _, _, rfl, rfl, SqL.of hw1, atI_nat (by unfold wsL; rw [List.getElem?_map, hp]; rfl), ?_⟩
        exact q H1 sm
      have c2 : unl m n p = false := Bool.eq_false_iff.mpr c2
      have e26 : abc.cps.size = 26 := abc_len
      refine ⟨abc, rfl, for_it walk_str (fun k σ H2 => (∃ x5 x6, σ = [some (.ref d), some (.ref e), some (.ref rl), some (.ref wl), some (.int (i : Int)), x5, x6]) ∧ Same H H2 ∧ (∃ rs, H2 rl = some (.lst rs) ∧ Pts H2 rs (ptsL (grow (pst m n) p wd (bfs (pst m n) (m.s, n.s) i) k)) ∧ ∀ y ∈ rs, y ≠ .ref rl ∧ y ≠ .ref wl) ∧ H2 wl = some (.lst (wsL (grow (pst m n) p wd (bfs (pst m n) (m.s, n.s) i) k))))
        ⟨⟨_, _, rfl⟩, sm, ⟨rs, hr1, hP, nA⟩, hw1⟩ (fun _ _ _ _ _ => trivial) ?_ ?_⟩
      · rintro k v σ H2 H3 hk ⟨⟨x5, x6, rfl⟩, sm2, ⟨rs2, hr2, hP2, nA2⟩, hw2⟩ ⟨rfl, cc, ec, rfl⟩
        have hk26 : k < 26 := by omega
        have ecc : cc = 97 + k := by
          have e1 : (cz abc)[k]? = some cc := by rw [← cz_at]; exact ec
          rw [abc_cz, List.getElem?_map, List.getElem?_range hk26] at e1
          exact (Option.some.inj e1).symm
        subst ecc
        have hgp := pre_get (grow_pre (f := pst m n) p wd (bfs (pst m n) (m.s, n.s) i) k) hp
        have gl : (grow (pst m n) p wd (bfs (pst m n) (m.s, n.s) i) k).length ≤ 25 := by
          have h1 : (grow (pst m n) p wd (bfs (pst m n) (m.s, n.s) i) k) <+: (bfs (pst m n) (m.s, n.s) (i + 1)) := by
            rw [bfs_succ hp]
            exact grow_le p wd _ (by omega : k ≤ 26)
          have h2 := h1.length_le
          have := bd (i + 1)
          omega
        have lw : wd.length ≤ i := bfs_len (f := pst m n) (m.s, n.s) i i _ hp
        generalize hG : grow (pst m n) p wd (bfs (pst m n) (m.s, n.s) i) k = G at *
        have l2 : rs2.length = G.length := by
          have := hP2.len
          unfold ptsL at this
          rw [List.length_map] at this
          exact this
        have iG := (List.getElem?_eq_some_iff.mp hgp).1
        have ex2 : rs2[i]? = some (rs2[i]'(by omega)) := List.getElem?_eq_getElem (by omega)
        obtain ⟨pp, ep, ⟨pa2, epa2, hpa2⟩⟩ := hP2.get ex2
        unfold ptsL at ep
        rw [List.getElem?_map, hgp] at ep
        cases ep
        rw [epa2] at ex2
        have at0 : atI ((ptP p).map V.int) ((0 : Nat) : Int) = some (V.int (p.1 : Int)) := atI_nat rfl
        have at1 : atI ((ptP p).map V.int) ((1 : Nat) : Int) = some (V.int (p.2 : Int)) := atI_nat rfl
        have hd2 := hd.keep sm2
        have he2 := he.keep sm2
        refine ⟨_, rfl, _, rfl, _, rfl, rl, rs2, _, _, rfl, rfl, SqL.of hr2, atI_nat ex2, pa2, _, _, _, rfl, rfl, SqL.of hpa2, at0, _, rfl, d, m, p.1, k, rfl, hd2, om, p1l, ?_⟩
        refine ⟨_, rfl, _, rfl, _, rfl, rl, rs2, _, _, rfl, rfl, SqL.of hr2, atI_nat ex2, pa2, _, _, _, rfl, rfl, SqL.of hpa2, at1, _, rfl, e, n, p.2, k, rfl, he2, on, p2l, ?_⟩
        refine ⟨(by show 2 ≤ sizeLine; omega), fun np nnp => ?_⟩
        have s4 := same_new (o := .lst [V.int ((stp m p.1 k : Nat) : Int), V.int ((stp n p.2 k : Nat) : Int)]) nnp
        have hnp : upd H3 np (.lst [V.int ((stp m p.1 k : Nat) : Int), V.int ((stp n p.2 k : Nat) : Int)]) np = some (.lst ((ptP (pst m n p k)).map V.int)) := upd_same
        have hr4 := s4 _ _ hr2
        have hw4 := s4 _ _ hw2
        have hP4 := hP2.keep s4
        have sm4 := sm2.trans s4
        have nr : np ≠ rl := fun z => by rw [z, hr2] at nnp; cases nnp
        have nw : np ≠ wl := fun z => by rw [z, hw2] at nnp; cases nnp
        generalize upd H3 np (.lst [V.int ((stp m p.1 k : Nat) : Int), V.int ((stp n p.2 k : Nat) : Int)]) = H4 at *
        have dpx : Dp K H4 (.ref rl) (.list ((ptsL G).map ptD)) := .lst (SqL.of hr4) hP4.dp
        have dps : Dp K H4 (.ref np) (ptD (ptP (pst m n p k))) := .lst (SqL.of hnp) (dp_ints _)
        refine ⟨_, rfl, _, rfl, _, _, dps, dpx, pt_shaped _, shaped_P _, ?_⟩
        rw [any_pts]
        refine ⟨_, rfl, ?_⟩
        have eg : grow (pst m n) p wd (bfs (pst m n) (m.s, n.s) i) (k + 1) = add1 (pst m n) p wd G k := by rw [← hG]; rfl
        rw [eg]
        unfold add1
        by_cases cm : pst m n p k ∈ G.map Prod.fst
        · rw [decide_eq_true (ptP_mem.mpr cm), if_pos cm]
          exact iteF ⟨⟨_, _, rfl⟩, sm4, ⟨rs2, hr4, hP4, nA2⟩, hw4⟩
        · rw [decide_eq_false (fun z => cm (ptP_mem.mp z)), if_neg cm]
          refine iteT ⟨_, rfl, .inl ⟨rfl, _, SqL.of hr4⟩, _, rfl, rl, rs2, .ref np, rfl, rfl, hr4, small1000 (by omega), ?_⟩
          have nA5 : ∀ y ∈ rs2 ++ [V.ref np], y ≠ .ref rl ∧ y ≠ .ref wl := fun y hy => by
            rcases List.mem_append.mp hy with h | h
            · exact nA2 y h
            · rw [List.mem_singleton.mp h]
              exact ⟨fun z => nr (V.ref.inj z), fun z => nw (V.ref.inj z)⟩
          have hP5 := Pts.updL (D := rl) (o := .lst (rs2 ++ [.ref np])) (fun y hy => (nA5 y hy).1) (Pts.snoc ⟨np, rfl, hnp⟩ hP4)
          have hw5 : upd H4 rl (.lst (rs2 ++ [.ref np])) wl = some (.lst (wsL G)) := by
            rw [upd_ne (Ne.symm rw_)]
            exact hw4
          have hr5 : upd H4 rl (.lst (rs2 ++ [.ref np])) rl = some (.lst (rs2 ++ [.ref np])) := upd_same
          have sm5 : Same H (upd H4 rl (.lst (rs2 ++ [.ref np]))) := fun b o e => by
            rw [upd_ne (ne_of_none e nrlH)]
            exact sm4 _ _ e
          generalize upd H4 rl (.lst (rs2 ++ [.ref np])) = H5 at *
          have lwG : (wsL G).length = G.length := by unfold wsL; rw [List.length_map]
          refine ⟨_, rfl, .inl ⟨rfl, _, SqL.of hw5⟩, _, rfl, _, rfl, wl, _, _, _, rfl, rfl, SqL.of hw5, atI_nat (by unfold wsL; rw [List.getElem?_map, hgp]; rfl), _, rfl, _, _, rfl, rfl, ?_, wl, wsL G, _, rfl, rfl, hw5, small1000 (by omega), ?_⟩
          · rw [tx_len]
            show wd.length + 1 ≤ sizeLine
            omega
          refine ⟨⟨_, _, rfl⟩, fun b o e => ?_, ⟨rs2 ++ [.ref np], ?_, ?_, nA5⟩, ?_⟩
          · rw [upd_ne (ne_of_none e nwlH)]
            exact sm5 _ _ e
          · rw [upd_ne rw_]
            exact hr5
          · have : ptsL (G ++ [(pst m n p k, wd ++ [97 + k])]) = ptsL G ++ [ptP (pst m n p k)] := by
              unfold ptsL
              rw [List.map_append]
              rfl
            rw [this]
            exact Pts.updL (fun y hy => (nA5 y hy).2) hP5
          · rw [upd_same, tx_snoc]
            unfold wsL
            rw [List.map_append]
            rfl
      · rintro σ H2 ⟨⟨x5, x6, rfl⟩, sm2, hr2, hw2⟩
        rw [e26, ← bfs_succ hp] at hr2 hw2
        have l1 := (bfs_pre1 (f := pst m n) (m.s, n.s) i).length_le
        refine ⟨⟨_, _, _, rfl⟩, sm2, by omega, hr2, hw2, fun j z hj hz => ?_⟩
        by_cases ej : j = i
        · subst ej
          rw [hp] at hz
          cases hz
          exact c2
        · exact no j z (by omega) hz
    · rintro σ H1 ⟨⟨x4, x5, x6, rfl⟩, sm, li, _⟩
      have := bd 26
      have li : 26 ≤ (bfs (pst m n) (m.s, n.s) 26).length := li
      omega
end
end KF
set_option Elab.async false
set_option linter.all false
set_option maxRecDepth 100000
set_option maxHeartbeats 1000000
namespace KF
open PySem PySem.Spec PyProof.Rows L2 XV NM XT XD XA NB LamX
/-! ### what the word that parts two automata is like -/
def azB (c : Nat) : Bool := decide (97 ≤ c) && decide (c < 123)
def Az (w : List Nat) : Prop := ∀ c ∈ w, azB c = true
theorem az_rng {c : Nat} (h : azB c = true) : c ∈ (List.range 26).map (97 + ·) := by
  unfold azB at h
  simp only [Bool.and_eq_true, decide_eq_true_eq] at h
  exact List.mem_map.mpr ⟨c - 97, List.mem_range.mpr (by omega), by omega⟩
theorem az_all {w : List Nat} (h : Az w) {p : Nat → Bool} (h1 : ((List.range 26).map (97 + ·)).all p = true) : (tx w).cps.all p = true := by
  rw [show (tx w).cps.all p = (cz (tx w)).all p by simp, cz_tx, List.all_eq_true]
  exact fun c hc => List.all_eq_true.mp h1 c (az_rng (h c hc))
theorem az_any {w : List Nat} (h : Az w) {p : Nat → Bool} (h1 : ((List.range 26).map (97 + ·)).any p = false) : (tx w).cps.any p = false := by
  rw [show (tx w).cps.any p = (cz (tx w)).any p by simp, cz_tx, List.any_eq_false]
  exact fun c hc => List.any_eq_false.mp h1 c (az_rng (h c hc))
theorem az_low {w : List Nat} (h : Az w) : lowS (tx w) = true := by
  unfold lowS
  by_cases e : tx w = ""
  · rw [decide_eq_true e]
    rfl
  rw [decide_eq_false e, Bool.false_or]
  have n : w ≠ [] := fun q => e (by rw [q]; decide +kernel)
  have l : 0 < (tx w).length := by
    rw [tx_len]
    exact List.length_pos_iff.mpr n
  have a1 : Txt.isascii (tx w) = true := az_all h (by decide)
  have a2 : Txt.isalpha (tx w) = true := by
    unfold Txt.isalpha
    rw [az_all h (by decide +kernel), Bool.and_true]
    exact decide_eq_true l
  have a3 : Txt.islower (tx w) = true := by
    unfold Txt.islower
    rw [az_any h (p := fun c => Unicode.isUpper c || Unicode.isTitle c) (by decide +kernel)]
    have e : (tx w).cps.any Unicode.isLower = true := by
      rw [show (tx w).cps.any Unicode.isLower = (cz (tx w)).any Unicode.isLower by simp, cz_tx, List.any_eq_true]
      obtain ⟨c, r, hc⟩ := List.exists_cons_of_ne_nil n
      refine ⟨c, by rw [hc]; exact List.mem_cons_self, ?_⟩
      exact List.all_eq_true.mp (show ((List.range 26).map (97 + ·)).all Unicode.isLower = true by decide +kernel) c (az_rng (h c (by rw [hc]; exact List.mem_cons_self)))
    rw [e]
    rfl
  rw [a1, a2, a3]
  rfl
theorem az_word {w : List Nat} (h : Az w) (l : w.length ≤ 20000) : wordV (.str (tx w)) = true := by
  show (lowS (tx w) && decide ((tx w).length ≤ 20000)) = true
  rw [az_low h, tx_len, decide_eq_true l]
  rfl
theorem fold_az (q : Nat) (hq : ((List.range 26).map (97 + ·)).all (fun c => decide (Builtin.Str.reprChar q c = [c])) = true) : ∀ (l : List Nat) (acc : Array Nat), Az l → (l.foldl (fun out c => out ++ (Builtin.Str.reprChar q c).toArray) acc).toList = acc.toList ++ l
  | [], acc, _ => by simp
  | c :: l, acc, h => by
    have hc : Builtin.Str.reprChar q c = [c] := of_decide_eq_true (List.all_eq_true.mp hq c (az_rng (h c List.mem_cons_self)))
    rw [List.foldl_cons, fold_az q hq l _ (fun d hd => h d (List.mem_cons_of_mem _ hd)), hc]
    simp
theorem repr_az {w : List Nat} (h : Az w) : (reprText (tx w)).cps.toList = 39 :: (w ++ [39]) := by
  have e : reprQuote (tx w) = 39 := by
    unfold reprQuote
    have : (tx w).cps.contains 39 = false := by
      cases c : (tx w).cps.contains 39 with
      | false => rfl
      | true =>
        have h1 : 39 ∈ cz (tx w) := by simpa using c
        rw [cz_tx] at h1
        exact absurd (h 39 h1) (by decide)
    rw [this]
    rfl
  unfold reprText
  rw [e]
  show (((tx w).cps.foldl (fun out c => out ++ (Builtin.Str.reprChar 39 c).toArray) #[39]).push 39).toList = _
  rw [Array.toList_push, ← Array.foldl_toList, show (tx w).cps.toList = w from cz_tx w, fold_az 39 (by decide +kernel) _ _ h]
  rfl
theorem sh_az {w : List Nat} (h : Az w) (l : w.length ≤ 50000) : ShOk (.str (tx w)) := by
  have e : (PyData.str (tx w)).shown = reprText (tx w) := by simp [PyData.shown]
  have r := repr_az h
  refine ⟨by simp [PyData.showable], by simp [PyData.hasDict], by simp [PyData.depth], ?_, ?_⟩
  · rw [e, cz_len, show cz (reprText (tx w)) = _ from r]
    simp only [List.length_cons, List.length_append, List.length_singleton]
    simp
    omega
  · rw [e]
    unfold PyData.strOk
    rw [show (reprText (tx w)).cps.all (fun x => decide (x < 0x110000)) = ((reprText (tx w)).cps.toList).all (fun x => decide (x < 0x110000)) by simp, r, List.all_eq_true]
    intro c hc
    rcases List.mem_cons.mp hc with rfl | hc
    · decide
    · rcases List.mem_append.mp hc with hc | hc
      · have := h c hc
        unfold azB at this
        simp only [Bool.and_eq_true, decide_eq_true_eq] at this
        exact decide_eq_true (by omega)
      · rw [List.mem_singleton.mp hc]
        decide
def optD : Option (List Nat) → PyData
  | none => .none
  | some w => .str (tx w)
theorem cols_snoc (z : Str) (w : List Nat) (c : Nat) : colsN z (tx (w ++ [c])) = colsN z (tx w) ++ [(cz z).idxOf c] := by
  unfold colsN
  rw [cz_tx, cz_tx, List.map_append]
  rfl
theorem beh_snoc (m : Am) (w : List Nat) (k : Nat) : behN m (tx (w ++ [97 + k])) = stp m (behN m (tx w)) k := by
  unfold behN
  rw [cols_snoc, run_snoc]
  rfl
/-- what the word is: letters a to z, shorter than the pairs are many, taken by one of the two alone -/
theorem prt_some {m n : Am} (om : AmOk m) (on : AmOk n) {w : List Nat} (h : prt m n = some w) : Az w ∧ w.length < m.R.length * n.R.length ∧ (accN m (tx w) = accN n (tx w) → False) := by
  have fi := fwIn om on
  unfold prt at h
  obtain ⟨T, hT⟩ : ∃ T, T = 151 := ⟨_, rfl⟩
  rw [← hT] at h
  clear hT
  unfold res at h
  obtain ⟨⟨p, v⟩, hf, e⟩ := Option.map_eq_some_iff.mp h
  obtain rfl : v = w := e
  have hu : unl m n p = true := List.find?_some (p := fun x : Pr × List Nat => unl m n x.1) hf
  have hm := List.mem_of_find?_eq_some hf
  have a1 := bfs_all (f := pst m n) (p0 := (m.s, n.s)) (Pr := fun p w => Az w ∧ behN m (tx w) = p.1 ∧ behN n (tx w) = p.2) ⟨fun c hc => (by cases hc), rfl, rfl⟩ (fun p w k ⟨h1, h2, h3⟩ hk => ⟨fun c hc => by
    rcases List.mem_append.mp hc with h | h
    · exact h1 c h
    · rw [List.mem_singleton.mp h]
      unfold azB
      rw [decide_eq_true (by omega), decide_eq_true (by omega)]
      rfl, by rw [beh_snoc, h2]; rfl, by rw [beh_snoc, h3]; rfl⟩) T _ hm
  obtain ⟨b1, b2, b3⟩ := a1
  obtain ⟨i, hi, ei⟩ := List.mem_iff_getElem.mp hm
  have l1 := bfs_len (f := pst m n) (m.s, n.s) T i (p, v) (by rw [List.getElem?_eq_getElem hi, ei])
  have l2 := bfs_size (f := pst m n) fi.h0 fi.st T
  rw [allP_len] at l2
  refine ⟨b1, Nat.lt_of_le_of_lt l1 (Nat.lt_of_lt_of_le hi l2), fun e => ?_⟩
  unfold accN at e
  rw [show behN m (tx v) = p.1 from b2, show behN n (tx v) = p.2 from b3] at e
  unfold unl at hu
  rw [e] at hu
  simp at hu
theorem prt_swap (m n : Am) : prt n m = prt m n := by
  unfold prt
  have e := bfs_map (f := pst m n) (g := pst n m) (h := fun p : Pr => (p.2, p.1)) (fun a b e => Prod.ext (congrArg Prod.snd e) (congrArg Prod.fst e)) (fun a k => rfl) (m.s, n.s) 151
  show res (unl n m) (bfs (pst n m) ((fun p : Pr => (p.2, p.1)) (m.s, n.s)) 151) = _
  rw [← e]
  refine res_map (h := fun p : Pr => (p.2, p.1)) (fun a => ?_) _
  unfold unl
  cases decide (a.1 ∈ m.es) <;> cases decide (a.2 ∈ n.es) <;> rfl
theorem prt_diag (m : Am) : prt m m = none := by
  unfold prt
  refine res_no fun j y _ hy => ?_
  have a1 := bfs_all (f := pst m m) (p0 := (m.s, m.s)) (Pr := fun p _ => p.1 = p.2) rfl (fun p w k h hk => by
    show stp m p.1 k = stp m p.2 k
    rw [show p.1 = p.2 from h]) 151 _ (List.mem_of_getElem? hy)
  unfold unl
  rw [show y.1.1 = y.1.2 from a1]
  cases decide (y.1.2 ∈ m.es) <;> rfl
theorem opt_sh {m n : Am} (om : AmOk m) (on : AmOk n) : ShOk (optD (prt m n)) := by
  cases e : prt m n with
  | none => exact shB_ok (by decide +kernel)
  | some w =>
    obtain ⟨h1, h2, _⟩ := prt_some om on e
    have a := om.r2
    have b := on.r2
    have : m.R.length * n.R.length ≤ 12 * 12 := Nat.mul_le_mul a b
    exact sh_az h1 (by omega)
theorem opt_dp {K : PySem.W.Frag} {H : Hp} (o : Option (List Nat)) : Dp K H (optV o) (optD o) := by
  cases o with
  | none => exact .non
  | some w => exact .str _
/-! ### the written automata -/
def amB (m : Am) : Bool := alphV (.str m.z) && (m.z.cps.all (· < 128) && (decide (m.z.length ≤ 26) && (decide (1 ≤ m.R.length) && (decide (m.R.length ≤ 12) && ((m.R.all fun r => decide (r.length = m.z.length + 1) && r.all fun x => decide (x < m.R.length)) && (decide (m.s < m.R.length) && ((m.es.all fun x => decide (x < m.R.length)) && decide (m.es.Pairwise (· < ·)))))))))
theorem am_ok {m : Am} (h : amB m = true) : AmOk m := by
  unfold amB at h
  simp only [Bool.and_eq_true, decide_eq_true_eq, List.all_eq_true] at h
  obtain ⟨h1, h2, h3, h4, h5, h6, h7, h8, h9⟩ := h
  exact ⟨h1, h2, h3, h4, h5, h6, h7, h8, h9⟩
def mW : Am := ⟨"", [[0]], 0, [0]⟩
def mB : Am := ⟨"", [[0]], 0, []⟩
def mF : Am := ⟨"abc", [[1, 0, 0, 0], [0, 2, 0, 0], [0, 0, 3, 0], [4, 0, 0, 0], [0, 5, 0, 0], [0, 0, 6, 0], [7, 0, 0, 0], [0, 8, 0, 0], [0, 0, 9, 0], [10, 0, 0, 0], [0, 11, 0, 0], [11, 11, 11, 11]], 0, [11]⟩
def mL : Am := ⟨"y", [[1, 0], [1, 0]], 0, [0]⟩
theorem okW : AmOk mW := am_ok (by decide +kernel)
theorem okB : AmOk mB := am_ok (by decide +kernel)
theorem okF : AmOk mF := am_ok (by decide +kernel)
theorem okL : AmOk mL := am_ok (by decide +kernel)
theorem prt_FB : optV (prt mF mB) = .str "abcabcabcab" := by decide +kernel
theorem prt_WL : optV (prt mW mL) = .str "y" := by decide +kernel
theorem prt_WB : optV (prt mW mB) = .str "" := by decide +kernel
end KF
set_option Elab.async false
set_option linter.all false
set_option maxRecDepth 100000
set_option maxHeartbeats 1000000
namespace KF
open PySem PySem.Spec PyProof.Rows L2 XV NM XT XD XA NB LamX
/-! ### an automaton drawn -/
abbrev sDraw : Stmt := top 36
abbrev nDraw : List Str := ["_law_generator_here", "_law_letters", "_law_states", "_law_last", "_law_state"]
theorem scDraw : FnScope nDraw ["_law_generator_here"] (defScope sDraw) := ⟨rfl, rfl, rfl, by decide +kernel, rfl, by decide +kernel, by decide +kernel⟩
/-- an automaton as the law draws it, none of its parts being g -/
def DnG (H : Hp) (d g : Addr) (m : Am) : Prop := ∃ ra ea, H d = some (.lst [.str m.z, .ref ra, .int (m.s : Int), .ref ea]) ∧ RG H ra g m.R ∧ H ea = some (.lst ((natI m.es).map V.int)) ∧ d ≠ g ∧ ra ≠ g ∧ ea ≠ g
theorem DnG.dn {H : Hp} {d g : Addr} {m : Am} (h : DnG H d g m) : Dn H d m := by
  obtain ⟨ra, ea, h1, h2, h3, _⟩ := h
  exact ⟨ra, ea, h1, h2.rl, h3⟩
theorem DnG.but {H H' : Hp} {d g : Addr} {m : Am} (h : DnG H d g m) (b : But H H' g) : DnG H' d g m := by
  obtain ⟨ra, ea, h1, h2, h3, n1, n2, n3⟩ := h
  exact ⟨ra, ea, b _ _ n1 h1, h2.but n2 b, b _ _ n3 h3, n1, n2, n3⟩
theorem menu_am {z : Str} (h : z ∈ menu) : alphV (.str z) = true ∧ z.cps.all (· < 128) = true ∧ z.length ≤ 3 := by
  have : ∀ z ∈ menu, alphV (.str z) = true ∧ z.cps.all (· < 128) = true ∧ z.length ≤ 3 := by decide +kernel
  exact this z h
def spDraw : Sp := fun vs H Q _ => ∃ (g : Addr) (n : Nat), vs = [.ref g] ∧ Dr H g n ∧ n ≤ 400000 ∧ ∀ (H' : Hp) (d : Addr) (m : Am), AmOk m → m.R.length ≤ 5 → m.z ∈ menu → DnG H' d g m → But H H' g → Dr H' g (n + 4000) → Q (.ref d) H'
section
variable {P : Program} {w : World} {K : PySem.W.Frag} {mg : Str → Option Value} {base : Heap} {f : Addr} {fd : FuncData} {C : Addr}
theorem ok_draw (F : FnP K "_law_draw" sDraw f fd) (o_rand : Ok P w K mg base "_law_random" 2 ["_law_generator_here", "_law_bound"] spRand) (o_signs : Ok P w K mg base "_law_signs" 3 ["_law_generator_here"] spSigns) (o_rowsL : Ok P w K mg base "_law_automaton_rows" 3 ["_law_generator_here", "_law_letters", "_law_states"] spRowsL) (z_range : mg "range" = none) : FnOk P w K mg base CX0 4 f fd ["_law_generator_here"] spDraw := by
  have nd := scDraw.nd
  refine F.ok scDraw (fun vs H Q E h => ?_) (fun cdv A outer s H vs Q E hr h => ?_)
  · obtain ⟨g, n, rfl, _⟩ := h
    rfl
  · obtain ⟨g, n, rfl, dr, hn, q⟩ := h
    have szl := sizeLine_eq
    have r3 : Room 3 (A.deeper (envOfC "_law_draw" (defScope sDraw) s.heap.objs.size f cdv)) := hr
    have r2 := r3.mono (by decide : 2 ≤ 3)
    refine ⟨_, PSs.nox (pss_cons (ps_par (i := 1) (j := 2) rfl nd rfl rfl (by decide) rfl rfl (pa_cons (pe_callO o_signs r3 (by rfl) (pa_cons (pv 0) pa_nil)) (pa_cons (pe_op op_add pe_int (pe_callO o_rand r2 (by rfl) (pa_cons (pv 0) (pa_cons pe_int pa_nil)))) pa_nil)) (by rfl))
      (pss_cons (ps_setLc (i := 3) (own := [("_law_state", 4)]) (g := gName 4) (by rfl) nd rfl rfl (sw_true rfl rfl rfl (by decide +kernel)) (pi_range1 (by rfl) z_range (pa_cons (pv 2) pa_nil)) (blkOk_by (N := nDraw) (sc := defScope sDraw) (own := [("_law_state", 4)]) (by decide +kernel)) (fun _ _ _ _ _ => pg_name (i := 4) nd rfl (Or.inl rfl)) (fun _ _ _ _ _ => pts_one (pt_cmpR op_eq (pe_callO o_rand r2 (by rfl) (pa_cons (pv 0) (pa_cons pe_int pa_nil))) pe_int (nomark _))) (fun _ _ _ _ _ => pv 4))
      (pss_one (ps_ret (pe_lst (pa_cons (pv 1) (pa_cons (pe_callO o_rowsL r3 (by rfl) (pa_cons (pv 0) (pa_cons (pv 1) (pa_cons (pv 2) pa_nil)))) (pa_cons (pe_callO o_rand r2 (by rfl) (pa_cons (pv 0) (pa_cons (pv 2) pa_nil))) (pa_cons (pv 3) pa_nil))))))))), ?_⟩
    refine ⟨_, rfl, g, n, rfl, dr, by omega, fun H1 z hz b1 d1 => ?_⟩
    refine ⟨_, rfl, g, n + 20, 5, rfl, d1, by omega, by decide, by decide +kernel, fun H2 r r0 r5 b2 d2 => ⟨_, _, rfl, rfl, _, _, rfl, ?_⟩⟩
    obtain ⟨k, rfl⟩ := Int.eq_ofNat_of_zero_le r0
    obtain ⟨m1, m2, m3⟩ := menu_am hz
    refine ⟨_, rfl, (1 + (k : Int)), rfl, by omega, by omega, fun D nD => lc_range (lo := 0) (n := (1 + (k : Int)).toNat) (fun i H' => But H H' g ∧ Dr H' g (n + 40 + 20 * i) ∧ D ≠ g ∧ ∃ es : List Nat, H' D = some (.lst ((natI es).map V.int)) ∧ es.length ≤ i ∧ (∀ x ∈ es, x < i) ∧ es.Pairwise (· < ·)) ?_ ?_ ?_⟩
    · have gD := dr_neK d2 nD
      exact ⟨(b1.trans b2).trans (Same.but (same_new nD)), dr_newK d2 nD, Ne.symm gD, [], upd_same, Nat.le_refl _, fun x hx => (by cases hx), .nil⟩
    · rintro i H3 hi ⟨b3, d3, gD, es, hD, le, lt, pw⟩
      refine ⟨rfl, ?_⟩
      refine ⟨_, rfl, g, n + 40 + 20 * i, 2, rfl, d3, by omega, by decide, by decide +kernel, fun H4 r r0 r2 b4 d4 => ⟨rfl, ?_⟩⟩
      have hD4 := b4 _ _ gD hD
      refine ⟨_, rfl, ite2 (fun _ => ?_) (fun _ => ?_)⟩
      · refine ⟨_, rfl, _, hD4, ?_, fun b o nb e => ?_, dr_updK (d4.mono (by omega)) (Ne.symm gD), gD, es ++ [i], ?_, ?_, fun x hx => ?_, ?_⟩
        · rw [List.length_map, natI_len]
          exact small1000 (by omega)
        · rw [upd_ne (ne_of_none ((b1.trans b2) _ _ nb e) nD)]
          exact b4 _ _ nb (b3 _ _ nb e)
        · rw [upd_same, Int.zero_add]
          unfold natI
          rw [List.map_append, List.map_append]
          rfl
        · rw [List.length_append]
          show es.length + 1 ≤ i + 1
          omega
        · rcases List.mem_append.mp hx with h | h
          · exact Nat.lt_succ_of_lt (lt x h)
          · rw [List.mem_singleton.mp h]
            exact Nat.lt_succ_self i
        · exact List.pairwise_append.mpr ⟨pw, List.pairwise_singleton _ _, fun x hx y hy => by rw [List.mem_singleton.mp hy]; exact lt x hx⟩
      · exact ⟨b3.trans b4, d4.mono (by omega), gD, es, hD4, by omega, fun x hx => Nat.lt_succ_of_lt (lt x hx), pw⟩
    · rintro H3 ⟨b3, d3, gD, es, hD, le, lt, pw⟩
      refine ⟨_, rfl, _, rfl, _, rfl, _, rfl, g, n + 40 + 20 * (1 + (k : Int)).toNat, 1 + k, z, rfl, d3, by omega, m3, by omega, by omega, fun H5 p R np hR lR fit b5 d5 => ?_⟩
      have pg : p ≠ g := Ne.symm (dr_neK d3 np)
      refine ⟨_, rfl, _, rfl, g, _, (1 + (k : Int)), rfl, d5, by omega, by omega, Int.lt_of_le_of_lt (b := 12) (by omega) (by decide +kernel), fun H6 r r0 rs b6 d6 => ?_⟩
      obtain ⟨v, rfl⟩ := Int.eq_ofNat_of_zero_le r0
      refine ⟨_, rfl, (by show 4 ≤ sizeLine; omega), fun l nl => ?_⟩
      have sl := same_new (o := .lst [.str z, .ref p, .int (v : Int), .ref D]) nl
      have gl := dr_neK d6 nl
      refine q _ l ⟨z, R, v, es⟩ ⟨m1, m2, by show z.length ≤ 26; omega, by show 1 ≤ R.length; omega, by show R.length ≤ 12; omega, fun r hr => by show _ ∧ ∀ x ∈ r, x < R.length; rw [lR]; exact fit r hr, by show v < R.length; omega, fun x hx => by show x < R.length; have := lt x hx; omega, pw⟩ (by show R.length ≤ 5; omega) hz ⟨p, D, upd_same, (hR.but pg b6).but pg (Same.but sl), sl _ _ (b6 _ _ gD (b5 _ _ gD hD)), Ne.symm gl, pg, gD⟩ (((b3.trans b5).trans b6).trans (Same.but sl)) (dr_newK (d6.mono (by omega)) nl)
end
end KF
set_option Elab.async false
set_option linter.all false
set_option maxRecDepth 100000
set_option maxHeartbeats 2000000
namespace KF
open PySem PySem.Spec PyProof.Rows L2 XV NM XT XD XA NB LamX
/-! ### an automaton turned -/
abbrev sTurned : Stmt := top 37
abbrev nTurned : List Str := ["_law_generator_here", "_law_one", "_law_letters", "_law_rows", "_law_first_here", "_law_last", "_law_states", "_law_way", "_law_by", "_law_new", "_law_at", "_law_state", "_law_to", "_law_row"]
theorem scTurned : FnScope nTurned ["_law_generator_here", "_law_one"] (defScope sTurned) := ⟨rfl, rfl, rfl, by decide +kernel, rfl, by decide +kernel, by decide +kernel⟩
abbrev scTO : Scope := { kind := .function, names := [(Str.ofString ".0", .local), (Str.ofString "_law_row", .local), (Str.ofString "_law_by", .cell), (Str.ofString "_law_states", .cell)], isGenerator := false, isCoroutine := false }
abbrev scTI : Scope := { kind := .function, names := [(Str.ofString ".0", .local), (Str.ofString "_law_to", .local), (Str.ofString "int", .globalImplicit), (Str.ofString "_law_by", .free), (Str.ofString "_law_states", .free)], isGenerator := false, isCoroutine := false }
theorem blkT : BlkOk nTurned scTO scTI [("_law_to", 12)] := blkOk_by (by decide +kernel)
theorem op_in_seqK {X : Cx} {K : PySem.W.Frag} (e : X.K = K) : OpR X (compareOp .In) (rIn K false) := by
  subst e
  exact op_in_seq
theorem sl_listK {X : Cx} {K : PySem.W.Frag} (e : X.K = K) : SlR X (rSlL K) := by
  subst e
  exact sl_list
def spTurned : Sp := fun vs H Q _ => ∃ (g d : Addr) (n : Nat) (m : Am), vs = [.ref g, .ref d] ∧ Dr H g n ∧ n ≤ 390000 ∧ DnG H d g m ∧ AmOk m ∧ m.R.length ≤ 5 ∧ m.z ∈ menu ∧ ∀ (H' : Hp) (d' : Addr) (m' : Am), AmOk m' → m'.R.length ≤ 5 → Dn H' d' m' → But H H' g → Q (.ref d') H'
/-- rows that stand in the list at D so far, each its own -/
def RN (H : Hp) (D g : Addr) (R : List (List Nat)) : Prop := ∃ xs, H D = some (.lst xs) ∧ Pts H xs (R.map natI) ∧ (∀ x ∈ xs, x ≠ .ref g ∧ x ≠ .ref D) ∧ xs.Nodup
theorem Pts.mem_some {H : Hp} : ∀ {xs : List V} {P : List (List Int)}, Pts H xs P → ∀ x ∈ xs, ∃ a o, x = .ref a ∧ H a = some o
  | _, _, .nil, x, hx => by cases hx
  | _, _, .cons h r, x, hx => by
    rcases List.mem_cons.mp hx with rfl | hx
    · obtain ⟨a, e, t⟩ := h
      exact ⟨a, _, e, t⟩
    · exact Pts.mem_some r x hx
theorem RN.snoc {H H1 : Hp} {D g : Addr} {R : List (List Nat)} {row : List Nat} {b : Addr} (h : RN H D g R) (s : Same H H1) (np : H b = none) (nb : b ≠ g) (hb : H1 b = some (.lst ((natI row).map V.int))) :
    ∃ xs, H1 D = some (.lst xs) ∧ xs.length = R.length ∧ RN (upd H1 D (.lst (xs ++ [.ref b]))) D g (R ++ [row]) := by
  obtain ⟨xs, e, p, n, d⟩ := h
  have nD : b ≠ D := fun z => by rw [z, e] at np; cases np
  have n2 : ∀ x ∈ xs ++ [V.ref b], x ≠ .ref g ∧ x ≠ .ref D := fun x hx => by
    rcases List.mem_append.mp hx with h | h
    · exact n x h
    · rw [List.mem_singleton.mp h]
      exact ⟨fun z => nb (V.ref.inj z), fun z => nD (V.ref.inj z)⟩
  have lx := p.len
  rw [List.length_map] at lx
  refine ⟨xs, s _ _ e, lx, xs ++ [.ref b], upd_same, ?_, n2, ?_⟩
  · rw [List.map_append]
    exact Pts.updL (fun x hx => (n2 x hx).2) (Pts.snoc ⟨b, rfl, hb⟩ (p.keep s))
  · refine List.nodup_append.mpr ⟨d, List.pairwise_singleton _ _, fun x hx y hy z => ?_⟩
    rw [List.mem_singleton.mp hy] at z
    obtain ⟨a, o, e1, e2⟩ := Pts.mem_some p x hx
    rw [z] at e1
    cases e1
    rw [np] at e2
    cases e2
theorem RN.rl {H : Hp} {D g : Addr} {R : List (List Nat)} (h : RN H D g R) : RL H D R := by
  obtain ⟨xs, e, p, _⟩ := h
  exact ⟨xs, e, p⟩
theorem RN.rg {H : Hp} {D g : Addr} {R : List (List Nat)} (h : RN H D g R) : RG H D g R := by
  obtain ⟨xs, e, p, n, _⟩ := h
  exact ⟨xs, e, p, fun x hx => (n x hx).1⟩
theorem Pts.set1 {H : Hp} {b : Addr} {q : List Int} : ∀ {xs : List V} {P : List (List Int)} (i : Nat), Pts H xs P → xs.Nodup → xs[i]? = some (.ref b) → Pts (upd H b (.lst (q.map V.int))) xs (P.set i q)
  | _, _, i, .nil, _, h => by cases h
  | x :: xs, p :: P, 0, .cons _ r, nd, h => by
    cases h
    have := List.nodup_cons.mp nd
    exact .cons ⟨b, rfl, upd_same⟩ (Pts.updL (fun y hy z => this.1 (by rw [← z]; exact hy)) r)
  | x :: xs, p :: P, i + 1, .cons hx r, nd, h => by
    have n2 := List.nodup_cons.mp nd
    have hm : V.ref b ∈ xs := List.mem_of_getElem? h
    obtain ⟨a, e, t⟩ := hx
    refine .cons ⟨a, e, ?_⟩ (Pts.set1 i r n2.2 h)
    rw [upd_ne (fun z => n2.1 (by rw [e, z]; exact hm))]
    exact t
theorem RN.but {H H' : Hp} {D g : Addr} {R : List (List Nat)} (h : RN H D g R) (n : D ≠ g) (b : But H H' g) : RN H' D g R := by
  obtain ⟨xs, e, p, q, d⟩ := h
  exact ⟨xs, b _ _ n e, Pts.butG b (fun x hx => (q x hx).1) p, q, d⟩
theorem Dr.keepS {H H' : Hp} (s : Same H H') {g : Addr} {n : Nat} (d : Dr H g n) : Dr H' g n := by
  obtain ⟨a, b, c, e, r⟩ := d
  exact ⟨a, b, c, s _ _ e, r⟩
theorem natI_snoc (l : List Nat) (x : Nat) : (natI (l ++ [x])).map V.int = (natI l).map V.int ++ [V.int (x : Int)] := by
  unfold natI
  rw [List.map_append, List.map_append]
  rfl
theorem take_snoc {α : Type} {l : List α} {i : Nat} {x : α} (h : l[i]? = some x) : l.take (i + 1) = l.take i ++ [x] := by
  rw [List.take_add_one, h]
  rfl
def ext (r : List Nat) : List Nat := r ++ r.drop (r.length - 1)
theorem ixN_natF {n j : Nat} (hj : j < n) : ixN n (j : Int) = some j := by
  unfold ixN
  rw [if_pos (by omega), if_pos (by omega)]
  rfl
theorem cut_last (r : List Nat) (h : r ≠ []) : cutV ((natI r).map V.int) (some (-1)) none = (natI (r.drop (r.length - 1))).map V.int := by
  have l : ((natI r).map V.int).length = r.length := by rw [List.length_map, natI_len]
  have l1 : 1 ≤ r.length := List.length_pos_iff.mpr h
  have e1 : HT.sIx r.length 0 (some (-1)) = r.length - 1 := by
    show (if (-1 : Int) < 0 then ((-1 : Int) + (r.length : Int)).toNat else min (-1 : Int).toNat r.length) = _
    rw [if_pos (by decide)]
    omega
  unfold cutV
  rw [l, e1, HT.sIx_none, List.take_of_length_le (by rw [List.length_drop, l]; omega)]
  unfold natI
  rw [List.map_drop, List.map_drop]
theorem ext_len {r : List Nat} (h : 1 ≤ r.length) : (ext r).length = r.length + 1 := by
  unfold ext
  rw [List.length_append, List.length_drop]
  omega
theorem ext_mem {r : List Nat} {x : Nat} (h : x ∈ ext r) : x ∈ r := by
  unfold ext at h
  rcases List.mem_append.mp h with h | h
  · exact h
  · exact List.mem_of_mem_drop h
def tr (s b x : Nat) : Nat := (x + s - b) % s
theorem tr_lt {s b x : Nat} (h : 1 ≤ s) : tr s b x < s := Nat.mod_lt _ h
theorem tr_inj {s b x y : Nat} (hb : b < s) (hx : x < s) (hy : y < s) (e : tr s b x = tr s b y) : x = y := by
  unfold tr at e
  have l : ∀ x, x < s → (x + s - b) % s = if x < b then x + s - b else x - b := fun x hx => by
    by_cases c : x < b
    · rw [if_pos c, Nat.mod_eq_of_lt (by omega)]
    · rw [if_neg c, show x + s - b = (x - b) + s by omega, Nat.add_mod_right, Nat.mod_eq_of_lt (by omega)]
  rw [l x hx, l y hy] at e
  split at e <;> split at e <;> omega
theorem tr_int {s b x : Nat} (hb : b < s) : ((x : Int) + (s : Int) - (b : Int)) % (s : Int) = ((tr s b x : Nat) : Int) := by
  unfold tr
  rw [Int.natCast_emod]
  congr 1
  omega
theorem srt_nat {l : List Nat} {ns : List Int} (hp : ns.Perm (natI l)) (hs : ns.Pairwise (· ≤ ·)) (nd : l.Nodup) : ∃ l' : List Nat, ns = natI l' ∧ l'.Pairwise (· < ·) ∧ ∀ x ∈ l', x ∈ l := by
  have en : ns = natI (ns.map Int.toNat) := by
    unfold natI
    rw [List.map_map]
    conv => lhs; rw [← List.map_id ns]
    refine List.map_congr_left fun x hx => ?_
    have := hp.mem_iff.mp hx
    unfold natI at this
    obtain ⟨k, _, e⟩ := List.mem_map.mp this
    rw [← e]
    rfl
  have pn : (ns.map Int.toNat).Perm l := by
    have := hp.map Int.toNat
    unfold natI at this
    rw [List.map_map] at this
    have e2 : l.map (Int.toNat ∘ fun (x : Nat) => (x : Int)) = l := by
      conv => rhs; rw [← List.map_id l]
      exact List.map_congr_left fun x _ => rfl
    exact e2 ▸ this
  have nn : (ns.map Int.toNat).Nodup := pn.nodup_iff.mpr nd
  refine ⟨_, en, ?_, fun x hx => pn.mem_iff.mp hx⟩
  have hs2 : (ns.map Int.toNat).Pairwise (· ≤ ·) := by
    rw [List.pairwise_map]
    exact hs.imp fun h => by omega
  exact (hs2.and nn).imp fun h => Nat.lt_of_le_of_ne h.1 h.2
theorem menu_q {z : Str} (h : z ∈ menu) : (decide ((cutS z (some (-1)) none).cps.toList < ("q" : Str).cps.toList) = true → alphV (.str (z ++ ("q" : Str))) = true ∧ (z ++ ("q" : Str)).cps.all (· < 128) = true ∧ (z ++ ("q" : Str)).length = z.length + 1) := by
  have : ∀ z ∈ menu, (decide ((cutS z (some (-1)) none).cps.toList < ("q" : Str).cps.toList) = true → alphV (.str (z ++ ("q" : Str))) = true ∧ (z ++ ("q" : Str)).cps.all (· < 128) = true ∧ (z ++ ("q" : Str)).length = z.length + 1) := by decide +kernel
  exact this z h
section
variable {P : Program} {w : World} {K : PySem.W.Frag} {mg : Str → Option Value} {base : Heap} {f : Addr} {fd : FuncData} {C : Addr}
theorem ok_turned (F : FnP K "_law_turned" sTurned f fd) (o_rand : Ok P w K mg base "_law_random" 2 ["_law_generator_here", "_law_bound"] spRand) (o_draw : Ok P w K mg base "_law_draw" 4 ["_law_generator_here"] spDraw) (z_len : mg "len" = none) (z_range : mg "range" = none) (z_int : mg "int" = none) (z_sorted : mg "sorted" = none) (z_list : mg "list" = none) : FnOk P w K mg base CX0 5 f fd ["_law_generator_here", "_law_one"] spTurned := by
  have nd := scTurned.nd
  refine F.ok scTurned (fun vs H Q E h => ?_) (fun cdv A outer s H vs Q E hr h => ?_)
  · obtain ⟨g, d, n, m, rfl, _⟩ := h
    rfl
  · obtain ⟨g, d, n, m, rfl, dr, hn, dn, ok, m5, mz, q⟩ := h
    have szl := sizeLine_eq
    have r4 : Room 4 (A.deeper (envOfC "_law_turned" (defScope sTurned) s.heap.objs.size f cdv)) := hr
    have r2 := r4.mono (by decide : 2 ≤ 4)
    refine ⟨_, PSs.nox (pss_cons (ps_asg (pv 1) (pg_lst rfl (pgs_cons (pg_name (i := 2) nd rfl (Or.inl rfl)) (pgs_cons (pg_name (i := 3) nd rfl (Or.inr rfl)) (pgs_cons (pg_name (i := 4) nd rfl (Or.inl rfl)) (pgs_cons (pg_name (i := 5) nd rfl (Or.inr rfl)) pgs_nil))))))
      (C8.pss_cut (ps_asg (pe_tup (pa_cons (pe_callB call_len (by rfl) z_len boot_len (pa_cons (pv 3) pa_nil)) (pa_cons (pe_callO o_rand r2 (by rfl) (pa_cons (pv 0) (pa_cons pe_int pa_nil))) pa_nil))) (pg_tup rfl (pgs_cons (pg_name (i := 6) nd rfl (Or.inr rfl)) (pgs_cons (pg_name (i := 7) nd rfl (Or.inl rfl)) pgs_nil))))
      (pss_cons (ps_if (pt_cmpR op_eq (pv 7) pe_int (nomark _)) (pss_one (ps_ret (pe_callO o_draw r4 (by rfl) (pa_cons (pv 0) pa_nil)))) pss_nil)
      (pss_cons (ps_if (pt_cmpR op_eq (pv 7) pe_int (nomark _))
        (pss_cons (ps_set (i := 8) nd rfl (Or.inr rfl) (pe_callO o_rand r2 (by rfl) (pa_cons (pv 0) (pa_cons (pv 6) pa_nil))))
        (C8.pss_cut (ps_setLc (i := 9) (own := [("_law_state", 11)]) (g := gName 11) (by rfl) nd rfl rfl (sw_true rfl rfl rfl (by decide +kernel)) (pi_range1 (by rfl) z_range (pa_cons (pv 6) pa_nil)) (blkOk_by (N := nTurned) (sc := defScope sTurned) (own := [("_law_state", 11)]) (by decide +kernel)) (fun _ _ _ _ _ => pg_name (i := 11) nd rfl (Or.inl rfl)) (fun _ _ _ _ _ => pts_nil)
          (fun _ _ _ _ _ => pe_ix (ix_listK (K := K) rfl) (pv 3) (pe_op op_mod (pe_callTy call_int1 (by rfl) z_int (by decide +kernel) (pa_cons (pe_op op_add (pv 11) (pv 8)) pa_nil)) (pv 6)) (fun _ _ => rfl)))
        (C8.pss_cut (ps_setLc (i := 9) (own := [("_law_row", 13)]) (g := gName 13) (by rfl) nd rfl rfl (sw_true rfl rfl rfl (by decide +kernel)) (pi_list (pv 9)) (blkOk_by (N := nTurned) (sc := defScope sTurned) (own := [("_law_row", 13)]) (by decide +kernel)) (fun _ _ _ _ _ => pg_name (i := 13) nd rfl (Or.inl rfl)) (fun _ _ _ _ _ => pts_nil)
          (fun _ _ _ _ _ => pe_lc (own := [("_law_to", 12)]) (g := gName 12) (by rfl) nd (pi_listK (K := K) rfl (pv 13)) blkT (fun _ _ _ _ _ => pg_name (i := 12) nd rfl (Or.inl rfl)) (fun _ _ _ _ _ => pts_nil)
            (fun _ _ _ _ _ => pe_op op_mod (pe_callTy call_int1 (by rfl) z_int (by decide +kernel) (pa_cons (pe_op op_sub (pe_op op_add (pv 12) (pv 6)) (pv 8)) pa_nil)) (pv 6))))
        (pss_one (ps_ret (pe_lst (pa_cons (pv 2) (pa_cons (pv 9) (pa_cons (pe_op op_mod (pe_callTy call_int1 (by rfl) z_int (by decide +kernel) (pa_cons (pe_op op_sub (pe_op op_add (pv 4) (pv 6)) (pv 8)) pa_nil)) (pv 6))
          (pa_cons (pe_callB cr_sortedI (by rfl) z_sorted (by decide +kernel) (pa_cons (pe_lc (own := [("_law_state", 11)]) (g := gName 11) (by rfl) nd (pi_list (pv 5)) (blkOk_by (N := nTurned) (sc := defScope sTurned) (own := [("_law_state", 11)]) (by decide +kernel)) (fun _ _ _ _ _ => pg_name (i := 11) nd rfl (Or.inl rfl)) (fun _ _ _ _ _ => pts_nil)
            (fun _ _ _ _ _ => pe_op op_mod (pe_callTy call_int1 (by rfl) z_int (by decide +kernel) (pa_cons (pe_op op_sub (pe_op op_add (pv 11) (pv 6)) (pv 8)) pa_nil)) (pv 6))) pa_nil)) pa_nil)))))))))) pss_nil)
      (C8.pss_cut (ps_if (PW.pt (pw_and (pt_cmpR op_eq (pv 7) pe_int (nomark _)) (pw_and1 (pt_cmpR op_lt_str (pe_slice sl_str (pv 2) (po_some (pe_un un_neg pe_int)) po_none) pe_str (nomark _)))))
        (pss_one (ps_ret (pe_lst (pa_cons (pe_op op_add_str (pv 2) pe_str) (pa_cons (pe_lc (own := [("_law_row", 13)]) (g := gName 13) (by rfl) nd (pi_list (pv 3)) (blkOk_by (N := nTurned) (sc := defScope sTurned) (own := [("_law_row", 13)]) (by decide +kernel)) (fun _ _ _ _ _ => pg_name (i := 13) nd rfl (Or.inl rfl)) (fun _ _ _ _ _ => pts_nil)
          (fun _ _ _ _ _ => pe_op op_cat (pv 13) (pe_slice (sl_listK (K := K) rfl) (pv 13) (po_some (pe_un un_neg pe_int)) po_none))) (pa_cons (pv 4) (pa_cons (pv 5) pa_nil))))))) pss_nil)
      (pss_cons (ps_asg (pe_tup (pa_cons (pe_lc (own := [("_law_row", 13)]) (g := gName 13) (by rfl) nd (pi_list (pv 3)) (blkOk_by (N := nTurned) (sc := defScope sTurned) (own := [("_law_row", 13)]) (by decide +kernel)) (fun _ _ _ _ _ => pg_name (i := 13) nd rfl (Or.inl rfl)) (fun _ _ _ _ _ => pts_nil)
          (fun _ _ _ _ _ => pe_callTy (call_list_ofK (K := K) rfl) (by rfl) z_list (by decide +kernel) (pa_cons (pv 13) pa_nil))) (pa_cons (pe_callO o_rand r2 (by rfl) (pa_cons (pv 0) (pa_cons (pv 6) pa_nil))) pa_nil))) (pg_tup rfl (pgs_cons (pg_name (i := 9) nd rfl (Or.inl rfl)) (pgs_cons (pg_name (i := 10) nd rfl (Or.inr rfl)) pgs_nil))))
      (pss_cons (ps_if (pt_cmpR op_eq (pv 7) pe_int (nomark _))
        (pss_cons (ps_asg (pe_callO o_rand r2 (by rfl) (pa_cons (pv 0) (pa_cons (pv 6) pa_nil))) (pg_sub (pe_ix ix_list (pv 9) (pv 10) (fun _ _ => rfl)) (pe_callO o_rand r2 (by rfl) (pa_cons (pv 0) (pa_cons (pe_op op_add (pe_callB call_len_str (by rfl) z_len boot_len (pa_cons (pv 2) pa_nil)) pe_int) pa_nil))) set_list))
        (pss_one (ps_ret (pe_lst (pa_cons (pv 2) (pa_cons (pv 9) (pa_cons (pv 4) (pa_cons (pv 5) pa_nil)))))))) pss_nil)
      (pss_one (ps_ret (pe_lst (pa_cons (pv 2) (pa_cons (pv 9) (pa_cons (pv 4) (pa_cons (pe_lc (own := [("_law_state", 11)]) (g := gName 11) (by rfl) nd (pi_range1 (by rfl) z_range (pa_cons (pv 6) pa_nil)) (blkOk_by (N := nTurned) (sc := defScope sTurned) (own := [("_law_state", 11)]) (by decide +kernel)) (fun _ _ _ _ _ => pg_name (i := 11) nd rfl (Or.inl rfl))
          (fun _ _ _ _ _ => pts_one (pt_cmpR op_ne (pe_cmpR (op_in_seqK (K := K) rfl) (pv 11) (pv 5) (by with_unfolding_all rfl)) (pe_cmpR op_eq (pv 11) (pv 10) (nomark _)) (nomark _))) (fun _ _ _ _ _ => pv 11)) pa_nil)))))))))))))), ?_⟩
    obtain ⟨ra, ea, hd, hR, he, dg, rg, eg⟩ := id dn
    obtain ⟨xs0, hra, hP, nA⟩ := id hR
    have lx0 := hP.len
    rw [List.length_map] at lx0
    have r1 := ok.r1
    refine ⟨_, rfl, d, _, rfl, SqL.of hd, rfl, _, _, rfl, _, _, rfl, _, _, rfl, _, _, rfl, rfl, ?_⟩
    refine ⟨fun σ' H' => ∃ wy : Int, σ' = [some (.ref g), some (.ref d), some (.str m.z), some (.ref ra), some (.int (m.s : Int)), some (.ref ea), some (.int (m.R.length : Int)), some (.int wy), none, none, none, none, none, none] ∧ But H H' g ∧ Dr H' g (n + 20), ?_, ?_⟩
    · refine ⟨_, rfl, _, m.R.length, rfl, .inl ⟨_, SqL.of hra, by rw [lx0]⟩, _, rfl, g, n, 5, rfl, dr, by omega, by decide, by decide +kernel, fun H1 wy w0 w5 b1 d1 => ⟨(by show 2 ≤ sizeLine; omega), fun tp ntp => ?_⟩⟩
      have s1 := same_new (o := .tup [.int (m.R.length : Int), .int wy]) ntp
      exact ⟨_, _, rfl, SqT.of (H := upd H1 tp (.tup [.int (m.R.length : Int), .int wy])) upd_same, rfl, _, _, rfl, _, _, rfl, rfl, wy, rfl, b1.trans (Same.but s1), dr_newK d1 ntp⟩
    rintro σ' H2 ⟨wy, rfl, b2, d2⟩
    have dn2 := dn.but b2
    have hra2 := b2 _ _ rg hra
    have hP2 := Pts.butG b2 nA hP
    have he2 := b2 _ _ eg he
    refine ⟨_, rfl, rfl, _, rfl, ite2 (fun _ => ?_) (fun _ => ?_)⟩
    · exact ⟨_, rfl, g, n + 20, rfl, d2, by omega, fun H3 d' m' ok' l5 _ dn' b3 _ => q H3 d' m' ok' l5 dn'.dn (b2.trans b3)⟩
    refine ⟨_, rfl, rfl, _, rfl, ite2 (fun _ => ?_) (fun _ => ?_)⟩
    · refine ⟨_, rfl, _, rfl, g, n + 20, (m.R.length : Int), rfl, d2, by omega, by omega, Int.lt_of_le_of_lt (b := 12) (by omega) (by decide +kernel), fun H3 b r0 rs b3 d3 => ?_⟩
      obtain ⟨b, rfl⟩ := Int.eq_ofNat_of_zero_le r0
      have hb : b < m.R.length := by omega
      have dn3 := dn2.but b3
      have hra3 := b3 _ _ rg hra2
      have hP3 := Pts.butG b3 nA hP2
      have he3 := b3 _ _ eg he2
      have bH3 := b2.trans b3
      refine ⟨fun σ' H' => ∃ (D : Addr) (xs : List V) (R : List (List Nat)), σ' = [some (.ref g), some (.ref d), some (.str m.z), some (.ref ra), some (.int (m.s : Int)), some (.ref ea), some (.int (m.R.length : Int)), some (.int wy), some (.int (b : Int)), some (.ref D), none, none, none, none] ∧ Same H3 H' ∧ H' D = some (.lst xs) ∧ Pts H' xs (R.map natI) ∧ R.length = m.R.length ∧ ∀ r ∈ R, r ∈ m.R, ?_, ?_⟩
      · refine ⟨_, rfl, (m.R.length : Int), rfl, by omega, by omega, fun D nD => lc_range (lo := 0) (n := (m.R.length : Int).toNat) (fun i H' => Same H3 H' ∧ ∃ (xs : List V) (R : List (List Nat)), H' D = some (.lst xs) ∧ Pts H' xs (R.map natI) ∧ (∀ x ∈ xs, x ≠ .ref D) ∧ R.length = i ∧ ∀ r ∈ R, r ∈ m.R)
          ⟨same_new nD, [], [], upd_same, .nil, fun x hx => (by cases hx), rfl, fun r hr => (by cases hr)⟩ ?_ ?_⟩
        · rintro i H4 hi ⟨s4, xs, R, hD, hX, nX, lR, inR⟩
          have hi : i < m.R.length := by omega
          have lt1 : (i + b) % m.R.length < m.R.length := Nat.mod_lt _ r1
          have ex : xs0[(i + b) % m.R.length]? = some (xs0[(i + b) % m.R.length]'(by omega)) := List.getElem?_eq_getElem (by omega)
          obtain ⟨row, erow, ha⟩ := hP3.get ex
          rw [List.getElem?_map] at erow
          obtain ⟨rN, er1, er2⟩ := Option.map_eq_some_iff.mp erow
          subst er2
          obtain ⟨pa, epa, hpa⟩ := ha
          have eI : ((0 : Int) + (i : Int) + (b : Int)) % ((m.R.length : Nat) : Int) = (((i + b) % m.R.length : Nat) : Int) := by
            rw [Int.natCast_emod]
            congr 1
            omega
          have lX := hX.len
          rw [List.length_map] at lX
          refine ⟨rfl, ?_⟩
          refine ⟨_, rfl, _, rfl, _, rfl, _, _, rfl, rfl, .inl ⟨_, rfl, _, rfl, _, _, rfl, rfl, by omega, ?_⟩⟩
          refine ⟨ra, xs0, _, _, rfl, rfl, SqL.of (s4 _ _ hra3), (by rw [eI]; exact atI_nat ex), xs, hD, small1000 (by omega), fun c o e => ?_, xs ++ [xs0[(i + b) % m.R.length]'(by omega)], R ++ [rN], upd_same, ?_, ?_, ?_, ?_⟩
          · rw [upd_ne (ne_of_none e nD)]
            exact s4 _ _ e
          · rw [List.map_append]
            exact Pts.updL (fun y hy => by
              rcases List.mem_append.mp hy with h | h
              · exact nX y h
              · rw [List.mem_singleton.mp h, epa]
                exact fun z => ne_of_none hpa nD (V.ref.inj z)) (Pts.snoc ⟨pa, epa, s4 _ _ hpa⟩ hX)
          · intro y hy
            rcases List.mem_append.mp hy with h | h
            · exact nX y h
            · rw [List.mem_singleton.mp h, epa]
              exact fun z => ne_of_none hpa nD (V.ref.inj z)
          · rw [List.length_append, lR]
            rfl
          · intro r hr
            rcases List.mem_append.mp hr with h | h
            · exact inR r h
            · rw [List.mem_singleton.mp h]
              exact List.mem_of_getElem? er1
        · rintro H4 ⟨s4, xs, R, hD, hX, nX, lR, inR⟩
          exact ⟨D, xs, R, rfl, s4, hD, hX, lR, inR⟩
      rintro σ' H4 ⟨D, xs, R, rfl, s4, hD, hX, lR, inR⟩
      have lX := hX.len
      rw [List.length_map] at lX
      have d4 := Dr.keepS s4 d3
      have lR : R.length = m.R.length := lR
      have lx5 : R.length ≤ 5 := by omega
      refine ⟨fun σ' H' => ∃ (D2 : Addr), σ' = [some (.ref g), some (.ref d), some (.str m.z), some (.ref ra), some (.int (m.s : Int)), some (.ref ea), some (.int (m.R.length : Int)), some (.int wy), some (.int (b : Int)), some (.ref D2), none, none, none, none] ∧ Same H4 H' ∧ RN H' D2 g (R.map fun r => r.map (tr m.R.length b)), ?_, ?_⟩
      · refine ⟨_, rfl, D, rfl, ⟨_, SqL.of hD⟩, fun D2 nD2 => lc_list (K := K) (a := D) (xs := xs) (fun i H' => Same H4 H' ∧ RN H' D2 g ((R.take i).map fun r => r.map (tr m.R.length b))) ⟨same_new nD2, [], upd_same, .nil, fun x hx => (by cases hx), .nil⟩ (fun i H' _ p => SqL.of (p.1 _ _ hD)) ?_ ?_⟩
        · rintro i v H5 hv ⟨s5, hN⟩
          obtain ⟨row, erow, ha⟩ := hX.get hv
          rw [List.getElem?_map] at erow
          obtain ⟨rN, er1, er2⟩ := Option.map_eq_some_iff.mp erow
          subst er2
          obtain ⟨pa, rfl, hpa⟩ := ha
          have hpa5 := s5 _ _ hpa
          have d5 := Dr.keepS s5 d4
          have hi := (List.getElem?_eq_some_iff.mp hv).1
          have lr := (ok.rw rN (inR rN (List.mem_of_getElem? er1))).1
          have lz := ok.lz
          refine ⟨rfl, ?_⟩
          refine ⟨_, rfl, pa, rfl, ⟨_, SqL.of hpa5⟩, fun D3 nD3 => lc_list (K := K) (a := pa) (xs := (natI rN).map V.int) (fun k H' => Same H5 H' ∧ H' D3 = some (.lst ((natI ((rN.take k).map (tr m.R.length b))).map V.int))) ⟨same_new nD3, upd_same⟩ (fun k H' _ p => SqL.of (p.1 _ _ hpa5)) ?_ ?_⟩
          · rintro k v H6 hv2 ⟨s6, hD3⟩
            unfold natI at hv2
            rw [List.map_map, List.getElem?_map] at hv2
            obtain ⟨x, ex, rfl⟩ := Option.map_eq_some_iff.mp hv2
            have hk := (List.getElem?_eq_some_iff.mp ex).1
            refine ⟨rfl, ?_⟩
            refine ⟨_, rfl, _, rfl, _, _, rfl, rfl, _, rfl, _, _, rfl, rfl, .inl ⟨_, rfl, _, rfl, _, _, rfl, rfl, by omega, ?_⟩⟩
            refine ⟨_, hD3, ?_, fun c o e => ?_, ?_⟩
            · rw [List.length_map, natI_len, List.length_map, List.length_take]
              exact small1000 (by omega)
            · rw [upd_ne (ne_of_none e nD3)]
              exact s6 _ _ e
            · rw [upd_same, take_snoc ex, List.map_append]
              show _ = some (HO.lst ((natI (_ ++ [tr m.R.length b x])).map V.int))
              rw [natI_snoc, ← tr_int hb]
          · rintro H6 ⟨s6, hD3⟩
            rw [List.length_map, natI_len, List.take_length] at hD3
            obtain ⟨ys, e1, l1, hN2⟩ := hN.snoc s6 nD3 (Ne.symm (dr_neK d5 nD3)) hD3
            refine ⟨ys, e1, ?_, fun c o e => ?_, ?_⟩
            · rw [l1, List.length_map, List.length_take]
              exact small1000 (by omega)
            · rw [upd_ne (ne_of_none e nD2)]
              exact s6 _ _ (s5 _ _ e)
            · rw [take_snoc er1, List.map_append]
              exact hN2
        · rintro H5 ⟨s5, hN⟩
          rw [lX, List.take_length] at hN
          exact ⟨D2, rfl, s5, hN⟩
      rintro σ' H5 ⟨D2, rfl, s5, hN⟩
      have he5 := s5 _ _ (s4 _ _ he3)
      have d5 := Dr.keepS s5 d4
      refine ⟨_, rfl, _, rfl, _, rfl, _, rfl, _, _, rfl, rfl, _, rfl, _, _, rfl, rfl, .inl ⟨_, rfl, _, rfl, _, _, rfl, rfl, by omega, ?_⟩⟩
      refine ⟨_, rfl, ea, rfl, ⟨_, SqL.of he5⟩, fun D4 nD4 => lc_list (K := K) (a := ea) (xs := (natI m.es).map V.int) (fun k H' => Same H5 H' ∧ H' D4 = some (.lst ((natI ((m.es.take k).map (tr m.R.length b))).map V.int))) ⟨same_new nD4, upd_same⟩ (fun k H' _ p => SqL.of (p.1 _ _ he5)) ?_ ?_⟩
      · rintro k v H6 hv2 ⟨s6, hD3⟩
        unfold natI at hv2
        rw [List.map_map, List.getElem?_map] at hv2
        obtain ⟨x, ex, rfl⟩ := Option.map_eq_some_iff.mp hv2
        have hk := (List.getElem?_eq_some_iff.mp ex).1
        have l5 := pw_len m.es 0 m.R.length (fun x hx => ⟨Nat.zero_le _, ok.he x hx⟩) ok.pw
        refine ⟨rfl, ?_⟩
        refine ⟨_, rfl, _, rfl, _, _, rfl, rfl, _, rfl, _, _, rfl, rfl, .inl ⟨_, rfl, _, rfl, _, _, rfl, rfl, by omega, ?_⟩⟩
        refine ⟨_, hD3, ?_, fun c o e => ?_, ?_⟩
        · rw [List.length_map, natI_len, List.length_map, List.length_take]
          exact small1000 (by omega)
        · rw [upd_ne (ne_of_none e nD4)]
          exact s6 _ _ e
        · rw [upd_same, take_snoc ex, List.map_append]
          show _ = some (HO.lst ((natI (_ ++ [tr m.R.length b x])).map V.int))
          rw [natI_snoc, ← tr_int hb]
      · rintro H6 ⟨s6, hD4⟩
        rw [List.length_map, natI_len, List.take_length] at hD4
        refine ⟨D4, _, rfl, SqL.of hD4, fun ns' p pm pw np => ⟨(by show 4 ≤ sizeLine; omega), fun l nl => ?_⟩⟩
        have ndE : (m.es.map (tr m.R.length b)).Nodup := by
          rw [List.Nodup, List.pairwise_map]
          refine List.Pairwise.imp_of_mem (fun {x y} hx hy h e => ?_) ok.pw
          have := tr_inj hb (ok.he x hx) (ok.he y hy) e
          omega
        obtain ⟨es', rfl, pw', in'⟩ := srt_nat pm pw ndE
        have sp := same_new (o := .lst ((natI es').map V.int)) np
        have sl := same_new (o := .lst [V.str m.z, .ref D2, .int (((m.s : Int) + (m.R.length : Int) - (b : Int)) % (m.R.length : Int)), .ref p]) nl
        have hp := sl _ _ (upd_same (H := H6) (a := p) (o := .lst ((natI es').map V.int)))
        have sA := (s6.trans sp).trans sl
        refine q _ l ⟨m.z, R.map fun r => r.map (tr m.R.length b), tr m.R.length b m.s, es'⟩ ⟨ok.al, ok.ascii, ok.lz, ?_, ?_, ?_, ?_, ?_, pw'⟩ ?_ ⟨D2, p, ?_, hN.rl.keep sA, hp⟩ (((bH3.trans (Same.but s4)).trans (Same.but s5)).trans (Same.but sA))
        · show 1 ≤ (R.map _).length
          rw [List.length_map]
          omega
        · show (R.map _).length ≤ 12
          rw [List.length_map]
          omega
        · intro r hr
          obtain ⟨r0, h0, rfl⟩ := List.mem_map.mp hr
          have h1 := (ok.rw r0 (inR r0 h0)).1
          refine ⟨by rw [List.length_map]; exact h1, fun x hx => ?_⟩
          obtain ⟨y, _, rfl⟩ := List.mem_map.mp hx
          show _ < (R.map _).length
          rw [List.length_map, lR]
          exact tr_lt r1
        · show _ < (R.map _).length
          rw [List.length_map, lR]
          exact tr_lt r1
        · intro x hx
          obtain ⟨y, _, rfl⟩ := List.mem_map.mp (in' x hx)
          show _ < (R.map _).length
          rw [List.length_map, lR]
          exact tr_lt r1
        · show (R.map _).length ≤ 5
          rw [List.length_map]
          omega
        · rw [upd_same, show V.int (((tr m.R.length b m.s : Nat)) : Int) = V.int (((m.s : Int) + (m.R.length : Int) - (b : Int)) % (m.R.length : Int)) by rw [tr_int hb]]
    refine ⟨fun σ' H' => σ' = [some (.ref g), some (.ref d), some (.str m.z), some (.ref ra), some (.int (m.s : Int)), some (.ref ea), some (.int (m.R.length : Int)), some (.int wy), none, none, none, none, none, none] ∧ H2 = H', ?_, ?_⟩
    · refine ⟨_, rfl, rfl, _, rfl, ite2 (fun _ => ?_) (fun _ => iteF ⟨rfl, rfl⟩)⟩
      refine ⟨_, rfl, _, rfl, _, rfl, m.z, rfl, ?_, _, _, rfl, rfl, _, rfl, ite2 (fun cq => ?_) (fun _ => ⟨rfl, rfl⟩)⟩
      · have := (menu_am mz).2.2
        omega
      obtain ⟨q1, q2, q3⟩ := menu_q mz cq
      have lz := (menu_am mz).2.2
      refine ⟨_, rfl, _, _, rfl, rfl, ?_, ?_⟩
      · show m.z.length + ("q" : Str).length ≤ sizeLine
        have : ("q" : Str).length = 1 := by decide +kernel
        omega
      refine ⟨_, rfl, ra, rfl, ⟨_, SqL.of hra2⟩, fun D nD => lc_list (K := K) (a := ra) (xs := xs0) (fun i H' => Same H2 H' ∧ RN H' D g ((m.R.take i).map ext)) ⟨same_new nD, [], upd_same, .nil, fun x hx => (by cases hx), .nil⟩ (fun i H' _ p => SqL.of (p.1 _ _ hra2)) ?_ ?_⟩
      · rintro i v H5 hv ⟨s5, hN⟩
        obtain ⟨row, erow, ha⟩ := hP2.get hv
        rw [List.getElem?_map] at erow
        obtain ⟨rN, er1, er2⟩ := Option.map_eq_some_iff.mp erow
        subst er2
        obtain ⟨pa, rfl, hpa⟩ := ha
        have hpa5 := s5 _ _ hpa
        have d5 := Dr.keepS s5 d2
        have hi := (List.getElem?_eq_some_iff.mp hv).1
        have lr := (ok.rw rN (List.mem_of_getElem? er1)).1
        have ne : rN ≠ [] := fun z => by rw [z] at lr; cases lr
        have ec := cut_last rN ne
        refine ⟨rfl, ?_⟩
        refine ⟨_, rfl, _, rfl, _, rfl, _, rfl, pa, _, rfl, SqL.of hpa5, fun p np => ?_⟩
        have sp := same_new (o := .lst (cutV ((natI rN).map V.int) (some (-1)) none)) np
        have hp2 : upd H5 p (.lst (cutV ((natI rN).map V.int) (some (-1)) none)) p = some (.lst ((natI (rN.drop (rN.length - 1))).map V.int)) := by rw [upd_same, ec]
        refine ⟨pa, p, _, _, rfl, rfl, sp _ _ hpa5, hp2, ?_, fun l nl => ?_⟩
        · rw [List.length_map, List.length_map, natI_len, natI_len, List.length_drop]
          omega
        have sl := same_new (o := .lst ((natI rN).map V.int ++ (natI (rN.drop (rN.length - 1))).map V.int)) nl
        have hl : upd (upd H5 p (.lst (cutV ((natI rN).map V.int) (some (-1)) none))) l (.lst ((natI rN).map V.int ++ (natI (rN.drop (rN.length - 1))).map V.int)) l = some (.lst ((natI (ext rN)).map V.int)) := by
          rw [upd_same]
          unfold ext natI
          rw [List.map_append, List.map_append]
        have np5 : H5 l = none := was_none sp nl
        obtain ⟨ys, e1, l1, hN2⟩ := hN.snoc (sp.trans sl) np5 (Ne.symm (dr_neK d5 np5)) hl
        refine ⟨ys, e1, ?_, fun c o e => ?_, ?_⟩
        · rw [l1, List.length_map, List.length_take]
          exact small1000 (by omega)
        · rw [upd_ne (ne_of_none e nD)]
          exact sl _ _ (sp _ _ (s5 _ _ e))
        · rw [take_snoc er1, List.map_append]
          exact hN2
      · rintro H5 ⟨s5, hN⟩
        rw [lx0, List.take_length] at hN
        refine ⟨_, rfl, _, rfl, (by show 4 ≤ sizeLine; omega), fun l nl => ?_⟩
        have sl := same_new (o := .lst [V.str (m.z ++ ("q" : Str)), .ref D, .int (m.s : Int), .ref ea]) nl
        refine q _ l ⟨m.z ++ ("q" : Str), m.R.map ext, m.s, m.es⟩ ⟨q1, q2, ?_, ?_, ?_, ?_, ?_, ?_, ok.pw⟩ ?_ ⟨D, ea, upd_same, hN.rl.keep sl, sl _ _ (s5 _ _ he2)⟩ ((b2.trans (Same.but s5)).trans (Same.but sl))
        · show (m.z ++ ("q" : Str)).length ≤ 26
          omega
        · show 1 ≤ (m.R.map ext).length
          rw [List.length_map]
          exact r1
        · show (m.R.map ext).length ≤ 12
          rw [List.length_map]
          omega
        · intro r hr
          obtain ⟨r0, h0, rfl⟩ := List.mem_map.mp hr
          have h1 := ok.rw r0 h0
          refine ⟨?_, fun x hx => ?_⟩
          · rw [ext_len (by omega), h1.1]
            show _ = (m.z ++ ("q" : Str)).length + 1
            rw [q3]
          · show _ < (m.R.map ext).length
            rw [List.length_map]
            exact h1.2 x (ext_mem hx)
        · show m.s < (m.R.map ext).length
          rw [List.length_map]
          exact ok.hs
        · intro x hx
          show _ < (m.R.map ext).length
          rw [List.length_map]
          exact ok.he x hx
        · show (m.R.map ext).length ≤ 5
          rw [List.length_map]
          exact m5
    rintro σ' H' ⟨rfl, rfl⟩
    have gD : ∀ {D}, H2 D = none → D ≠ g := fun nD => Ne.symm (dr_neK d2 nD)
    refine ⟨_, rfl, ra, rfl, ⟨_, SqL.of hra2⟩, fun D nD => lc_list (K := K) (a := ra) (xs := xs0) (fun i H' => Same H2 H' ∧ RN H' D g (m.R.take i) ∧ ∀ xs, H' D = some (.lst xs) → ∀ a, V.ref a ∈ xs → H2 a = none) ⟨same_new nD, ⟨[], upd_same, .nil, fun x hx => (by cases hx), .nil⟩, fun xs h a ha => ?_⟩ (fun i H' _ p => SqL.of (p.1 _ _ hra2)) ?_ ?_⟩
    · rw [upd_same] at h
      cases h
      cases ha
    · rintro i v H5 hv ⟨s5, hN, nE⟩
      obtain ⟨row, erow, ha⟩ := hP2.get hv
      rw [List.getElem?_map] at erow
      obtain ⟨rN, er1, er2⟩ := Option.map_eq_some_iff.mp erow
      subst er2
      obtain ⟨pa, rfl, hpa⟩ := ha
      have hpa5 := s5 _ _ hpa
      have d5 := Dr.keepS s5 d2
      have hi := (List.getElem?_eq_some_iff.mp hv).1
      refine ⟨rfl, ?_⟩
      refine ⟨_, rfl, pa, _, rfl, .inl (SqL.of hpa5), fun l nl => ?_⟩
      have sl := same_new (o := .lst ((natI rN).map V.int)) nl
      obtain ⟨xs1, e0, _⟩ := id hN
      obtain ⟨ys, e1, l1, hN2⟩ := hN.snoc sl nl (Ne.symm (dr_neK d5 nl)) upd_same
      have ey : ys = xs1 := by
        have := (sl _ _ e0).symm.trans e1
        cases this
        rfl
      refine ⟨ys, e1, ?_, fun c o e => ?_, ?_, fun xs h a hm => ?_⟩
      · rw [l1, List.length_take]
        exact small1000 (by omega)
      · rw [upd_ne (ne_of_none e nD)]
        exact sl _ _ (s5 _ _ e)
      · rw [take_snoc er1]
        exact hN2
      · rw [upd_same] at h
        cases h
        rcases List.mem_append.mp hm with h | h
        · rw [ey] at h
          exact nE _ e0 _ h
        · rw [show a = l from V.ref.inj (List.mem_singleton.mp h)]
          exact was_none s5 nl
    · rintro H5 ⟨s5, hN, nE⟩
      rw [lx0, List.take_length] at hN
      have d5 := Dr.keepS s5 d2
      have gD := gD nD
      refine ⟨_, rfl, _, rfl, g, n + 20, (m.R.length : Int), rfl, d5, by omega, by omega, Int.lt_of_le_of_lt (b := 12) (by omega) (by decide +kernel), fun H6 k r0 rs b6 d6 => ⟨(by show 2 ≤ sizeLine; omega), fun tp2 ntp2 => ?_⟩⟩
      obtain ⟨k, rfl⟩ := Int.eq_ofNat_of_zero_le r0
      have s6 := same_new (o := .tup [.ref D, .int (k : Int)]) ntp2
      refine ⟨_, _, rfl, SqT.of (H := upd H6 tp2 (.tup [.ref D, .int (k : Int)])) upd_same, rfl, _, _, rfl, _, _, rfl, rfl, ?_⟩
      have b7 : But H5 (upd H6 tp2 (.tup [.ref D, .int (k : Int)])) g := b6.trans (Same.but s6)
      have dA := dr_newK (o := .tup [.ref D, .int (k : Int)]) d6 ntp2
      generalize upd H6 tp2 (.tup [.ref D, .int (k : Int)]) = H7 at *
      have hNA := hN.but gD b7
      have heA := b7 _ _ eg (s5 _ _ he2)
      have bHA := (b2.trans (Same.but s5)).trans b7
      have nEA : ∀ xs, H7 D = some (.lst xs) → ∀ a, V.ref a ∈ xs → H2 a = none := fun xs h => by
        obtain ⟨xs1, e0, _⟩ := id hN
        have := (b7 _ _ gD e0).symm.trans h
        cases this
        exact nE _ e0
      refine ⟨_, rfl, rfl, _, rfl, ite2 (fun _ => ?_) (fun _ => ?_)⟩
      · refine ⟨_, rfl, _, rfl, g, n + 20 + 20, (m.R.length : Int), rfl, dA, by omega, by omega, Int.lt_of_le_of_lt (b := 12) (by omega) (by decide +kernel), fun H8 v v0 vs b8 d8 => ?_⟩
        obtain ⟨v, rfl⟩ := Int.eq_ofNat_of_zero_le v0
        obtain ⟨xs7, hxs7, _⟩ := id hNA
        obtain ⟨xs, hxs, hPx, nX, ndX⟩ := hNA.but gD b8
        have exs : xs = xs7 := by
          have := (b8 _ _ gD hxs7).symm.trans hxs
          cases this
          rfl
        have lx := hPx.len
        rw [List.length_map] at lx
        have kl : k < m.R.length := by omega
        have ex : xs[k]? = some (xs[k]'(by omega)) := List.getElem?_eq_getElem (by omega)
        obtain ⟨row, erow, ha⟩ := hPx.get ex
        rw [List.getElem?_map] at erow
        obtain ⟨rN, er1, er2⟩ := Option.map_eq_some_iff.mp erow
        subst er2
        obtain ⟨pa, epa, hpa⟩ := ha
        rw [epa] at ex
        have mpa := List.mem_of_getElem? ex
        have pg : pa ≠ g := fun z => (nX _ mpa).1 (by rw [z])
        have pD : pa ≠ D := fun z => (nX _ mpa).2 (by rw [z])
        have np2 : H2 pa = none := nEA _ hxs7 _ (by rw [← exs]; exact mpa)
        have pE : pa ≠ ea := Ne.symm (ne_of_none he2 np2)
        have lr := (ok.rw rN (List.mem_of_getElem? er1))
        have lz := (menu_am mz).2.2
        refine ⟨_, rfl, _, rfl, D, xs, _, _, rfl, rfl, SqL.of hxs, atI_nat ex, ?_⟩
        refine ⟨_, rfl, _, rfl, m.z, rfl, by omega, _, _, rfl, rfl, g, n + 20 + 20 + 20, (m.z.length : Int) + 1, rfl, d8, by omega, by omega, Int.lt_of_le_of_lt (b := 12) (by omega) (by decide +kernel), fun H9 j j0 js b9 d9 => ?_⟩
        obtain ⟨j, rfl⟩ := Int.eq_ofNat_of_zero_le j0
        have hpa9 := b9 _ _ pg hpa
        have jl : j < rN.length := by omega
        refine ⟨pa, _, _, j, rfl, rfl, hpa9, ?_, ?_⟩
        · rw [List.length_map, natI_len]
          exact ixN_natF jl
        have es : ((natI rN).map V.int).set j (V.int (v : Int)) = (natI (rN.set j v)).map V.int := by
          unfold natI
          rw [List.map_set, List.map_set]
        have hP10 := Pts.set1 (q := natI (rN.set j v)) k (Pts.butG b9 (fun x hx => (nX x hx).1) hPx) ndX ex
        refine ⟨_, rfl, _, rfl, _, rfl, _, rfl, (by show 4 ≤ sizeLine; omega), fun l nl => ?_⟩
        have sl := same_new (o := .lst [V.str m.z, .ref D, .int (m.s : Int), .ref ea]) nl
        rw [es] at *
        have b10 : But H9 (upd H9 pa (.lst ((natI (rN.set j v)).map V.int))) pa := fun b o nb e => by rw [upd_ne nb]; exact e
        refine q _ l ⟨m.z, m.R.set k (rN.set j v), m.s, m.es⟩ ⟨ok.al, ok.ascii, ok.lz, ?_, ?_, ?_, ?_, ?_, ok.pw⟩ ?_ ⟨D, ea, upd_same, ⟨xs, ?_, ?_⟩, ?_⟩ ?_
        · show 1 ≤ (m.R.set k _).length
          rw [List.length_set]
          exact r1
        · show (m.R.set k _).length ≤ 12
          rw [List.length_set]
          omega
        · intro r hr
          show r.length = m.z.length + 1 ∧ ∀ x ∈ r, x < (m.R.set k _).length
          rw [List.length_set]
          rcases List.mem_or_eq_of_mem_set hr with h | h
          · exact ok.rw r h
          · rw [h, List.length_set]
            refine ⟨lr.1, fun x hx => ?_⟩
            rcases List.mem_or_eq_of_mem_set hx with h | h
            · exact lr.2 x h
            · rw [h]
              omega
        · show m.s < (m.R.set k _).length
          rw [List.length_set]
          exact ok.hs
        · intro x hx
          show _ < (m.R.set k _).length
          rw [List.length_set]
          exact ok.he x hx
        · show (m.R.set k _).length ≤ 5
          rw [List.length_set]
          exact m5
        · exact sl _ _ (b10 _ _ (Ne.symm pD) (b9 _ _ gD hxs))
        · rw [List.map_set]
          exact hP10.keep sl
        · exact sl _ _ (b10 _ _ (Ne.symm pE) (b9 _ _ eg (b8 _ _ eg heA)))
        · intro b o nb e
          refine sl _ _ ?_
          rw [upd_ne (ne_of_none (b2 _ _ nb e) np2)]
          exact b9 _ _ nb (b8 _ _ nb (bHA _ _ nb e))
      · refine ⟨_, rfl, _, rfl, _, rfl, _, rfl, (m.R.length : Int), rfl, by omega, by omega, fun D4 nD4 => lc_range (lo := 0) (n := (m.R.length : Int).toNat) (fun i H' => Same H7 H' ∧ ∃ es : List Nat, H' D4 = some (.lst ((natI es).map V.int)) ∧ es.length ≤ i ∧ (∀ x ∈ es, x < i) ∧ es.Pairwise (· < ·)) ⟨same_new nD4, [], upd_same, Nat.le_refl _, fun x hx => (by cases hx), .nil⟩ ?_ ?_⟩
        · rintro i H8 hi ⟨s8, es, hD4, le, lt, pw⟩
          refine ⟨rfl, ?_⟩
          refine ⟨_, rfl, _, rfl, ea, _, rfl, .inl (SqL.of (s8 _ _ heA)), rfl, flat_nat _, _, rfl, _, rfl, rfl, rfl, _, rfl, ite2 (fun _ => ?_) (fun _ => ?_)⟩
          · refine ⟨_, rfl, _, hD4, ?_, fun c o e => ?_, es ++ [i], ?_, ?_, fun x hx => ?_, ?_⟩
            · rw [List.length_map, natI_len]
              exact small1000 (by omega)
            · rw [upd_ne (ne_of_none e nD4)]
              exact s8 _ _ e
            · rw [upd_same, Int.zero_add, natI_snoc]
            · rw [List.length_append]
              show es.length + 1 ≤ i + 1
              omega
            · rcases List.mem_append.mp hx with h | h
              · exact Nat.lt_succ_of_lt (lt x h)
              · rw [List.mem_singleton.mp h]
                exact Nat.lt_succ_self i
            · exact List.pairwise_append.mpr ⟨pw, List.pairwise_singleton _ _, fun x hx y hy => by rw [List.mem_singleton.mp hy]; exact lt x hx⟩
          · exact ⟨s8, es, hD4, by omega, fun x hx => Nat.lt_succ_of_lt (lt x hx), pw⟩
        · rintro H8 ⟨s8, es, hD4, le, lt, pw⟩
          refine ⟨(by show 4 ≤ sizeLine; omega), fun l nl => ?_⟩
          have sl := same_new (o := .lst [V.str m.z, .ref D, .int (m.s : Int), .ref D4]) nl
          exact q _ l ⟨m.z, m.R, m.s, es⟩ ⟨ok.al, ok.ascii, ok.lz, ok.r1, ok.r2, ok.rw, ok.hs, fun x hx => lt x hx, pw⟩ m5 ⟨D, D4, upd_same, hNA.rl.keep (s8.trans sl), sl _ _ hD4⟩ ((bHA.trans (Same.but s8)).trans (Same.but sl))
end
end KF
set_option Elab.async false
set_option linter.all false
set_option maxRecDepth 100000
set_option maxHeartbeats 4000000
namespace KF
open PySem PySem.Spec PyProof.Rows L2 XV NM XT XD XA NB LamX
/-! ### what is refused: one question -/
abbrev sCaught : Stmt := top 42
abbrev nCaught : List Str := ["_law_one", "_law_two", "_law_error", "e"]
theorem scCaught : FnScope nCaught ["_law_one", "_law_two"] (defScope sCaught) := ⟨rfl, rfl, rfl, by decide +kernel, rfl, by decide +kernel, by decide +kernel⟩
/-- the first of the two that is none -/
inductive AskP (K : PySem.W.Frag) (C : Addr) (H : Hp) : V → V → V → Prop
  | a {u v : V} : NoA K H u → AskP K C H u v u
  | b {x : Addr} {m : Am} {v : V} : Au C H x m → NoA K H v → AskP K C H (.ref x) v v
def spCaught (K : PySem.W.Frag) (C : Addr) : Sp := fun vs H Q _ => ∃ (u v x : V) (d : PyData), vs = [u, v] ∧ AskP K C H u v x ∧ Da H x d ∧ ShOk d ∧ ∀ H', Same H H' → Q (.str d.shown) H'
section
variable {P : Program} {w : World} {K : PySem.W.Frag} {mg : Str → Option Value} {base : Heap} {f : Addr} {fd : FuncData} {C Tb : Addr}
theorem ok_caught (F : FnP K "_law_caught" sCaught f fd) (Z : ClF P w K mg base) (o_pw : OkX P w K mg base "parting_word" 5 ["one", "other"] (spPw K C Tb)) (z_isinstance : mg "isinstance" = none) (z_repr : mg "repr" = none) :
    FnG P w K mg base CX0 6 f fd ["_law_one", "_law_two"] (spCaught K C) := by
  have nd := scCaught.nd
  have g0 : mg "InvalidAutomaton" = some (.ref (CF K 0)) := Z.g 0 (by decide)
  have gE : mg "LoopError" = some (.ref (CF K 1)) := Z.g 1 (by decide)
  refine okG F scCaught (fun vs H Q E h => ?_) (fun cdv A outer s H vs Q E ag hr h => ?_)
  · obtain ⟨u, v, x, d, rfl, _⟩ := h
    rfl
  · obtain ⟨u, v, x, d, rfl, ask, hx, sh, q⟩ := h
    have hu := hr.units
    have szl := sizeLine_eq
    refine ⟨_, PSs.nox (pss_cons (ps_set (i := 2) nd rfl (Or.inl rfl) pe_non)
      (C8.pss_cut (ps_try_keep (i := 3) rfl rfl rfl nd rfl rfl ⟨by rfl, by decide, .inl gE⟩ L2.takes0
        (fun W pn xe tk _ => pss_one (ps_expr (pe_callT o_pw tk hr (by rfl) (pa_cons (pv 0) (pa_cons (pv 1) pa_nil)))))
        (fun a oe cls d pn hz hf => pss_one (ps_set (i := 2) nd rfl (Or.inl rfl) (pv 3))))
      (pss_one (ps_ret (pe_ifExp (pt_val (pe_callB call_isZ (by rfl) z_isinstance (by decide +kernel) (pa_cons (pv 2) (pa_cons (pe_glob (v := .ref (CF K 0)) (by rfl) g0 rfl) pa_nil)))) (pe_callB (call_reprD ag hu) (by rfl) z_repr (by decide +kernel) (pa_cons (pe_zget (pv 2)) pa_nil)) pe_str))))), ?_⟩
    refine ⟨fun σ' H' => ∃ (a dx : Addr), σ' = [some u, some v, some (.ref a), none] ∧ Same H H' ∧ H' a = some (exz a (.ref (CF K 0)) (some dx)) ∧ H' dx = some (.xd [("value", x)]), ?_, ?_⟩
    · have wish : Rz (WE (wKeep K (.ref (CF K 1)) 3 (fun a cls d => tAsg (tVar 3) (gName 2)) (fun _ _ _ _ => False)
          { nx := fun σ' H' => ∃ (a dx : Addr), σ' = [some u, some v, some (.ref a), none] ∧ Same H H' ∧ H' a = some (exz a (.ref (CF K 0)) (some dx)) ∧ H' dx = some (.xd [("value", x)]), rt := Q })
          [some u, some v, some .non, none]) H (CF K 0) x := fun H' dx sm nd => by
        refine ⟨true, Z.exm 0 (by decide), fun _ a na => ?_, fun z => nomatch z⟩
        refine ⟨_, rfl, fun na2 => ⟨a, dx, rfl, (sm.trans (same_new nd)).trans (same_new na2), upd_same, ?_⟩⟩
        rw [upd_ne (ne_of_none upd_same na2)]
        exact upd_same
      cases ask with
      | a n => exact ⟨_, rfl, _, rfl, _, _, rfl, .inl ⟨n, wish⟩⟩
      | b ha n => exact ⟨_, rfl, _, rfl, _, _, rfl, .inr ⟨_, _, rfl, ha, .inl ⟨n, wish⟩⟩⟩
    · rintro σ' H1 ⟨a, dx, rfl, sm, ha, hdx⟩
      refine ⟨_, rfl, _, _, _, _, _, _, _, rfl, ha, hdx, Z.e 0 (by decide), (fun u r => r), Z.kit 0 (by decide) 0 (by decide), _, rfl, ite2 (fun _ => ?_) (fun c => absurd rfl c)⟩
      refine ⟨_, rfl, a, _, dx, _, x, rfl, ha, hdx, Z.f 0 (by decide), look_v _ _, ?_⟩
      refine ⟨x, d, rfl, (hx.keep sm).dp, sh.s, sh.h, sh.dp, Nat.le_trans sh.l (by omega), ?_⟩
      exact q _ sm
end
end KF
set_option Elab.async false
set_option linter.all false
set_option maxRecDepth 100000
set_option maxHeartbeats 400000
namespace KF
open PySem PySem.Spec PyProof.Rows L2 XV NM XT XD XA NB LamX
/-! ### the law -/
abbrev sLaw : Stmt := top 43
abbrev nLaw : List Str := ["_law_script", "_law_index", "_law_generator_here", "_law_one", "_law_other", "_law_first_here", "_law_second", "_law_due", "_law_told", "_law_whole", "_law_bad", "_law_rows", "_law_far", "_law_late", "_law_letter", "_law_state"]
theorem scLaw : FnScope nLaw ["_law_script"] (defScope sLaw) := ⟨rfl, rfl, rfl, by decide +kernel, rfl, by decide +kernel, by decide +kernel⟩
abbrev scLO : Scope := { kind := .function, names := [(Str.ofString ".0", .local), (Str.ofString "_law_state", .cell)], isGenerator := false, isCoroutine := false }
abbrev scLI : Scope := { kind := .function, names := [(Str.ofString ".0", .local), (Str.ofString "_law_letter", .local), (Str.ofString "int", .globalImplicit), (Str.ofString "_law_state", .free)], isGenerator := false, isCoroutine := false }
theorem blkL : BlkOk nLaw scLO scLI [("_law_letter", 14)] := blkOk_by (by decide +kernel)
structure OkEqF (P : Program) (w : World) (K : PySem.W.Frag) (mg : Str → Option Value) (base : Heap) (C : Addr) : Prop where
  ex : ∃ g fd, PySem.W.findIn K (.ref C) "__eq__" = some (some (.ref g)) ∧ PySem.W.isFn K (.ref g) = true ∧ FnOk P w K mg base CX0 1 g fd ["self", "other"] (spEqA K C) ∧ Binds K fd ["self", "other"] []
theorem neF (v : V) : (!decide (v = v)) = false := by simp
theorem iteN {p q : Prop} {v : V} (h : q) : if (!decide (v = v)) = true then p else q := by
  rw [neF]
  exact iteF h
/-- the word that parts two automata, told by what it keeps alone -/
structure Pt (pt : Am → Am → Option (List Nat)) : Prop where
  sw : ∀ m n, pt n m = pt m n
  di : ∀ m, pt m m = none
  so : ∀ m n w, AmOk m → AmOk n → pt m n = some w → Az w ∧ w.length < m.R.length * n.R.length ∧ (accN m (tx w) = accN n (tx w) → False)
  sh : ∀ m n, AmOk m → AmOk n → ShOk (optD (pt m n))
  fb : optV (pt mF mB) = .str "abcabcabcab"
  wl : optV (pt mW mL) = .str "y"
  wb : optV (pt mW mB) = .str ""
def spPwT (K : PySem.W.Frag) (C P : Addr) (pt : Am → Am → Option (List Nat)) : Sp := fun vs H Q E => ∃ u v, vs = [u, v] ∧ PwA K C H u v E fun m n => Tabs [(P, qLam)] H ∧ ∀ H', ExN H H' → Tabs [(P, qLam)] H' → Q (optV (pt m n)) H'
def spFirstT (pt : Am → Am → Option (List Nat)) : Sp := fun vs H Q _ => ∃ (d e : Addr) (m n : Am), vs = [.ref d, .ref e] ∧ Dn H d m ∧ Dn H e n ∧ AmOk m ∧ AmOk n ∧ m.R.length ≤ 5 ∧ n.R.length ≤ 5 ∧ ∀ H', Same H H' → Q (optV (pt m n)) H'
theorem pw_sp {K : PySem.W.Frag} {C Tb : Addr} {pt : Am → Am → Option (List Nat)} {H : Hp} {Q : VK} {E : XK} {x y : Addr} {m n : Am} (ha : Au C H x m) (hb : Au C H y n) (om : AmOk m) (on : AmOk n) (t : Tabs [(Tb, qLam)] H) (q : ∀ H', ExN H H' → Tabs [(Tb, qLam)] H' → Q (optV (pt m n)) H') : cm (spPwT K C Tb pt) [.ref x, .ref y] H Q E :=
  ⟨_, _, rfl, .inr ⟨x, m, rfl, ha, .inr ⟨y, n, rfl, hb, om, on, t, q⟩⟩⟩
/-- what stands in a turn -/
def LS (C : Addr) (H : Hp) (d e x y : Addr) (m n : Am) : Prop := Dn H d m ∧ Dn H e n ∧ Au C H x m ∧ Au C H y n
theorem LS.keepN {C : Addr} {H H' : Hp} {d e x y : Addr} {m n : Am} (h : LS C H d e x y m n) (s : ExN H H') : LS C H' d e x y m n := ⟨h.1.keepN s, h.2.1.keepN s, h.2.2.1.keepN s, h.2.2.2.keepN s⟩
theorem LS.keep {C : Addr} {H H' : Hp} {d e x y : Addr} {m n : Am} (h : LS C H d e x y m n) (s : Same H H') : LS C H' d e x y m n := h.keepN (ExN.of s)
def bads : List PyData := [.none, .str "a", .int 3, .list [.list [.int 0]]]
theorem okb : bads.all shB = true := by decide +kernel
def rowF (i : Nat) : List Nat := ((List.range 3).map fun k => if i % 3 = k then i + 1 else 0) ++ [0]
theorem mF_rows : mF.R = (List.range 11).map rowF ++ [[11, 11, 11, 11]] := by decide +kernel
theorem seqN {K : PySem.W.Frag} {H H' : Hp} {a : Addr} {xs : List V} (e : ExN H H') (h : SqL K H a xs) : SqL K H' a xs := by
  rcases h with (h | ⟨o, h⟩) | h
  · exact .inl (.inl (e _ _ h fun _ z => by cases z))
  · exact .inl (.inr ⟨o, e _ _ h fun _ z => by cases z⟩)
  · exact .inr h
theorem opt_ne {o : Option (List Nat)} (c : (!decide (optV o = V.non)) = true) : ∃ w, o = some w := by
  cases o with
  | none => simp [optV] at c
  | some w => exact ⟨w, rfl⟩
theorem tabsS {Tb : Addr} {H H' : Hp} (t : Tabs [(Tb, qLam)] H) (s : Same H H') : Tabs [(Tb, qLam)] H' := t.ext s
theorem rowF_at (i : Nat) : ∀ k, k < 3 → (rowF i)[k]? = some (if i % 3 = k then i + 1 else 0)
  | 0, _ => rfl
  | 1, _ => rfl
  | 2, _ => rfl
  | k + 3, h => absurd h (by omega)
theorem abc_at : ∀ k, k < 3 → (("abc" : Str).cps.toList)[k]? = some (97 + k) := by decide +kernel
theorem ch_inj {a b : Nat} (h : V.str ⟨#[a]⟩ = V.str ⟨#[b]⟩) : a = b := by
  have := V.str.inj h
  have h2 : (cz ⟨#[a]⟩) = cz ⟨#[b]⟩ := by rw [this]
  exact (List.cons.inj h2).1
def spLaw (K : PySem.W.Frag) (Tb : Addr) : Sp := fun vs H Q _ => ∃ (a : Addr) (ns : List Int), vs = [.ref a] ∧ SqL K H a (ns.map L2.V.int) ∧ ns.length ≤ 63 ∧ Tabs [(Tb, qLam)] H ∧ ∀ H' : Hp, Q (.bl true) H'
section
variable {P : Program} {w : World} {K : PySem.W.Frag} {mg : Str → Option Value} {base : Heap} {f : Addr} {fd : FuncData} {C Tb : Addr} {pt : Am → Am → Option (List Nat)}
theorem ok_law (hpt : Pt pt) (F : FnP K "law" sLaw f fd) (T : AT K mg C) (o_mk : OkMk P w K mg base C) (o_eq : OkEqF P w K mg base C) (o_gen : Ok P w K mg base "_law_generator" 1 ["_law_script", "_law_index"] (spGen K)) (o_draw : Ok P w K mg base "_law_draw" 4 ["_law_generator_here"] spDraw) (o_turned : Ok P w K mg base "_law_turned" 5 ["_law_generator_here", "_law_one"] spTurned)
    (o_mach : Ok P w K mg base "_law_machine" 8 ["_law_drawn"] (spMach C)) (o_first : Ok P w K mg base "_law_first" 2 ["_law_one", "_law_other"] (spFirstT pt)) (o_pw : Ok P w K mg base "parting_word" 5 ["one", "other"] (cm (spPwT K C Tb pt))) (k_pw : OkK P w K mg base "parting_word" 5 ["one", "other"] (cm (spPwT K C Tb pt)))
    (o_acc : Ok P w K mg base "accepts" 6 ["automaton", "word"] (spAcc C)) (o_caught : OkG P w K mg base "_law_caught" 6 ["_law_one", "_law_two"] (spCaught K C)) (z_range : mg "range" = none) (z_repr : mg "repr" = none) (z_len : mg "len" = none) (z_int : mg "int" = none) : FnG P w K mg base CX0 9 f fd ["_law_script"] (spLaw K Tb) := by
  have nd := scLaw.nd
  obtain ⟨fe, fde, e1, e2, FE, be⟩ := o_eq.ex
  refine okG F scLaw (fun vs H Q E h => ?_) (fun cdv A outer s H vs Q E ag hr h => ?_)
  · obtain ⟨a, ns, rfl, _⟩ := h
    rfl
  · obtain ⟨a, ns, rfl, hS, hlen, tb, q⟩ := h
    have hu := hr.units
    have szl := sizeLine_eq
    have r8 : Room 8 (A.deeper (envOfC "law" (defScope sLaw) s.heap.objs.size f cdv)) := hr
    have r7 := r8.mono (by decide : 7 ≤ 8)
    have r6 := r8.mono (by decide : 6 ≤ 8)
    have r5 := r8.mono (by decide : 5 ≤ 8)
    have r4 := r8.mono (by decide : 4 ≤ 8)
    have r2 := r8.mono (by decide : 2 ≤ 8)
    have r1 := r8.mono (by decide : 1 ≤ 8)
    refine ⟨_, PSs.nox (C8.pss_cut (ps_for PassesOwn.never rfl (pi_range1 (by rfl) z_range (pa_cons pe_int pa_nil)) (pg_name (i := 1) nd rfl (Or.inl rfl))
        (pss_cons (ps_set (i := 2) nd rfl (Or.inl rfl) (pe_callO o_gen r1 (by rfl) (pa_cons (pv 0) (pa_cons (pv 1) pa_nil))))
        (pss_cons (ps_set (i := 3) nd rfl (Or.inl rfl) (pe_callO o_draw r4 (by rfl) (pa_cons (pv 2) pa_nil)))
        (pss_cons (ps_set (i := 4) nd rfl (Or.inl rfl) (pe_callO o_turned r5 (by rfl) (pa_cons (pv 2) (pa_cons (pv 3) pa_nil))))
        (C8.pss_cut (ps_par3 (i := 5) (j := 6) (l := 7) rfl nd rfl rfl rfl (by decide) (by decide) (by decide) rfl rfl rfl (pa_cons (pe_callO o_mach r8 (by rfl) (pa_cons (pv 3) pa_nil)) (pa_cons (pe_callO o_mach r8 (by rfl) (pa_cons (pv 4) pa_nil)) (pa_cons (pe_callO o_first r2 (by rfl) (pa_cons (pv 3) (pa_cons (pv 4) pa_nil))) pa_nil))) (by rfl))
        (pss_cons (ps_set (i := 8) nd rfl (Or.inl rfl) (pe_callO o_pw r5 (by rfl) (pa_cons (pv 5) (pa_cons (pv 6) pa_nil))))
        (C8.pss_cut (ps_if (PW.pt (pw_or (pt_cmpR op_ne (pe_callB (call_reprD ag hu) (by rfl) z_repr (by decide +kernel) (pa_cons (pv 8) pa_nil)) (pe_callB (call_reprD ag hu) (by rfl) z_repr (by decide +kernel) (pa_cons (pv 7) pa_nil)) (nomark _))
          (pw_or1 (pt_cmpR op_ne (pe_callB (call_reprD ag hu) (by rfl) z_repr (by decide +kernel) (pa_cons (pe_callK k_pw r5 (by rfl) (pk_cons (pv 5) (pk_cons (pv 6) pk_nil))) pa_nil)) (pe_callB (call_reprD ag hu) (by rfl) z_repr (by decide +kernel) (pa_cons (pv 7) pa_nil)) (nomark _))))) (pss_one (ps_ret pe_bl)) pss_nil)
        (C8.pss_cut (ps_if (PW.pt (pw_and (pt_cmp (pc_notN (pv 8))) (pw_and1 (pt_cmpR op_eq (pe_callO o_acc r6 (by rfl) (pa_cons (pv 5) (pa_cons (pv 8) pa_nil))) (pe_callO o_acc r6 (by rfl) (pa_cons (pv 6) (pa_cons (pv 8) pa_nil))) (nomark _))))) (pss_one (ps_ret pe_bl)) pss_nil)
        (C8.pss_cut (ps_if (PW.pt (pw_and (pt_cmp (pc_notN (pv 8))) (pw_and1 (pt_cmpR op_ge (pe_callB call_len_str (by rfl) z_len boot_len (pa_cons (pv 8) pa_nil)) (pe_op op_mul (pe_callB call_len (by rfl) z_len boot_len (pa_cons (pe_ix ix_list (pv 3) pe_int (fun _ _ => rfl)) pa_nil)) (pe_callB call_len (by rfl) z_len boot_len (pa_cons (pe_ix ix_list (pv 4) pe_int (fun _ _ => rfl)) pa_nil))) (nomark _))))) (pss_one (ps_ret pe_bl)) pss_nil)
        (pss_cons (ps_if (pt_cmp (pc_notN (pe_callO o_pw r5 (by rfl) (pa_cons (pv 5) (pa_cons (pv 5) pa_nil))))) (pss_one (ps_ret pe_bl)) pss_nil)
        (pss_cons (ps_if (PW.pt (pw_or (pt_cmpR op_notBl (pe_cmpR (op_ownE e1 e2 FE r1 be pass0) (pv 5) (pe_callO o_mach r8 (by rfl) (pa_cons (pv 3) pa_nil)) (nomark _)) pe_bl (nomark _)) (pw_or1 (pt_cmpR op_notBl (pe_cmpR (op_ownE e1 e2 FE r1 be pass0) (pv 6) (pe_callO o_mach r8 (by rfl) (pa_cons (pv 4) pa_nil)) (nomark _)) pe_bl (nomark _))))) (pss_one (ps_ret pe_bl)) pss_nil)
        (pss_one (ps_if (pt_cmpR op_ne (pe_callB (call_reprD ag hu) (by rfl) z_repr (by decide +kernel) (pa_cons (pe_callO o_pw r5 (by rfl) (pa_cons (pv 5) (pa_cons (pv 6) pa_nil))) pa_nil)) (pe_callB (call_reprD ag hu) (by rfl) z_repr (by decide +kernel) (pa_cons (pv 7) pa_nil)) (nomark _)) (pss_one (ps_ret pe_bl)) pss_nil)))))))))))))
      (C8.pss_cut (ps_set (i := 9) nd rfl (Or.inl rfl) (pe_mk0 o_mk r7 (by rfl) (pa_cons pe_str (pa_cons (pe_lit 3 (d := PD (([[0]] : List (List Nat)).map natI)) rfl) pa_nil)) (pk_cons (pe_lst (pa_cons pe_int pa_nil)) pk_nil)))
      (C8.pss_cut (ps_for PassesOwn.never rfl (pi_list (pe_lit 5 (d := .list bads) rfl)) (pg_name (i := 10) nd rfl (Or.inl rfl))
        (pss_one (ps_if (PW.pt (pw_or (pt_cmpR op_ne (pe_callG o_caught ag r6 (by rfl) (pa_cons (pv 10) (pa_cons pe_non pa_nil))) (pe_callB (call_reprD ag hu) (by rfl) z_repr (by decide +kernel) (pa_cons (pv 10) pa_nil)) (nomark _))
          (pw_or1 (pt_cmpR op_ne (pe_callG o_caught ag r6 (by rfl) (pa_cons (pv 9) (pa_cons (pv 10) pa_nil))) (pe_callB (call_reprD ag hu) (by rfl) z_repr (by decide +kernel) (pa_cons (pv 10) pa_nil)) (nomark _))))) (pss_one (ps_ret pe_bl)) pss_nil)))
      (C8.pss_cut (ps_set (i := 11) nd rfl (Or.inl rfl) (pe_op op_cat (pe_lc (own := [("_law_state", 15)]) (g := gName 15) (by rfl) nd (pi_range1 (by rfl) z_range (pa_cons pe_int pa_nil)) (blkOk_by (N := nLaw) (sc := defScope sLaw) (own := [("_law_state", 15)]) (by decide +kernel)) (fun _ _ _ _ _ => pg_name (i := 15) nd rfl (Or.inr rfl)) (fun _ _ _ _ _ => pts_nil)
          (fun _ _ _ _ _ => pe_op op_cat (pe_lc (own := [("_law_letter", 14)]) (g := gName 14) (by rfl) nd (pi_str pe_str) blkL (fun _ _ _ _ _ => pg_name (i := 14) nd rfl (Or.inl rfl)) (fun _ _ _ _ _ => pts_nil)
            (fun _ _ _ _ _ => pe_ifExp (pt_cmpR op_eq (pe_ix ix_str pe_str (pe_op op_mod (pe_callTy call_int1 (by rfl) z_int (by decide +kernel) (pa_cons (pv 15) pa_nil)) pe_int) (fun _ _ => rfl)) (pv 14) (nomark _)) (pe_op op_add (pv 15) pe_int) pe_int)) (pe_lst (pa_cons pe_int pa_nil)))) (pe_lst (pa_cons (pe_op op_rep (pe_lst (pa_cons pe_int pa_nil)) pe_int) pa_nil))))
      (C8.pss_cut (ps_set (i := 12) nd rfl (Or.inl rfl) (pe_mk0 o_mk r7 (by rfl) (pa_cons pe_str (pa_cons (pv 11) pa_nil)) (pk_cons (pe_lst (pa_cons pe_int pa_nil)) pk_nil)))
      (C8.pss_cut (ps_if (PW.pt (pw_or (pt_cmpR op_ne (pe_callO o_pw r5 (by rfl) (pa_cons (pv 12) (pa_cons (pe_mk0 o_mk r7 (by rfl) (pa_cons pe_str (pa_cons (pe_lit 3 (d := PD (([[0]] : List (List Nat)).map natI)) rfl) pa_nil)) (pk_cons (pe_lst pa_nil) pk_nil)) pa_nil))) pe_str (nomark _)) (pw_or1 (pt_cmp (pc_notN (pe_callO o_pw r5 (by rfl) (pa_cons (pv 12) (pa_cons (pv 12) pa_nil)))))))) (pss_one (ps_ret pe_bl)) pss_nil)
      (C8.pss_cut (ps_set (i := 13) nd rfl (Or.inl rfl) (pe_mk0 o_mk r7 (by rfl) (pa_cons pe_str (pa_cons (pe_lit 3 (d := PD (([[1, 0], [1, 0]] : List (List Nat)).map natI)) rfl) pa_nil)) (pk_cons (pe_lst (pa_cons pe_int pa_nil)) pk_nil)))
      (pss_one (ps_ret (pe_and (pe_cmpR op_eq (pe_callO o_pw r5 (by rfl) (pa_cons (pv 9) (pa_cons (pv 13) pa_nil))) pe_str (nomark _)) (pe_one (pe_cmpR op_eq (pe_callO o_pw r5 (by rfl) (pa_cons (pv 9) (pa_cons (pe_mk0 o_mk r7 (by rfl) (pa_cons pe_str (pa_cons (pe_lit 3 (d := PD (([[0]] : List (List Nat)).map natI)) rfl) pa_nil)) (pk_cons (pe_lst pa_nil) pk_nil)) pa_nil))) pe_str (nomark _))))))))))))), ?_⟩
    refine ⟨fun σ' H' => (∃ x1 x2 x3 x4 x5 x6 x7 x8, σ' = [some (.ref a), x1, x2, x3, x4, x5, x6, x7, x8, none, none, none, none, none, none, none]) ∧ ExN H H' ∧ Tabs [(Tb, qLam)] H', ?_, ?_⟩
    · refine ⟨3, rfl, by decide, by decide, for_range (lo := 0) (n := 3) (fun i σ H' => (∃ x1 x2 x3 x4 x5 x6 x7 x8, σ = [some (.ref a), x1, x2, x3, x4, x5, x6, x7, x8, none, none, none, none, none, none, none]) ∧ ExN H H' ∧ Tabs [(Tb, qLam)] H') ⟨⟨_, _, _, _, _, _, _, _, rfl⟩, LamX.ExtN.refl _, tb⟩ ?_ (fun σ' H' z => z)⟩
      rintro i σ H1 hi ⟨⟨x1, x2, x3, x4, x5, x6, x7, x8, rfl⟩, xn, t1⟩
      rw [Int.zero_add]
      refine ⟨_, rfl, _, rfl, a, ns, i, rfl, seqN xn hS, by omega, fun H2 g s1 ng d1 => ?_⟩
      refine ⟨_, rfl, g, 1000 * i, rfl, d1, by omega, fun H3 dd m om m5 mz dn1 b3 d3 => ?_⟩
      refine ⟨_, rfl, _, rfl, g, dd, 1000 * i + 4000, m, rfl, d3, by omega, dn1, om, m5, mz, fun H4 ee n on n5 dn2 b4 => ?_⟩
      have dn4 := (dn1.but b4).dn
      refine ⟨fun σ' H' => ∃ x y, σ' = [some (.ref a), some (.int (i : Int)), some (.ref g), some (.ref dd), some (.ref ee), some (.ref x), some (.ref y), some (optV (pt m n)), x8, none, none, none, none, none, none, none] ∧ LS C H' dd ee x y m n ∧ ExN H H' ∧ Tabs [(Tb, qLam)] H', ?_, ?_⟩
      · refine ⟨_, rfl, dd, m, rfl, dn4, om, fun H5 x s5 ax => ?_⟩
        refine ⟨_, rfl, ee, n, rfl, dn2.keep s5, on, fun H6 y s6 ay => ?_⟩
        refine ⟨_, rfl, _, rfl, dd, ee, m, n, rfl, (dn4.keep s5).keep s6, (dn2.keep s5).keep s6, om, on, m5, n5, fun H7 s7 => ?_⟩
        have S : Same H1 H7 := fun b o e => ((s5.trans s6).trans s7) _ _ ((b3.trans b4) _ _ (ne_of_none e ng) (s1 _ _ e))
        exact ⟨_, _, _, rfl, x, y, rfl, ⟨((dn4.keep s5).keep s6).keep s7, ((dn2.keep s5).keep s6).keep s7, (ax.keep s6).keep s7, ay.keep s7⟩, xn.trans (ExN.of S), tabsS t1 S⟩
      clear dn4 dn2 dn1 d3 b4 b3 d1 s1 t1 xn
      rintro σ' H2 ⟨x, y, rfl, ls, xn, t2⟩
      have sh := hpt.sh m n om on
      have shl : (optD (pt m n)).shown.length ≤ 1000000 := Nat.le_trans sh.l (by decide)
      refine ⟨_, rfl, _, rfl, _, _, rfl, .inr ⟨_, _, rfl, ls.2.2.1, .inr ⟨_, _, rfl, ls.2.2.2, om, on, t2, fun H3 x3 t3 => ?_⟩⟩⟩
      have ls3 := ls.keepN x3
      have xn3 := xn.trans x3
      clear ls xn t2 x3
      refine ⟨fun σ' H' => σ' = [some (.ref a), some (.int (i : Int)), some (.ref g), some (.ref dd), some (.ref ee), some (.ref x), some (.ref y), some (optV (pt m n)), some (optV (pt m n)), none, none, none, none, none, none, none] ∧ LS C H' dd ee x y m n ∧ ExN H H' ∧ Tabs [(Tb, qLam)] H', ?_, ?_⟩
      · refine ⟨_, rfl, _, optD (pt m n), rfl, opt_dp _, sh.s, sh.h, sh.dp, Nat.le_trans sh.l (by omega), _, rfl, _, optD (pt m n), rfl, opt_dp _, sh.s, sh.h, sh.dp, Nat.le_trans sh.l (by omega), rfl, _, rfl, iteN ?_⟩
        refine ⟨_, rfl, _, rfl, rfl, ?_⟩
        refine ⟨_, _, rfl, .inr ⟨_, _, rfl, ls3.2.2.2, .inr ⟨_, _, rfl, ls3.2.2.1, on, om, t3, fun H4 x4 t4 => ?_⟩⟩⟩
        rw [hpt.sw m n]
        refine ⟨_, optD (pt m n), rfl, opt_dp _, sh.s, sh.h, sh.dp, Nat.le_trans sh.l (by omega), _, rfl, _, optD (pt m n), rfl, opt_dp _, sh.s, sh.h, sh.dp, Nat.le_trans sh.l (by omega), rfl, _, rfl, iteN ⟨rfl, ls3.keepN x4, xn3.trans x4, t4⟩⟩
      clear ls3 xn3 t3
      rintro σ' H4 ⟨rfl, ls, xn, t⟩
      refine ⟨fun σ' H' => σ' = [some (.ref a), some (.int (i : Int)), some (.ref g), some (.ref dd), some (.ref ee), some (.ref x), some (.ref y), some (optV (pt m n)), some (optV (pt m n)), none, none, none, none, none, none, none] ∧ LS C H' dd ee x y m n ∧ ExN H H' ∧ Tabs [(Tb, qLam)] H', ?_, ?_⟩
      · refine ⟨_, rfl, _, rfl, ite2 (fun c => ?_) (fun _ => iteF ⟨rfl, ls, xn, t⟩)⟩
        obtain ⟨w1, ew⟩ := opt_ne c
        obtain ⟨az, lw, na⟩ := hpt.so m n _ om on ew
        have l20 : w1.length ≤ 20000 := by
          have h1 := om.r2
          have h2 := on.r2
          have := Nat.mul_le_mul h1 h2
          omega
        refine ⟨_, rfl, _, rfl, x, m, tx w1, by rw [ew]; rfl, ls.2.2.1, om, az_word az l20, fun H5 s5 => ?_⟩
        refine ⟨_, rfl, _, rfl, y, n, tx w1, by rw [ew]; rfl, ls.2.2.2.keep s5, on, az_word az l20, fun H6 s6 => ?_⟩
        refine ⟨rfl, _, rfl, ite2 (fun z => (na (V.bl.inj (of_decide_eq_true z))).elim) (fun _ => ⟨rfl, (ls.keep s5).keep s6, xn.trans (ExN.of (s5.trans s6)), tabsS t (s5.trans s6)⟩)⟩
      clear ls xn t
      rintro σ' H5 ⟨rfl, ls, xn, t⟩
      refine ⟨fun σ' H' => σ' = [some (.ref a), some (.int (i : Int)), some (.ref g), some (.ref dd), some (.ref ee), some (.ref x), some (.ref y), some (optV (pt m n)), some (optV (pt m n)), none, none, none, none, none, none, none] ∧ LS C H' dd ee x y m n ∧ ExN H H' ∧ Tabs [(Tb, qLam)] H', ?_, ?_⟩
      · refine ⟨_, rfl, _, rfl, ite2 (fun c => ?_) (fun _ => iteF ⟨rfl, ls, xn, t⟩)⟩
        obtain ⟨w1, ew⟩ := opt_ne c
        obtain ⟨az, lw, na⟩ := hpt.so m n _ om on ew
        have l20 : w1.length ≤ 20000 := by
          have h1 := om.r2
          have h2 := on.r2
          have := Nat.mul_le_mul h1 h2
          omega
        obtain ⟨ra, ea, hd, hR, _⟩ := id ls.1
        obtain ⟨rb, eb, hd2, hR2, _⟩ := id ls.2.1
        obtain ⟨xs, hxs, hP⟩ := hR
        obtain ⟨xs2, hxs2, hP2⟩ := hR2
        have lx := hP.len
        have lx2 := hP2.len
        rw [List.length_map] at lx lx2
        have a1 : ∀ (m : Am) ra ea, atI [V.str m.z, .ref ra, .int (m.s : Int), .ref ea] ((1 : Nat) : Int) = some (.ref ra) := fun _ _ _ => atI_nat rfl
        have lt : ((tx w1).length : Int) < (m.R.length : Int) * (n.R.length : Int) := by
          rw [tx_len, ← Int.natCast_mul]
          exact Int.ofNat_lt.mpr lw
        refine ⟨_, rfl, tx w1, by rw [ew]; rfl, by rw [tx_len]; omega, ?_⟩
        refine ⟨_, rfl, dd, _, _, _, rfl, rfl, SqL.of hd, a1 _ _ _, _, m.R.length, rfl, .inl ⟨_, SqL.of hxs, lx.symm⟩, ?_⟩
        refine ⟨_, rfl, ee, _, _, _, rfl, rfl, SqL.of hd2, a1 _ _ _, _, n.R.length, rfl, .inl ⟨_, SqL.of hxs2, lx2.symm⟩, ?_⟩
        refine ⟨_, _, rfl, rfl, ?_, _, _, rfl, rfl, _, rfl, ite2 (fun z => ?_) (fun _ => ⟨rfl, ls, xn, t⟩)⟩
        · exact .inl ⟨by omega, by omega⟩
        have z := of_decide_eq_true z
        omega
      clear ls xn t
      rintro σ' H6 ⟨rfl, ls, xn, t⟩
      refine ⟨_, rfl, _, rfl, _, _, rfl, .inr ⟨_, _, rfl, ls.2.2.1, .inr ⟨_, _, rfl, ls.2.2.1, om, om, t, fun H7 x7 t7 => ?_⟩⟩⟩
      rw [hpt.di]
      refine ⟨_, rfl, ite2 (fun z => nomatch z) (fun _ => ?_)⟩
      have ls7 := ls.keepN x7
      have xn7 := xn.trans x7
      clear ls xn t x7
      obtain ⟨dx, r1', e1', hx1, _⟩ := id ls7.2.2.1
      refine ⟨_, rfl, _, rfl, dd, m, rfl, ls7.1, om, fun H8 y8 s8 ay8 => ?_⟩
      obtain ⟨dy8, r8', e8', hy8, _⟩ := id ay8
      have ls8 := ls7.keep s8
      refine ⟨x, dx, _, .ref C, rfl, s8 _ _ hx1, T.ty hy8, AT.nC, x, .ref y8, m, rfl, ls8.2.2.1, .inl ⟨y8, m, rfl, ay8, _, _, rfl, rfl, _, rfl, ite2 (fun z => ?_) (fun _ => ?_)⟩⟩
      · rw [decide_eq_true (rfl : m = m)] at z
        cases z
      obtain ⟨dx2, r2', e2', hx2, _⟩ := id ls8.2.2.2
      refine ⟨_, rfl, _, rfl, ee, n, rfl, ls8.2.1, on, fun H9 y9 s9 ay9 => ?_⟩
      obtain ⟨dy9, r9', e9', hy9, _⟩ := id ay9
      have ls9 := ls8.keep s9
      refine ⟨y, dx2, _, .ref C, rfl, s9 _ _ hx2, T.ty hy9, AT.nC, y, .ref y9, n, rfl, ls9.2.2.2, .inl ⟨y9, n, rfl, ay9, _, _, rfl, rfl, _, rfl, ite2 (fun z => ?_) (fun _ => ?_)⟩⟩
      · rw [decide_eq_true (rfl : n = n)] at z
        cases z
      have t9 := tabsS t7 (s8.trans s9)
      refine ⟨_, rfl, _, rfl, _, _, rfl, .inr ⟨_, _, rfl, ls9.2.2.1, .inr ⟨_, _, rfl, ls9.2.2.2, om, on, t9, fun H10 x10 t10 => ?_⟩⟩⟩
      exact ⟨_, optD (pt m n), rfl, opt_dp _, sh.s, sh.h, sh.dp, Nat.le_trans sh.l (by omega), _, rfl, _, optD (pt m n), rfl, opt_dp _, sh.s, sh.h, sh.dp, Nat.le_trans sh.l (by omega), rfl, _, rfl, iteN ⟨⟨_, _, _, _, _, _, _, _, rfl⟩, (xn7.trans (ExN.of (s8.trans s9))).trans x10, t10⟩⟩
    rintro σ H1 ⟨⟨x1, x2, x3, x4, x5, x6, x7, x8, rfl⟩, xn, t1⟩
    clear hS tb xn
    refine ⟨fun σ' H' => ∃ wa, σ' = [some (.ref a), x1, x2, x3, x4, x5, x6, x7, x8, some (.ref wa), none, none, none, none, none, none] ∧ Au C H' wa mW ∧ Tabs [(Tb, qLam)] H', ?_, ?_⟩
    · refine fun v0 H2 s2 dv => ?_
      obtain ⟨ra, rfl, hR⟩ := da_rows dv
      refine ⟨(by show 1 ≤ sizeLine; omega), fun en nen => ⟨rfl, rfl, fun x dx nx ndx ne => ?_⟩⟩
      have s3 := same_new (o := .lst [.int 0]) nen
      exact mk_sp (m := mW) nx ndx ne upd_same (hR.keep s3) okW fun H3 s4 ha => ⟨rfl, x, rfl, ha, tabsS t1 ((s2.trans s3).trans s4)⟩
    rintro σ H2 ⟨wa, rfl, aw, t2⟩
    refine ⟨fun σ' H' => (∃ y, σ' = [some (.ref a), x1, x2, x3, x4, x5, x6, x7, x8, some (.ref wa), y, none, none, none, none, none]) ∧ Au C H' wa mW ∧ Tabs [(Tb, qLam)] H', ?_, ?_⟩
    · refine fun v8 H8 s8 d8 => ?_
      cases d8 with
      | @lst a8 xs8 _ h8 da8 =>
      refine ⟨a8, rfl, ⟨_, SqL.of h8⟩, for_list (K := K) (a := a8) (xs := xs8) (fun i σ H' => (∃ y, σ = [some (.ref a), x1, x2, x3, x4, x5, x6, x7, x8, some (.ref wa), y, none, none, none, none, none]) ∧ Same H8 H') ⟨⟨_, rfl⟩, Same.refl _⟩ (fun i σ H' _ p => SqL.of (p.2 _ _ h8)) ?_ ?_⟩
      · rintro i b σ H' hi ⟨⟨y, rfl⟩, sm⟩
        obtain ⟨d, ed, hd⟩ := da8.get hi
        have sh := shB_ok (List.all_eq_true.mp okb d (List.mem_of_getElem? ed))
        have nb : ∀ b, d ≠ .bool b := fun b e => by
          have hm := List.mem_of_getElem? ed
          rw [e] at hm
          simp [bads] at hm
        have hd1 := hd.keep sm
        have aw1 := (aw.keep s8).keep sm
        refine ⟨_, rfl, b, .non, b, d, rfl, .a (da_noA hd1 nb), hd1, sh, fun H9 s9 => ?_⟩
        have hd9 := hd1.keep s9
        refine ⟨_, rfl, b, d, rfl, hd9.dp, sh.s, sh.h, sh.dp, Nat.le_trans sh.l (by omega), rfl, _, rfl, iteN ?_⟩
        refine ⟨_, rfl, _, rfl, .ref wa, b, b, d, rfl, .b (aw1.keep s9) (da_noA hd9 nb), hd9, sh, fun H10 s10 => ?_⟩
        exact ⟨_, rfl, b, d, rfl, (hd9.keep s10).dp, sh.s, sh.h, sh.dp, Nat.le_trans sh.l (by omega), rfl, _, rfl, iteN ⟨⟨_, rfl⟩, (sm.trans s9).trans s10⟩⟩
      · rintro σ H' ⟨⟨y, rfl⟩, sm⟩
        exact ⟨⟨_, rfl⟩, (aw.keep s8).keep sm, tabsS t2 (s8.trans sm)⟩
    clear aw t2 t1
    rintro σ H3 ⟨⟨y, rfl⟩, aw, t3⟩
    refine ⟨fun σ' H' => ∃ ra, σ' = [some (.ref a), x1, x2, x3, x4, x5, x6, x7, x8, some (.ref wa), y, some (.ref ra), none, none, none, none] ∧ RL H' ra mF.R ∧ Same H3 H', ?_, ?_⟩
    · refine ⟨11, rfl, by decide, by decide, fun D nD => lc_range (lo := 0) (n := 11) (fun i H' => Same H3 H' ∧ ∃ acc, H' D = some (.lst acc) ∧ Pts H' acc (((List.range i).map rowF).map natI) ∧ ∀ y ∈ acc, y ≠ .ref D) ⟨same_new nD, [], upd_same, .nil, fun y hy => (by cases hy)⟩ ?_ ?_⟩
      · rintro i H' hi ⟨sm, acc, hD, hA, nA⟩
        rw [Int.zero_add]
        have la := hA.len
        rw [List.length_map, List.length_map, List.length_range] at la
        refine ⟨rfl, ?_⟩
        refine ⟨("abc" : Str), rfl, fun D2 nD2 => lc_it walk_str (fun k H4 => Same H' H4 ∧ H4 D2 = some (.lst ((natI ((rowF i).take k)).map V.int))) ⟨same_new nD2, upd_same⟩ (fun _ _ _ _ => trivial) ?_ ?_⟩
        · rintro k v H4 H5 hk ⟨s4, hD2⟩ ⟨rfl, cc, ec, rfl⟩
          have hk3 : k < 3 := Nat.lt_of_lt_of_le hk (by decide +kernel)
          have ecc : cc = 97 + k := by
            have e1 : (cz ("abc" : Str))[k]? = some cc := by rw [← cz_at]; exact ec
            exact Option.some.inj (e1.symm.trans (abc_at k hk3))
          subst ecc
          have eI : ((i : Int)) % 3 = ((i % 3 : Nat) : Int) := (Int.natCast_emod i 3).symm
          have ev : ∀ x : Nat, (rowF i)[k]? = some x → H5 D2 = some (.lst ((natI ((rowF i).take k)).map V.int)) ∧ ((natI ((rowF i).take k)).map V.int).length < sizeLine ∧ Same H' (upd H5 D2 (.lst ((natI ((rowF i).take k)).map V.int ++ [V.int (x : Int)]))) ∧ upd H5 D2 (.lst ((natI ((rowF i).take k)).map V.int ++ [V.int (x : Int)])) D2 = some (.lst ((natI ((rowF i).take (k + 1))).map V.int)) := fun x hx => by
            refine ⟨hD2, ?_, fun c o e => ?_, ?_⟩
            · rw [List.length_map, natI_len, List.length_take]
              exact small1000 (by omega)
            · rw [upd_ne (ne_of_none e nD2)]
              exact s4 _ _ e
            · rw [upd_same, take_snoc hx, natI_snoc]
          have ra := rowF_at i k hk3
          refine ⟨rfl, ?_⟩
          refine ⟨_, rfl, .inl ⟨_, rfl, _, _, rfl, rfl, by omega, ("abc" : Str), _, 97 + i % 3, rfl, rfl, ?_, ?_, ?_⟩⟩
          · have : ("abc" : Str).length = 3 := by decide +kernel
            omega
          · rw [eI]
            exact atI_nat (abc_at _ (Nat.mod_lt _ (by decide)))
          refine ⟨_, rfl, rfl, _, rfl, ite2 (fun c => ?_) (fun c => ?_)⟩
          · have c := ch_inj (of_decide_eq_true c)
            rw [if_pos (by omega)] at ra
            exact ⟨_, rfl, _, _, rfl, rfl, _, ev _ ra⟩
          · have c2 : ¬ i % 3 = k := fun z => c (decide_eq_true (by rw [z]))
            rw [if_neg c2] at ra
            exact ⟨_, ev _ ra⟩
        · rintro H4 ⟨s4, hD2⟩
          have n3 : ("abc" : Str).cps.size = 3 := by decide +kernel
          rw [n3] at hD2
          refine ⟨(by show 1 ≤ sizeLine; omega), fun l0 nl0 => ?_⟩
          have s0 := same_new (o := .lst [.int 0]) nl0
          refine ⟨D2, l0, _, _, rfl, rfl, s0 _ _ hD2, upd_same, ?_, fun l nl => ?_⟩
          · rw [List.length_map, natI_len, List.length_take]
            show min 3 _ + 1 ≤ sizeLine
            omega
          have sl := same_new (o := .lst ((natI ((rowF i).take 3)).map V.int ++ [.int 0])) nl
          have hl : (upd (upd H4 l0 (.lst [.int 0])) l (.lst ((natI ((rowF i).take 3)).map V.int ++ [.int 0]))) l = some (.lst ((natI (rowF i)).map V.int)) := by
            rw [upd_same]
            exact congrArg (fun z => some (HO.lst z)) (natI_snoc ((rowF i).take 3) 0).symm
          have S := (s4.trans s0).trans sl
          have nlD : l ≠ D := fun z => by
            rw [z] at nl
            have := (s4.trans s0) _ _ hD
            rw [nl] at this
            cases this
          have nA2 : ∀ y ∈ acc ++ [V.ref l], y ≠ .ref D := fun y hy => by
            rcases List.mem_append.mp hy with h | h
            · exact nA y h
            · rw [List.mem_singleton.mp h]
              exact fun z => nlD (V.ref.inj z)
          refine ⟨acc, S _ _ hD, small1000 (by omega), fun c o e => ?_, acc ++ [.ref l], upd_same, ?_, nA2⟩
          · rw [upd_ne (ne_of_none (H := H3) e nD)]
            exact S _ _ (sm _ _ e)
          · rw [List.range_succ, List.map_append, List.map_append]
            exact Pts.updL nA2 (Pts.snoc (m := natI (rowF i)) ⟨l, rfl, hl⟩ (hA.keep S))
      · rintro H4 ⟨sm, acc, hD, hA, nA⟩
        refine ⟨(by show 1 ≤ sizeLine; omega), fun l1 nl1 => ?_⟩
        have s1 := same_new (o := .lst [.int 11]) nl1
        refine ⟨l1, _, _, rfl, rfl, upd_same, by omega, by omega, (by show 1 * (4 : Int).toNat ≤ sizeLine; rw [szl]; decide), fun p np => ?_⟩
        have s2 := same_new (o := .lst (List.replicate (4 : Int).toNat [V.int 11]).flatten) np
        refine ⟨(by show 1 ≤ sizeLine; omega), fun l2 nl2 => ?_⟩
        have s3 := same_new (o := .lst [.ref p]) nl2
        have la := hA.len
        rw [List.length_map, List.length_map, List.length_range] at la
        refine ⟨D, l2, _, _, rfl, rfl, s3 _ _ (s2 _ _ (s1 _ _ hD)), upd_same, ?_, fun ln nln => ?_⟩
        · rw [la]
          show 11 + 1 ≤ sizeLine
          omega
        have s4 := same_new (o := .lst (acc ++ [.ref p])) nln
        have hp := s4 _ _ (s3 _ _ (upd_same (H := upd H4 l1 (.lst [.int 11])) (a := p) (o := .lst (List.replicate (4 : Int).toNat [V.int 11]).flatten)))
        have S := ((s1.trans s2).trans s3).trans s4
        refine ⟨ln, rfl, ⟨_, upd_same, ?_⟩, sm.trans S⟩
        rw [mF_rows, List.map_append]
        exact Pts.app (hA.keep S) (.cons ⟨p, rfl, hp⟩ .nil)
    rintro σ H4 ⟨ra, rfl, hR, s34⟩
    have aw4 := aw.keep s34
    have t4 := tabsS t3 s34
    clear aw t3 s34
    refine ⟨fun σ' H' => ∃ fa, σ' = [some (.ref a), x1, x2, x3, x4, x5, x6, x7, x8, some (.ref wa), y, some (.ref ra), some (.ref fa), none, none, none] ∧ Au C H' fa mF ∧ Au C H' wa mW ∧ Tabs [(Tb, qLam)] H', ?_, ?_⟩
    · refine ⟨_, rfl, (by show 1 ≤ sizeLine; omega), fun en nen => ⟨rfl, rfl, fun x dx nx ndx ne => ?_⟩⟩
      have s3 := same_new (o := .lst [.int 11]) nen
      exact mk_sp (m := mF) nx ndx ne upd_same (hR.keep s3) okF fun H5 s5 ha => ⟨rfl, x, rfl, ha, (aw4.keep s3).keep s5, tabsS t4 (s3.trans s5)⟩
    clear aw4 t4 hR
    rintro σ H5 ⟨fa, rfl, af, aw, t5⟩
    refine ⟨fun σ' H' => σ' = [some (.ref a), x1, x2, x3, x4, x5, x6, x7, x8, some (.ref wa), y, some (.ref ra), some (.ref fa), none, none, none] ∧ Au C H' wa mW ∧ Tabs [(Tb, qLam)] H', ?_, ?_⟩
    · refine ⟨_, rfl, fun v0 H6 s6 dv => ?_⟩
      obtain ⟨ra2, rfl, hR⟩ := da_rows dv
      refine ⟨(by show 0 ≤ sizeLine; omega), fun en nen => ⟨rfl, rfl, fun x dx nx ndx ne => ?_⟩⟩
      have s7 := same_new (o := .lst []) nen
      refine mk_sp (m := mB) nx ndx ne upd_same (hR.keep s7) okB fun H8 s8 ha => ⟨rfl, ?_⟩
      have S := (s6.trans s7).trans s8
      refine ⟨_, _, rfl, .inr ⟨_, _, rfl, af.keep S, .inr ⟨_, _, rfl, ha, okF, okB, tabsS t5 S, fun H9 x9 t9 => ?_⟩⟩⟩
      rw [hpt.fb]
      refine ⟨rfl, _, rfl, iteN ?_⟩
      have af9 := (af.keep S).keepN x9
      refine ⟨_, rfl, _, rfl, _, _, rfl, .inr ⟨_, _, rfl, af9, .inr ⟨_, _, rfl, af9, okF, okF, t9, fun H10 x10 t10 => ?_⟩⟩⟩
      rw [hpt.di]
      exact ⟨_, rfl, ite2 (fun z => nomatch z) (fun _ => ⟨rfl, ((aw.keep S).keepN x9).keepN x10, t10⟩)⟩
    clear aw t5 af
    rintro σ H6 ⟨rfl, aw, t6⟩
    refine ⟨fun σ' H' => ∃ la, σ' = [some (.ref a), x1, x2, x3, x4, x5, x6, x7, x8, some (.ref wa), y, some (.ref ra), some (.ref fa), some (.ref la), none, none] ∧ Au C H' la mL ∧ Au C H' wa mW ∧ Tabs [(Tb, qLam)] H', ?_, ?_⟩
    · refine fun v0 H7 s7 dv => ?_
      obtain ⟨ra2, rfl, hR⟩ := da_rows dv
      refine ⟨(by show 1 ≤ sizeLine; omega), fun en nen => ⟨rfl, rfl, fun x dx nx ndx ne => ?_⟩⟩
      have s8 := same_new (o := .lst [.int 0]) nen
      exact mk_sp (m := mL) nx ndx ne upd_same (hR.keep s8) okL fun H9 s9 ha => ⟨rfl, x, rfl, ha, aw.keep ((s7.trans s8).trans s9), tabsS t6 ((s7.trans s8).trans s9)⟩
    clear aw t6
    rintro σ H7 ⟨la, rfl, al, aw, t7⟩
    refine ⟨_, rfl, _, rfl, _, _, rfl, .inr ⟨_, _, rfl, aw, .inr ⟨_, _, rfl, al, okW, okL, t7, fun H8 x8' t8 => ?_⟩⟩⟩
    rw [hpt.wl]
    refine ⟨rfl, _, rfl, ite2 (fun _ => ?_) (fun z => absurd (decide_eq_true rfl) z)⟩
    refine ⟨_, rfl, fun v0 H9 s9 dv => ?_⟩
    obtain ⟨ra2, rfl, hR⟩ := da_rows dv
    refine ⟨(by show 0 ≤ sizeLine; omega), fun en nen => ⟨rfl, rfl, fun x dx nx ndx ne => ?_⟩⟩
    have s10 := same_new (o := .lst []) nen
    refine mk_sp (m := mB) nx ndx ne upd_same (hR.keep s10) okB fun H11 s11 ha => ⟨rfl, ?_⟩
    have S := (s9.trans s10).trans s11
    refine ⟨_, _, rfl, .inr ⟨_, _, rfl, (aw.keepN x8').keep S, .inr ⟨_, _, rfl, ha, okW, okB, tabsS t8 S, fun H12 x12 t12 => ?_⟩⟩⟩
    rw [hpt.wb]
    refine ⟨rfl, ?_⟩
    rw [decide_eq_true rfl]
    exact q _
end
end KF
set_option Elab.async false
set_option linter.all false
set_option maxRecDepth 100000
set_option maxHeartbeats 1000000
namespace KF
open PySem PySem.Spec PyProof.Rows L2 XV NM XT XD XA NB LamX
section
variable {P : Program} {w : World} {K : PySem.W.Frag} {mg : Str → Option Value} {base : Heap} {f : Addr} {fd : FuncData} {C Tb : Addr}
theorem pt_ok : Pt prt := ⟨fun m n => prt_swap m n, prt_diag, fun _ _ _ om on h => prt_some om on h, fun _ _ om on => opt_sh om on, prt_FB, prt_WL, prt_WB⟩
theorem ok_lawP (F : FnP K "law" sLaw f fd) (T : AT K mg C) (o_mk : OkMk P w K mg base C) (o_eq : OkEqF P w K mg base C) (o_gen : Ok P w K mg base "_law_generator" 1 ["_law_script", "_law_index"] (spGen K)) (o_draw : Ok P w K mg base "_law_draw" 4 ["_law_generator_here"] spDraw) (o_turned : Ok P w K mg base "_law_turned" 5 ["_law_generator_here", "_law_one"] spTurned)
    (o_mach : Ok P w K mg base "_law_machine" 8 ["_law_drawn"] (spMach C)) (o_first : Ok P w K mg base "_law_first" 2 ["_law_one", "_law_other"] spFirst) (o_pw : Ok P w K mg base "parting_word" 5 ["one", "other"] (cm (spPw K C Tb))) (k_pw : OkK P w K mg base "parting_word" 5 ["one", "other"] (cm (spPw K C Tb)))
    (o_acc : Ok P w K mg base "accepts" 6 ["automaton", "word"] (spAcc C)) (o_caught : OkG P w K mg base "_law_caught" 6 ["_law_one", "_law_two"] (spCaught K C)) (z_range : mg "range" = none) (z_repr : mg "repr" = none) (z_len : mg "len" = none) (z_int : mg "int" = none) : FnG P w K mg base CX0 9 f fd ["_law_script"] (spLaw K Tb) := by
  exact ok_law pt_ok F T o_mk o_eq o_gen o_draw o_turned o_mach o_first o_pw k_pw o_acc o_caught z_range z_repr z_len z_int
end
end KF
set_option Elab.async false
set_option linter.all false
set_option maxRecDepth 100000
set_option maxHeartbeats 4000000
/-! The end of a law whose def is told of where nothing guards, with tables of code objects. -/
namespace XV
open PySem PySem.Spec PyProof.Rows L2 LamX
/-- H tells of the script and the tables ts alone -/
def OnlyT (H : Hp) (ts : List Addr) : Prop := ∀ b, H b = none ∨ (b ∈ ts ∧ H b = some (.tbl #[])) ∨ ∃ o xs, H b = some (.frz o (.lst xs))
theorem law_gT {P : Program} {w : World} {K : PySem.W.Frag} {mg mb : Str → Option Value} {k : Nat} {fa a : Addr} {cs : List (Addr × Addr)} {fd : FuncData} {x : Str} {sp : Sp} {s : Shared} {us : List Value} {ns : List Int}
    (KX : K.In s.heap) (gn : s.heap.Ns mainGlobals mg) (bn : s.heap.Ns builtinsNs mb) (bb : ∀ y : Str, y ≠ "__name__" → mb y = bootBuiltins y) (nl : s.heap.NoLimit) (g0 : s.gens = #[])
    (hT : ∀ p ∈ cs, s.heap.get? p.2 = some { cls := .none, data := .fields #[] }) (nT : ∀ p ∈ cs, K.lookup p.2 = none) (hC : ∀ p ∈ cs, PySem.W.CodeHd s.heap p.1 p.2)
    (hbm : ∃ (bm : Addr) (ob : Obj), mg "__builtins__" = some (.ref bm) ∧ bm ≠ builtinsNs ∧ s.heap.get? bm = some ob ∧ ob.cls = .type "module" ∧ ob.dict = some builtinsNs ∧ ob.data = .plain)
    (ha : s.heap.get? a = some { cls := .type "list", data := .seq us.toArray }) (hi : IntsAre us ns) (hl : ns.length ≤ sizeLine) (hr : Room k callerA)
    (F : ∀ base : Heap, K.In base → base.Ns mainGlobals mg → (∀ p ∈ cs, TabB base mg p.1 p.2) → FnG P w K mg base CX0 k fa fd [x] sp) (hb : ∀ (s' : Shared) (u : Value), BindsTo s' fd ⟨[u], []⟩ [(x, u)])
    (hsp : ∀ H : Hp, (∀ p ∈ cs, H p.2 = some (.tbl #[])) → SqL K H a (ns.map V.int) → sp [.ref a] H (fun v _ => v = .bl true) fun _ _ _ => False) :
    codeAny (model P w) callerA (.call (.ref fa) ⟨[.ref a], []⟩) (fun r s' => r = .ok (.ret (.bool true)) ∧ OldK s.heap s'.heap ∧ s'.os = s.os ∧ AllBare s'.gens) s := by
  have rv := vals_ints hi
  have len := hi.length
  have isT : ∀ b ∈ cs.map (·.2), s.heap.get? b = some { cls := .none, data := .fields #[] } := by
    intro b hb
    obtain ⟨p, hp, rfl⟩ := List.mem_map.mp hb
    exact hT p hp
  have aT : a ∉ cs.map (·.2) := fun z => by
    have q := congrArg Obj.data (Option.some.inj (ha.symm.trans (isT a z)))
    cases q
  have mem : ∀ p ∈ cs, p.2 ∈ cs.map (·.2) := fun p hp => List.mem_map.mpr ⟨p, hp, rfl⟩
  have main : ∀ H : Hp, (∀ p ∈ cs, H p.2 = some (.tbl #[])) → OnlyT H (cs.map (·.2)) → SqL K H a (ns.map V.int) → HOk P w H s.heap → (∀ b, H b ≠ none → b = a ∨ b ∈ cs.map (·.2)) → (H a ≠ none → K.lookup a = none) →
      codeAny (model P w) callerA (.call (.ref fa) ⟨[.ref a], []⟩) (fun r s' => r = .ok (.ret (.bool true)) ∧ OldK s.heap s'.heap ∧ s'.os = s.os ∧ AllBare s'.gens) s := by
    intro H tabs only told ok alone notK
    have part : ∀ {b : Addr} {o : Obj}, s.heap.get? b = some o → H b = none → (hidT s.heap H).get? b = some o := fun e n => hidT_get e n
    -- what is neither a list nor an empty table is not told of
    have off : ∀ {b : Addr} {o : Obj}, s.heap.get? b = some o → (∀ vs n, o.data ≠ .seq vs n) → o.data ≠ .fields #[] → H b = none := by
      intro b o e d1 d2
      by_cases q : H b = none
      · exact q
      · rcases alone b q with rfl | hb
        · rw [ha] at e
          cases e
          exact (d1 _ _ rfl).elim
        · rw [isT b hb] at e
          cases e
          exact (d2 rfl).elim
    have dictN : ∀ {b : Addr} {o : Obj} {es : Array DictEntry} {ep : Nat}, s.heap.get? b = some o → o.data = .dict es ep → H b = none := fun e d =>
      off e (fun vs n z => nomatch (d.symm.trans z)) fun z => nomatch (d.symm.trans z)
    have nsP : ∀ {b : Addr} {m : Str → Option Value}, s.heap.Ns b m → (hidT s.heap H).Ns b m := by
      rintro b m ⟨o, es, ep, e, d, r⟩
      exact ⟨o, es, ep, part e (dictN e d), d, r⟩
    have KP : K.In (hidT s.heap H) := fun b o e => part (KX b o e) (by
      by_cases q : H b = none
      · exact q
      · rcases alone b q with rfl | hb
        · rw [notK q] at e
          cases e
        · obtain ⟨p, hp, rfl⟩ := List.mem_map.mp hb
          rw [nT p hp] at e
          cases e)
    have md : Mod K mg (hidT s.heap H) := ⟨KP, nsP gn, ⟨mb, nsP bn, bb⟩, nl.imp fun _ z => ⟨nsP z.1, z.2⟩⟩
    have TB : ∀ p ∈ cs, TabB (hidT s.heap H) mg p.1 p.2 := by
      intro p hp
      have tp := hT p hp
      obtain ⟨og, esg, epg, eg, dg, _⟩ := id gn
      refine ⟨?_, ?_, fun z => ?_⟩
      · obtain ⟨o, vs, file, tf, flags, tg, inF, text, tt, e1, r1, r2, r3, r4⟩ := hC p hp
        refine ⟨o, vs, file, tf, flags, tg, inF, text, tt, part e1 (off e1 (fun ws n z => nomatch (r2.symm.trans z)) fun z => ?_), r1, r2, r3, r4⟩
        rw [r2] at z
        cases z
        simp at r3
      · obtain ⟨bm, ob, b1, b2, b3, b4, b5, b6⟩ := hbm
        refine ⟨bm, ob, b1, b2, fun q => ?_, fun q => ?_, part b3 (off b3 (fun vs n z => nomatch (b6.symm.trans z)) fun z => nomatch (b6.symm.trans z)), b4, b5, b6⟩
        · subst q
          cases eg.symm.trans b3
          exact nomatch (dg.symm.trans b6)
        · subst q
          cases tp.symm.trans b3
          cases b6
      · rw [← z] at tp
        cases tp.symm.trans eg
        cases dg
    have st : Env0 P w K mg (hidT s.heap H) callerA [] s H := { frames := rfl, mod := md, bs := fun b o e => of_hidT e, bsz := Nat.le_of_eq (hidT_size _ _), funs := trivial, frf := fun b z => absurd (show b ∈ ([] : List Addr) from z) (by simp), hok := ok, bare := .of_eq g0 }
    refine codeAny_mono ((F _ KP (nsP gn) TB).go callerA [] s H ⟨[.ref a], []⟩ [.ref a] [.ref a] _ _ rfl hr st (hb s (.ref a)) (.cons rfl .nil) (hsp H tabs told)) fun r s' h => ?_
    cases r with
    | error er => exact h.elim
    | ok fl => cases fl with
      | next => exact h.elim
      | brk => exact h.elim
      | cont => exact h.elim
      | ret u =>
        obtain ⟨v, H', os, bare, un, ok', r', q⟩ := h
        obtain rfl : v = .bl true := q
        obtain rfl : u = Value.bool true := r'
        have key : ∀ b o, b ∉ cs.map (·.2) → s.heap.get? b = some o → s'.heap.get? b = some o := by
          intro b o nb e
          by_cases q : H b = none
          · exact un.keep b o e q (fun z => nomatch (show b ∈ ([] : List Addr) from z)) (by simp)
          · rcases only b with z | ⟨z, _⟩ | ⟨ob, xs, z⟩
            · exact absurd z q
            · exact absurd z nb
            · obtain ⟨e1, _⟩ := ok b _ z
              obtain ⟨e2, _⟩ := ok' b _ (un.frzs b ob _ z)
              rw [e] at e1
              cases e1
              exact e2
        have more : ∀ p ∈ cs, ∃ m : Array Value, s'.heap.get? p.2 = some { cls := .none, data := .fields m } := fun p hp => by
          obtain ⟨m, z⟩ := un.tbls p.2 #[] (tabs p hp)
          exact ⟨_, ok' p.2 _ z⟩
        refine ⟨rfl, ⟨fun b o e => ?_, fun b o e => ?_⟩, os, bare⟩
        · by_cases hb : b ∈ cs.map (·.2)
          · obtain ⟨p, hp, rfl⟩ := List.mem_map.mp hb
            obtain ⟨m, hm⟩ := more p hp
            cases (hT p hp).symm.trans e
            exact .inr (.inl ⟨((hC p hp).tab (hT p hp)).isCodeTable, rfl, #[], m, rfl, by rw [Array.empty_append]; exact hm⟩)
          · exact .inl (key b o hb e)
        · by_cases hb : b ∈ cs.map (·.2)
          · obtain ⟨p, hp, rfl⟩ := List.mem_map.mp hb
            obtain ⟨m, hm⟩ := more p hp
            exact ⟨_, hm⟩
          · exact ⟨o, key b o hb e⟩
  let o1 : Obj := { cls := .type "list", data := .seq us.toArray }
  cases hk : K.lookup a with
  | some o =>
    obtain rfl := Option.some.inj (ha.symm.trans (KX a o hk))
    have yes : ∀ b ∈ cs.map (·.2), (fun b : Addr => if b ∈ cs.map (·.2) then some (HO.tbl #[]) else none) b = some (.tbl #[]) := fun b e => if_pos e
    have no : ∀ b, b ∉ cs.map (·.2) → (fun b : Addr => if b ∈ cs.map (·.2) then some (HO.tbl #[]) else none) b = none := fun b e => if_neg e
    refine main (fun b => if b ∈ cs.map (·.2) then some (.tbl #[]) else none) (fun p hp => yes _ (mem p hp)) (fun b => ?_) (.inr ⟨_, us.toArray, _, hk, rfl, rfl, rfl, by rw [List.size_toArray, len]; exact hl, by simpa using rv⟩) (fun b u z => ?_) (fun b z => ?_) fun z => absurd (no a aT) z
    · by_cases e : b ∈ cs.map (·.2)
      · exact .inr (.inl ⟨e, yes b e⟩)
      · exact .inl (no b e)
    · by_cases e : b ∈ cs.map (·.2)
      · cases (yes b e).symm.trans z
        exact isT b e
      · cases (no b e).symm.trans z
    · by_cases e : b ∈ cs.map (·.2)
      · exact .inr e
      · exact absurd (no b e) z
  | none =>
    have at_ : ∀ b : Addr, b = a → (fun b : Addr => if b = a then some (HO.frz o1 (.lst (ns.map V.int))) else if b ∈ cs.map (·.2) then some (.tbl #[]) else none) b = some (.frz o1 (.lst (ns.map V.int))) := fun b e => if_pos e
    have yes : ∀ b ∈ cs.map (·.2), (fun b : Addr => if b = a then some (HO.frz o1 (.lst (ns.map V.int))) else if b ∈ cs.map (·.2) then some (.tbl #[]) else none) b = some (.tbl #[]) := fun b e => (if_neg (fun z : b = a => aT (by rw [← z]; exact e))).trans (if_pos e)
    have no : ∀ b, b ≠ a → b ∉ cs.map (·.2) → (fun b : Addr => if b = a then some (HO.frz o1 (.lst (ns.map V.int))) else if b ∈ cs.map (·.2) then some (.tbl #[]) else none) b = none := fun b e e2 => (if_neg e).trans (if_neg e2)
    refine main (fun b => if b = a then some (.frz o1 (.lst (ns.map V.int))) else if b ∈ cs.map (·.2) then some (.tbl #[]) else none) (fun p hp => yes _ (mem p hp)) (fun b => ?_) (.inl (.inr ⟨o1, if_pos rfl⟩)) (fun b u z => ?_) (fun b z => ?_) fun _ => hk
    · by_cases e : b = a
      · exact .inr (.inr ⟨_, _, at_ b e⟩)
      · by_cases e2 : b ∈ cs.map (·.2)
        · exact .inr (.inl ⟨e2, yes b e2⟩)
        · exact .inl (no b e e2)
    · by_cases e : b = a
      · cases (at_ b e).symm.trans z
        subst e
        exact ⟨ha, by rw [List.length_map]; exact hl, us, _, rv, ha⟩
      · by_cases e2 : b ∈ cs.map (·.2)
        · cases (yes b e2).symm.trans z
          exact isT b e2
        · cases (no b e e2).symm.trans z
    · by_cases e : b = a
      · exact .inl e
      · by_cases e2 : b ∈ cs.map (·.2)
        · exact .inr e2
        · exact absurd (no b e e2) z
theorem walk_ofGT {l : PySem.W.OpenLaw} {n k : Nat} {q : Program} {loose : List Str} {XP : (Str → Option Value) → Heap → Prop} {YP : World → Heap → Prop} {d : DefRec} {x : Str}
    (hn : l.most = some n) (hz : n ≤ sizeLine) (hd : d.params.defaults = []) (hr : Room k callerA)
    (F : ∀ (w : World) (mg : Str → Option Value) (fa : Addr) (h : Heap), YP w h → h.Ns mainGlobals mg → mg d.name = some (.ref fa) →
      ∃ (K : PySem.W.Frag) (fd : FuncData) (cs : List (Addr × Addr)) (sp : Sp), K.In h ∧ (∀ p ∈ cs, h.get? p.2 = some { cls := .none, data := .fields #[] }) ∧ (∀ p ∈ cs, K.lookup p.2 = none) ∧ (∀ p ∈ cs, PySem.W.CodeHd h p.1 p.2) ∧ (∀ (s : Shared) (u : Value), BindsTo s fd ⟨[u], []⟩ [(x, u)]) ∧
        (∀ (H : Hp) (a : Addr) (ns : List Int), ns.length ≤ n → (∀ p ∈ cs, H p.2 = some (.tbl #[])) → SqL K H a (ns.map V.int) → sp [.ref a] H (fun v _ => v = .bl true) fun _ _ _ => False) ∧
        ∀ base : Heap, K.In base → base.Ns mainGlobals mg → (∀ p ∈ cs, TabB base mg p.1 p.2) → FnG l.prog w K mg base CX0 k fa fd [x] sp) :
    PySem.W.WalkO q loose XP YP l.row.toRowW d [] (fun f vs => PySem.call f vs) := by
  refine Att.attach_call hn hd fun w s₀ s₁ mg mb fa o pm cd doc a us ns G Y ho hd' hcd hmg hobj hints hlen hg => ?_
  obtain ⟨K, fd, cs, sp, KX, hT, nT, hC, hb, hsp, hF⟩ := F w mg fa _ Y G.T.g hmg
  exact law_gT KX G.T.g G.T.b G.T.builtins G.T.nolimit hg hT nT hC G.T.bmain hobj hints (Nat.le_trans hlen hz) hr hF hb fun H hO hS => hsp H a ns hlen hO hS
end XV
set_option Elab.async false
set_option linter.all false
set_option maxRecDepth 100000
set_option maxHeartbeats 2000000
namespace XV
open PySem PySem.Spec PyProof.Rows L2
/-! ### what isinstance says of a class, by its order of classes -/
def mroB (K : PySem.W.Frag) (C : Addr) (m : List Value) : Bool := match K.lookup C with
  | some ⟨t, _, .cls cd, _⟩ => decide (t = .type "type") && decide (cd.mro = m)
  | _ => false
theorem mroB_ok {K : PySem.W.Frag} {C : Addr} {m : List Value} (h : mroB K C m = true) : (∃ cd, PySem.W.clsIn K C = some cd ∧ cd.mro = m) ∧ PySem.W.typeIn K (.ref C) = some (.type "type") := by
  unfold mroB at h
  split at h
  · rename_i t d cd sl ho
    obtain ⟨h1, h2⟩ := He.ba h
    have e1 : t = .type "type" := of_decide_eq_true h1
    have e2 : cd.mro = m := of_decide_eq_true h2
    refine ⟨⟨cd, ?_, e2⟩, ?_⟩
    · unfold PySem.W.clsIn
      rw [ho]
    · show (K.lookup C).map (fun o => o.cls) = _
      rw [ho, e1]
      rfl
  · cases h
theorem sub_mro {K : PySem.W.Frag} {C : Addr} {m : List Value} (h : mroB K C m = true) (hm : m.isEmpty = false) (b : Value) : PySem.W.subIn K (.ref C) b = some (m.contains b) := by
  obtain ⟨⟨cd, h1, h2⟩, _⟩ := mroB_ok h
  show PySem.W.mroIn K C b = _
  unfold PySem.W.mroIn
  rw [h1]
  show (if cd.mro.isEmpty = true then none else some (cd.mro.contains b)) = _
  rw [h2, hm, if_neg Bool.false_ne_true]
theorem kit_mro {K : PySem.W.Frag} {C D : Addr} {m m' : List Value} (h : mroB K C m = true) (hm : m.isEmpty = false) (h' : mroB K D m' = true) (hs : C = D → m.contains (.ref D) = true) : PySem.W.kitOne K (.ref C) (.ref D) = some (m.contains (.ref D)) := by
  unfold PySem.W.kitOne
  by_cases e : C = D
  · rw [hs e, if_pos (beq_iff_eq.mpr (congrArg Value.ref e))]
  · rw [if_neg (fun z => e (Value.ref.inj (beq_iff_eq.mp z)))]
    obtain ⟨⟨cd, h1, _⟩, h2⟩ := mroB_ok h'
    show (if ((PySem.W.clsIn K D).isSome && PySem.W.typeIn K (.ref D) == some (.type "type")) = true then PySem.W.subIn K (.ref C) (.ref D) else none) = _
    rw [h1, h2, if_pos (by rw [Bool.and_eq_true]; exact ⟨rfl, beq_iff_eq.mpr rfl⟩)]
    exact sub_mro h hm _
theorem kit_ve {K : PySem.W.Frag} {C : Addr} {m : List Value} (h : mroB K C m = true) (hm : m.isEmpty = false) : PySem.W.kitOne K (.ref C) (.type "ValueError") = some (m.contains (.type "ValueError")) := by
  unfold PySem.W.kitOne
  rw [if_neg (fun z => by cases (beq_iff_eq.mp z))]
  show (if PySem.W.kitMeta "ValueError" = true then PySem.W.subIn K (.ref C) (.type "ValueError") else none) = _
  rw [if_pos (by decide +kernel)]
  exact sub_mro h hm _
/-! ### a part of the heap, each object once, written out -/
def refsK (o : Obj) : List Addr := match o.data with
  | .dict es _ => es.toList.flatMap fun e => He.refV e.val
  | .func fd => He.refV fd.code ++ (He.refV fd.defaults ++ He.refV fd.kwdefaults)
  | .cls cd => [cd.ns]
  | _ => []
def refsA (g : Addr → Option Obj) (a : Addr) : List Addr := match g a with
  | some o => refsK o
  | none => []
def frcA {α : Type} (l : List Addr) (k : List Addr → α) : α := match l with
  | [] => k []
  | a :: r => HandSHeadRun.frNat a fun a => frcA r fun r => k (a :: r)
theorem frcA_eq {α : Type} : ∀ (l : List Addr) (k : List Addr → α), frcA l k = k l
  | [], _ => rfl
  | a :: r, k => by
    show HandSHeadRun.frNat a (fun a => frcA r fun r => k (a :: r)) = _
    rw [HandSHeadRun.frNat_eq, frcA_eq r]
def asK (g : Addr → Option Obj) : List Addr := frcA (refsA g mainGlobals) fun l1 => frcA (l1.flatMap (refsA g)) fun l2 => frcA (l2.flatMap (refsA g)) fun l3 => frcA (l3.flatMap (refsA g)) fun l4 => mainGlobals :: (l1 ++ (l2 ++ (l3 ++ l4)))
def frcK {α : Type} (l : PySem.W.Frag) (k : PySem.W.Frag → α) : α := match l with
  | [] => k []
  | (a, o) :: r => HandSHeadRun.frNat a fun a => frcK r fun r => k ((a, o) :: r)
theorem frcK_eq {α : Type} : ∀ (l : PySem.W.Frag) (k : PySem.W.Frag → α), frcK l k = k l
  | [], _ => rfl
  | (a, o) :: r, k => by
    show HandSHeadRun.frNat a (fun a => frcK r fun r => k ((a, o) :: r)) = _
    rw [HandSHeadRun.frNat_eq, frcK_eq r]
def hookF (α : Type) (obs : PySem.W.Frag → α) (val : α) : PySem.W.Hook where
  α := α
  obs := fun s => obs (He.frG s.heap.get? (asK s.heap.get?))
  val := fun _ => val
  says := fun _ h => ∃ K : PySem.W.Frag, K.In h ∧ obs K = val
  of := fun _ _ e => ⟨_, He.frG_in, e⟩
  keeps := fun _ _ _ ⟨K, hK, c⟩ k => ⟨K, PySem.W.Frag.In.keeps hK k, c⟩
def obF {α : Type} (obs : PySem.W.Frag → α) (s : PySem.W.SharedT) : α := frcK (He.frG (HandSHeadRun.getT s) (asK (HandSHeadRun.getT s))) obs
theorem obF_eq {α : Type} {obs : PySem.W.Frag → α} {val : α} (s : PySem.W.SharedT) : obF obs s = (hookF α obs val).obs s.abs := by
  unfold obF
  rw [frcK_eq]
  have e : HandSHeadRun.getT s = s.abs.heap.get? := funext (HandSHeadRun.getT_eq s)
  rw [e]
  rfl
theorem map_two {S A B C D : Type} {e : Option S} {f : S → A} {g : S → B} {o : S → C} {o' : S → D} {a : A} {b : B} {c : C} {d : D} (h1 : e.map (fun s => (f s, g s, o s)) = some (a, b, c)) (h2 : e.map (fun s => o' s) = some d) :
    e.map (fun s => (f s, g s, (o s, o' s))) = some (a, b, (c, d)) := by
  cases e with
  | none => cases h1
  | some s =>
    have z1 : (f s, g s, o s) = (a, b, c) := Option.some.inj h1
    have z2 : o' s = d := Option.some.inj h2
    cases z2
    cases z1
    rfl
/-! ### .. the tables of code objects left out -/
theorem tabs_say {h : Heap} {as : List Addr} {tf : List He.Defn} (e : He.tabsB h.get? tf (He.frT h.get? as) = true) (p : He.Defn) (hp : p ∈ tf) :
    PySem.W.codeHdIn (He.frT h.get? as) (He.cT (He.frT h.get? as) p).1 (He.cT (He.frT h.get? as) p).2 = true ∧ (He.frT h.get? as).lookup (He.cT (He.frT h.get? as) p).2 = none ∧ h.get? (He.cT (He.frT h.get? as) p).2 = some { cls := .none, data := .fields #[] } := by
  unfold He.tabsB at e
  obtain ⟨a, b⟩ := He.ba (List.all_eq_true.mp e p hp)
  split at b
  · next o q => exact ⟨a, He.frT_none q b, by rw [q, He.emptyTab_eq b]⟩
  · cases b
def hookFT (α : Type) (obs : PySem.W.Frag → α) (val : α) (tf : List He.Defn) : PySem.W.Hook where
  α := α × Bool
  obs := fun s => (obs (He.frT s.heap.get? (asK s.heap.get?)), He.tabsB s.heap.get? tf (He.frT s.heap.get? (asK s.heap.get?)))
  val := fun _ => (val, true)
  says := fun _ h => ∃ K : PySem.W.Frag, K.In h ∧ obs K = val ∧ ∀ p ∈ tf, PySem.W.codeHdIn K (He.cT K p).1 (He.cT K p).2 = true ∧ K.lookup (He.cT K p).2 = none ∧ h.get? (He.cT K p).2 = some { cls := .none, data := .fields #[] }
  of := fun _ _ e => ⟨_, He.frT_in, congrArg Prod.fst e, fun p hp => tabs_say (congrArg Prod.snd e) p hp⟩
  keeps := fun _ _ _ ⟨K, hK, c, t⟩ k => ⟨K, PySem.W.Frag.In.keeps hK k, c, fun p hp => ⟨(t p hp).1, (t p hp).2.1, k _ _ (t p hp).2.2⟩⟩
def obFT {α : Type} (obs : PySem.W.Frag → α) (tf : List He.Defn) (s : PySem.W.SharedT) : α × Bool := frcK (He.frT (HandSHeadRun.getT s) (asK (HandSHeadRun.getT s))) fun K => (obs K, He.tabsB (HandSHeadRun.getT s) tf K)
theorem obFT_eq {α : Type} {obs : PySem.W.Frag → α} {val : α} {tf : List He.Defn} (s : PySem.W.SharedT) : obFT obs tf s = (hookFT α obs val tf).obs s.abs := by
  unfold obFT
  rw [frcK_eq]
  have e : HandSHeadRun.getT s = s.abs.heap.get? := funext (HandSHeadRun.getT_eq s)
  rw [e]
  rfl
theorem code_at {K : PySem.W.Frag} {p : He.Defn} {x qual : Str} {params : Arguments} {body : List Stmt} {scope : Scope} {dvs : List V} {kws : List (Str × V)} {fd : FuncData} (F : FunD K x qual params body scope dvs kws (He.fAd K p) fd) : fd.code = .ref (He.codeOf K p) := by
  obtain ⟨_, _, _, _, _, _, _, _, _, _, rfl, lk, hcd, _, _⟩ := F.ex
  obtain ⟨c, rfl⟩ := He.codeIn_ref hcd
  exact congrArg Value.ref (He.codeOf_eq lk rfl).symm
end XV
set_option Elab.async false
set_option linter.all false
set_option maxRecDepth 100000
set_option maxHeartbeats 0
namespace KF
open PySem PySem.Spec PyProof.Rows L2 XV
/-! ### what the top must say -/
def dF (x : Str) (i : Nat) : He.DefD := ⟨(x, none), x, x, defArgs (top i), defBody (top i), defScope (top i), [], []⟩
def dM (c x q : Str) (s : Stmt) (dv : List He.Dv) (kv : List (Str × He.Dv)) : He.DefD := ⟨(c, some x), x, q, defArgs s, defBody s, defScope s, dv, kv⟩
def dI (x q : Str) (l : Nat) (fld : Str) : He.DefD := ⟨(x, some "__init__"), "__init__", q, initA fld ⟨l, 17, l, 21⟩ ⟨l, 23, l, 28⟩ ⟨l, 29, l, 33⟩, initB fld ⟨l + 1, 8, l + 1, 12⟩ ⟨l + 1, 8, l + 1, 18⟩ ⟨l + 1, 21, l + 1, 26⟩ ⟨l + 1, 8, l + 1, 26⟩, initS fld, [.non], []⟩
def fn : List He.DefD := [dI "InvalidAutomaton" "InvalidAutomaton.__init__" 18 "value", dF "is_whole" 9, dF "is_count" 10, dF "is_count_below" 11, dF "is_string_of_letters" 12, dF "is_word" 13, dF "state_behind" 17, dF "accepts" 18, dF "is_alphabet" 19, dF "is_list_of_rows" 20, dF "is_row" 21, dF "is_rising" 22, dF "require_automaton" 23, dF "require_reading" 24, dF "columns_of" 25, dF "parting_word" 27, dF "rows_for_all_letters" 28, dF "first_words" 29, dF "_law_hash" 31, dF "_law_random" 32, dF "_law_generator" 33, dF "_law_signs" 34, dF "_law_automaton_rows" 35, dF "_law_draw" 36, dF "_law_turned" 37] ++
  [dF "_law_machine" 38, dF "_law_step" 39, dF "_law_unlike" 40, dF "_law_first" 41, dF "_law_caught" 42, dF "law" 43, dM "Automaton" "__init__" "Automaton.__init__" sInitA [] [("start", .int 0)], dM "Automaton" "letters" "Automaton.letters" sLettersA [] [], dM "Automaton" "rows" "Automaton.rows" sRowsA [] [], dM "Automaton" "start" "Automaton.start" sStartA [] [], dM "Automaton" "ends" "Automaton.ends" sEndsA [] [], dM "Automaton" "__eq__" "Automaton.__eq__" sEqA [] []]
def fa : List He.Fa := [.glo "is_whole", .glo "is_count", .glo "is_count_below", .glo "is_string_of_letters", .glo "is_word", .glo "state_behind", .glo "accepts", .glo "is_alphabet", .glo "is_list_of_rows", .glo "is_row", .glo "is_rising", .glo "require_automaton", .glo "require_reading", .glo "columns_of", .glo "parting_word", .glo "rows_for_all_letters", .glo "first_words", .glo "_law_hash", .glo "_law_random", .glo "_law_generator", .glo "_law_signs", .glo "_law_automaton_rows", .glo "_law_draw", .glo "_law_turned", .glo "_law_machine"] ++
  [.glo "_law_step", .glo "_law_unlike", .glo "_law_first", .glo "_law_caught", .glo "law", .free "int", .free "range", .free "len", .free "sum", .free "max", .free "isinstance", .free "bool", .free "str", .free "sorted", .free "set", .free "list", .free "all", .free "enumerate", .free "repr", .int "LONGEST_WORD" 20000, .int "MOST_STATES" 12, .str "ALPHABET" abc, .glo "Automaton", .cls "Automaton", .mkr "Automaton"] ++
  [.noat "Automaton" "_letters", .noat "Automaton" "_rows", .noat "Automaton" "_start", .noat "Automaton" "_ends", .meth "Automaton" "letters", .meth "Automaton" "rows", .meth "Automaton" "start", .meth "Automaton" "ends", .meth "Automaton" "__eq__"]
def tf : List He.Defn := [("parting_word", none)]
abbrev GA (K : PySem.W.Frag) : Addr := He.ga K "Automaton"
def bxX (K : PySem.W.Frag) : Bool := (List.range 1).all fun i => xclsB K (nmF i) "value"
def mroI (K : PySem.W.Frag) (i : Nat) : List Value := .ref (CF K i) :: .ref (CF K 1) :: He.veBase
def bxK (K : PySem.W.Frag) : Bool := ecls0B K "LoopError" && ((Nat.blt (CF K 1) (CF K 0)) && (((List.range 1).all fun i => mroB K (CF K i) (mroI K i)) && mroB K (CF K 1) (.ref (CF K 1) :: He.veBase)))
def bxT_GA (K : PySem.W.Frag) : Bool := He.eqO (PySem.W.findIn K (.ref (GA K)) "__class__") (some (some (.builtin "object.__class__"))) && (He.eqO (PySem.W.specialIn K (.builtin "object.__class__") "__get__") (some (some (.builtin "getset_descriptor.__get__"))) &&
  (decide (PySem.W.takesIn K (.builtin "object.__class__") = some true) && (decide (PySem.W.mroIn K (GA K) (.type "object") = some true) && (decide (PySem.W.kitOne K (.ref (GA K)) (.ref (GA K)) = some true) &&
  (tysD.all fun T => decide (PySem.W.kitOne K (.type T) (.ref (GA K)) = some false))))))
def bx (K : PySem.W.Frag) : Bool := bxX K && (bxK K && (bxT_GA K))
end KF
set_option Elab.async false
set_option linter.all false
set_option maxRecDepth 100000
set_option maxHeartbeats 0
namespace KF
open PySem PySem.Spec PyProof.Rows L2 XV
section
variable {P : Program} {w : World} {K : PySem.W.Frag} {mg : Str → Option Value} {base h : Heap}
theorem cl_of (X : K.In h) (G : h.Ns mainGlobals mg) (c : He.SaysD fa fn K) (b : bx K = true) : ClF P w K mg base := by
  obtain ⟨b1, b⟩ := He.ba b
  obtain ⟨b2, _⟩ := He.ba b
  obtain ⟨b2, b⟩ := He.ba b2
  obtain ⟨k1, b⟩ := He.ba b
  obtain ⟨k3, k4⟩ := He.ba b
  have q0 := k1
  have a1_0 : CF K 1 < CF K 0 := Nat.le_of_ble_eq_true q0
  have five : ∀ i, i < 1 → i = 0 := fun i h => by omega
  have lL : ∀ i, i < 1 → CF K 1 < CF K i := fun i hi => by
    rcases five i hi with rfl <;> assumption
  have ne : ∀ i, i < 1 → ∀ j, j < 1 → i ≠ j → ¬ CF K i = CF K j := fun i hi j hj hij => by
    rcases five i hi with rfl <;> rcases five j hj with rfl <;> first
      | exact absurd rfl hij
      | exact Nat.ne_of_lt (by assumption)
      | exact fun z => absurd z.symm (Nat.ne_of_lt (by assumption))
  have hm : ∀ i, i < 1 → mroB K (CF K i) (mroI K i) = true := fun i hi => List.all_eq_true.mp k3 i (List.mem_range.mpr hi)
  have ct : ∀ i x, (mroI K i).contains (.ref x) = (decide (CF K i = x) || decide (CF K 1 = x)) := fun i x => by
    have e : ∀ y : Addr, (Value.ref x == Value.ref y) = decide (y = x) := fun y => by
      by_cases q : y = x
      · rw [q, decide_eq_true rfl]; exact beq_iff_eq.mpr rfl
      · rw [decide_eq_false q]; exact beq_eq_false_iff_ne.mpr (fun z => q (Value.ref.inj z).symm)
    have e2 : ∀ n : String, (Value.ref x == Value.type n) = false := fun n => beq_eq_false_iff_ne.mpr (fun z => by cases z)
    unfold mroI He.veBase
    simp only [List.contains_cons, List.contains_nil, e, e2, Bool.or_false]
  have hx : ∀ i, i < 1 → xclsB K (nmF i) "value" = true := fun i hi => List.all_eq_true.mp b1 i (List.mem_range.mpr hi)
  have gL := (He.ba b2).1
  have eL : ExcC K (CF K 1) := excB_ok (He.ba (He.ba (He.ba b2).2).2).2
  have tL := (mroB_ok k4).2
  refine ⟨?_, ?_, ?_, ?_, ?_, ?_, ?_⟩
  · intro i hi
    have x0 : ∃ fI fd, XCls P w K mg base (nmF 0) "value" (CF K 0) fI fd := by
      obtain ⟨fd, F⟩ := c.def_ 0 (d := dI "InvalidAutomaton" "InvalidAutomaton.__init__" 18 "value") rfl
      exact ⟨_, fd, xcls_V (nm := "InvalidAutomaton") X G (hx 0 (by decide)) F⟩
    match i, hi with
    | 0, _ => exact x0
    | _ + 1, hi => exact absurd hi (by omega)
  · intro i hi
    by_cases q : i < 1
    · exact PySem.W.mg_of X G (He.eqO_ok (He.ba (hx i q)).1)
    · obtain rfl : i = 1 := by omega
      exact PySem.W.mg_of X G (He.eqO_ok gL)
  · intro i hi
    exact (xcls_E (hx i hi)).1
  · intro i hi
    exact (xcls_E (hx i hi)).2
  · intro i hi j hj
    rw [kit_mro (hm i hi) rfl (hm j hj) (fun e => by rw [ct, decide_eq_true e]; rfl), ct]
    have nL : ¬ CF K 1 = CF K j := fun z => absurd z (Nat.ne_of_lt (lL j hj))
    rw [decide_eq_false nL, Bool.or_false]
    by_cases q : i = j
    · rw [q, decide_eq_true rfl, decide_eq_true rfl]
    · rw [decide_eq_false q, decide_eq_false (ne i hi j hj q)]
  · intro i hi
    refine PySem.W.exm_ref eL.hs eL.hd tL ?_
    rw [sub_mro (hm i hi) rfl, ct, decide_eq_true (rfl : CF K 1 = CF K 1), Bool.or_true]
  · intro i hi
    have e2 : ExcC K (CF K i) := (xcls_E (hx i hi)).1
    refine PySem.W.exm_ref e2.hs e2.hd (mroB_ok (hm i hi)).2 ?_
    rw [sub_mro (hm i hi) rfl, ct, decide_eq_true (rfl : CF K i = CF K i), Bool.true_or]
theorem tt_GA (X : K.In h) (G : h.Ns mainGlobals mg) (c : He.SaysD fa fn K) (b : bx K = true) : AT K mg (GA K) := by
  obtain ⟨_, b⟩ := He.ba b
  obtain ⟨_, t⟩ := He.ba b
  obtain ⟨t1, t⟩ := He.ba t
  obtain ⟨t2, t⟩ := He.ba t
  obtain ⟨t3, t⟩ := He.ba t
  obtain ⟨t4, t⟩ := He.ba t
  obtain ⟨t5, t6⟩ := He.ba t
  exact ⟨⟨He.cls_ok (c.fact 48 (f := .cls "Automaton") rfl), He.eqO_ok t1, He.eqO_ok t2, of_decide_eq_true t3, of_decide_eq_true t4, of_decide_eq_true t5⟩, He.noat_ok (c.fact 50 (f := .noat "Automaton" "_letters") rfl), He.noat_ok (c.fact 51 (f := .noat "Automaton" "_rows") rfl), He.noat_ok (c.fact 52 (f := .noat "Automaton" "_start") rfl), He.noat_ok (c.fact 53 (f := .noat "Automaton" "_ends") rfl), He.glo_ok X G (c.fact 47 (f := .glo "Automaton") rfl), fun T hT => of_decide_eq_true (List.all_eq_true.mp t6 T hT)⟩
theorem facts {f : Addr} (X : K.In h) (G : h.Ns mainGlobals mg) (hfa : mg ("law" : Str) = some (.ref f)) (c : He.SaysD fa fn K) (b : bx K = true) :
    ∃ fd : FuncData, (∀ (s : Shared) (v : Value), BindsTo s fd ⟨[v], []⟩ [("_law_script", v)]) ∧ ∀ base : Heap, K.In base → base.Ns mainGlobals mg → (∀ p ∈ tf.map (He.cT K), LamX.TabB base mg p.1 p.2) → FnG P w K mg base CX0 9 f fd ["_law_script"] (spLaw K (He.tabOf K (He.codeOf K ("parting_word", none)))) := by
  obtain ⟨fd_is_whole, F_is_whole⟩ := c.def_ 1 (d := dF "is_whole" 9) rfl
  obtain ⟨fd_is_count, F_is_count⟩ := c.def_ 2 (d := dF "is_count" 10) rfl
  obtain ⟨fd_is_count_below, F_is_count_below⟩ := c.def_ 3 (d := dF "is_count_below" 11) rfl
  obtain ⟨fd_is_string_of_letters, F_is_string_of_letters⟩ := c.def_ 4 (d := dF "is_string_of_letters" 12) rfl
  obtain ⟨fd_is_word, F_is_word⟩ := c.def_ 5 (d := dF "is_word" 13) rfl
  obtain ⟨fd_state_behind, F_state_behind⟩ := c.def_ 6 (d := dF "state_behind" 17) rfl
  obtain ⟨fd_accepts, F_accepts⟩ := c.def_ 7 (d := dF "accepts" 18) rfl
  obtain ⟨fd_is_alphabet, F_is_alphabet⟩ := c.def_ 8 (d := dF "is_alphabet" 19) rfl
  obtain ⟨fd_is_list_of_rows, F_is_list_of_rows⟩ := c.def_ 9 (d := dF "is_list_of_rows" 20) rfl
  obtain ⟨fd_is_row, F_is_row⟩ := c.def_ 10 (d := dF "is_row" 21) rfl
  obtain ⟨fd_is_rising, F_is_rising⟩ := c.def_ 11 (d := dF "is_rising" 22) rfl
  obtain ⟨fd_require_automaton, F_require_automaton⟩ := c.def_ 12 (d := dF "require_automaton" 23) rfl
  obtain ⟨fd_require_reading, F_require_reading⟩ := c.def_ 13 (d := dF "require_reading" 24) rfl
  obtain ⟨fd_columns_of, F_columns_of⟩ := c.def_ 14 (d := dF "columns_of" 25) rfl
  obtain ⟨fd_parting_word, F_parting_word⟩ := c.def_ 15 (d := dF "parting_word" 27) rfl
  obtain ⟨fd_rows_for_all_letters, F_rows_for_all_letters⟩ := c.def_ 16 (d := dF "rows_for_all_letters" 28) rfl
  obtain ⟨fd_first_words, F_first_words⟩ := c.def_ 17 (d := dF "first_words" 29) rfl
  obtain ⟨fd__law_hash, F__law_hash⟩ := c.def_ 18 (d := dF "_law_hash" 31) rfl
  obtain ⟨fd__law_random, F__law_random⟩ := c.def_ 19 (d := dF "_law_random" 32) rfl
  obtain ⟨fd__law_generator, F__law_generator⟩ := c.def_ 20 (d := dF "_law_generator" 33) rfl
  obtain ⟨fd__law_signs, F__law_signs⟩ := c.def_ 21 (d := dF "_law_signs" 34) rfl
  obtain ⟨fd__law_automaton_rows, F__law_automaton_rows⟩ := c.def_ 22 (d := dF "_law_automaton_rows" 35) rfl
  obtain ⟨fd__law_draw, F__law_draw⟩ := c.def_ 23 (d := dF "_law_draw" 36) rfl
  obtain ⟨fd__law_turned, F__law_turned⟩ := c.def_ 24 (d := dF "_law_turned" 37) rfl
  obtain ⟨fd__law_machine, F__law_machine⟩ := c.def_ 25 (d := dF "_law_machine" 38) rfl
  obtain ⟨fd__law_step, F__law_step⟩ := c.def_ 26 (d := dF "_law_step" 39) rfl
  obtain ⟨fd__law_unlike, F__law_unlike⟩ := c.def_ 27 (d := dF "_law_unlike" 40) rfl
  obtain ⟨fd__law_first, F__law_first⟩ := c.def_ 28 (d := dF "_law_first" 41) rfl
  obtain ⟨fd__law_caught, F__law_caught⟩ := c.def_ 29 (d := dF "_law_caught" 42) rfl
  obtain ⟨fd_law, F_law⟩ := c.def_ 30 (d := dF "law" 43) rfl
  obtain ⟨fdm_GA___init__, FGA___init__⟩ := c.def_ 31 (d := dM "Automaton" "__init__" "Automaton.__init__" sInitA [] [("start", .int 0)]) rfl
  obtain ⟨fdm_GA_letters, FGA_letters⟩ := c.def_ 32 (d := dM "Automaton" "letters" "Automaton.letters" sLettersA [] []) rfl
  obtain ⟨fdm_GA_rows, FGA_rows⟩ := c.def_ 33 (d := dM "Automaton" "rows" "Automaton.rows" sRowsA [] []) rfl
  obtain ⟨fdm_GA_start, FGA_start⟩ := c.def_ 34 (d := dM "Automaton" "start" "Automaton.start" sStartA [] []) rfl
  obtain ⟨fdm_GA_ends, FGA_ends⟩ := c.def_ 35 (d := dM "Automaton" "ends" "Automaton.ends" sEndsA [] []) rfl
  obtain ⟨fdm_GA___eq__, FGA___eq__⟩ := c.def_ 36 (d := dM "Automaton" "__eq__" "Automaton.__eq__" sEqA [] []) rfl
  have g_is_whole : mg "is_whole" = some (.ref (He.ga K "is_whole")) := He.glo_ok X G (c.fact 0 (f := .glo "is_whole") rfl)
  have g_is_count : mg "is_count" = some (.ref (He.ga K "is_count")) := He.glo_ok X G (c.fact 1 (f := .glo "is_count") rfl)
  have g_is_count_below : mg "is_count_below" = some (.ref (He.ga K "is_count_below")) := He.glo_ok X G (c.fact 2 (f := .glo "is_count_below") rfl)
  have g_is_string_of_letters : mg "is_string_of_letters" = some (.ref (He.ga K "is_string_of_letters")) := He.glo_ok X G (c.fact 3 (f := .glo "is_string_of_letters") rfl)
  have g_is_word : mg "is_word" = some (.ref (He.ga K "is_word")) := He.glo_ok X G (c.fact 4 (f := .glo "is_word") rfl)
  have g_state_behind : mg "state_behind" = some (.ref (He.ga K "state_behind")) := He.glo_ok X G (c.fact 5 (f := .glo "state_behind") rfl)
  have g_accepts : mg "accepts" = some (.ref (He.ga K "accepts")) := He.glo_ok X G (c.fact 6 (f := .glo "accepts") rfl)
  have g_is_alphabet : mg "is_alphabet" = some (.ref (He.ga K "is_alphabet")) := He.glo_ok X G (c.fact 7 (f := .glo "is_alphabet") rfl)
  have g_is_list_of_rows : mg "is_list_of_rows" = some (.ref (He.ga K "is_list_of_rows")) := He.glo_ok X G (c.fact 8 (f := .glo "is_list_of_rows") rfl)
  have g_is_row : mg "is_row" = some (.ref (He.ga K "is_row")) := He.glo_ok X G (c.fact 9 (f := .glo "is_row") rfl)
  have g_is_rising : mg "is_rising" = some (.ref (He.ga K "is_rising")) := He.glo_ok X G (c.fact 10 (f := .glo "is_rising") rfl)
  have g_require_automaton : mg "require_automaton" = some (.ref (He.ga K "require_automaton")) := He.glo_ok X G (c.fact 11 (f := .glo "require_automaton") rfl)
  have g_require_reading : mg "require_reading" = some (.ref (He.ga K "require_reading")) := He.glo_ok X G (c.fact 12 (f := .glo "require_reading") rfl)
  have g_columns_of : mg "columns_of" = some (.ref (He.ga K "columns_of")) := He.glo_ok X G (c.fact 13 (f := .glo "columns_of") rfl)
  have g_parting_word : mg "parting_word" = some (.ref (He.ga K "parting_word")) := He.glo_ok X G (c.fact 14 (f := .glo "parting_word") rfl)
  have g_rows_for_all_letters : mg "rows_for_all_letters" = some (.ref (He.ga K "rows_for_all_letters")) := He.glo_ok X G (c.fact 15 (f := .glo "rows_for_all_letters") rfl)
  have g_first_words : mg "first_words" = some (.ref (He.ga K "first_words")) := He.glo_ok X G (c.fact 16 (f := .glo "first_words") rfl)
  have g__law_hash : mg "_law_hash" = some (.ref (He.ga K "_law_hash")) := He.glo_ok X G (c.fact 17 (f := .glo "_law_hash") rfl)
  have g__law_random : mg "_law_random" = some (.ref (He.ga K "_law_random")) := He.glo_ok X G (c.fact 18 (f := .glo "_law_random") rfl)
  have g__law_generator : mg "_law_generator" = some (.ref (He.ga K "_law_generator")) := He.glo_ok X G (c.fact 19 (f := .glo "_law_generator") rfl)
  have g__law_signs : mg "_law_signs" = some (.ref (He.ga K "_law_signs")) := He.glo_ok X G (c.fact 20 (f := .glo "_law_signs") rfl)
  have g__law_automaton_rows : mg "_law_automaton_rows" = some (.ref (He.ga K "_law_automaton_rows")) := He.glo_ok X G (c.fact 21 (f := .glo "_law_automaton_rows") rfl)
  have g__law_draw : mg "_law_draw" = some (.ref (He.ga K "_law_draw")) := He.glo_ok X G (c.fact 22 (f := .glo "_law_draw") rfl)
  have g__law_turned : mg "_law_turned" = some (.ref (He.ga K "_law_turned")) := He.glo_ok X G (c.fact 23 (f := .glo "_law_turned") rfl)
  have g__law_machine : mg "_law_machine" = some (.ref (He.ga K "_law_machine")) := He.glo_ok X G (c.fact 24 (f := .glo "_law_machine") rfl)
  have g__law_step : mg "_law_step" = some (.ref (He.ga K "_law_step")) := He.glo_ok X G (c.fact 25 (f := .glo "_law_step") rfl)
  have g__law_unlike : mg "_law_unlike" = some (.ref (He.ga K "_law_unlike")) := He.glo_ok X G (c.fact 26 (f := .glo "_law_unlike") rfl)
  have g__law_first : mg "_law_first" = some (.ref (He.ga K "_law_first")) := He.glo_ok X G (c.fact 27 (f := .glo "_law_first") rfl)
  have g__law_caught : mg "_law_caught" = some (.ref (He.ga K "_law_caught")) := He.glo_ok X G (c.fact 28 (f := .glo "_law_caught") rfl)
  have g_law : mg "law" = some (.ref (He.ga K "law")) := He.glo_ok X G (c.fact 29 (f := .glo "law") rfl)
  have z_int : mg "int" = none := He.free_ok X G (c.fact 30 (f := .free "int") rfl)
  have z_range : mg "range" = none := He.free_ok X G (c.fact 31 (f := .free "range") rfl)
  have z_len : mg "len" = none := He.free_ok X G (c.fact 32 (f := .free "len") rfl)
  have z_sum : mg "sum" = none := He.free_ok X G (c.fact 33 (f := .free "sum") rfl)
  have z_max : mg "max" = none := He.free_ok X G (c.fact 34 (f := .free "max") rfl)
  have z_isinstance : mg "isinstance" = none := He.free_ok X G (c.fact 35 (f := .free "isinstance") rfl)
  have z_bool : mg "bool" = none := He.free_ok X G (c.fact 36 (f := .free "bool") rfl)
  have z_str : mg "str" = none := He.free_ok X G (c.fact 37 (f := .free "str") rfl)
  have z_sorted : mg "sorted" = none := He.free_ok X G (c.fact 38 (f := .free "sorted") rfl)
  have z_set : mg "set" = none := He.free_ok X G (c.fact 39 (f := .free "set") rfl)
  have z_list : mg "list" = none := He.free_ok X G (c.fact 40 (f := .free "list") rfl)
  have z_all : mg "all" = none := He.free_ok X G (c.fact 41 (f := .free "all") rfl)
  have z_enumerate : mg "enumerate" = none := He.free_ok X G (c.fact 42 (f := .free "enumerate") rfl)
  have z_repr : mg "repr" = none := He.free_ok X G (c.fact 43 (f := .free "repr") rfl)
  obtain ⟨t_ALPHABET, h_ALPHABET⟩ := He.str_ok X G (c.fact 46 (f := .str "ALPHABET" abc) rfl)
  obtain ⟨t_LONGEST_WORD, h_LONGEST_WORD⟩ := He.int_ok X G (c.fact 44 (f := .int "LONGEST_WORD" 20000) rfl)
  obtain ⟨t_MOST_STATES, h_MOST_STATES⟩ := He.int_ok X G (c.fact 45 (f := .int "MOST_STATES" 12) rfl)
  have MKGA : Mk K (GA K) (He.ma K (GA K) "__init__") := He.mkr_ok (c.fact 49 (f := .mkr "Automaton") rfl)
  obtain ⟨mGA_letters1, mGA_letters2, mGA_letters3⟩ := He.meth_ok (c.fact 54 (f := .meth "Automaton" "letters") rfl)
  obtain ⟨mGA_rows1, mGA_rows2, mGA_rows3⟩ := He.meth_ok (c.fact 55 (f := .meth "Automaton" "rows") rfl)
  obtain ⟨mGA_start1, mGA_start2, mGA_start3⟩ := He.meth_ok (c.fact 56 (f := .meth "Automaton" "start") rfl)
  obtain ⟨mGA_ends1, mGA_ends2, mGA_ends3⟩ := He.meth_ok (c.fact 57 (f := .meth "Automaton" "ends") rfl)
  obtain ⟨mGA___eq__1, mGA___eq__2, mGA___eq__3⟩ := He.meth_ok (c.fact 58 (f := .meth "Automaton" "__eq__") rfl)
  have T := tt_GA X G c b
  have eL := hfa.symm.trans g_law
  cases eL
  have bL := FunD.bindsA (ps := ["_law_script"]) F_law fun _ _ _ _ _ _ us hl => match us, hl with | [_], _ => rfl
  refine ⟨fd_law, fun s v => bL s [v] rfl, fun base Xb _ TB => ?_⟩
  have Z : ClF P w K mg base := cl_of X G c b
  have o__law_hash := Ok.mk' (P := P) (w := w) (base := base) F__law_hash g__law_hash (fun _ _ _ _ _ _ us hl => match us, hl with | [_, _], _ => rfl) (ok_hash F__law_hash z_int)
  have o__law_random := Ok.mk' (P := P) (w := w) (base := base) F__law_random g__law_random (fun _ _ _ _ _ _ us hl => match us, hl with | [_, _], _ => rfl) (ok_rand F__law_random o__law_hash z_int z_range)
  have o__law_generator := Ok.mk' (P := P) (w := w) (base := base) F__law_generator g__law_generator (fun _ _ _ _ _ _ us hl => match us, hl with | [_, _], _ => rfl) (ok_gen F__law_generator z_int z_len z_sum z_max)
  have o_is_whole := Ok.mk' (P := P) (w := w) (base := base) F_is_whole g_is_whole (fun _ _ _ _ _ _ us hl => match us, hl with | [_], _ => rfl) (ok_whole F_is_whole z_isinstance z_int z_bool)
  have o_is_count := Ok.mk' (P := P) (w := w) (base := base) F_is_count g_is_count (fun _ _ _ _ _ _ us hl => match us, hl with | [_], _ => rfl) (ok_count F_is_count o_is_whole)
  have o_is_count_below := Ok.mk' (P := P) (w := w) (base := base) F_is_count_below g_is_count_below (fun _ _ _ _ _ _ us hl => match us, hl with | [_, _], _ => rfl) (ok_below F_is_count_below o_is_count)
  have o_is_string_of_letters := Ok.mk' (P := P) (w := w) (base := base) F_is_string_of_letters g_is_string_of_letters (fun _ _ _ _ _ _ us hl => match us, hl with | [_], _ => rfl) (ok_low F_is_string_of_letters z_isinstance z_str)
  have o_is_word := Ok.mk' (P := P) (w := w) (base := base) F_is_word g_is_word (fun _ _ _ _ _ _ us hl => match us, hl with | [_], _ => rfl) (ok_isWord F_is_word o_is_string_of_letters z_len h_LONGEST_WORD)
  have o_is_alphabet := Ok.mk' (P := P) (w := w) (base := base) F_is_alphabet g_is_alphabet (fun _ _ _ _ _ _ us hl => match us, hl with | [_], _ => rfl) (ok_alph F_is_alphabet o_is_word z_sorted z_set)
  have o_is_row := Ok.mk' (P := P) (w := w) (base := base) F_is_row g_is_row (fun _ _ _ _ _ _ us hl => match us, hl with | [_, _, _], _ => rfl) (ok_row F_is_row o_is_count_below z_isinstance z_list z_len z_all)
  have o_is_list_of_rows := Ok.mk' (P := P) (w := w) (base := base) F_is_list_of_rows g_is_list_of_rows (fun _ _ _ _ _ _ us hl => match us, hl with | [_, _], _ => rfl) (ok_lrows F_is_list_of_rows o_is_row z_isinstance z_list z_len z_all h_MOST_STATES)
  have o_is_rising := Ok.mk' (P := P) (w := w) (base := base) F_is_rising g_is_rising (fun _ _ _ _ _ _ us hl => match us, hl with | [_, _], _ => rfl) (ok_ris F_is_rising o_is_row z_isinstance z_list z_len z_sorted z_set)
  have x_require_automaton := OkX.mk' (P := P) (w := w) (base := base) F_require_automaton g_require_automaton (fun _ _ _ _ _ _ us hl => match us, hl with | [_], _ => rfl) (ok_reqA F_require_automaton T Z z_isinstance)
  have o_require_reading := Ok.mk' (P := P) (w := w) (base := base) F_require_reading g_require_reading (fun _ _ _ _ _ _ us hl => match us, hl with | [_, _], _ => rfl) (ok_reqR F_require_reading x_require_automaton.calm o_is_word)
  have o__law_signs := Ok.mk' (P := P) (w := w) (base := base) F__law_signs g__law_signs (fun _ _ _ _ _ _ us hl => match us, hl with | [_], _ => rfl) (ok_signs F__law_signs o__law_random)
  have o__law_automaton_rows := Ok.mk' (P := P) (w := w) (base := base) F__law_automaton_rows g__law_automaton_rows (fun _ _ _ _ _ _ us hl => match us, hl with | [_, _, _], _ => rfl) (ok_rowsL F__law_automaton_rows o__law_random z_range z_len)
  have o__law_step := Ok.mk' (P := P) (w := w) (base := base) F__law_step g__law_step (fun _ _ _ _ _ _ us hl => match us, hl with | [_, _, _], _ => rfl) (ok_step F__law_step z_len)
  have o__law_unlike := Ok.mk' (P := P) (w := w) (base := base) F__law_unlike g__law_unlike (fun _ _ _ _ _ _ us hl => match us, hl with | [_, _, _], _ => rfl) (ok_unl F__law_unlike )
  have o__law_first := Ok.mk' (P := P) (w := w) (base := base) F__law_first g__law_first (fun _ _ _ _ _ _ us hl => match us, hl with | [_, _], _ => rfl) (ok_first F__law_first o__law_unlike o__law_step z_len z_range)
  have o__law_draw := Ok.mk' (P := P) (w := w) (base := base) F__law_draw g__law_draw (fun _ _ _ _ _ _ us hl => match us, hl with | [_], _ => rfl) (ok_draw F__law_draw o__law_random o__law_signs o__law_automaton_rows z_range)
  have o__law_turned := Ok.mk' (P := P) (w := w) (base := base) F__law_turned g__law_turned (fun _ _ _ _ _ _ us hl => match us, hl with | [_, _], _ => rfl) (ok_turned F__law_turned o__law_random o__law_draw z_len z_range z_int z_sorted z_list)
  have ot_letters : OkMa P w K mg base (GA K) "letters" (spLetA (GA K)) := ⟨_, _, ok_letA FGA_letters T, ⟨mGA_letters1, mGA_letters2, mGA_letters3⟩, FunD.bindsN FGA_letters fun _ _ _ _ _ _ us hl => match us, hl with | [_], _ => rfl⟩
  have o_columns_of := Ok.mk' (P := P) (w := w) (base := base) F_columns_of g_columns_of (fun _ _ _ _ _ _ us hl => match us, hl with | [_, _], _ => rfl) (ok_cols F_columns_of T ot_letters z_enumerate z_len)
  have ot_rows : OkMa P w K mg base (GA K) "rows" (spRowsA (GA K)) := ⟨_, _, ok_rowsA FGA_rows T z_list, ⟨mGA_rows1, mGA_rows2, mGA_rows3⟩, FunD.bindsN FGA_rows fun _ _ _ _ _ _ us hl => match us, hl with | [_], _ => rfl⟩
  have o_rows_for_all_letters := Ok.mk' (P := P) (w := w) (base := base) F_rows_for_all_letters g_rows_for_all_letters (fun _ _ _ _ _ _ us hl => match us, hl with | [_], _ => rfl) (ok_full F_rows_for_all_letters T o_columns_of ot_rows h_ALPHABET)
  have ot_start : OkMa P w K mg base (GA K) "start" (spStartA (GA K)) := ⟨_, _, ok_startA FGA_start T, ⟨mGA_start1, mGA_start2, mGA_start3⟩, FunD.bindsN FGA_start fun _ _ _ _ _ _ us hl => match us, hl with | [_], _ => rfl⟩
  have o_state_behind := Ok.mk' (P := P) (w := w) (base := base) F_state_behind g_state_behind (fun _ _ _ _ _ _ us hl => match us, hl with | [_, _], _ => rfl) (ok_beh F_state_behind T o_require_reading ot_rows ot_start o_columns_of)
  have ot_ends : OkMa P w K mg base (GA K) "ends" (spEndsA (GA K)) := ⟨_, _, ok_endsA FGA_ends T z_list, ⟨mGA_ends1, mGA_ends2, mGA_ends3⟩, FunD.bindsN FGA_ends fun _ _ _ _ _ _ us hl => match us, hl with | [_], _ => rfl⟩
  have o_accepts := Ok.mk' (P := P) (w := w) (base := base) F_accepts g_accepts (fun _ _ _ _ _ _ us hl => match us, hl with | [_, _], _ => rfl) (ok_acc F_accepts T o_state_behind ot_ends)
  obtain ⟨mvA, kbA⟩ := FunD.kbinds0 (ps := ["self", "letters", "rows", "start", "ends"]) FGA___init__ 3 ["ends"] [("start", V.int 0)] (fun us mz zs => us ++ mz ++ zs) (fun z => by cases z) (fun q hq => hq) (fun r1 r2 r3 => Vals.append (Vals.append r1 r2) r3) (fun D doc pm an cdv ct us mv ws l1 l2 l3 => match us, mv, ws, l1, l2, l3 with | [_, _, _], [_], [_], _, _, _ => ⟨_, _, _, _, _, _, rfl, rfl, rfl⟩)
  obtain ⟨mvB, kbB⟩ := FunD.kbinds0 (ps := ["self", "letters", "rows", "start", "ends"]) FGA___init__ 3 ["start", "ends"] [] (fun us mz zs => us ++ zs) (fun z => by cases z) (fun q hq => by cases hq) (fun r1 r2 r3 => Vals.append r1 r3) (fun D doc pm an cdv ct us mv ws l1 l2 l3 => match us, mv, ws, l1, l2, l3 with | [_, _, _], [], [_, _], _, _, _ => rfl)
  have o_mk : OkMk P w K mg base (GA K) := ⟨_, _, mvA, MKGA, ok_initA FGA___init__ T o_is_alphabet o_is_list_of_rows o_is_count_below o_is_rising z_len z_list, kbA, kbB, T.g⟩
  have o__law_machine := Ok.mk' (P := P) (w := w) (base := base) F__law_machine g__law_machine (fun _ _ _ _ _ _ us hl => match us, hl with | [_], _ => rfl) (ok_mach F__law_machine o_mk)
  have o_eq : OkEqF P w K mg base (GA K) := ⟨_, _, mGA___eq__1, mGA___eq__2, ok_eqA FGA___eq__ T z_isinstance, FunD.bindsN FGA___eq__ fun _ _ _ _ _ _ us hl => match us, hl with | [_, _], _ => rfl⟩
  have hcd_pw := XV.code_at (p := ("parting_word", none)) F_parting_word
  have TBp : LamX.TabB base mg (He.codeOf K ("parting_word", none)) (He.tabOf K (He.codeOf K ("parting_word", none))) := TB (He.cT K ("parting_word", none)) (List.mem_map.mpr ⟨_, List.mem_cons_self, rfl⟩)
  have Fpw := ok_pw (P := P) (w := w) F_parting_word hcd_pw TBp F_first_words g_first_words (FunD.bindsN F_first_words fun _ _ _ _ _ _ us hl => match us, hl with | [_, _], _ => rfl) T x_require_automaton o_rows_for_all_letters ot_ends ot_start z_len z_enumerate h_ALPHABET
  have x_parting_word := OkX.mk' F_parting_word g_parting_word (fun _ _ _ _ _ _ us hl => match us, hl with | [_, _], _ => rfl) Fpw
  have k_parting_word := OkK.mk' F_parting_word g_parting_word (fun _ _ _ _ _ _ us hl => match us, hl with | [_, _], _ => rfl) (FnOk.calm Fpw)
  have o__law_caught := OkG.mk' (P := P) (w := w) (base := base) F__law_caught g__law_caught (fun _ _ _ _ _ _ us hl => match us, hl with | [_, _], _ => rfl) (ok_caught F__law_caught Z x_parting_word z_isinstance z_repr)
  exact ok_lawP F_law T o_mk o_eq o__law_generator o__law_draw o__law_turned o__law_machine o__law_first x_parting_word.calm k_parting_word o_accepts o__law_caught z_range z_repr z_len z_int
end
end KF
set_option Elab.async false
set_option linter.all false
set_option maxRecDepth 100000
set_option maxHeartbeats 0
namespace KF
open PySem PySem.Spec PyProof.Rows L2 XV
abbrev R : PySem.W.OpenRow := PySem.W.OpenLaw.row PySem.Challenge.rw_openloops_k23_whole_first_parting_words
abbrev qv : Program := PySem.W.view R.prog [43]
def names : List PySem.Str := (["LoopError", "InvalidNumber", "InvalidWord", "InvalidList", "InvalidAutomaton", "LONGEST_WORD", "ALPHABET", "is_whole", "is_count", "is_count_below", "is_string_of_letters", "is_word", "MOST_STATES", "Automaton", "state_behind", "accepts", "is_alphabet", "is_list_of_rows", "is_row", "is_rising"] : List PySem.Str) ++ (["require_automaton", "require_reading", "columns_of", "parting_word", "rows_for_all_letters", "first_words", "_law_hash", "_law_random", "_law_generator", "_law_signs", "_law_automaton_rows", "_law_draw", "_law_turned", "_law_machine", "_law_step", "_law_unlike", "_law_first", "_law_caught"] : List PySem.Str)
noncomputable abbrev endR (w : World) (os : OsState) : Option PySem.W.SharedT := HandSHeadRun.endF (HandSHeadRun.stepQ (HandSHeadRun.denQ HandSHeadRun.tabQ) R.prog w) 12000 R.prog w os
end KF
set_option Elab.async false
set_option linter.all false
set_option maxRecDepth 100000
set_option maxHeartbeats 0
namespace KF
open PySem PySem.Spec PyProof.Rows L2 XV
def obsK (K : PySem.W.Frag) : He.AlD × Bool := (He.obsD fa fn K, bx K)
abbrev hk : PySem.W.Hook := hookFT (He.AlD × Bool) obsK (He.valD fn, true) tf
def ob (s : PySem.W.SharedT) : (He.AlD × Bool) × Bool := obFT obsK tf s
theorem ob_eq (s : PySem.W.SharedT) : ob s = hk.obs s.abs := obFT_eq (val := (He.valD fn, true)) s
theorem run (w : World) : HandSHeadRun.RunEq R qv hk ob 12000 names w := by
  intro os
  kernel_rfl
end KF
set_option Elab.async false
set_option linter.all false
set_option maxRecDepth 100000
set_option maxHeartbeats 0
open PySem PySem.W PySem.Calls PyProof.Rows
theorem PySem.Challenge.cw_openloops_k23_whole_first_parting_words_holds : PySem.Challenge.rw_openloops_k23_whole_first_parting_words.Holds := by
  w_on; o_law
  refine HandSHeadRun.head_any (r := OpenLaw.row PySem.Challenge.rw_openloops_k23_whole_first_parting_words) (q := view (OpenLaw.row PySem.Challenge.rw_openloops_k23_whole_first_parting_words).prog [43]) (H := KF.hk) (ob := KF.ob) (M := 12000) (loose := KF.names)
    (d := HandSHeadRun.topDef (OpenLaw.row PySem.Challenge.rw_openloops_k23_whole_first_parting_words).prog 43) (kwd := []) KF.ob_eq
    (by kernel_rfl) (fun s => by kernel_rfl) KF.run (by kernel_rfl) (by kernel_rfl) (by kernel_rfl) (by rfl) (by first | assumption | decide +kernel) (by decide +kernel) ⟨rfl, rfl, rfl, rfl, rfl, by decide +kernel⟩ ?hw ?hc
  case hw => w_witness2
  case hc =>
    refine XV.walk_ofGT (l := PySem.Challenge.rw_openloops_k23_whole_first_parting_words) (n := 63) (k := 9) (x := "_law_script") rfl (by decide) (by kernel_rfl) ⟨rfl, by decide, by decide⟩ ?F
    intro w mg fa h Y G hmg0
    obtain ⟨K, KX, cb, tb⟩ := Y
    have c : He.SaysD KF.fa KF.fn K := congrArg Prod.fst cb
    have b : KF.bx K = true := congrArg Prod.snd cb
    have hmg : mg ("law" : PySem.Str) = some (.ref fa) := by
      have e : (HandSHeadRun.topDef (OpenLaw.row PySem.Challenge.rw_openloops_k23_whole_first_parting_words).prog 43).name = ("law" : PySem.Str) := by kernel_rfl
      rw [← e]
      exact hmg0
    obtain ⟨fd, hb, hF⟩ := KF.facts (P := (PySem.Challenge.rw_openloops_k23_whole_first_parting_words).prog) (w := w) KX G hmg c b
    exact ⟨K, fd, KF.tf.map (He.cT K), KF.spLaw K (He.tabOf K (He.codeOf K ("parting_word", none))), KX, (fun p hp => by obtain ⟨d, hd, rfl⟩ := List.mem_map.mp hp; exact (tb d hd).2.2), (fun p hp => by obtain ⟨d, hd, rfl⟩ := List.mem_map.mp hp; exact (tb d hd).2.1), (fun p hp => by obtain ⟨d, hd, rfl⟩ := List.mem_map.mp hp; exact codeHd_of_K KX (tb d hd).1), hb, fun H a ns hl hT hS => ⟨a, ns, rfl, hS, hl, (fun p hp => by cases List.mem_singleton.mp hp; exact LamX.TabS.nil (hT _ (List.mem_map.mpr ⟨_, List.mem_cons_self, rfl⟩))), fun _ => rfl⟩, hF⟩
