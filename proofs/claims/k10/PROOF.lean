import PyProof.Rows.All
import Wide.All
import OpenK.AllK
import Wide.FinOn
import HandS.ForMost
import HandS.Exc
import HandS.ExcInit
import HandS.ExcIs
import HandS.ExcField
import HandS.ExcOwn
import HandS.Defaults
import HandS.HeadHook2
import HandS.ExcValue
import HandS.Wide
import HandS.WideBits
import HandS.Style
import HandS.IsInst
import PySem.Challenge.RW_openloops_k10_grids_that_refine
import KE.DataAny
import HandS.StrMore
import HandS.Zip
import KE.GoesZip
import KE.GoesMore
import KE.GoesEnum
import HandS.Comp
import HandS.Ends
import HandS.HeadEnd
import HandS.TryMany
import HandS.Deep
import PyProof.ReprRoads
import HandS.Gcd
import HandS.SlotsOwn
import HandS.Codes
import KE.KMathGC
import PyProof.NeKinds
import PyProof.EqKinds
import HandS.Evl
import HandS.WordsExc
import HandS.Head0
import HandS.Head1
import HandS.Head2
import HandS.HeadHook1
import HandS.Head3
set_option Elab.async false
set_option linter.all false
set_option maxRecDepth 100000
set_option maxHeartbeats 2000000
/-! Own error classes whose instances are held as values: C(..) with any keywords, e.f, isinstance(e, C). -/
namespace XV
open PySem PySem.Spec PyProof.Rows L2 PySem.HandSPX

section
variable {prog : Program} {w : World} {A : Around} {E : Value → Shared → Prop} {R : Result → Shared → Prop}
variable {h : Heap} {g : Array GenState} {d : Drawn} {t : Nat} {os : OsState}
variable {nm q : Str} {C N : Addr} {bs bm bmB : List Value} {hdct : Bool} {sn : List Str} {sub : List Value} {ab : Bool} {col : Option Bool} {dd : Option Addr}
variable {k0 k1 k2 k3 k5 : Option Value} {B newId initId : String}

/-- the check ahead of __new__, whatever keywords there are -/
theorem chkNew {M : Model} (F : ExcBaseFacts B newId initId bmB) (hT : ∀ X : String, bm.contains (.type X) = bmB.contains (.type X))
    {rest : List Value} {kw : List (Str × Value)} {Q : Unit → Shared → Prop}
    (hC : h.get? C = some (excClassObj nm q C N bs bm hdct sn sub ab col dd k0 k1 k2 k3 k5 newId)) (hq : Q () ⟨h, g, d, t, os⟩) :
    wpAny M A (checkBuiltinCall newId ⟨.ref C :: rest, kw⟩) Q E ⟨h, g, d, t, os⟩ := by
  have cB : (Value.ref C :: bm).contains (.type B) = true := by
    rw [List.contains_cons, hT, F.hasB]
    exact Bool.or_true _
  have star := F.noStar
  simp only [checkBuiltinCall, F.newKind, F.newSplit, F.newRow]
  repeat (first
    | refine wpAny_loadPart_at hC ?_
    | (refine wpAny_isSubtype_exc hC ?_; rw [cB])
    | refine wpAny_staticBase_exc hC ?_
    | refine wpAny_madeBy_exc hC ?_
    | simp only [bne_self_eq_false, Bool.false_eq_true, if_false]
    | wp_step)
  exact hq

theorem runNew (F : ExcBaseFacts B newId initId bmB) (hT : ∀ X : String, bm.contains (.type X) = bmB.contains (.type X))
    {rest : List Value} {kw : List (Str × Value)}
    (hC : h.get? C = some (excClassObj nm q C N bs bm hdct sn sub ab col dd k0 k1 k2 k3 k5 newId))
    (hq : R (.ok (.ret (.ref (h.objs.size + 1)))) ⟨(h.push (PySem.W.kdv_tup rest)).push (excO C h.objs.size), g, d, t, os⟩) (hz : rest.length ≤ sizeLine) :
    codeAny (model prog w) A (.builtin newId ⟨.ref C :: rest, kw⟩) R ⟨h, g, d, t, os⟩ := by
  have ends := F.ends
  have cB : (Value.ref C :: bm).contains (.type B) = true := by
    rw [List.contains_cons, hT, F.hasB]
    exact Bool.or_true _
  have cA : (Value.ref C :: bm).contains (.type "AttributeError") = false := by
    rw [List.contains_cons, hT, F.noAttr] <;> rfl
  have cN : (Value.ref C :: bm).contains (.type "NameError") = false := by
    rw [List.contains_cons, hT, F.noName] <;> rfl
  refine codeAny_builtinAt F.entry ?_
  unfold Builtin.«BaseException.__new__»
  refine PySem.wpAt_bind ?_
  show PySem.wpAt _ _ _ (stack >>= _) _ _ _
  refine PySem.wpAt_bind (PySem.wpAt_stack fun p below => PySem.wpAt_of_wpAny ?_)
  wp_walk
  refine PySem.wpAt_of_wpAny ?_
  rw [F.owner]
  repeat (first
    | with_reducible refine wpAny_madeHere_exc F.canon hC ?_
    | with_reducible refine wpAny_loadPart_at hC ?_
    | (with_reducible refine wpAny_isSubtype_exc hC ?_; first | rw [cB] | rw [cA] | rw [cN])
    | wp_step)
  show R _ _
  rw [Heap.size_push]
  exact hq

theorem typeCall (F : ExcBaseFacts B newId initId bmB) (hT : ∀ X : String, bm.contains (.type X) = bmB.contains (.type X))
    {rest : List Value} {kw : List (Str × Value)} {fI : Addr} {Q : Fin → Shared → Prop}
    (hC : h.get? C = some (excClassObj nm q C N bs bm hdct sn sub ab col dd k0 k1 k2 k3 k5 newId))
    (hi : W.Looks (model prog w) h (typeLookup (.ref C) "__init__") (some (.ref fI)))
    (hb : ∀ self, W.Looks (model prog w) h (bindSpecial (.ref fI) self) (.ref fI, [self])) (hz : rest.length ≤ sizeLine)
    (hq : codeAny (model prog w) A (.call (.ref fI) ⟨.ref (h.objs.size + 1) :: rest, kw⟩)
      (fun r s' => match r with
        | .ok (.ret v) => v = .none ∧ Q (.done (.ret (.ref (h.objs.size + 1)))) s'
        | .ok _ => False
        | .error e => E e s')
      ⟨(h.push (W.kdv_tup rest)).push (excO C h.objs.size), g, d, t, os⟩) :
    wpAny (model prog w) A (Builtin.«type.__call__» ⟨.ref C :: rest, kw⟩) Q E ⟨h, g, d, t, os⟩ := by
  repeat (first
    | with_reducible refine wpAny_loadPart_at hC ?_
    | with_reducible refine wpAny_madeBy_exc hC ?_
    | wp_step)
  refine codeAny_call_builtin_code (Code.quiet_builtin _ F.quiet) (chkNew F hT hC ?_)
  refine runNew F hT hC ?_ hz
  show wpAny _ _ _ _ _ _
  have k : ∀ b o, h.get? b = some o → ((h.push (W.kdv_tup rest)).push (excO C h.objs.size)).get? b = some o :=
    fun b o e => Heap.get?_push_of_some _ (Heap.get?_push_of_some _ e)
  have hC1 := k _ _ hC
  have got : ((h.push (W.kdv_tup rest)).push (excO C h.objs.size)).get? (h.objs.size + 1) = some (excO C h.objs.size) := by heap_get
  have cC : (Value.ref C :: bm).contains (.ref C) = true := by simp
  have i1 := hi.keeps k
  have b1 := (hb (.ref (h.objs.size + 1))).keeps k
  unfold isInstance
  repeat (first
    | with_reducible refine wpAny_loadPart_at got ?_
    | (with_reducible refine wpAny_isSubtype_exc hC1 ?_; rw [cC])
    | wp_step)
  show wpAny _ _ (typeLookup (.ref C) _) _ _ _
  refine i1.at ?_
  refine wpAny_holding (wpAny_bind (b1.at ?_))
  refine wpAny_bind (wpAny_call (codeAny_mono hq fun r s' z => ?_))
  rcases r with e | (v | _ | _ | _) <;> first | exact z | exact z.elim | skip
  obtain ⟨rfl, z⟩ := z
  first
    | exact wpAny_pure (wpAny_pure z)
    | (wp_walk; exact z)

theorem chkCall {M : Model} {rest : List Value} {kw : List (Str × Value)} {Q : Unit → Shared → Prop}
    (hC : h.get? C = some (excClassObj nm q C N bs bm hdct sn sub ab col dd k0 k1 k2 k3 k5 newId)) (hq : Q () ⟨h, g, d, t, os⟩) :
    wpAny M A (checkBuiltinCall "type.__call__" ⟨.ref C :: rest, kw⟩) Q E ⟨h, g, d, t, os⟩ := by
  have f3 := tc_sub
  have ty : (⟨h, g, d, t, os⟩ : Shared).TypeIs (.ref C) "type" := ⟨_, hC, rfl⟩
  have args : argsOk "type.__call__" ⟨.ref C :: rest, kw⟩ := PySem.W.tc_args _ _ _
  unfold argsOk at args
  simp only [checkBuiltinCall, tc_kind, tc_split]
  repeat (any_goals (first
    | assumption
    | with_reducible refine wpAny_loadPart_at hC ?_
    | with_reducible refine wpAny_onRaise ?_
    | with_reducible refine wpAny_map ?_
    | rw [args]
    | wp_step))

/-- C(.., k = v, ..): an exception is made, then its class's own __init__ is called upon it -/
theorem callOwn (F : ExcBaseFacts B newId initId bmB) (hT : ∀ X : String, bm.contains (.type X) = bmB.contains (.type X))
    {rest : List Value} {kw : List (Str × Value)} {fI : Addr}
    (hC : h.get? C = some (excClassObj nm q C N bs bm hdct sn sub ab col dd k0 k1 k2 k3 k5 newId))
    (hi : W.Looks (model prog w) h (typeLookup (.ref C) "__init__") (some (.ref fI)))
    (hb : ∀ self, W.Looks (model prog w) h (bindSpecial (.ref fI) self) (.ref fI, [self])) (hz : rest.length ≤ sizeLine)
    (hq : codeAny (model prog w) (A.under (.builtin "type.__call__" ⟨.ref C :: rest, kw⟩)) (.call (.ref fI) ⟨.ref (h.objs.size + 1) :: rest, kw⟩)
      (W.InitBack (h.objs.size + 1) R) ⟨(h.push (W.kdv_tup rest)).push (excO C h.objs.size), g, d, t, os⟩) :
    codeAny (model prog w) A (.call (.ref C) ⟨rest, kw⟩) R ⟨h, g, d, t, os⟩ := by
  have f1 := tc_lookup
  have f2 := tc_bind (.ref C)
  have ty : (⟨h, g, d, t, os⟩ : Shared).TypeIs (.ref C) "type" := ⟨_, hC, rfl⟩
  refine codeAny_of_tree ?_
  show wpAny _ _ (callAny (.ref C) _) _ _ _
  repeat (any_goals (first
    | assumption
    | with_reducible refine wpAny_loadPart_at hC ?_
    | wp_step))
  refine ⟨rfl, ?_⟩
  refine codeAny_call_builtin_at (Code.quiet_builtin _ (by decide +kernel)) entry_typeCall (chkCall hC (typeCall F hT hC hi hb hz ?_))
  refine codeAny_mono hq fun r s' z => ?_
  rcases r with e | (v | _ | _ | _) <;> exact z
end
end XV
set_option Elab.async false
set_option linter.all false
set_option maxRecDepth 100000
set_option maxHeartbeats 2000000
namespace XV
open PySem PySem.Spec PyProof.Rows L2

theorem upd_mid {H : Hp} {a d : Addr} {o p q : HO} : upd (upd (upd H a o) d p) a q = upd (upd H d p) a q := by
  funext b
  by_cases e : b = a
  · subst e
    rw [upd_same, upd_same]
  · rw [upd_ne e, upd_ne e]
    by_cases f : b = d
    · subst f
      rw [upd_same, upd_same]
    · rw [upd_ne f, upd_ne f, upd_ne e]

/-- what __init__ of an error with the one field fld does -/
def spI (C : Addr) (fld : Str) : Sp := fun vs H Q _ => ∃ (a : Addr) (v : V), vs = [.ref a, v] ∧ H a = some (exo a C none) ∧
  ∀ d, H d = none → d ≠ a → Q .non (upd (upd H d (exd d [(fld, v)])) a (exo a C (some d)))

/-- what is known of such a class and its __init__ -/
structure XCls (P : Program) (w : World) (K : PySem.W.Frag) (mg : Str → Option Value) (base : Heap) (nm fld : Str) (C fI : Addr) (fd : FuncData) : Prop where
  g : mg nm = some (.ref C)
  ox : OexC K C
  iC : PySem.W.findIn K (.ref C) "__init__" = some (some (.ref fI))
  tI : PySem.W.typeIn K (.ref fI) = some (.type "function")
  no : PySem.W.findIn K (.ref C) fld = some none
  ini : FnOk P w K mg base CX0 1 fI fd ["self", fld] (spI C fld)
  b1 : ∀ (s : Shared) (x u : Value), K.In s.heap → BindsTo s fd ⟨[x, u], []⟩ [("self", x), (fld, u)]
  b0 : ∀ (s : Shared) (x : Value), K.In s.heap → BindsTo s fd ⟨[x], []⟩ [("self", x), (fld, .none)]
  bk : ∀ (s : Shared) (x u : Value), K.In s.heap → BindsTo s fd ⟨[x], [(fld, u)]⟩ [("self", x), (fld, u)]

/-- C(v): a new exception at a, its dict at d -/
structure rMk (C : Addr) (fld : Str) (v : V) (H : Hp) (Q : VK) : Prop where
  go : ∀ a d, H a = none → H d = none → d ≠ a → Q (.ref a) (upd (upd H d (exd d [(fld, v)])) a (exo a C (some d)))

section
variable {X : Cx} {pins : List (Addr × Obj)} {σ : L2.St} {H : Hp} {s : Shared} {Q : VK} {nm fld : Str} {C fI : Addr} {fd : FuncData} {v : V} {u : Value}
theorem mk_run (T : XCls X.prog X.w X.K X.mg X.base nm fld C fI fd) (hr : Room 2 X.A) (I : Inv X pins σ H s) {us : List Value} {kw : List (Str × Value)} (hu : us.length ≤ 1)
    (hb : ∀ (s' : Shared) (x : Value), X.K.In s'.heap → BindsTo s' fd ⟨x :: us, kw⟩ [("self", x), (fld, u)]) (rv : RelV v u) (q : rMk C fld v H Q) :
    wpAny (model X.prog X.w) X.A (call (.ref C) us kw) (EP X pins σ Q) X.xe s := by
  obtain ⟨n0, q0, N, bs, bm, sn, sub, ab, col, dd, k0, k1, k2, k3, k5, hC, hbm⟩ := T.ox.cls
  obtain ⟨hp, g, dr, tk, os⟩ := s
  have le1 : hp.objs.size ≤ hp.objs.size + 1 := Nat.le_succ _
  have fr : H (hp.objs.size + 1) = none := I.hok.fresh le1
  have kk : ∀ b o, hp.get? b = some o → ((hp.push (PySem.W.kdv_tup us)).push (PySem.HandSPX.excO C hp.objs.size)).get? b = some o :=
    fun b o e => Heap.get?_push_of_some _ (Heap.get?_push_of_some _ e)
  have got : ((hp.push (PySem.W.kdv_tup us)).push (PySem.HandSPX.excO C hp.objs.size)).get? (hp.objs.size + 1) = some (PySem.HandSPX.excO C hp.objs.size) := by heap_get
  have I2 := I.laid (t' := tk) (a := hp.objs.size + 1) (o := exo (hp.objs.size + 1) C none) (h' := (hp.push (PySem.W.kdv_tup us)).push (PySem.HandSPX.excO C hp.objs.size)) kk le1 (exo_ok got)
  have hz : us.length ≤ sizeLine := by
    rw [sizeLine_eq]
    omega
  have sp : spI C fld [.ref (hp.objs.size + 1), v] (upd H (hp.objs.size + 1) (exo (hp.objs.size + 1) C none)) (fun z H2 => z = .non ∧ Q (.ref (hp.objs.size + 1)) H2) E0 := by
    refine ⟨_, v, rfl, upd_same, fun d nd ne => ⟨rfl, ?_⟩⟩
    rw [upd_mid]
    rw [upd_ne ne] at nd
    exact q.go _ d fr nd ne
  refine wpAny_call (callOwn PySem.F.excBase_ValueError (fun Y => PySem.HandSPX.refsVE_contains Y bm hbm) (I.kIn _ _ hC) (PySem.W.looks_findIn I.kIn T.iC)
    (fun self => PySem.W.bind_fn I.kIn self T.tI) hz
    (codeAny_mono (T.ini.run _ X.stack _ _ ⟨Value.ref (hp.objs.size + 1) :: us, kw⟩ [Value.ref (hp.objs.size + 1), u] [.ref (hp.objs.size + 1), v] _ E0
      (hr.make C us kw) (I2.env0.make C us kw) (hb _ _ I2.kIn) (.cons rfl (.cons rv .nil)) sp) fun r s' z => ?_))
  cases r with
  | error e => exact False.elim z
  | ok fl =>
    cases fl with
    | ret r0 =>
      obtain ⟨z0, H', J, rz, ez, qz⟩ := I2.after z
      subst ez
      exact ⟨rz, ⟨V.ref (hp.objs.size + 1), H', J, rfl, qz⟩⟩
    | next => exact False.elim z
    | brk => exact False.elim z
    | cont => exact False.elim z
end

/-- of a list with one value -/
def oneOf (q : V → Hp → Prop) : List V → Hp → Prop
  | [v], H => q v H
  | _, _ => False
theorem oneOf.elim {q : V → Hp → Prop} : ∀ {vs : List V} {H : Hp}, oneOf q vs H → ∃ v, vs = [v] ∧ q v H
  | [v], _, h => ⟨v, rfl, h⟩
  | [], _, h => h.elim
  | _ :: _ :: _, _, h => h.elim
section
variable {X : Cx} {nm fld : Str} {C fI : Addr} {fd : FuncData} {e : Expr} {te : TE} {p pos kpos : Pos}
/-- C(e) -/
theorem pe_mk1 (T : XCls X.prog X.w X.K X.mg X.base nm fld C fI fd) (hr : Room 2 X.A) (hg : Gl X nm) (he : PE X e te) (hdb : (nm == ("__debug__" : Str)) = false := by decide)
    (hs : starEach (e :: []) X.env = (false, eval e X.env) :: starEach [] X.env := by rfl) (hpl : (backTo pos (starEach [] X.env)).any (·.1) = false := by rfl) :
    PE X (.Call (.Name nm p) [e] [] pos) (fun σ H Q => te σ H fun v H1 => rMk C fld v H1 Q) := by
  refine ⟨fun pins s σ H Q I h => ?_⟩
  refine wpAny_Call_Name_kw (ld_glob I hg T.g ?_ hdb)
  have ha : PA X [e] (tCons te tNil) := pa_cons he pa_nil hs
  refine PySem.W.callWith_K (h₀ := X.base) I.ok.mod.kin T.ox.kC (thn (ha.run pos pins s σ H (oneOf fun v H1 => rMk C fld v H1 Q) I h) fun us s1 z => ?_) hs hpl
  obtain ⟨vs, H1, I1, r, q⟩ := z
  obtain ⟨v, ev, q⟩ := oneOf.elim q
  subst ev
  cases r with
  | cons rv rn =>
    cases rn
    exact ⟨I1.kIn, mk_run T hr I1 (by simp) (fun s' x X' => T.b1 s' x _ X') rv q⟩
/-- C() -/
theorem pe_mk0 (T : XCls X.prog X.w X.K X.mg X.base nm fld C fI fd) (hr : Room 2 X.A) (hg : Gl X nm) (hdb : (nm == ("__debug__" : Str)) = false := by decide) :
    PE X (.Call (.Name nm p) [] [] pos) (fun σ H Q => rMk C fld .non H Q) := by
  refine ⟨fun pins s σ H Q I h => ?_⟩
  refine wpAny_Call_Name_kw (ld_glob I hg T.g ?_ hdb)
  exact PySem.W.callWith_K0 I.kIn T.ox.kC (mk_run (us := []) T hr I (by simp) (fun s' x X' => T.b0 s' x X') (v := .non) rfl h)
/-- C(fld = e) -/
theorem pe_mkK (T : XCls X.prog X.w X.K X.mg X.base nm fld C fI fd) (hr : Room 2 X.A) (hg : Gl X nm) (he : PE X e te) (hdb : (nm == ("__debug__" : Str)) = false := by decide)
    (hall : (backToKw pos (keywordEach [⟨some fld, e, kpos⟩] X.env)).all (·.1.isSome) = true := by rfl) (hks : (backToKw pos (keywordEach [⟨some fld, e, kpos⟩] X.env)).filterMap (·.1) = [fld] := by rfl)
    (hpl : ((backTo pos (starEach [] X.env)).any (·.1) || (backToKw pos (keywordEach [⟨some fld, e, kpos⟩] X.env)).any (·.1.isNone)) = false := by rfl) :
    PE X (.Call (.Name nm p) [] [⟨some fld, e, kpos⟩] pos) (fun σ H Q => te σ H fun v H1 => rMk C fld v H1 Q) := by
  refine ⟨fun pins s σ H Q I h => ?_⟩
  refine wpAny_Call_Name_kw (ld_glob I hg T.g ?_ hdb)
  have hk : PK X [⟨some fld, e, kpos⟩] (tCons te tNil) := pk_cons he pk_nil
  refine PySem.W.callWith_KW0 (h₀ := X.base) I.ok.mod.kin T.ox.kC hall (thn (hk.run pos pins s σ H (oneOf fun v H1 => rMk C fld v H1 Q) I h) fun us s1 z => ?_) hpl
  obtain ⟨vs, H1, I1, r, q⟩ := z
  obtain ⟨v, ev, q⟩ := oneOf.elim q
  subst ev
  cases r with
  | cons rv rn =>
    cases rn
    refine ⟨I1.kIn, ?_⟩
    rw [hks]
    exact mk_run (us := []) T hr I1 (by simp) (fun s' x X' => T.bk s' x _ X') rv q
end
end XV
set_option Elab.async false
set_option linter.all false
set_option maxRecDepth 100000
set_option maxHeartbeats 4000000
namespace XV
open PySem PySem.Spec PyProof.Rows L2

/-! ### e.f -/
/-- x is an error of the class at C with the fields fs -/
def Err (H : Hp) (x : V) (C : Addr) (fs : List (Str × V)) : Prop := ∃ a d, x = .ref a ∧ H a = some (exo a C (some d)) ∧ H d = some (exd d fs)
/-- the facts that a read of the field n wants -/
structure XF (K : PySem.W.Frag) (C : Addr) (n : Str) : Prop where
  xf : XfC K C
  no : PySem.W.findIn K (.ref C) n = some none
section
variable {X : Cx}
theorem pe_xget {e : Expr} {te : TE} {pos : Pos} {n : Str} (he : PE X e te) (hb : attributeBase e n X.env (eval e X.env) = eval e X.env := by rfl) :
    PE X (.Attribute e n pos) (fun σ H Q => te σ H fun x H1 => ∃ C fs v, Err H1 x C fs ∧ XF X.K C n ∧ fs.lookup n = some v ∧ Q v H1) := by
  refine ⟨fun pins s σ H Q I h => ?_⟩
  refine attr_of hb (thn (he.run pins s σ H _ I h) fun u s1 hh => ?_)
  obtain ⟨x, H1, I1, rx, C, fs, v, ⟨a, d, ex, ea, ed⟩, T, l, q⟩ := hh
  subst ex
  obtain rfl : u = Value.ref a := rx
  obtain ⟨t1, ho⟩ := exo_at I1.hok ea
  obtain ⟨mA, hns, hrel⟩ := exd_at I1.hok ed
  obtain ⟨od, hod, hl⟩ := lookIn_ns hns
  obtain ⟨w1, hw, rw1⟩ := RelO.some_of (v := v) (o := mA n) (by rw [← l]; exact hrel n)
  have J : PySem.W.InstAt s1.heap a _ C (some od) := ⟨ho, rfl, rfl, hod⟩
  exact HandSPX.exc_get I1.kIn J T.xf.ga T.xf.gg T.xf.exC (PySem.W.findObj_own T.xf.hdC T.no rfl (by rw [hl, hw])) (handed_of rw1) ⟨v, H1, I1.tok _, rw1, q⟩
end
end XV

/-! ### isinstance of an error, with its dict or without -/
namespace XV
open PySem PySem.W PySem.Calls PyProof.Rows L2
theorem find_cls {K : Frag} {D : Addr} {od : Option Obj} (E : ExcC K D) : findObj K D od "__class__" = some (.bind (.builtin "getset_descriptor.__get__") (.builtin "object.__class__")) := by
  have hc : (clsIn K D).isSome = true := by
    obtain ⟨cd, hc, _⟩ := any_some E.hd
    rw [hc]
    rfl
  cases od with
  | none => exact findObj_dataN hc E.ha E.hn E.ht
  | some o => exact findObj_data hc E.ha E.hn E.ht
theorem getCls {prog : Program} {w : World} {A : Around} {E : Value → Shared → Prop} {s : Shared} {K : Frag} {x D : Addr} {ox : Obj} {od : Option Obj} {Q : Option Value → Shared → Prop}
    (C : ExcC K D) (X : K.In s.heap) (I : InstAt s.heap x ox D od) (q : Q (some (.ref D)) { s with toks := s.toks + 1 }) : wpAny (model prog w) A (getAttr? (.ref x) "__class__") Q E s := by
  have fnd := find_cls (od := od) C
  obtain ⟨hp, g, d, t, os⟩ := s
  have tyx := I.type (M := model prog w)
  have look1 := looks_findIn (M := model prog w) X C.hg
  have look2 := looks_findIn (M := model prog w) X C.hk
  have look3 := looks_find (M := model prog w) X I fnd
  have isB : Looks (model prog w) hp (isInstance (.ref x) (.type "BaseException")) true := tyx.andThen (looks_subIn X C.hs)
  have n0 : (false && onTheHeap (Value.builtin "BaseException.__getattribute__")) = false := rfl
  have n2 : (Value.builtin "BaseException.__getattribute__" == Value.builtin "object.__getattribute__") = false := by decide +kernel
  have n1 : (onTheHeap (Value.ref D) && Value.builtin "BaseException.__getattribute__" == Value.builtin "object.__getattribute__") = false := by
    rw [n2]
    rfl
  unfold getAttr? getAttrBy? getAttrBy
  refine wpAny_bind (wpAny_mkText (wpAny_bind (wpAny_attempt (wpAny_holding (wpAny_bind (tyx.at (wpAny_bind (look1.at ?_))))))))
  show wpAny _ _ (if (onTheHeap (Value.ref D) && Value.builtin "BaseException.__getattribute__" == Value.builtin "object.__getattribute__") = true then _ else _) _ _ _
  rw [n1, if_neg Bool.false_ne_true]
  unfold getAttrByItsOwn hookBefore
  refine wpAny_bind ?_
  rw [if_pos (show onTheHeap (Value.ref D) = true from rfl)]
  refine look2.at ?_
  refine wpAny_bind (wpAny_attempt (wpAny_holding ?_))
  unfold callGetattribute
  rw [n0, if_neg Bool.false_ne_true]
  unfold boundAndCalled
  rw [PySem.F.excAttr_ValueError.ga.bind (.ref x)]
  refine wpAny_bind (wpAny_pure ?_)
  show wpAny _ _ (call (.builtin "BaseException.__getattribute__") [.ref x, .str "__class__" t]) _ _ _
  refine wpAny_call (codeAny_call_builtin PySem.F.excAttr_ValueError.ga.plain PySem.F.entry_bexc_ga ?_)
  refine @check_slot (model prog w) _ _ ⟨hp, g, d, t + 1, os⟩ "BaseException.__getattribute__" "BaseException" "__getattribute__" (.ref x) [.str "__class__" t] [] _ (by decide +kernel) (by decide +kernel) isB (PySem.F.args_bexc_ga (.ref x) (.str "__class__" t)) ?_
  unfold Builtin.«object.__getattribute__»
  refine wpAny_bind (wpAny_of_eq (a := ((Value.ref x : Value), [Value.str "__class__" t])) (by first | rfl | (simp only [slotArgs]; rfl)) ?_)
  refine wpAny_bind (wpAny_pure (wpAny_bind (tyx.at (wpAny_bind (look3.at ?_)))))
  show wpAny _ _ (holding [Value.builtin "object.__class__"] (call (.builtin "getset_descriptor.__get__") [.builtin "object.__class__", .ref x, .ref D]) >>= ret) _ _ _
  refine wpAny_bind (wpAny_holding (wpAny_call (class_get (s := ⟨hp, g, d, t + 1, os⟩) (ox := ox) (od := od) X I C.hm ?_)))
  refine wpAny_pure ?_
  show wpAny _ _ (handedOut (.ref D)) _ _ _
  rw [handedOut_of (v := .ref D) rfl]
  first
    | exact wpAny_pure (wpAny_pure q)
    | exact wpAny_pure q
    | exact wpAny_pure (wpAny_bind (wpAny_pure (wpAny_pure q)))
theorem kitErr {K : Frag} {x D : Addr} {ox : Obj} {od : Option Obj} (C : ExcC K D) : KitX K (.ref x) (.ref D) (fun h => InstAt h x ox D od) where
  ty := fun _ _ _ I => I.type
  it := fun _ _ X _ => by
    obtain ⟨cdD, hcD, _⟩ := any_some C.hd
    unfold clsIn at hcD
    split at hcD
    · rename_i c' d' cd' sl' ho
      intro A' Q' E' s' k q
      unfold isType loadHead
      exact wpAny_bind (wpAny_loadPart (k _ _ (X _ _ ho)) (wpAny_pure q))
    · cases hcD
  ne := fun h tp dd its n sl X htp => by
    obtain ⟨cdD, hcD, _⟩ := any_some C.hd
    refine Bool.eq_false_iff.mpr fun q => ?_
    have e : D = tp := Value.ref.inj (beq_iff_eq.mp q)
    subst e
    unfold clsIn at hcD
    split at hcD
    · rename_i c' d' cd' sl' ho
      have z := (X _ _ ho).symm.trans htp
      cases z
    · cases hcD
  ca := fun X I k => getCls C X I k
end XV

namespace XV
open PySem PySem.Spec PyProof.Rows L2
/-- x is an error of the class at C, whatever else is known of it -/
def IsE (H : Hp) (x : V) (C : Addr) : Prop := ∃ a, x = .ref a ∧ (H a = some (exo a C none) ∨ ∃ d fs, H a = some (exo a C (some d)) ∧ H d = some (exd d fs))
theorem Err.isE {H : Hp} {x : V} {C : Addr} {fs : List (Str × V)} (h : Err H x C fs) : IsE H x C := by
  obtain ⟨a, d, e, e1, e2⟩ := h
  exact ⟨a, e, .inr ⟨d, fs, e1, e2⟩⟩
def rIsX (K : PySem.W.Frag) : List V → Hp → VK → Prop := fun xs H Q => ∃ (x c : V) (D : Addr) (cv : Value) (b : Bool), xs = [x, c] ∧ IsE H x D ∧ ExcC K D ∧ (∀ u, RelV c u → u = cv) ∧ PySem.W.kitOne K (.ref D) cv = some b ∧ Q (.bl b) H
theorem call_isX {X : Cx} : CallR X (.builtin "isinstance") (rIsX X.K) := by
  intro pins s σ H xs us Q I r h
  obtain ⟨x, c, D, cv, b, rfl, ⟨a, ex, hx⟩, C, hcv, e, q⟩ := h
  subst ex
  cases r with
  | cons rx rr =>
    cases rr with
    | cons rt rr =>
      cases rr
      cases rx
      have ec := hcv _ rt
      subst ec
      rcases hx with hx | ⟨d, fs, hx, hd⟩
      · obtain ⟨t1, ho⟩ := exo_at I.hok hx
        have J : PySem.W.InstAt s.heap a _ D none := ⟨ho, rfl, rfl, trivial⟩
        exact PySem.W.kia_one (kitErr C) I.kIn J e (fun z => nomatch z) fun tk => ⟨.bl b, H, I.kept (t' := tk) fun _ _ z => z, rfl, q⟩
      · obtain ⟨t1, ho⟩ := exo_at I.hok hx
        obtain ⟨mA, hns, _⟩ := exd_at I.hok hd
        obtain ⟨od, hod, _⟩ := lookIn_ns hns
        have J : PySem.W.InstAt s.heap a _ D (some od) := ⟨ho, rfl, rfl, hod⟩
        exact PySem.W.kia_one (kitErr C) I.kIn J e (fun z => nomatch z) fun tk => ⟨.bl b, H, I.kept (t' := tk) fun _ _ z => z, rfl, q⟩
end XV
set_option Elab.async false
set_option linter.all false
set_option maxRecDepth 100000
set_option maxHeartbeats 4000000
namespace XV
open PySem PySem.Spec PyProof.Rows L2

/-! ### an error class without an __init__ of its own: C() -/
theorem pe_mkE {X : Cx} {nm : Str} {C : Addr} {bmB : List Value} {B newId initId : String} {p pos : Pos} (F : ExcBaseFacts B newId initId bmB) (q : PySem.W.excIn X.K C bmB newId = true) (gC : X.mg nm = some (.ref C))
    (kC : PySem.W.keepIn X.K (.ref C) = true) (hg : Gl X nm) (hdb : (nm == ("__debug__" : Str)) = false := by decide) :
    PE X (.Call (.Name nm p) [] [] pos) (fun σ H Q => ∀ a, H a = none → Q (.ref a) (upd H a (exo a C none))) := by
  refine ⟨fun pins s σ H Q I h => ?_⟩
  refine wpAny_Call_Name_kw (ld_glob I hg gC ?_ hdb)
  refine PySem.W.callWith_K0 I.kIn kC ?_
  obtain ⟨bm, N, n0, qn, bs, hdct, sn, sub, ab, col, dd, k0, k1, k2, k3, k5, mN, hC, hN, hni, T⟩ := exc_obj I.kIn q
  obtain ⟨hp, g, d, t, os⟩ := s
  refine wpAny_call_exc_subT F T hC hN hni (fun h' e hm => ?_) (by show 0 ≤ sizeLine; exact Nat.zero_le _)
  obtain ⟨t1, he, _, _⟩ := hm.there
  have hn : H e = none := I.hok.gone hm.new
  exact ⟨.ref e, _, I.laidN (t' := t) (a := e) (o := exo e C none) hm.keeps hm.new hn (exo_ok he), rfl, h e hn⟩

/-! ### facts by Bools -/
def clsB (K : PySem.W.Frag) (C : Addr) : Bool := match K.lookup C with
  | some ⟨.type "type", _, .cls cd, sl⟩ => (match cd.mro, sl.toList with
    | .ref C' :: bm, [_, _, _, _, some (.builtin n), _] => (C' == C && n == "ValueError.__new__") && (cd.hasDict && (!cd.hasDel && PySem.HandSPX.refsVE bm))
    | _, _ => false)
  | _ => false
theorem clsB_ok {K : PySem.W.Frag} {C : Addr} (h : clsB K C = true) :
    ∃ nm q N bs bm sn sub ab col dd k0 k1 k2 k3 k5, K.lookup C = some (excClassObj nm q C N bs bm true sn sub ab col dd k0 k1 k2 k3 k5 "ValueError.__new__") ∧ PySem.HandSPX.refsVE bm = true := by
  unfold clsB at h
  split at h
  · rename_i dd cd sl ho
    split at h
    · rename_i C' bm k0 k1 k2 k3 n k5 hm hs
      obtain ⟨h1, h2⟩ := He.ba h
      obtain ⟨h3, h4⟩ := He.ba h1
      obtain ⟨h5, h6⟩ := He.ba h2
      obtain ⟨h7, h8⟩ := He.ba h6
      obtain ⟨n1, bs, mro, ns, qn, hd, sn, sub, ab, col, del⟩ := cd
      dsimp only at hm h5 h7
      have e1 : C' = C := eq_of_beq h3
      have e2 : n = "ValueError.__new__" := eq_of_beq h4
      have e3 : del = false := by
        cases del with
        | false => rfl
        | true => cases h7
      subst e1 e2 e3 hm h5
      have e4 : sl = #[k0, k1, k2, k3, some (.builtin "ValueError.__new__"), k5] := by
        obtain ⟨l⟩ := sl
        simp only at hs
        rw [hs]
      subst e4
      exact ⟨n1, qn, ns, bs, bm, sn, sub, ab, col, dd, k0, k1, k2, k3, k5, ho, h8⟩
    · cases h
  · cases h
def oexB (K : PySem.W.Frag) (C : Addr) : Bool := clsB K C && (He.eqO (PySem.W.findIn K (.ref C) "__setattr__") (some (some (.builtin "object.__setattr__"))) &&
  (decide (PySem.W.subIn K (.ref C) (.type "BaseException") = some true) && (decide (PySem.W.typeIn K (.ref C) = some (.type "type")) && PySem.W.keepIn K (.ref C))))
theorem oexB_ok {K : PySem.W.Frag} {C : Addr} (h : oexB K C = true) : OexC K C := by
  obtain ⟨h1, h⟩ := He.ba h
  obtain ⟨h2, h⟩ := He.ba h
  obtain ⟨h3, h⟩ := He.ba h
  obtain ⟨h4, h5⟩ := He.ba h
  exact ⟨clsB_ok h1, He.eqO_ok h2, of_decide_eq_true h3, of_decide_eq_true h4, h5⟩
def excB (K : PySem.W.Frag) (D : Addr) : Bool := xfB K D && (He.eqO (PySem.W.findIn K (.ref D) "__class__") (some (some (.builtin "object.__class__"))) &&
  (He.eqO (PySem.W.specialIn K (.builtin "object.__class__") "__get__") (some (some (.builtin "getset_descriptor.__get__"))) &&
  (decide (PySem.W.takesIn K (.builtin "object.__class__") = some true) && decide (PySem.W.mroIn K D (.type "object") = some true))))
theorem excB_ok {K : PySem.W.Frag} {D : Addr} (h : excB K D = true) : ExcC K D := by
  obtain ⟨h1, h⟩ := He.ba h
  obtain ⟨h2, h⟩ := He.ba h
  obtain ⟨h3, h⟩ := He.ba h
  obtain ⟨h4, h5⟩ := He.ba h
  have x := xfB_ok h1
  exact ⟨x.ga, x.gg, x.exC, x.hdC, He.eqO_ok h2, He.eqO_ok h3, of_decide_eq_true h4, of_decide_eq_true h5⟩
/-- an error class nm whose own __init__ sets the field fld -/
def xclsB (K : PySem.W.Frag) (nm fld : Str) : Bool := He.eqO (PySem.W.nsIn K mainGlobals nm) (some (some (.ref (He.ga K nm)))) && (oexB K (He.ga K nm) &&
  (He.eqO (PySem.W.findIn K (.ref (He.ga K nm)) "__init__") (some (some (.ref (He.fAd K (nm, some "__init__"))))) &&
  (decide (PySem.W.typeIn K (.ref (He.fAd K (nm, some "__init__"))) = some (.type "function")) && (He.eqO (PySem.W.findIn K (.ref (He.ga K nm)) fld) (some none) && excB K (He.ga K nm)))))
/-- one without -/
def ecls0B (K : PySem.W.Frag) (nm : Str) : Bool := He.eqO (PySem.W.nsIn K mainGlobals nm) (some (some (.ref (He.ga K nm)))) && (PySem.W.excIn K (He.ga K nm) He.veBase "ValueError.__new__" && (PySem.W.keepIn K (.ref (He.ga K nm)) && excB K (He.ga K nm)))

/-! ### __init__(self, fld=None): self.fld = fld -/
def initA (fld : Str) (p1 p2 p3 : Pos) : Arguments :=
  { posonlyargs := [], args := [{ arg := "self", annotation := none, pos := p1 }, { arg := fld, annotation := none, pos := p2 }], vararg := none, kwonlyargs := [], kw_defaults := [], kwarg := none, defaults := [.Constant .none 0 p3] }
def initB (fld : Str) (q1 q2 q3 q4 : Pos) : List Stmt := [.Assign [.Attribute (.Name "self" q1) fld q2] (.Name fld q3) q4]
def initS (fld : Str) : Scope := { kind := .function, names := [(PySem.Str.ofString "self", .local), (fld, .local)], isGenerator := false, isCoroutine := false, more := [] }

section
variable {P : Program} {w : World} {K : PySem.W.Frag} {mg : Str → Option Value} {base h : Heap} {nm qual fld : Str} {p1 p2 p3 q1 q2 q3 q4 : Pos} {C fI : Addr} {fd : FuncData}
theorem ok_initV (F : FunD K "__init__" qual (initA "value" p1 p2 p3) (initB "value" q1 q2 q3 q4) (initS "value") [.non] [] fI fd) (O : OexC K C) (no : PySem.W.findIn K (.ref C) "value" = some none) :
    FnOk P w K mg base CX0 1 fI fd ["self", "value"] (spI C "value") := by
  refine F.ok (N := ["self", "value"]) ⟨rfl, rfl, rfl, by decide +kernel, rfl, by decide +kernel, by decide +kernel⟩ (fun vs H Q E h => ?_) (fun cdv A outer s H vs Q E hr h => ?_)
  · obtain ⟨a, v, rfl, _⟩ := h
    rfl
  · obtain ⟨a, v, rfl, ha, q⟩ := h
    exact ⟨_, pss_one (ps_ost (pv 0) (pv 1)), ⟨_, rfl, _, rfl, a, C, rfl, O, no, .inl ⟨ha, fun d n ne => q d n ne⟩⟩⟩
theorem ok_initP (F : FunD K "__init__" qual (initA "place" p1 p2 p3) (initB "place" q1 q2 q3 q4) (initS "place") [.non] [] fI fd) (O : OexC K C) (no : PySem.W.findIn K (.ref C) "place" = some none) :
    FnOk P w K mg base CX0 1 fI fd ["self", "place"] (spI C "place") := by
  refine F.ok (N := ["self", "place"]) ⟨rfl, rfl, rfl, by decide +kernel, rfl, by decide +kernel, by decide +kernel⟩ (fun vs H Q E h => ?_) (fun cdv A outer s H vs Q E hr h => ?_)
  · obtain ⟨a, v, rfl, _⟩ := h
    rfl
  · obtain ⟨a, v, rfl, ha, q⟩ := h
    exact ⟨_, pss_one (ps_ost (pv 0) (pv 1)), ⟨_, rfl, _, rfl, a, C, rfl, O, no, .inl ⟨ha, fun d n ne => q d n ne⟩⟩⟩
theorem bind_ini {args : Args} {binds : List Value → List (Str × Value)} (F : FunD K "__init__" qual (initA fld p1 p2 p3) (initB fld q1 q2 q3 q4) (initS fld) [.non] [] fI fd)
    (hb : ∀ (T : Addr) (kV doc pm : Value) (an : Option Addr) (cdv ct : Value), ∃ k, bindArgs (PySem.W.fnOf "__init__" qual (initA fld p1 p2 p3) (initB fld q1 q2 q3 q4) (initS fld) (.ref T) kV doc pm an cdv ct) args = seqItems? (.ref T) >>= k ∧ k (some #[Value.none]) = pure (binds [.none]))
    (s : Shared) (X : K.In s.heap) : BindsTo s fd args (binds [.none]) := by
  obtain ⟨oc, od, dV, kV, doc, pm, an, cdv, ct, osl, rfl, lk, hcd, hD, hK⟩ := F.ex
  rcases hD with ⟨e, _⟩ | ⟨_, T, o, its, m, rfl, lT, oT, rT⟩
  · cases e
  · cases rT with
    | cons r0 r1 =>
      cases r1
      cases r0
      obtain ⟨k, e1, e2⟩ := hb T kV doc pm an cdv ct
      refine BindsTo.of_looks fun M => ?_
      rw [e1]
      exact looks_items X lT oT (.of_pure e2)
theorem xcls_V (X : K.In h) (G : h.Ns mainGlobals mg) (c : xclsB K nm "value" = true) (F : FunD K "__init__" qual (initA "value" p1 p2 p3) (initB "value" q1 q2 q3 q4) (initS "value") [.non] [] (He.fAd K (nm, some "__init__")) fd) :
    XCls P w K mg base nm "value" (He.ga K nm) (He.fAd K (nm, some "__init__")) fd := by
  obtain ⟨c1, c⟩ := He.ba c
  obtain ⟨c2, c⟩ := He.ba c
  obtain ⟨c3, c⟩ := He.ba c
  obtain ⟨c4, c⟩ := He.ba c
  obtain ⟨c5, c6⟩ := He.ba c
  have O := oexB_ok c2
  have no := He.eqO_ok c5
  exact ⟨PySem.W.mg_of X G (He.eqO_ok c1), O, He.eqO_ok c3, of_decide_eq_true c4, no, ok_initV F O no,
    fun s x u Y => bind_ini (binds := fun _ => [("self", x), ("value", u)]) F (fun _ _ _ _ _ _ _ => ⟨_, rfl, rfl⟩) s Y,
    fun s x Y => bind_ini (binds := fun _ => [("self", x), ("value", .none)]) F (fun _ _ _ _ _ _ _ => ⟨_, rfl, rfl⟩) s Y,
    fun s x u Y => bind_ini (binds := fun _ => [("self", x), ("value", u)]) F (fun _ _ _ _ _ _ _ => ⟨_, rfl, rfl⟩) s Y⟩
theorem xcls_P (X : K.In h) (G : h.Ns mainGlobals mg) (c : xclsB K nm "place" = true) (F : FunD K "__init__" qual (initA "place" p1 p2 p3) (initB "place" q1 q2 q3 q4) (initS "place") [.non] [] (He.fAd K (nm, some "__init__")) fd) :
    XCls P w K mg base nm "place" (He.ga K nm) (He.fAd K (nm, some "__init__")) fd := by
  obtain ⟨c1, c⟩ := He.ba c
  obtain ⟨c2, c⟩ := He.ba c
  obtain ⟨c3, c⟩ := He.ba c
  obtain ⟨c4, c⟩ := He.ba c
  obtain ⟨c5, c6⟩ := He.ba c
  have O := oexB_ok c2
  have no := He.eqO_ok c5
  exact ⟨PySem.W.mg_of X G (He.eqO_ok c1), O, He.eqO_ok c3, of_decide_eq_true c4, no, ok_initP F O no,
    fun s x u Y => bind_ini (binds := fun _ => [("self", x), ("place", u)]) F (fun _ _ _ _ _ _ _ => ⟨_, rfl, rfl⟩) s Y,
    fun s x Y => bind_ini (binds := fun _ => [("self", x), ("place", .none)]) F (fun _ _ _ _ _ _ _ => ⟨_, rfl, rfl⟩) s Y,
    fun s x u Y => bind_ini (binds := fun _ => [("self", x), ("place", u)]) F (fun _ _ _ _ _ _ _ => ⟨_, rfl, rfl⟩) s Y⟩
theorem xcls_E (c : xclsB K nm fld = true) : ExcC K (He.ga K nm) ∧ XF K (He.ga K nm) fld := by
  obtain ⟨c1, c⟩ := He.ba c
  obtain ⟨c2, c⟩ := He.ba c
  obtain ⟨c3, c⟩ := He.ba c
  obtain ⟨c4, c⟩ := He.ba c
  obtain ⟨c5, c6⟩ := He.ba c
  exact ⟨excB_ok c6, ⟨xfB_ok (He.ba c6).1, He.eqO_ok c5⟩⟩
end
/-! ### a Hook with one Bool more -/
def hookB (n : Nat) (fa : List He.Fa) (fn : List He.DefD) (bx : PySem.W.Frag → Bool) : PySem.W.Hook where
  α := He.AlD × Bool
  obs := fun s => (He.obsDG n fa fn s.heap.get?, bx (He.frG s.heap.get? (He.asD s.heap.get? n)))
  val := fun _ => (He.valD fn, true)
  says := fun _ h => ∃ K : PySem.W.Frag, K.In h ∧ He.SaysD fa fn K ∧ bx K = true
  of := fun _ _ e => ⟨_, He.frG_in, congrArg Prod.fst e, congrArg Prod.snd e⟩
  keeps := fun _ _ _ ⟨K, hK, c⟩ k => ⟨K, PySem.W.Frag.In.keeps hK k, c⟩
def obsB (n : Nat) (fa : List He.Fa) (fn : List He.DefD) (bx : PySem.W.Frag → Bool) (g : Addr → Option Obj) : He.AlD × Bool := (He.obsDG n fa fn g, bx (He.frG g (He.asD g n)))
theorem obsB_eq {n : Nat} {fa : List He.Fa} {fn : List He.DefD} {bx : PySem.W.Frag → Bool} {g : Addr → Option Obj} {s : Shared} (h : ∀ a, g a = s.heap.get? a) : obsB n fa fn bx g = (hookB n fa fn bx).obs s := by
  have e : g = s.heap.get? := funext h
  rw [e] <;> rfl
end XV
set_option Elab.async false
set_option linter.all false
set_option maxRecDepth 100000
set_option maxHeartbeats 4000000
/-! Words of our own for calls of the text's defs, and the drawing of numbers. -/
namespace XV
open PySem PySem.Spec PyProof.Rows L2

/-- the module's name x is a def that keeps sp -/
structure Ok (P : Program) (w : World) (K : PySem.W.Frag) (mg : Str → Option Value) (base : Heap) (x : Str) (k : Nat) (ps : List Str) (sp : Sp) : Prop where
  ex : ∃ f fd, FnOk P w K mg base CX0 k f fd ps sp ∧ mg x = some (.ref f) ∧ PySem.W.keepIn K (.ref f) = true ∧ Binds K fd ps []
section
variable {X : Cx} {k : Nat} {ps : List Str} {sp : Sp} {x : Str} {e : Expr} {es : List Expr} {t : TA} {p pos : Pos}
theorem pe_callO (o : Ok X.prog X.w X.K X.mg X.base x k ps sp) (hr : Room k X.A) (hg : Gl X x) (ha : PA X (e :: es) t) (hdb : (x == ("__debug__" : Str)) = false := by decide)
    (he : starEach (e :: es) X.env = (false, eval e X.env) :: starEach es X.env := by rfl) (hpl : (backTo pos (starEach es X.env)).any (·.1) = false := by rfl) :
    PE X (.Call (.Name x p) (e :: es) [] pos) (tCall sp [] E0 t) := by
  obtain ⟨f, fd, F, hm, hk, b⟩ := o.ex
  exact pe_call F hr hg hm hk b .nil pass0 ha hdb he hpl
theorem pe_callO0 (o : Ok X.prog X.w X.K X.mg X.base x k ps sp) (hr : Room k X.A) (hg : Gl X x) (hdb : (x == ("__debug__" : Str)) = false := by decide) :
    PE X (.Call (.Name x p) [] [] pos) (tCall sp [] E0 tNil) := by
  obtain ⟨f, fd, F, hm, hk, b⟩ := o.ex
  exact pe_call0 F hr hg hm hk b .nil pass0 hdb
end
theorem Ok.mk' {P : Program} {w : World} {K : PySem.W.Frag} {mg : Str → Option Value} {base : Heap} {x : Str} {k : Nat} {ps : List Str} {sp : Sp} {body : List Stmt} {params : Arguments} {scope : Scope} {f : Addr} {fd : FuncData}
    (F : FunD K x x params body scope [] [] f fd) (g : mg x = some (.ref f)) (b : ∀ (kV doc pm : Value) (an : Option Addr) (cdv ct : Value) (us : List Value), us.length = ps.length → bindArgs (PySem.W.fnOf x x params body scope .none kV doc pm an cdv ct) ⟨us, []⟩ = pure (ps.zip us))
    (ok : FnOk P w K mg base CX0 k f fd ps sp) : Ok P w K mg base x k ps sp := ⟨f, fd, ok, g, F.kp, F.bindsN b⟩

/-- i ** j, the answer of at most 2 ^ 27 bits -/
def CPowW (i j : Int) : Prop := 0 ≤ j ∧ (Builtin.Int.intBits i : Int) * j ≤ 2 ^ 27
theorem op_powW {X : Cx} : OpR X (binaryOp .Pow) (rI CPowW fun i j => .int (i ^ j.toNat)) := opI fun _ _ _ _ _ _ _ hc q => pow_int hc.1 hc.2 q

/-! ### the list of three numbers from which is drawn -/
/-- at g: a list [a, b, c], a below 10 ** 600, b below 2 ** 31, c at most n -/
def Dr (H : Hp) (g : Addr) (n : Nat) : Prop := ∃ a b c : Int, H g = some (.lst [.int a, .int b, .int c]) ∧ 0 ≤ a ∧ a < 10 ^ 600 ∧ 0 ≤ b ∧ b < 2147483647 ∧ 0 ≤ c ∧ c ≤ n
theorem Dr.mono {H : Hp} {g : Addr} {n m : Nat} (h : Dr H g n) (l : n ≤ m) : Dr H g m := by
  obtain ⟨a, b, c, e, h1, h2, h3, h4, h5, h6⟩ := h
  exact ⟨a, b, c, e, h1, h2, h3, h4, h5, by omega⟩
/-- all but g as it was -/
def But (H H' : Hp) (g : Addr) : Prop := ∀ b o, b ≠ g → H b = some o → H' b = some o
theorem But.refl (H : Hp) (g : Addr) : But H H g := fun _ _ _ e => e
theorem But.trans {H H1 H2 : Hp} {g : Addr} (a : But H H1 g) (b : But H1 H2 g) : But H H2 g := fun c o n e => b c o n (a c o n e)
theorem But.upd {H : Hp} {g : Addr} {o : HO} : But H (upd H g o) g := fun b u n e => by
  rw [upd_ne n]
  exact e
theorem Same.but {H H' : Hp} {g : Addr} (a : Same H H') : But H H' g := fun b o _ e => a b o e
theorem same_new {H : Hp} {p : Addr} {o : HO} (h : H p = none) : Same H (L2.upd H p o) := fun b x e => by
  rw [upd_ne (ne_of_none e h)]
  exact e
def spHash : Sp := fun vs H Q _ => ∃ s i : Int, vs = [.int s, .int i] ∧ 0 ≤ s ∧ s < 2147483647 ∧ 0 ≤ i ∧ i < 2 ^ 60 ∧ ∀ r : Int, 0 ≤ r → r < 2147483647 → Q (.int r) H
def spRand : Sp := fun vs H Q _ => ∃ (g : Addr) (n : Nat) (m : Int), vs = [.ref g, .int m] ∧ Dr H g n ∧ n ≤ 1000000 ∧ 0 < m ∧ m < 10 ^ 100 ∧
  ∀ (H' : Hp) (r : Int), 0 ≤ r → r < m → But H H' g → Dr H' g (n + 20) → Q (.int r) H'
end XV
set_option Elab.async false
set_option linter.all false
set_option maxRecDepth 100000
set_option maxHeartbeats 4000000
namespace KA
open PySem PySem.Spec PyProof.Rows L2 XV
def top (i : Nat) : Stmt := PySem.Challenge.pw_openloops_k10_grids_that_refine.main.body.getD i (.Pass ⟨0, 0, 0, 0⟩)
abbrev sHash : Stmt := top 28
abbrev sGen : Stmt := top 30
abbrev sRand : Stmt := top 29
abbrev FnP (K : PySem.W.Frag) (x : Str) (st : Stmt) (f : Addr) (fd : FuncData) : Prop := FunD K x x (defArgs st) (defBody st) (defScope st) [] [] f fd
theorem scHash : FnScope ["_law_seed", "_law_index", "_law_mixed"] ["_law_seed", "_law_index"] (defScope sHash) := ⟨rfl, rfl, rfl, by decide +kernel, rfl, by decide +kernel, by decide +kernel⟩
theorem scGen : FnScope ["_law_script", "_law_index", "_law_seed"] ["_law_script", "_law_index"] (defScope sGen) := ⟨rfl, rfl, rfl, by decide +kernel, rfl, by decide +kernel, by decide +kernel⟩
theorem scRand : FnScope ["_law_generator_here", "_law_bound", "_law_drawn", "_law_turn"] ["_law_generator_here", "_law_bound"] (defScope sRand) := ⟨rfl, rfl, rfl, by decide +kernel, rfl, by decide +kernel, by decide +kernel⟩
theorem mod_in (x : Int) {m : Int} (h : 0 < m) : 0 ≤ x % m ∧ x % m < m := ⟨Int.emod_nonneg x (by omega), Int.emod_lt_of_pos x h⟩
section
variable {P : Program} {w : World} {K : PySem.W.Frag} {mg : Str → Option Value} {base : Heap} {f : Addr} {fd : FuncData}
theorem ok_hash (F : FnP K "_law_hash" sHash f fd) (z_int : mg "int" = none) : FnOk P w K mg base CX0 1 f fd ["_law_seed", "_law_index"] spHash := by
  have nd := scHash.nd
  refine F.ok scHash (fun vs H Q E h => ?_) (fun cdv A outer s H vs Q E hr h => ?_)
  · obtain ⟨s, i, rfl, _⟩ := h
    rfl
  · obtain ⟨s, i, rfl, s0, s1, i0, i1, q⟩ := h
    refine ⟨_, PSs.nox (pss_cons (ps_set (i := 2) nd rfl (Or.inl rfl) (pe_op op_mod (pe_callTy call_int1 (by rfl) z_int (by decide +kernel) (pa_cons (pe_op op_add (pe_op op_add (pe_op op_add (pe_op op_mul (pv 0) pe_int) (pe_op op_mul (pe_op op_mul pe_int (pv 1)) (pv 1))) (pe_op op_mul pe_int (pv 1))) pe_int) pa_nil)) pe_int))
 (pss_cons (ps_set (i := 2) nd rfl (Or.inl rfl) (pe_op op_mod (pe_callTy call_int1 (by rfl) z_int (by decide +kernel) (pa_cons (pe_op op_add (pe_op op_add (pe_op op_mul (pv 2) (pv 2)) (pe_op op_mul pe_int (pv 1))) pe_int) pa_nil)) pe_int))
 (pss_one (ps_ret (pe_op op_mod (pe_callTy call_int1 (by rfl) z_int (by decide +kernel) (pa_cons (pe_op op_mul (pv 2) pe_int) pa_nil)) pe_int))))), ?_⟩
    have c1 : CMul s 1597334 := .inl ⟨by omega, by omega⟩
    have c2 : CMul 22695477 i := .inl ⟨by decide, by decide⟩
    have c3 : CMul (22695477 * i) i := .inr ⟨by omega, by omega⟩
    have c4 : CMul 977 i := .inl ⟨by decide, by decide⟩
    refine ⟨_, rfl, _, _, rfl, rfl, c1, _, rfl, _, _, rfl, rfl, c2, _, rfl, _, _, rfl, rfl, c3, _, _, rfl, rfl, _, rfl, _, _, rfl, rfl, c4, _, _, rfl, rfl, _, _, rfl, rfl, .inl ⟨_, rfl, _, _, rfl, rfl, (by show (0 : Int) < 2147483629; decide), ?_⟩⟩
    obtain ⟨m0, m1⟩ := mod_in (s * 1597334 + 22695477 * i * i + 977 * i + 41) (m := 2147483629) (by decide)
    have c5 : CMul ((s * 1597334 + 22695477 * i * i + 977 * i + 41) % 2147483629) ((s * 1597334 + 22695477 * i * i + 977 * i + 41) % 2147483629) := .inl ⟨by omega, by omega⟩
    refine ⟨_, rfl, _, rfl, _, _, rfl, rfl, c5, _, rfl, _, _, rfl, rfl, .inl ⟨by decide, by decide⟩, _, _, rfl, rfl, _, _, rfl, rfl, .inl ⟨_, rfl, _, _, rfl, rfl, (by show (0 : Int) < 2147483587; decide), ?_⟩⟩
    refine ⟨_, rfl, _, _, rfl, rfl, .inr ⟨by decide, by decide⟩, .inl ⟨_, rfl, _, _, rfl, rfl, (by show (0 : Int) < 2147483647; decide), ?_⟩⟩
    obtain ⟨n0, n1⟩ := mod_in ((((s * 1597334 + 22695477 * i * i + 977 * i + 41) % 2147483629 * ((s * 1597334 + 22695477 * i * i + 977 * i + 41) % 2147483629) + 40503 * i + 9973) % 2147483587) * 69621) (m := 2147483647) (by decide)
    exact q _ n0 n1

theorem bits_small {m : Int} (h0 : 0 < m) (h1 : m < 10 ^ 100) : Builtin.Int.intBits m ≤ 340 := by
  refine intBits_le (k := 340) ?_
  have e : (10 : Int) ^ 100 < 2 ^ 340 := by decide
  have e2 : m < 2 ^ 340 := Int.lt_trans h1 e
  have e3 : ((m.natAbs : Nat) : Int) = m := Int.natAbs_of_nonneg (by omega)
  have e4 : ((m.natAbs : Nat) : Int) < ((2 ^ 340 : Nat) : Int) := by
    rw [e3]
    exact e2
  exact Int.ofNat_lt.mp e4
theorem ok_rand (F : FnP K "_law_random" sRand f fd) (oHash : Ok P w K mg base "_law_hash" 1 ["_law_seed", "_law_index"] spHash) (z_int : mg "int" = none) (z_range : mg "range" = none) :
    FnOk P w K mg base CX0 2 f fd ["_law_generator_here", "_law_bound"] spRand := by
  have nd := scRand.nd
  refine F.ok scRand (fun vs H Q E h => ?_) (fun cdv A outer s H vs Q E hr h => ?_)
  · obtain ⟨g, n, m, rfl, _⟩ := h
    rfl
  · obtain ⟨g, n, m, rfl, ⟨a, b, c, hg, a0, a1, b0, b1, c0, c1⟩, hn, m0, m1, q⟩ := h
    refine ⟨_, PSs.nox (pss_cons (ps_if (pt_cmpR op_gt (pe_ix ix_list (pv 0) pe_int (fun _ _ => rfl)) pe_int (nomark _))
        (pss_cons (ps_set (i := 2) nd rfl (Or.inl rfl) (pe_op op_mod (pe_callTy call_int1 (by rfl) z_int (by decide +kernel) (pa_cons (pe_ix ix_list (pv 0) pe_int (fun _ _ => rfl)) pa_nil)) (pv 1)))
          (pss_cons (ps_asg (pe_op op_fdivW (pe_ix ix_list (pv 0) pe_int (fun _ _ => rfl)) (pv 1)) (pg_sub (pv 0) pe_int set_list))
            (pss_one (ps_ret (pv 2))))) pss_nil)
      (pss_cons (ps_set (i := 2) nd rfl (Or.inl rfl) pe_int)
      (pss_cons (ps_for PassesOwn.never rfl (pi_range1 (by rfl) z_range (pa_cons (pe_op op_add pe_int (pe_op op_fdiv (pe_bits (pv 1)) pe_int)) pa_nil)) (pg_name (i := 3) nd rfl (Or.inl rfl))
        (pss_cons (ps_asg (pe_op op_add (pe_ix ix_list (pv 0) pe_int (fun _ _ => rfl)) pe_int) (pg_sub (pv 0) pe_int set_list))
          (pss_one (ps_set (i := 2) nd rfl (Or.inl rfl) (pe_op op_add (pe_op op_mul (pv 2) pe_int)
            (pe_callO oHash (hr.mono (by decide)) (by rfl) (pa_cons (pe_ix ix_list (pv 0) pe_int (fun _ _ => rfl)) (pa_cons (pe_ix ix_list (pv 0) pe_int (fun _ _ => rfl)) pa_nil))))))))
      (pss_one (ps_ret (pe_op op_mod (pe_callTy call_int1 (by rfl) z_int (by decide +kernel) (pa_cons (pv 2) pa_nil)) (pv 1))))))), ?_⟩
    refine ⟨.ref g, rfl, g, _, 0, _, rfl, rfl, SqL.of hg, rfl, _, _, rfl, rfl, _, rfl, ite2 (fun e => ?_) (fun e => ?_)⟩
    · have ap : 0 < a := of_decide_eq_true e
      refine ⟨.ref g, rfl, g, _, 0, _, rfl, rfl, SqL.of hg, rfl, .inl ⟨_, rfl, _, rfl, _, _, rfl, rfl, m0, ?_⟩⟩
      have e1 : (10 : Int) ^ 100 < 2 ^ 340 := by decide
      have mb : m.natAbs < 2 ^ 340 := by
        have e3 : ((m.natAbs : Nat) : Int) = m := Int.natAbs_of_nonneg (by omega)
        have e4 : ((m.natAbs : Nat) : Int) < ((2 ^ 340 : Nat) : Int) := by
          rw [e3]
          exact Int.lt_trans m1 e1
        exact Int.ofNat_lt.mp e4
      refine ⟨.ref g, rfl, g, _, 0, _, rfl, rfl, SqL.of hg, rfl, _, rfl, _, _, rfl, rfl, wide_div m0 mb (by decide) (by decide), .ref g, rfl, g, _, 0, 0, rfl, rfl, hg, rfl, _, rfl, ?_⟩
      obtain ⟨r0, r1⟩ := mod_in a m0
      refine q _ _ r0 r1 But.upd ⟨a / m, b, c, upd_same, Int.ediv_nonneg a0 (by omega), ?_, b0, b1, c0, by omega⟩
      exact Int.lt_of_le_of_lt (Int.ediv_le_self m a0) a1
    · have hb := bits_small m0 m1
      refine ⟨_, rfl, m, rfl, _, _, rfl, rfl, ⟨by decide, by decide⟩, _, _, rfl, rfl, _, rfl, by omega, by omega, ?_⟩
      refine for_range (lo := 0) (n := (1 + ((Builtin.Int.intBits m : Nat) : Int) / 30).toNat)
        (fun i σ H' => ∃ (d : Int) (y : Option V), σ = [some (.ref g), some (.int m), some (.int d), y] ∧ But H H' g ∧ H' g = some (.lst [.int a, .int b, .int (c + i)]))
        ⟨0, none, rfl, But.refl H g, by rw [hg]; simp⟩ ?_ ?_
      · rintro i σ H' hi ⟨d, y, rfl, bt, eg⟩
        refine ⟨.ref g, rfl, g, _, 2, _, rfl, rfl, SqL.of eg, rfl, _, _, rfl, rfl, .ref g, rfl, g, _, 2, 2, rfl, rfl, eg, rfl, ?_⟩
        have e2 : (upd H' g (.lst ([V.int a, .int b, .int (c + i)].set 2 (.int (c + i + 1))))) g = some (.lst [.int a, .int b, .int (c + i + 1)]) := upd_same
        refine ⟨_, rfl, _, _, rfl, rfl, .inr ⟨by decide, by decide⟩, .ref g, rfl, g, _, 1, _, rfl, rfl, SqL.of e2, rfl, .ref g, rfl, g, _, 2, _, rfl, rfl, SqL.of e2, rfl, ?_⟩
        refine ⟨b, c + i + 1, rfl, b0, b1, by omega, ?_, fun r r0 r1 => ?_⟩
        · have : i < 13 := by omega
          omega
        · refine ⟨_, _, rfl, rfl, _, _, rfl, bt.trans But.upd, ?_⟩
          have ec : c + ((i : Nat) : Int) + 1 = c + ((i + 1 : Nat) : Int) := by omega
          rw [e2, ec]
      · rintro σ H' ⟨d, y, rfl, bt, eg⟩
        refine ⟨_, rfl, .inl ⟨_, rfl, _, rfl, _, _, rfl, rfl, m0, ?_⟩⟩
        obtain ⟨r0, r1⟩ := mod_in d m0
        refine q _ _ r0 r1 bt ⟨a, b, _, eg, a0, a1, b0, b1, by omega, ?_⟩
        have : (1 + ((Builtin.Int.intBits m : Nat) : Int) / 30).toNat ≤ 13 := by omega
        omega

theorem cut_first (ns : List Int) : cutV (ns.map V.int) none (some 1) = (ns.take 1).map V.int := by
  unfold cutV
  rw [HT.sIx_none, show HT.sIx (ns.map V.int).length (ns.map V.int).length (some 1) = min 1 (ns.map V.int).length from HT.sIx_nat _ _ 1]
  cases ns with
  | nil => rfl
  | cons x r =>
    rw [List.map_cons, List.length_cons, show min 1 ((r.map V.int).length + 1) = 1 by omega]
    rfl
def spGen (K : PySem.W.Frag) : Sp := fun vs H Q _ => ∃ (a : Addr) (ns : List Int) (k : Nat), vs = [.ref a, .int k] ∧ SqL K H a (ns.map V.int) ∧ k < 100 ∧
  ∀ (H' : Hp) (g : Addr), Same H H' → H g = none → Dr H' g (1000 * k) → Q (.ref g) H'
theorem ok_gen (F : FnP K "_law_generator" sGen f fd) (z_int : mg "int" = none) (z_len : mg "len" = none) (z_sum : mg "sum" = none) (z_max : mg "max" = none) :
    FnOk P w K mg base CX0 1 f fd ["_law_script", "_law_index"] (spGen K) := by
  have nd := scGen.nd
  refine F.ok scGen (fun vs H Q E h => ?_) (fun cdv A outer s H vs Q E hr h => ?_)
  · obtain ⟨a, ns, k, rfl, _⟩ := h
    rfl
  · obtain ⟨a, ns, k, rfl, hS, hk, q⟩ := h
    refine ⟨_, PSs.nox (pss_cons (ps_set (i := 2) nd rfl (Or.inl rfl) (pe_ifExp (pt_cmpR op_lt (pv 1) (pe_callB call_len (by rfl) z_len boot_len (pa_cons (pv 0) pa_nil)) (nomark _)) (pe_ix ix_list (pv 0) (pv 1) (fun _ _ => rfl)) (pe_op op_mod (pe_callB (cr_sum rfl) (by rfl) z_sum (by decide +kernel) (pa_cons (pe_slice sl_list (pv 0) po_none (po_some pe_int)) pa_nil)) pe_int)))
 (pss_one (ps_ret (pe_lst (pa_cons (pe_op op_mod (pe_callTy call_int1 (by rfl) z_int (by decide +kernel) (pa_cons (pe_callB (call_max2 rfl) (by rfl) z_max (by decide +kernel) (pa_cons (pe_op op_sub (pv 2) (pe_op op_pow pe_int pe_int)) (pa_cons pe_int pa_nil))) pa_nil)) (pe_op op_powW (pe_op op_pow pe_int pe_int) pe_int)) (pa_cons (pe_op op_mod (pe_callTy call_int1 (by rfl) z_int (by decide +kernel) (pa_cons (pv 2) pa_nil)) pe_int) (pa_cons (pe_op op_mul pe_int (pv 1)) pa_nil))))))), ?_⟩
    have last : ∀ (H' : Hp) (sd : Int), Same H H' → (∀ g, H' g = none → H g = none) → tRet (tLst (tCons (tOp (rI (fun _ j => 0 < j) fun i j => .int (i % j)) (tCB (fun xs H Q => (∃ i, xs = [.int i] ∧ Q (.int i) H) ∨ ∃ k, xs = [.bl k] ∧ Q (.int (if k then 1 else 0)) H) (tCons (tCB (fun xs H Q => ∃ i j, xs = [.int i, .int j] ∧ Q (.int (if j > i then j else i)) H) (tCons (tOp (rI0 fun i j => .int (i - j)) (tVar 2) (tOp (rI CPow fun i j => .int (i ^ j.toNat)) (tC (.int 10)) (tC (.int 18)))) (tCons (tC (.int 0)) tNil))) tNil)) (tOp (rI CPowW fun i j => .int (i ^ j.toNat)) (tOp (rI CPow fun i j => .int (i ^ j.toNat)) (tC (.int 10)) (tC (.int 60))) (tC (.int 10)))) (tCons (tOp (rI (fun _ j => 0 < j) fun i j => .int (i % j)) (tCB (fun xs H Q => (∃ i, xs = [.int i] ∧ Q (.int i) H) ∨ ∃ k, xs = [.bl k] ∧ Q (.int (if k then 1 else 0)) H) (tCons (tVar 2) tNil)) (tC (.int 2147483647))) (tCons (tOp (rI CMul fun i j => .int (i * j)) (tC (.int 1000)) (tVar 1)) tNil)))) { nx := fun _ H' => Q .non H', rt := Q } [some (.ref a), some (.int k), some (.int sd)] H' := by
      intro H' sd sm fr
      refine ⟨_, rfl, _, _, rfl, rfl, ⟨by decide, by decide, by decide⟩, _, _, rfl, rfl, _, _, rfl, .inl ⟨_, rfl, _, _, rfl, rfl, ⟨by decide, by decide, by decide⟩, _, _, rfl, rfl, ⟨by decide, by decide +kernel⟩, _, _, rfl, rfl, (by show (0 : Int) < ((10 : Int) ^ (60 : Int).toNat) ^ (10 : Int).toNat; decide +kernel), ?_⟩⟩
      refine ⟨_, rfl, .inl ⟨_, rfl, _, _, rfl, rfl, (by show (0 : Int) < 2147483647; decide), _, rfl, _, _, rfl, rfl, .inl ⟨by decide, by decide⟩, by show 3 ≤ sizeLine; decide, fun p np => ?_⟩⟩
      obtain ⟨m0, m1⟩ := mod_in sd (m := 2147483647) (by decide)
      have e600 : ((10 : Int) ^ (60 : Int).toNat) ^ (10 : Int).toNat = 10 ^ 600 := by decide +kernel
      have p600 : (0 : Int) < 10 ^ 600 := by decide +kernel
      refine q _ p (sm.trans (same_new np)) (fr p np) ⟨_, _, _, upd_same, ?_, ?_, m0, m1, by omega, by omega⟩
      · rw [e600]
        exact (mod_in _ p600).1
      · rw [e600]
        exact (mod_in _ p600).2
    refine ⟨_, rfl, .ref a, rfl, _, (ns.map V.int).length, rfl, Or.inl ⟨_, hS, rfl⟩, _, _, rfl, rfl, _, rfl, ite2 (fun e => ?_) (fun e => ?_)⟩
    · have lt : (k : Int) < ((ns.map V.int).length : Nat) := of_decide_eq_true e
      have lt2 : k < ns.length := by
        rw [List.length_map] at lt
        omega
      have g : (ns.map V.int)[k]? = some (.int ns[k]) := by
        rw [List.getElem?_map, List.getElem?_eq_getElem lt2]
        rfl
      exact ⟨.ref a, rfl, _, rfl, a, _, _, _, rfl, rfl, hS, atI_nat g, last H _ (Same.refl H) fun _ z => z⟩
    · refine ⟨.ref a, rfl, _, rfl, a, _, rfl, hS, fun p np => ?_⟩
      rw [cut_first]
      refine ⟨p, ns.take 1, rfl, SqL.of upd_same, _, _, rfl, rfl, (by show (0 : Int) < 1000003; decide), ?_⟩
      refine last _ _ (same_new np) fun g ng => ?_
      by_cases eg : g = p
      · rw [eg]
        exact np
      · rw [upd_ne eg] at ng
        exact ng
end
end KA
set_option Elab.async false
set_option linter.all false
set_option maxRecDepth 100000
set_option maxHeartbeats 4000000
namespace XV
open PySem PySem.Spec PyProof.Rows L2
/-- any(t), t a tuple of flat data -/
def rAnyT (K : PySem.W.Frag) : List V → Hp → VK → Prop := fun vs H Q => ∃ (a : Addr) (xs : List V) (ds : List PyData), vs = [V.ref a] ∧ SqT K H a xs ∧ DpAll K H xs ds ∧ PyData.plainAll ds = true ∧ (∀ d ∈ ds, d.fits63) ∧ Q (.bl (ds.any PyData.truthy)) H
theorem call_anyT {X : Cx} (hc : X.calm = true) : CallR X (.builtin "any") (rAnyT X.K) := by
  intro pins s σ H vs us Q I r h
  obtain ⟨a, xs, ds, rfl, hs, hd, hp, hf, q⟩ := h
  obtain ⟨its, rv, ht, _⟩ := I.tuple hs
  rw [Vals.ref1 r]
  obtain ⟨as, hr⟩ := Dp.readsAll I ds xs its hd rv
  refine PySem.W.any_tuple_data (as := as) (I.ok.hd hc) (vs := its.toArray) (l := a) ?_ (xs := ds) (by simpa using hr) hp hf fun h' tk k => ?_
  · exact ht
  · exact ⟨.bl _, H, I.kept (t' := tk) k, rfl, q⟩
/-- a text times a number -/
theorem op_mulS {X : Cx} : OpR X (binaryOp .Mult) (fun x y H Q => ∃ (z : Str) (i : Int), x = .str z ∧ y = .int i ∧ MulOk z i ∧ Q (.str (Txt.mul z i)) H) := by
  intro pins s σ H x y v u Q I rx ry h
  obtain ⟨z, i, rfl, rfl, hok, q⟩ := h
  obtain ⟨t, rfl⟩ := rx
  obtain ⟨t2, rfl⟩ := ry
  exact SB.mul hok fun t' k => ⟨.str _, H, I.tok k, ⟨t', rfl⟩, q⟩
theorem ip_addS {X : Cx} : PIp X .Add (fun x y H Q => ∃ i j : Str, x = .str i ∧ y = .str j ∧ i.length + j.length ≤ sizeLine ∧ Q (.str (i ++ j)) H) := by
  intro pins s σ H x y v u Q I rx ry h
  exact iop_add_str pins s σ H x y v u Q I rx ry h
end XV
set_option Elab.async false
set_option linter.all false
set_option maxRecDepth 100000
set_option maxHeartbeats 2000000
/-! zip of a tuple (first) and a list (second). -/
namespace XV
open PySem PySem.Spec PyProof.Rows L2
/-- the tuple at a and the list at b, as they are when a turn begins; each turn's two items come in a pair of their own -/
def ItzM (K : PySem.W.Frag) (a b : Addr) : It where
  go := fun i H => ∃ (xs ys : List V) (x y : V), SqT K H a xs ∧ SqL K H b ys ∧ xs[i]? = some x ∧ ys[i]? = some y
  yld := fun i H v H' => ∃ T x y, v = .ref T ∧ H T = none ∧ H' = upd H T (.tup [x, y]) ∧ (∀ xs, SqT K H a xs → xs[i]? = some x) ∧ ∀ ys, SqL K H b ys → ys[i]? = some y
  stop := fun i H => ∃ xs ys : List V, (SqT K H a xs ∧ SqL K H b ys) ∧ (xs.length = i ∨ ys.length = i) ∧ i ≤ xs.length ∧ i ≤ ys.length
/-- where such a zip's parts stand, ahead of turn i -/
def AtM (a b z tI tO j k : Addr) (i : Nat) (h : Heap) : Prop :=
  IsZip h z tI tO .none ∧ IsPair h tI (.ref j) (.ref k) ∧ (∃ p q, IsPair h tO p q) ∧ h.IsTupleIter j a i ∧ h.IsListIter k b i
theorem sep_of {z tI tO j k a b : Addr} (D : ZipApart z tI tO j k a b) : ZipSep2 z tI tO j k [j, a] [k, b] where
  TIz := D.TIz
  TOz := D.TOz
  TITO := D.TITO
  TIi1 := D.TIi1
  mem1 := List.mem_cons_self
  zf1 := by simp [D.i1z.symm, D.l1z.symm]
  Tf1 := by simp [D.TOi1, D.l1TO.symm]
  TIi2 := D.TIi2
  mem2 := List.mem_cons_self
  zf2 := by simp [D.i2z.symm, D.l2z.symm]
  Tf2 := by simp [D.TOi2, D.l2TO.symm]
  sep1_2 := by simp [D.i12, D.l2i1.symm]
  sep2_1 := by simp [D.i12.symm, D.l1i2.symm]
theorem turnM {P : Program} {w : World} {K : PySem.W.Frag} {es : List Expr} {kk : Nat} {tp : Pos} {a b z tI tO j k : Addr} (D : ZipApart z tI tO j k a b) :
    Turn P w K (.Tuple es kk tp) (ItzM K a b) [z, tI, tO, j, k] z (AtM a b z tI tO j k) where
  mem := List.mem_cons_self
  obj := fun i h ⟨s1, s2, ⟨p, q, s3⟩, ⟨o1, e1, _, d1⟩, ⟨o2, e2, _, d2⟩⟩ c hc => by
    simp only [List.mem_cons, List.not_mem_nil, or_false] at hc
    rcases hc with rfl | rfl | rfl | rfl | rfl
    · exact ⟨_, s1, fun _ x => nomatch x⟩
    · exact ⟨_, s2, fun _ x => nomatch x⟩
    · exact ⟨_, s3, fun _ x => nomatch x⟩
    · exact ⟨o1, e1, fun _ x => by rw [d1] at x; cases x⟩
    · exact ⟨o2, e2, fun _ x => by rw [d2] at x; cases x⟩
  keep := fun i h h' ⟨s1, s2, ⟨p, q, s3⟩, s4, s5⟩ kp =>
    ⟨kp z (by simp) _ s1, kp tI (by simp) _ s2, ⟨p, q, kp tO (by simp) _ s3⟩, s4.at (fun o e => kp j (by simp) o e), s5.at (fun o e => kp k (by simp) o e)⟩
  item := by
    intro X eP ew eK calm i pins s σ H E I fp st gg
    subst eP ew eK
    obtain ⟨s1, s2, ⟨p0, q0, s3⟩, s4, s5⟩ := st
    obtain ⟨xs, ys, x, y, tx, ly, ex, ey⟩ := gg
    obtain ⟨us, ru, pu, _⟩ := I.tuple tx
    obtain ⟨vs, rv, pw, _⟩ := I.list ly
    obtain ⟨u, eu, rux⟩ := ru.get ex
    obtain ⟨v, ev, rvy⟩ := rv.get ey
    have zlt : z < s.heap.objs.size := Heap.lt_size s1
    have hu : i < us.toArray.size := by
      have := (List.getElem?_eq_some_iff.mp eu).1
      simpa using this
    have hv : i < vs.toArray.size := by
      have := (List.getElem?_eq_some_iff.mp ev).1
      simpa using this
    have hh : X.A.in1.handled = none := I.ok.hd calm
    refine wpAny_pyNext_zipD2_item (sep_of D) (Draws.tuple hh j a D.l1i1 us.toArray) (Draws.list hh k b D.l2i2 vs.toArray) s1 s2 s3 ⟨s4, pu⟩ ⟨s5, pw.isList⟩ hu hv fun x1 x2 h' tk d1 d2 z1 t1 n1 n2 new sz kp => ?_
    have e1 : x1 = u := Option.some.inj (d1.symm.trans (by simpa using eu))
    have e2 : x2 = v := Option.some.inj (d2.symm.trans (by simpa using ev))
    subst e1 e2
    refine ⟨_, rfl, wpAny_letOwnedTupleGo_zip (s := { s with heap := h', toks := tk }) z1 fun g z2 sb => ?_⟩
    have far : ∀ c, c = z ∨ c = tI ∨ c = tO ∨ c = j ∨ c = k → c < s.heap.objs.size := fun c hc => by
      rcases hc with rfl | rfl | rfl | rfl | rfl
      · exact zlt
      · exact Heap.lt_size s2
      · exact Heap.lt_size s3
      · obtain ⟨_, q, _⟩ := s4
        exact Heap.lt_size q
      · obtain ⟨_, q, _⟩ := s5
        exact Heap.lt_size q
    have fresh : g.get? s.heap.objs.size = some { cls := .type "tuple", data := .seq #[x1, x2] } := (sb.2 _ (Nat.ne_of_gt zlt)).trans new
    have ok2 : ObjOk X.prog X.w (upd H s.heap.objs.size (.tup [x, y])) g s.heap.objs.size (.tup [x, y]) := ⟨(by show 2 ≤ sizeLine; decide), [x1, x2], .cons rux (.cons rvy .nil), ⟨_, fresh, rfl, _, rfl⟩⟩
    have J := I.turnedNew (t' := tk) (h' := g) (ch := [z, tI, tO, j, k]) (fun c o out q => (sb.2 c (fun e => out (by simp [e]))).trans (kp c o (fun e => out (by simp [e])) (fun e => out (by simp [e])) (fun e => out (by simp [e])) (fun e => out (by simp [e])) q)) fp (Nat.le_refl _) ok2
    refine ⟨.ref s.heap.objs.size, _, J, rfl, ⟨_, x, y, rfl, I.hok.fresh (Nat.le_refl _), rfl, fun l hl => (I.tuple_inj hl tx) ▸ ex, fun l hl => (I.list_inj hl ly) ▸ ey⟩, ⟨z2, (sb.2 _ D.TIz).trans (kp _ _ D.TIz D.TITO D.TIi1 D.TIi2 s2), ⟨x1, x2, (sb.2 _ D.TOz).trans t1⟩, n1.1.at (fun o q => (sb.2 _ D.i1z).trans q), n2.1.at (fun o q => (sb.2 _ D.i2z).trans q)⟩, fun c hc => ?_⟩
    simp only [List.mem_cons, List.not_mem_nil, or_false] at hc
    rw [upd_ne (Nat.ne_of_lt (far c hc))]
    exact (fp c (by simpa using hc)).1
  done := by
    intro X eP ew eK calm i pins s σ H E I fp st gg
    subst eP ew eK
    obtain ⟨s1, s2, ⟨p0, q0, s3⟩, s4, s5⟩ := st
    obtain ⟨xs, ys, ⟨tx, ly⟩, stop, l1, l2⟩ := gg
    obtain ⟨us, ru, pu, _⟩ := I.tuple tx
    obtain ⟨vs, rv, pw, _⟩ := I.list ly
    have n1 := ru.length
    have n2 := rv.length
    have hh : X.A.in1.handled = none := I.ok.hd calm
    refine wpAny_pyNext_zipD2_end (sep_of D) (Draws.tuple hh j a D.l1i1 us.toArray) (Draws.list hh k b D.l2i2 vs.toArray) s1 s2 s3 ⟨s4, pu⟩ ⟨s5, pw.isList⟩ (by simp; omega) (by simp; omega) (by simp; omega) fun h' tk kp => ⟨rfl, ?_⟩
    exact I.turnedL (t' := tk) (ch := [z, tI, tO, j, k]) (fun c o out q => kp c o (fun e => out (by simp [e])) (fun e => out (by simp [e])) (fun e => out (by simp [e])) (fun e => out (by simp [e])) q) fp
  self := fun A i s Q E st q => wpAny_pyIter_zip st.1 q
/-- .. in zip(e, e2) -/
def iZipM (K : PySem.W.Frag) (ta : TA) : TI := fun σ H R => ta σ H fun vs H1 => ∃ a b xs ys, vs = [.ref a, .ref b] ∧ (SqT K H1 a xs ∧ SqL K H1 b ys) ∧ R (ItzM K a b) H1
theorem pi_zipM {X : Cx} {e e2 : Expr} {ta : TA} {p pos tp : Pos} {es : List Expr} {kk : Nat} (gl : Gl X "zip") (z_zip : X.mg "zip" = none) (ha : PA X [e, e2] ta)
    (hs : starEach [e, e2] X.env = (false, eval e X.env) :: starEach [e2] X.env := by rfl) (np : (backTo pos (starEach [e2] X.env)).any (·.1) = false := by rfl) :
    PI X (.Tuple es kk tp) (.Call (.Name "zip" p) [e, e2] [] pos) (iZipM X.K ta) := by
  refine ⟨fun pins s σ H R I h => Call_ (ld_blt I gl z_zip PyProof.Rows.boot_zip (PyProof.Rows.callWith_type1 (thn (ha.run pos pins s σ H _ I h) fun us s1 ⟨vs, H1, J, rv, q⟩ => ?_) hs np))⟩
  obtain ⟨a, b, xs, ys, rfl, ⟨tx, ly⟩, q⟩ := q
  obtain ⟨u1, u2, rfl, r1, r2⟩ := vals2 rv
  cases r1
  cases r2
  obtain ⟨ps, _, pu, _⟩ := J.tuple tx
  obtain ⟨qs, _, pw, _⟩ := J.list ly
  have lt1 : a < s1.heap.objs.size := by
    obtain ⟨o, ho, _⟩ := id pu
    exact Heap.lt_size ho
  have lt2 : b < s1.heap.objs.size := pw.lt
  refine zip_begins2 (begins_tuple a ps.toArray) (begins_list b qs.toArray) pu pw.isList fun h' z1 t1 t2 g1 g2 sz kp => wpAny_pyIter_zip z1 ?_
  have J2 : Inv X pins σ H1 { s1 with heap := h' } := J.kept (t' := s1.toks) kp
  refine ⟨s1.heap.objs.size + 4, [s1.heap.objs.size + 4, s1.heap.objs.size + 2, s1.heap.objs.size + 3, s1.heap.objs.size, s1.heap.objs.size + 1], _, _, H1, rfl, J2, turnM (PySem.W.ktu_apart s1.heap.objs.size a b lt1 lt2), ⟨z1, t1, ⟨_, _, t2⟩, ⟨_, g1, rfl, rfl⟩, ⟨_, g2, rfl, rfl⟩⟩, fun c hc => ?_, q⟩
  have le : s1.heap.objs.size ≤ c := by
    simp only [List.mem_cons, List.not_mem_nil, or_false] at hc
    rcases hc with rfl | rfl | rfl | rfl | rfl
    · exact Nat.le_add_right _ 4
    · exact Nat.le_add_right _ 2
    · exact Nat.le_add_right _ 3
    · exact Nat.le_refl _
    · exact Nat.le_add_right _ 1
  exact J.fpOk le (J.hok.fresh le)
end XV
set_option Elab.async false
set_option linter.all false
set_option maxRecDepth 100000
set_option maxHeartbeats 2000000
namespace XV
open PySem PySem.Spec PyProof.Rows L2
/-- a comprehension over zip of a tuple and a list of one length -/
theorem lc_zipM {K : PySem.W.Frag} {a b : Addr} {xs ys : List V} {g : TG} {tt : TT} {te : TE} {vs : List Nat} {σ : L2.St} {H1 : Hp} {D : Addr} {Qd : Hp → Prop} (hl : xs.length = ys.length) (Pv : Nat → Hp → Prop) (h0 : Pv 0 (upd H1 D (.lst [])))
    (hq : ∀ i H, Pv i H → SqT K H a xs ∧ SqL K H b ys)
    (hs : ∀ (i : Nat) (x y : V) (T : Addr) (H : Hp), xs[i]? = some x → ys[i]? = some y → Pv i H → H T = none → g (.ref T) (wipe σ vs) (upd H T (.tup [x, y])) fun σ2 H2 => wipe σ2 vs = wipe σ vs ∧ tt σ2 H2 fun c H3 =>
      if c = true then te σ2 H3 fun r H4 => ∃ acc, H4 D = some (.lst acc) ∧ acc.length < sizeLine ∧ Pv (i + 1) (upd H4 D (.lst (acc ++ [r]))) else Pv (i + 1) H3)
    (hd : ∀ H, Pv xs.length H → Qd H) :
    ∃ W : Nat → Nat → Hp → Prop, (∃ m, W 0 m (upd H1 D (.lst []))) ∧ ∀ i m H, W i m H →
      ((ItzM K a b).stop i H ∧ Qd H) ∨ ((ItzM K a b).go i H ∧ ∃ Nx : Hp → Prop, (∀ H', Nx H' → ∃ m', m' < m ∧ W (i + 1) m' H') ∧ ∀ x H', (ItzM K a b).yld i H x H' → g x (wipe σ vs) H' fun σ2 H2 => wipe σ2 vs = wipe σ vs ∧ tt σ2 H2 fun c H3 =>
        if c = true then te σ2 H3 fun r H4 => ∃ acc, H4 D = some (.lst acc) ∧ acc.length < sizeLine ∧ Nx (upd H4 D (.lst (acc ++ [r]))) else Nx H3) := by
  refine ⟨fun i m H => m + i = xs.length ∧ Pv i H, ⟨xs.length, rfl, h0⟩, ?_⟩
  rintro i m H ⟨em, p⟩
  obtain ⟨q1, q2⟩ := hq i H p
  cases m with
  | zero =>
    have e : i = xs.length := by omega
    subst e
    exact .inl ⟨⟨xs, ys, ⟨q1, q2⟩, .inl rfl, Nat.le_refl _, by omega⟩, hd H p⟩
  | succ m =>
    have l1 : i < xs.length := by omega
    have l2 : i < ys.length := by omega
    have g1 := List.getElem?_eq_getElem l1
    have g2 := List.getElem?_eq_getElem l2
    refine .inr ⟨⟨xs, ys, _, _, q1, q2, g1, g2⟩, Pv (i + 1), fun H' p' => ⟨m, Nat.lt_succ_self m, by omega, p'⟩, ?_⟩
    rintro v H' ⟨T, x, y, rfl, nT, rfl, f1, f2⟩
    exact hs i x y T H (f1 xs q1) (f2 ys q2) p nT
/-- ix of a tuple, len of a text: where the part of the heap must be told -/
theorem ix_tupK {X : Cx} {K : PySem.W.Frag} (e : X.K = K) : IxR X (rIxT K) := by
  subst e
  exact ix_tup
theorem ix_listK {X : Cx} {K : PySem.W.Frag} (e : X.K = K) : IxR X (rIxL K) := by
  subst e
  exact ix_list
theorem cr_sumK {X : Cx} {K : PySem.W.Frag} (e : X.K = K) (hc : X.calm = true) : CallR X (.builtin "sum") (rSum K) := by
  subst e
  exact cr_sum hc
theorem pi_listK {X : Cx} {K : PySem.W.Frag} {tg l : Expr} {tl : TE} (e : X.K = K) (hl : PE X l tl) : PI X tg l (iList K tl) := by
  subst e
  exact pi_list hl
end XV
set_option Elab.async false
set_option linter.all false
set_option maxRecDepth 100000
set_option maxHeartbeats 4000000
/-! Defs that are called where no repr is under way: what is around them has no guards. -/
namespace XV
open PySem PySem.Spec PyProof.Rows L2
structure FnG (P : Program) (w : World) (K : PySem.W.Frag) (mg : Str → Option Value) (base : Heap) (Z : CXT) (k : Nat) (f : Addr) (fd : FuncData) (ps : List Str) (sp : Sp) : Prop where
  gl : ∀ l H Q E, sp l H Q E → l.length = ps.length
  go : ∀ (A : Around) (o : List Env) (s : Shared) (H : Hp) (ar : Args) (us : List Value) (l : List V) (Q : VK) (E : XK), A.guards = some [] → Room k A → Env0 P w K mg base A o s H → BindsTo s fd ar (ps.zip us) → Vals l us → sp l H Q E →
    codeAny (model P w) A (.call (.ref f) ar) (CR Z o P w H s Q E) s
theorem FnG.of {P : Program} {w : World} {K : PySem.W.Frag} {mg : Str → Option Value} {base : Heap} {Z : CXT} {k : Nat} {f : Addr} {fd : FuncData} {ps : List Str} {sp : Sp} (F : FnOk P w K mg base Z k f fd ps sp) : FnG P w K mg base Z k f fd ps sp :=
  ⟨F.len, fun A o s H ar us l Q E _ => F.run A o s H ar us l Q E⟩
section
variable {P : Program} {w : World} {K : PySem.W.Frag} {mg : Str → Option Value} {base : Heap} {x qual : Str} {params : Arguments} {body : List Stmt} {scope : Scope} {dvs : List V} {kws : List (Str × V)} {f : Addr} {fd : FuncData}
/-- a def by its body, where nothing guards -/
theorem okG {Z : CXT} {N ps : List Str} {k : Nat} {sp : Sp} (F : FunD K x qual params body scope dvs kws f fd) (S : FnScope N ps scope) (gl : ∀ l H Q E, sp l H Q E → l.length = ps.length)
    (bd : ∀ (cdv : Value) (A : Around) (o : List Env) (s : Shared) (H : Hp) (l : List V) (Q : VK) (E : XK), (A.deeper (envOfC qual scope s.heap.objs.size f cdv)).guards = some [] → Room k (A.deeper (envOfC qual scope s.heap.objs.size f cdv)) → sp l H Q E →
      ∃ t, PSs (cxOf Z P w K mg base N qual scope f cdv A o s H E) body t ∧ t { nx := fun _ H' => Q .non H', rt := Q } (start N l) H) : FnG P w K mg base Z (k + 1) f fd ps sp := by
  obtain ⟨oc, od, dV, kV, doc, pm, an, cdv, ct, osl, rfl, lk, hcd, _, _⟩ := F.ex
  refine ⟨gl, fun A o s H ar us l Q E ag hr e0 hb r hs => ?_⟩
  have hlen := gl _ _ _ _ hs
  have inK : K.In s.heap := e0.mod.kin.keeps fun b ob e => (e0.bs b ob e).1
  have nol : s.heap.NoLimit := e0.mod.nolimit.keeps fun b ob e => (e0.bs b ob e).1
  have kinds : ∀ y ∈ ps.zip us, scope.names.lookup y.1 = some .local ∨ (scope.names.lookup y.1 = some .cell ∧ ((cellsFrom (s.heap.objs.size + 1) scope.names []).lookup y.1).isSome = true) := by
    rintro ⟨n, v⟩ hy
    exact (S.par n (List.of_mem_zip hy).1).imp id fun q => ⟨q, PySem.W.cellsFrom_some _ _ _ (.inl q)⟩
  refine codeAny_call_function hr.depth (inK _ _ lk) rfl S.co S.gen rfl (PySem.W.codeRec_of inK hcd) (hb _ _ _ _ ?_)
  refine wpAny_newFunctionEnv_cells S.kind kinds fun env he s1 xx => ?_
  subst he
  refine ⟨nol.keeps xx.toInCall.keep, codeAny_func ?_⟩
  obtain ⟨t, ht, hq⟩ := bd cdv A o s H l Q E (show A.guards = some [] from ag) (hr.deeper _) hs
  have J0 := inv_start (CX := Z) (E := E) S hr.hd e0 hlen r xx
  refine wpAny_mono (ht.run [] s1 (start N l) H _ J0 hq) (fun fl s' z => ?_) fun e s' z => z
  have done : ∀ {τ : L2.St} {H' : Hp} {v : V} {u : Value}, Inv (cxOf Z P w K mg base N qual scope f cdv A o s H E) [] τ H' s' → RelV v u → Q v H' → CE o P w H s Q u s' := fun J rv q => ⟨_, _, J.os, J.bare, J.base, J.hok, rv, q⟩
  cases fl with
  | next =>
    obtain ⟨τ, H', J, q⟩ := z
    exact done (v := V.non) (u := Value.none) J rfl q
  | ret u =>
    obtain ⟨v, τ, H', J, rv, q⟩ := z
    exact done J rv q
  | brk =>
    obtain ⟨_, _, _, q⟩ := z
    exact q.elim
  | cont =>
    obtain ⟨_, _, _, q⟩ := z
    exact q.elim
end
/-- the module's name x is a def that keeps sp where nothing guards -/
structure OkG (P : Program) (w : World) (K : PySem.W.Frag) (mg : Str → Option Value) (base : Heap) (x : Str) (k : Nat) (ps : List Str) (sp : Sp) : Prop where
  ex : ∃ f fd, FnG P w K mg base CX0 k f fd ps sp ∧ mg x = some (.ref f) ∧ PySem.W.keepIn K (.ref f) = true ∧ Binds K fd ps []
section
variable {X : Cx} {k : Nat} {f : Addr} {fd : FuncData} {ps : List Str} {sp : Sp} {x : Str} {e : Expr} {es : List Expr} {t : TA} {p pos : Pos}
theorem run_g {pins : List (Addr × Obj)} {σ : L2.St} {H : Hp} {s : Shared} {Q : VK} {us : List Value} {l : List V} (F : FnG X.prog X.w X.K X.mg X.base CX0 k f fd ps sp) (ag : X.A.guards = some []) (hr : Room k X.A) (hb : Binds X.K fd ps [])
    (I : Inv X pins σ H s) (r : Vals l us) (h : sp l H Q E0) : wpAny (model X.prog X.w) X.A (call (.ref f) us) (EP X pins σ Q) X.xe s := by
  have hl : us.length = ps.length := r.length ▸ F.gl _ _ _ _ h
  have b := hb s us I.kIn (by rw [List.append_nil]; exact hl)
  rw [List.append_nil] at b
  refine wpAny_call (codeAny_mono (F.go X.A X.stack s H ⟨us, []⟩ us l Q E0 ag hr I.env0 b r h) fun r' s' hq => ?_)
  cases r' with
  | error er => exact hq.elim
  | ok fl => cases fl with
    | ret u => exact I.after hq
    | next => exact hq.elim
    | brk => exact hq.elim
    | cont => exact hq.elim
theorem pe_callG (o : OkG X.prog X.w X.K X.mg X.base x k ps sp) (ag : X.A.guards = some []) (hr : Room k X.A) (hg : Gl X x) (ha : PA X (e :: es) t) (hdb : (x == ("__debug__" : Str)) = false := by decide)
    (he : starEach (e :: es) X.env = (false, eval e X.env) :: starEach es X.env := by rfl) (hpl : (backTo pos (starEach es X.env)).any (·.1) = false := by rfl) :
    PE X (.Call (.Name x p) (e :: es) [] pos) (fun σ H Q => t σ H fun l H1 => sp l H1 Q E0) := by
  obtain ⟨f, fd, F, hm, hk, b⟩ := o.ex
  refine ⟨fun pins s σ H Q I h => ?_⟩
  refine wpAny_Call_Name_kw (ld_glob I hg hm ?_ hdb)
  refine PySem.W.callWith_K (h₀ := X.base) I.ok.mod.kin hk (thn (ha.run pos pins s σ H _ I h) fun us s1 z => ?_) he hpl
  obtain ⟨l, H1, I1, r, q⟩ := z
  exact ⟨I1.kIn, run_g F ag hr b I1 r q⟩
theorem pe_callG0 (o : OkG X.prog X.w X.K X.mg X.base x k ps sp) (ag : X.A.guards = some []) (hr : Room k X.A) (hg : Gl X x) (hdb : (x == ("__debug__" : Str)) = false := by decide) :
    PE X (.Call (.Name x p) [] [] pos) (fun σ H Q => sp [] H Q E0) := by
  obtain ⟨f, fd, F, hm, hk, b⟩ := o.ex
  refine ⟨fun pins s σ H Q I h => ?_⟩
  refine wpAny_Call_Name_kw (ld_glob I hg hm ?_ hdb)
  exact PySem.W.callWith_K0 I.kIn hk (run_g (us := []) F ag hr b I .nil h)
end
theorem OkG.mk' {P : Program} {w : World} {K : PySem.W.Frag} {mg : Str → Option Value} {base : Heap} {x : Str} {k : Nat} {ps : List Str} {sp : Sp} {body : List Stmt} {params : Arguments} {scope : Scope} {f : Addr} {fd : FuncData}
    (F : FunD K x x params body scope [] [] f fd) (g : mg x = some (.ref f)) (b : ∀ (kV doc pm : Value) (an : Option Addr) (cdv ct : Value) (us : List Value), us.length = ps.length → bindArgs (PySem.W.fnOf x x params body scope .none kV doc pm an cdv ct) ⟨us, []⟩ = pure (ps.zip us))
    (ok : FnG P w K mg base CX0 k f fd ps sp) : OkG P w K mg base x k ps sp := ⟨f, fd, ok, g, F.kp, F.bindsN b⟩
end XV
set_option Elab.async false
set_option linter.all false
set_option maxRecDepth 100000
set_option maxHeartbeats 4000000
/-! The end of a law whose def is told of where nothing guards. -/
namespace XV
open PySem PySem.Spec PyProof.Rows L2
theorem law_g {P : Program} {w : World} {K : PySem.W.Frag} {mg mb : Str → Option Value} {k : Nat} {fa a : Addr} {fd : FuncData} {x : Str} {sp : Sp} {s : Shared} {us : List Value} {ns : List Int}
    (KX : K.In s.heap) (gn : s.heap.Ns mainGlobals mg) (bn : s.heap.Ns builtinsNs mb) (bb : ∀ y : Str, y ≠ "__name__" → mb y = bootBuiltins y) (nl : s.heap.NoLimit) (g0 : s.gens = #[])
    (ha : s.heap.get? a = some { cls := .type "list", data := .seq us.toArray }) (hi : IntsAre us ns) (hl : ns.length ≤ sizeLine) (hr : Room k callerA)
    (F : ∀ base : Heap, K.In base → base.Ns mainGlobals mg → FnG P w K mg base CX0 k fa fd [x] sp) (hb : ∀ (s' : Shared) (u : Value), BindsTo s' fd ⟨[u], []⟩ [(x, u)])
    (hsp : ∀ H : Hp, Only H → SqL K H a (ns.map V.int) → sp [.ref a] H (fun v _ => v = .bl true) fun _ _ _ => False) :
    codeAny (model P w) callerA (.call (.ref fa) ⟨[.ref a], []⟩) (fun r s' => r = .ok (.ret (.bool true)) ∧ OldK s.heap s'.heap ∧ s'.os = s.os ∧ AllBare s'.gens) s := by
  have rv := vals_ints hi
  have len := hi.length
  -- H tells of the script alone, or of nothing
  have main : ∀ H : Hp, Only H → SqL K H a (ns.map V.int) → HOk P w H s.heap → (∀ b, H b ≠ none → b = a) → (H a ≠ none → K.lookup a = none) →
      codeAny (model P w) callerA (.call (.ref fa) ⟨[.ref a], []⟩) (fun r s' => r = .ok (.ret (.bool true)) ∧ OldK s.heap s'.heap ∧ s'.os = s.os ∧ AllBare s'.gens) s := by
    intro H only told ok alone notK
    have part : ∀ {b : Addr} {o : Obj}, s.heap.get? b = some o → H b = none → (hidT s.heap H).get? b = some o := fun e n => hidT_get e n
    have dictN : ∀ {b : Addr} {o : Obj} {es : Array DictEntry} {ep : Nat}, s.heap.get? b = some o → o.data = .dict es ep → H b = none := by
      intro b o es ep e d
      by_cases q : H b = none
      · exact q
      · obtain rfl := alone b q
        rw [ha] at e
        cases e
        exact nomatch (show Data.seq us.toArray _ = Data.dict es ep from d)
    have nsP : ∀ {b : Addr} {m : Str → Option Value}, s.heap.Ns b m → (hidT s.heap H).Ns b m := by
      rintro b m ⟨o, es, ep, e, d, r⟩
      exact ⟨o, es, ep, part e (dictN e d), d, r⟩
    have KP : K.In (hidT s.heap H) := fun b o e => part (KX b o e) (by
      by_cases q : H b = none
      · exact q
      · obtain rfl := alone b q
        rw [notK q] at e
        cases e)
    have md : Mod K mg (hidT s.heap H) := ⟨KP, nsP gn, ⟨mb, nsP bn, bb⟩, nl.imp fun _ z => ⟨nsP z.1, z.2⟩⟩
    have st : Env0 P w K mg (hidT s.heap H) callerA [] s H := { frames := rfl, mod := md, bs := fun b o e => of_hidT e, bsz := Nat.le_of_eq (hidT_size _ _), funs := trivial, frf := fun b z => absurd (show b ∈ ([] : List Addr) from z) (by simp), hok := ok, bare := .of_eq g0 }
    refine codeAny_mono ((F _ KP (nsP gn)).go callerA [] s H ⟨[.ref a], []⟩ [.ref a] [.ref a] _ _ rfl hr st (hb s (.ref a)) (.cons rfl .nil) (hsp H only told)) fun r s' h => ?_
    cases r with
    | error er => exact h.elim
    | ok fl => cases fl with
      | next => exact h.elim
      | brk => exact h.elim
      | cont => exact h.elim
      | ret u =>
        obtain ⟨v, H', os, bare, un, ok', r', q⟩ := h
        obtain rfl : v = .bl true := q
        obtain rfl : u = Value.bool true := r'
        refine ⟨rfl, OldK.of_keep fun b o e => ?_, os, bare⟩
        by_cases q : H b = none
        · exact un.keep b o e q (fun z => nomatch (show b ∈ ([] : List Addr) from z)) (by simp)
        · rcases only b with z | ⟨ob, xs, z⟩
          · exact absurd z q
          · obtain ⟨e1, _⟩ := ok b _ z
            obtain ⟨e2, _⟩ := ok' b _ (un.frzs b ob _ z)
            rw [e] at e1
            cases e1
            exact e2
  cases hk : K.lookup a with
  | some o =>
    obtain rfl := Option.some.inj (ha.symm.trans (KX a o hk))
    exact main (fun _ => none) (fun _ => .inl rfl) (.inr ⟨_, us.toArray, _, hk, rfl, rfl, rfl, by rw [List.size_toArray, len]; exact hl, by simpa using rv⟩) (fun b u z => nomatch (show (none : Option HO) = some u from z)) (fun b z => absurd rfl z) fun z => absurd rfl z
  | none =>
    let o1 : Obj := { cls := .type "list", data := .seq us.toArray }
    have at_ : ∀ b : Addr, b = a → (fun b : Addr => if b = a then some (HO.frz o1 (.lst (ns.map V.int))) else none) b = some (.frz o1 (.lst (ns.map V.int))) := fun b e => if_pos e
    have off : ∀ b : Addr, b ≠ a → (fun b : Addr => if b = a then some (HO.frz o1 (.lst (ns.map V.int))) else none) b = none := fun b e => if_neg e
    refine main (fun b => if b = a then some (.frz o1 (.lst (ns.map V.int))) else none) (fun b => ?_) (.inl (.inr ⟨o1, if_pos rfl⟩)) (fun b u z => ?_) (fun b z => ?_) fun _ => hk
    · by_cases e : b = a
      · exact .inr ⟨_, _, at_ b e⟩
      · exact .inl (off b e)
    · by_cases e : b = a
      · cases (at_ b e).symm.trans z
        subst e
        exact ⟨ha, by rw [List.length_map]; exact hl, us, _, rv, ha⟩
      · cases (off b e).symm.trans z
    · by_cases e : b = a
      · exact e
      · exact absurd (off b e) z
theorem walk_ofG {l : PySem.W.OpenLaw} {n k : Nat} {q : Program} {loose : List Str} {XP : (Str → Option Value) → Heap → Prop} {YP : World → Heap → Prop} {d : DefRec} {x : Str}
    (hn : l.most = some n) (hz : n ≤ sizeLine) (hd : d.params.defaults = []) (hr : Room k callerA)
    (F : ∀ (w : World) (mg : Str → Option Value) (fa : Addr) (h : Heap), YP w h → h.Ns mainGlobals mg → mg d.name = some (.ref fa) →
      ∃ (K : PySem.W.Frag) (fd : FuncData) (sp : Sp), K.In h ∧ (∀ (s : Shared) (u : Value), BindsTo s fd ⟨[u], []⟩ [(x, u)]) ∧
        (∀ (H : Hp) (a : Addr) (ns : List Int), ns.length ≤ n → Only H → SqL K H a (ns.map V.int) → sp [.ref a] H (fun v _ => v = .bl true) fun _ _ _ => False) ∧
        ∀ base : Heap, K.In base → base.Ns mainGlobals mg → FnG l.prog w K mg base CX0 k fa fd [x] sp) :
    PySem.W.WalkO q loose XP YP l.row.toRowW d [] (fun f vs => PySem.call f vs) := by
  refine Att.attach_call hn hd fun w s₀ s₁ mg mb fa o pm cd doc a us ns G Y ho hd' hcd hmg hobj hints hlen hg => ?_
  obtain ⟨K, fd, sp, KX, hb, hsp, hF⟩ := F w mg fa _ Y G.T.g hmg
  exact law_g KX G.T.g G.T.b G.T.builtins G.T.nolimit hg hobj hints (Nat.le_trans hlen hz) hr hF hb fun H hO hS => hsp H a ns hlen hO hS
end XV
set_option Elab.async false
set_option linter.all false
set_option maxRecDepth 100000
set_option maxHeartbeats 4000000
/-! An error that an except suite has caught, held in a name behind the suite. -/
namespace XV
open PySem PySem.Spec PyProof.Rows L2
/-- at a: an error of the class cls that was raised and caught, its dict at d -/
def exz (a : Addr) (cls : Value) (d : Option Addr) : HO := .ext fun h => ∃ (oe : Obj) (vs : Array Value), h.get? a = some oe ∧ Zc cls d oe ∧ oe.data = .fields vs
theorem exz_ok {P : Program} {w : World} {H : Hp} {h : Heap} {a : Addr} {cls : Value} {d : Option Addr} {oe : Obj} {vs : Array Value} (e : h.get? a = some oe) (z : Zc cls d oe) (f : oe.data = .fields vs) : ObjOk P w H h a (exz a cls d) :=
  ⟨⟨oe, vs, e, z, f⟩, ⟨oe, e⟩, fun _ _ y k => y.elim fun o y => y.elim fun v y => ⟨o, v, k o y.1, y.2⟩⟩
theorem exz_at {P : Program} {w : World} {H : Hp} {h : Heap} {a : Addr} {cls : Value} {d : Option Addr} (hok : HOk P w H h) (e : H a = some (exz a cls d)) : ∃ (oe : Obj) (vs : Array Value), h.get? a = some oe ∧ Zc cls d oe ∧ oe.data = .fields vs := by
  have x : ObjOk P w H h a (.ext fun h => ∃ (oe : Obj) (vs : Array Value), h.get? a = some oe ∧ Zc cls d oe ∧ oe.data = .fields vs) := hok a _ e
  exact x.1
/-- what is there, new since the entry and not told of, is told of -/
theorem tell {X : Cx} {pins : List (Addr × Obj)} {σ : L2.St} {H : Hp} {s : Shared} {a : Addr} {cls : Value} {d : Option Addr} {oe : Obj} {vs : Array Value} (I : Inv X pins σ H s) (e : s.heap.get? a = some oe) (z : Zc cls d oe) (f : oe.data = .fields vs)
    (na : H a = none) (n0 : X.s_0.heap.get? a = none) (nL : a ≠ X.env.locals) (np : ∀ p ∈ X.pn ++ pins, p.1 ≠ a) : Inv X pins σ (upd H a (exz a cls d)) s := by
  have nc : ∀ x c, X.env.cells.lookup x = some c → c ≠ a := fun x c l q => by
    obtain ⟨v, o, ho, hd⟩ := I.cell x c l
    rw [q, e] at ho
    cases ho
    rw [f] at hd
    cases hd
  refine { ok := I.ok, os := I.os, bare := I.bare, base := ?_, loc := I.loc, cell := I.cell, free := ?_, freeC := fun x c l => ?_, pin := fun p hp => ?_, hok := fun b o q => ?_, len := I.len }
  · refine { keep := I.base.keep, slot := I.base.slot, free := fun b o q n hx => ?_, there := I.base.there, tups := fun b xs q => ?_, frzs := fun b o u q => ?_, tbls := fun b ps q => ?_ }
    · rw [upd_ne (fun y => by rw [y, n0] at q; cases q)]
      exact I.base.free b o q n hx
    · have y := I.base.tups b xs q
      rw [upd_ne (ne_of_none y na)]
      exact y
    · have y := I.base.frzs b o u q
      rw [upd_ne (ne_of_none y na)]
      exact y
    · obtain ⟨m, y⟩ := I.base.tbls b ps q
      exact ⟨m, by rw [upd_ne (ne_of_none y na)]; exact y⟩
  · rw [upd_ne (Ne.symm nL)]
    exact I.free
  · rw [upd_ne (nc x c l)]
    exact I.freeC x c l
  · obtain ⟨p1, p2, p3⟩ := I.pin p hp
    exact ⟨p1, by rw [upd_ne (np p hp)]; exact p2, p3⟩
  · by_cases hb : b = a
    · subst hb
      rw [upd_same] at q
      cases q
      exact exz_ok e z f
    · rw [upd_ne hb] at q
      exact (I.hok b o q).stay (fun c w' _ y => y) (fun c y => by rw [upd_ne (ne_of_none y na)]; exact y) fun c xs y => by
        rw [upd_ne (ne_of_none y na)]
        exact y
/-- the clause's wish: behind its suite the error is told of -/
def wKeep (K : PySem.W.Frag) (c : Value) (i : Nat) (ts : Addr → Value → Option Addr → TS) (Wout : WX) (D : Ends) : WX := fun cls d σ H => ∃ b, PySem.W.exmOne K cls c = some b ∧
  (b = true → ∀ a, H a = none → ts a cls d { nx := fun σ' H' => H' a = none → D.nx (σ'.set i none) (upd H' a (exz a cls d)), rt := fun _ _ => False, bk := fun _ _ => False, ct := fun _ _ => False } (σ.set i (some (.ref a))) H) ∧ (b = false → Wout cls d σ H)
section
variable {X : Cx} {x n : Str} {c : Value} {i : Nat} {body suite : List Stmt} {b₀ : Stmt} {np pos pos' : Pos} {tb : WX → TS} {ts : Addr → Value → Option Addr → TS} {Wout : WX}
theorem ps_try_keep (hs : X.stack = X.env :: X.outer) (hf : X.env.frame = some X.env.locals) (hex : X.ex = []) (nd : X.N.Nodup) (hi : X.N[i]? = some n) (hln : X.env.kindOf n = some .local) (hc : Names X x c) (tk : Takes X Wout)
    (hb : ∀ (W : WX) (pn : List (Addr × Obj)) (xe : Value → Shared → Prop), Takes (X.tr pn xe) W → PassesOwn (model X.prog X.w) X.A X.env xe → PSs (X.tr pn xe) body (tb W))
    (hsu : ∀ (a : Addr) (oe : Obj) (cls : Value) (d : Option Addr) (pn : List (Addr × Obj)), Zc cls d oe → (∃ vs, oe.data = .fields vs) → PSs (X.suite a ((a, oe) :: pn)) (b₀ :: suite) (ts a cls d)) :
    PS X (.Try body [.ExceptHandler (some (.Name x np)) (some n) (b₀ :: suite) pos'] [] [] pos) (fun D σ H => tb (wKeep X.K c i ts Wout D) D σ H) := by
  refine ⟨fun pins s σ H D I h => ?_⟩
  have ok := I.ok
  have fr : X.A.frames = some (X.env :: X.outer) := ok.frames.trans (congrArg some hs)
  have lc : Loc X.env.scope n := .inl hln
  let catch_ : Value → Shared → Prop := fun e s₁ => wpAny (model X.prog X.w) X.A (noteFrame e X.env) (fun _ s₂ => wpAny (model X.prog X.w) X.A (setFlight e none) (fun _ s₃ =>
    wpAny (model X.prog X.w) X.A (handleBy e X.env [.ExceptHandler (some (.Name x np)) (some n) (b₀ :: suite) pos']) (SP X pins D) X.xe s₃) X.xe s₂) X.xe s₁
  refine wpAny_Try_except ?_
  refine wpAny_mono ((hb (wKeep X.K c i ts Wout D) (X.pn ++ pins) catch_ (fun u s' air => ?_) PassesOwn.looking).run [] s σ H D (I.toTry _) h) (fun fl s1 out => ?_) (fun e s1 z => z)
  · obtain ⟨a, B, sI, pins1, σ1, H1, cls, d, rfl, J1, nb, up, sky, na, os, ag, b, known, yes, no⟩ := air
    have J : Inv X pins σ1 H1 sI := J1.ofTry ok
    have skyE : Sky B (X.env :: X.outer) a (Zc cls d) X.env.locals s'.heap := hs ▸ sky
    -- the error is new since the entry
    have nB : B.get? a = none := by
      rcases skyE with q | q | q
      · exact q.2.1
      · exact q.2.1
      · exact q.2.1
    show wpAny (model X.prog X.w) X.A (noteFrame (.ref a) X.env) _ _ _
    refine Sky.land Zc.steady fr hf skyE fun h3 fly3 up3 => ?_
    have J3 : Inv X pins σ1 H1 { s' with heap := h3 } := J.landed nb fly3.1 (up.trans up3) os ag
    obtain ⟨oe3, vs3, e3, z3, f3⟩ := fly3.there
    have nfr : a ∉ frs (X.env :: X.outer) := fun m => by
      obtain ⟨_, o, e, nf⟩ := fly3.2.2.1.mem m
      rw [e3] at e
      cases e
      exact nf _ f3
    have nL : a ≠ X.env.locals := fun q => nfr (List.mem_filterMap.mpr ⟨X.env, List.mem_cons_self, q ▸ hf⟩)
    have nF : a ∉ X.fs := fun m => (List.mem_filterMap.mp m).elim fun y q => nfr (List.mem_filterMap.mpr ⟨y, List.mem_cons_of_mem _ q.1, q.2⟩)
    have nI : sI.heap.get? a = none := by
      cases q : sI.heap.get? a with
      | none => rfl
      | some o =>
        have y := nb a o q (by rw [hs]; exact nfr)
        rw [nB] at y
        cases y
    have n0 : X.s_0.heap.get? a = none := by
      cases q : X.s_0.heap.get? a with
      | none => rfl
      | some o =>
        obtain ⟨o', y⟩ := J.base.there a o q (by rw [hex]; exact fun z => nomatch z)
        rw [nI] at y
        cases y
    have npin : ∀ p ∈ X.pn ++ pins, p.1 ≠ a := fun p hp q => by
      have y := (J.pin p hp).1
      rw [q, nI] at y
      cases y
    have S3 := J3.suite e3 f3 na nL nF
    refine wpAny_handleBy_cons (codeAny_handlers_test ?_) (by intro q; cases q)
    have tyLook : PySem.W.Looks (model X.prog X.w) h3 (typeOf (.ref a)) cls := fun A Q E s k q => wpAny_typeOf_ref (k _ _ e3) (by rw [z3.1]; exact q)
    have match_ := PySem.W.exm_one (M := model X.prog X.w) J3.kIn tyLook known
    have clause : ∀ {Q : Value → Shared → Prop} {E : Value → Shared → Prop}, Q c { s' with heap := h3 } → wpAny (model X.prog X.w) (X.A.mark (some (.ref a))) (eval (.Name x np) X.env) Q E { s' with heap := h3 } := by
      intro Q E q
      obtain ⟨hg, hdb, hm | ⟨hm, hv, hnn⟩⟩ := hc
      · exact ld_glob (X := X.suite a ((a, oe3) :: (X.pn ++ pins))) S3 hg hm q hdb
      · exact ld_blt (X := X.suite a ((a, oe3) :: (X.pn ++ pins))) S3 hg hm hv q hnn hdb
    refine clause (match_.here ?_)
    cases b with
    | false =>
      show wpAny _ X.A (handleBy (.ref a) X.env []) _ _ _
      refine wpAny_handleBy_nil ?_
      obtain ⟨k1, k2, k3, oe, vs, T, oT, ts', he, hz, hd, h1, hr⟩ := id fly3
      unfold PySem.passOn
      refine wpAny_bind (wpAny_field he hd h1 ?_)
      rw [if_neg (show ¬ ((Value.ref T == Value.none) = true) from by simp)]
      have fin : wpAny (model X.prog X.w) X.A (setFlight (.ref a) X.env.frame) (fun _ s4 => wpAny (model X.prog X.w) X.A (throw (.ref a) : Sem Flow) (SP X pins D) X.xe s4) X.xe { s' with heap := h3 } := by
        rw [hf]
        exact HandSPX.setFlight_upZ fly3 fun h4 held4 up4 => wpAny_throw (tk _ _ ⟨a, B, sI, pins, σ1, H1, cls, d, rfl, J, nb, (up.trans up3).trans up4, .inr (.inr (by rw [hs]; exact held4)), na, os, ag, no rfl⟩)
      first
        | exact wpAny_bind (wpAny_pure (wpAny_bind fin))
        | exact wpAny_bind fin
    | true =>
      refine codeAny_handlers_suite_as ?_
      refine HandSPX.lands_againZ fly3 fun h4 fly4 up4 => ?_
      have J4 : Inv X pins σ1 H1 { s' with heap := h4 } := J.landed nb fly4.1 ((up.trans up3).trans up4) os ag
      obtain ⟨oe4, vs4, e4, z4, f4⟩ := fly4.there
      refine store_ok (X := X.suite a ((a, oe4) :: (X.pn ++ pins))) (v := .ref a) (J4.suite e4 f4 na nL nF) nd hi lc rfl (fun s5 S5 => ?_) (.inr hln)
      refine wpAny_mono ((hsu a oe4 cls d (X.pn ++ pins) z4 ⟨_, f4⟩).run [] s5 _ H1 _ S5 (yes rfl a na)) (fun fl s6 out => ?_) (fun _ _ z => z.elim)
      cases fl with
      | next =>
        obtain ⟨σ6, H6, S6, q6⟩ := out
        obtain ⟨p1, p2, _⟩ := S6.pin (a, oe4) (List.mem_append_left _ List.mem_cons_self)
        have T6 := tell (S6.unsuite ok) p1 z4 f4 p2 n0 nL npin
        exact gone_ok T6 nd hi hln fun s7 J7 => ⟨_, _, J7, q6 p2⟩
      | brk =>
        obtain ⟨_, _, _, q6⟩ := out
        exact q6.elim
      | cont =>
        obtain ⟨_, _, _, q6⟩ := out
        exact q6.elim
      | ret u =>
        obtain ⟨_, _, _, _, _, q6⟩ := out
        exact q6.elim
  · cases fl with
    | next => exact out.elim fun σ' z => z.elim fun H' z => wpAny_execs_nil ⟨σ', H', z.1.ofTry ok, z.2⟩
    | brk => exact out.elim fun σ' z => z.elim fun H' z => ⟨σ', H', z.1.ofTry ok, z.2⟩
    | cont => exact out.elim fun σ' z => z.elim fun H' z => ⟨σ', H', z.1.ofTry ok, z.2⟩
    | ret u =>
      obtain ⟨v, σ', H', J', r, q⟩ := out
      exact ⟨v, σ', H', J'.ofTry ok, r, q⟩
end
/-! ### e.f and isinstance(e, C) of such an error -/
section
variable {X : Cx}
theorem pe_zget {e : Expr} {te : TE} {pos : Pos} {n : Str} (he : PE X e te) (hb : attributeBase e n X.env (eval e X.env) = eval e X.env := by rfl) :
    PE X (.Attribute e n pos) (fun σ H Q => te σ H fun x H1 => ∃ a C d fs v, x = .ref a ∧ H1 a = some (exz a (.ref C) (some d)) ∧ H1 d = some (.xd fs) ∧ XF X.K C n ∧ fs.lookup n = some v ∧ Q v H1) := by
  refine ⟨fun pins s σ H Q I h => ?_⟩
  refine attr_of hb (thn (he.run pins s σ H _ I h) fun u s1 hh => ?_)
  obtain ⟨x, H1, I1, rx, a, C, d, fs, v, ex, ea, ed, T, l, q⟩ := hh
  subst ex
  obtain rfl : u = Value.ref a := rx
  obtain ⟨oe, vs, ho, hz, hf⟩ := exz_at I1.hok ea
  have hx : ObjOk X.prog X.w H1 s1.heap d (.xd fs) := I1.hok d _ ed
  obtain ⟨mA, hns, hrel⟩ := hx
  obtain ⟨od, hod, hl⟩ := lookIn_ns hns
  obtain ⟨w1, hw, rw1⟩ := RelO.some_of (v := v) (o := mA n) (by rw [← l]; exact hrel n)
  have J : PySem.W.InstAt s1.heap a oe C (some od) := ⟨ho, hz.1, by unfold PySem.W.notCls; rw [hf] <;> rfl, by rw [hz.2]; exact hod⟩
  exact HandSPX.exc_get I1.kIn J T.xf.ga T.xf.gg T.xf.exC (PySem.W.findObj_own T.xf.hdC T.no rfl (by rw [hl, hw])) (handed_of rw1) ⟨v, H1, I1.tok _, rw1, q⟩
def rIsZ (K : PySem.W.Frag) : List V → Hp → VK → Prop := fun xs H Q => ∃ (a : Addr) (c : V) (D d : Addr) (fs : List (Str × V)) (cv : Value) (b : Bool), xs = [.ref a, c] ∧ H a = some (exz a (.ref D) (some d)) ∧ H d = some (.xd fs) ∧ ExcC K D ∧ (∀ u, RelV c u → u = cv) ∧ PySem.W.kitOne K (.ref D) cv = some b ∧ Q (.bl b) H
theorem call_isZ : CallR X (.builtin "isinstance") (rIsZ X.K) := by
  intro pins s σ H xs us Q I r h
  obtain ⟨a, c, D, d, fs, cv, b, rfl, ea, ed, C, hcv, e, q⟩ := h
  cases r with
  | cons rx rr =>
    cases rr with
    | cons rt rr =>
      cases rr
      cases rx
      obtain rfl := hcv _ rt
      obtain ⟨oe, vs, ho, hz, hf⟩ := exz_at I.hok ea
      have hx : ObjOk X.prog X.w H s.heap d (.xd fs) := I.hok d _ ed
      obtain ⟨mA, hns, _⟩ := hx
      obtain ⟨od, hod, _⟩ := lookIn_ns hns
      have J : PySem.W.InstAt s.heap a oe D (some od) := ⟨ho, hz.1, by unfold PySem.W.notCls; rw [hf] <;> rfl, by rw [hz.2]; exact hod⟩
      exact PySem.W.kia_one (kitErr C) I.kIn J e (fun z => nomatch z) fun tk => ⟨.bl b, H, I.kept (t' := tk) fun _ _ z => z, rfl, q⟩
end
end XV
set_option Elab.async false
set_option linter.all false
set_option maxRecDepth 100000
set_option maxHeartbeats 4000000
/-! repr of data, where nothing guards; written data. -/
namespace XV
open PySem PySem.Spec PyProof.Rows L2
section
variable {X : Cx}
def rRepr (K : PySem.W.Frag) : List V → Hp → VK → Prop := fun xs H Q => ∃ (v : V) (d : PyData), xs = [v] ∧ Dp K H v d ∧ d.showable = true ∧ d.hasDict = false ∧ d.depth ≤ 60 ∧ d.shown.length ≤ sizeLine ∧ Q (.str d.shown) H
theorem call_reprD (ag : X.A.guards = some []) (hu : X.A.units + 64 < cLine) : CallR X (.builtin "repr") (rRepr X.K) := by
  intro pins s σ H xs us Q I r h
  obtain ⟨v, d, rfl, hd, sh, nd, dp, sz, q⟩ := h
  have deep : ∀ a : Addr, ∀ as, Reads s.heap (.ref a) d as → wpAny (model X.prog X.w) X.A (call (.builtin "repr") [.ref a]) (EP X pins σ Q) X.xe s := fun a as rd =>
    repr_of_reads' rd sh (fun z => by rw [nd] at z; cases z) ag (by omega) (fun _ _ e => e) (fun h' u tk k => ⟨.str d.shown, H, I.kept (t' := tk) k, ⟨u, rfl⟩, q⟩) sz
  cases r with
  | cons rv rr =>
    cases rr
    cases hd with
    | non =>
      cases rv
      exact PySem.P.repr_of_none ⟨.str _, H, I.tok _, ⟨_, rfl⟩, q⟩
    | bl b =>
      cases rv
      exact PySem.P.repr_of_bool ⟨.str _, H, I.tok _, ⟨_, rfl⟩, q⟩
    | int i =>
      obtain ⟨t, rfl⟩ := rv
      exact PySem.P.repr_of_int (of_decide_eq_true (by simpa [PyData.showable] using sh)) ⟨.str _, H, I.tok _, ⟨_, rfl⟩, q⟩
    | str x =>
      obtain ⟨t, rfl⟩ := rv
      exact PySem.P.repr_of_str ⟨.str _, H, I.tok _, ⟨_, rfl⟩, q⟩ sz
    | lst hs ha =>
      cases rv
      obtain ⟨as, rd⟩ := Dp.reads I _ _ _ (Dp.lst hs ha) rfl
      exact deep _ as rd
    | tup hs ha =>
      cases rv
      obtain ⟨as, rd⟩ := Dp.reads I _ _ _ (Dp.tup hs ha) rfl
      exact deep _ as rd
end
/-! ### data that is tracked throughout -/
mutual
inductive Da (H : Hp) : V → PyData → Prop
  | non : Da H .non .none
  | bl (b : Bool) : Da H (.bl b) (.bool b)
  | int (i : Int) : Da H (.int i) (.int i)
  | str (x : Str) : Da H (.str x) (.str x)
  | lst {a : Addr} {xs : List V} {ds : List PyData} : H a = some (.lst xs) → DaAll H xs ds → Da H (.ref a) (.list ds)
  | tup {a : Addr} {xs : List V} {ds : List PyData} : H a = some (.tup xs) → DaAll H xs ds → Da H (.ref a) (.tuple ds)
inductive DaAll (H : Hp) : List V → List PyData → Prop
  | nil : DaAll H [] []
  | cons {v : V} {vs : List V} {d : PyData} {ds : List PyData} : Da H v d → DaAll H vs ds → DaAll H (v :: vs) (d :: ds)
end
mutual
theorem Da.keep {H H' : Hp} (s : Same H H') : ∀ {d : PyData} {v : V}, Da H v d → Da H' v d
  | _, _, .non => .non
  | _, _, .bl b => .bl b
  | _, _, .int i => .int i
  | _, _, .str x => .str x
  | _, _, .lst h a => .lst (s _ _ h) (DaAll.keep s a)
  | _, _, .tup h a => .tup (s _ _ h) (DaAll.keep s a)
theorem DaAll.keep {H H' : Hp} (s : Same H H') : ∀ {ds : List PyData} {vs : List V}, DaAll H vs ds → DaAll H' vs ds
  | _, _, .nil => .nil
  | _, _, .cons h r => .cons (Da.keep s h) (DaAll.keep s r)
end
mutual
theorem Da.dp {K : PySem.W.Frag} {H : Hp} : ∀ {d : PyData} {v : V}, Da H v d → Dp K H v d
  | _, _, .non => .non
  | _, _, .bl b => .bl b
  | _, _, .int i => .int i
  | _, _, .str x => .str x
  | _, _, .lst h a => .lst (SqL.of h) (DaAll.dp a)
  | _, _, .tup h a => .tup (SqT.of h) (DaAll.dp a)
theorem DaAll.dp {K : PySem.W.Frag} {H : Hp} : ∀ {ds : List PyData} {vs : List V}, DaAll H vs ds → DpAll K H vs ds
  | _, _, .nil => .nil
  | _, _, .cons h r => .cons (Da.dp h) (DaAll.dp r)
end
theorem DaAll.length {H : Hp} : ∀ {ds : List PyData} {vs : List V}, DaAll H vs ds → vs.length = ds.length
  | _, _, .nil => rfl
  | _, _, .cons _ r => congrArg (· + 1) (DaAll.length r)
theorem DaAll.get {H : Hp} : ∀ {ds : List PyData} {vs : List V} {i : Nat} {v : V}, DaAll H vs ds → vs[i]? = some v → ∃ d, ds[i]? = some d ∧ Da H v d
  | _, _, i, v, .nil, h => by simp at h
  | _, _, 0, v, .cons a r, h => by
    cases h
    exact ⟨_, rfl, a⟩
  | _, _, i + 1, v, .cons a r, h => by
    obtain ⟨d, e, x⟩ := DaAll.get (i := i) r (by simpa using h)
    exact ⟨d, by simpa using e, x⟩
/-! ### written data -/
def litsN (f : Expr → Option PyData) : List Expr → Option (List PyData)
  | [] => some []
  | e :: es => match f e, litsN f es with
    | some d, some ds => some (d :: ds)
    | _, _ => none
def litN : Nat → Expr → Option PyData
  | 0, _ => none
  | n + 1, e => match e with
    | .Constant .none _ _ => some .none
    | .Constant (.bool b) _ _ => some (.bool b)
    | .Constant (.int i) _ _ => some (.int i)
    | .Constant (.str x) _ _ => some (.str x)
    | .UnaryOp .USub (.Constant (.int i) _ _) _ => some (.int (-i))
    | .List es _ => if es.length ≤ 1000 then (litsN (litN n) es).map .list else none
    | .Tuple es _ _ => if es.length ≤ 1000 then (litsN (litN n) es).map .tuple else none
    | _ => none
/-- the reading of written data -/
def tLit (d : PyData) : TE := fun _ H Q => ∀ (v : V) (H' : Hp), Same H H' → Da H' v d → Q v H'
def tLits (ds : List PyData) : TA := fun _ H Q => ∀ (vs : List V) (H' : Hp), Same H H' → DaAll H' vs ds → vs.length = ds.length → Q vs H'
theorem PE.le {X : Cx} {e : Expr} {t t' : TE} (h : PE X e t) (i : ∀ σ H Q, t' σ H Q → t σ H Q) : PE X e t' := ⟨fun pins s σ H Q I z => h.run pins s σ H Q I (i _ _ _ z)⟩
theorem PA.le {X : Cx} {es : List Expr} {t t' : TA} (h : PA X es t) (i : ∀ σ H Q, t' σ H Q → t σ H Q) : PA X es t' := ⟨fun p pins s σ H Q I z => h.run p pins s σ H Q I (i _ _ _ z)⟩
theorem litsN_len {f : Expr → Option PyData} : ∀ (es : List Expr) (ds : List PyData), litsN f es = some ds → ds.length = es.length
  | [], ds, h => by
    cases h
    rfl
  | e :: es, ds, h => by
    unfold litsN at h
    split at h
    · rename_i d ds' h1 h2
      cases h
      rw [List.length_cons, List.length_cons, litsN_len es ds' h2]
    · cases h
theorem lits_ok {X : Cx} {f : Expr → Option PyData} (hf : ∀ e d, f e = some d → PE X e (tLit d)) (hs : ∀ e d es, f e = some d → starEach (e :: es) X.env = (false, eval e X.env) :: starEach es X.env) :
    ∀ (es : List Expr) (ds : List PyData), litsN f es = some ds → PA X es (tLits ds)
  | [], ds, h => by
    cases h
    exact PA.le pa_nil fun σ H Q z => z [] H (fun _ _ e => e) .nil rfl
  | e :: es, ds, h => by
    unfold litsN at h
    split at h
    · rename_i d ds' h1 h2
      cases h
      exact PA.le (pa_cons (hf e d h1) (lits_ok hf hs es ds' h2) (hs e d es h1)) fun σ H Q z v H1 s1 p1 vs H2 s2 p2 l2 => z (v :: vs) H2 (s1.trans s2) (.cons (p1.keep s2) p2) (by rw [List.length_cons, List.length_cons, l2])
    · cases h
theorem lit_star {n : Nat} {e : Expr} {d : PyData} {es : List Expr} {env : Env} (h : litN n e = some d) : starEach (e :: es) env = (false, eval e env) :: starEach es env := by
  cases n with
  | zero => cases h
  | succ n => cases e <;> first | rfl | cases h
theorem lit_ok {X : Cx} : ∀ (n : Nat) (e : Expr) (d : PyData), litN n e = some d → PE X e (tLit d)
  | 0, _, _, h => by cases h
  | n + 1, e, d, h => by
    have small : ∀ m : Nat, m ≤ 1000 → m ≤ sizeLine := fun m hm => by
      rw [sizeLine_eq]
      omega
    unfold litN at h
    split at h
    · cases h
      exact PE.le pe_non fun σ H Q z => z _ H (fun _ _ e => e) .non
    · cases h
      exact PE.le pe_bl fun σ H Q z => z _ H (fun _ _ e => e) (.bl _)
    · cases h
      exact PE.le pe_int fun σ H Q z => z _ H (fun _ _ e => e) (.int _)
    · cases h
      exact PE.le pe_str fun σ H Q z => z _ H (fun _ _ e => e) (.str _)
    · cases h
      exact PE.le (pe_un un_neg pe_int) fun σ H Q z => ⟨_, rfl, z _ H (fun _ _ e => e) (.int _)⟩
    · rename_i es p
      split at h
      · rename_i hl
        cases q : litsN (litN n) es with
        | none =>
          rw [q] at h
          cases h
        | some ds =>
          rw [q] at h
          cases h
          exact PE.le (pe_lst (lits_ok (lit_ok n) (fun _ _ _ => lit_star) es ds q)) fun σ H Q z vs H1 s1 p1 l1 => ⟨by rw [l1, litsN_len _ _ q]; exact small _ hl, fun p np =>
            z _ _ (s1.trans (same_new np)) (.lst (upd_same) (p1.keep (same_new np)))⟩
      · cases h
    · rename_i es k p
      split at h
      · rename_i hl
        cases q : litsN (litN n) es with
        | none =>
          rw [q] at h
          cases h
        | some ds =>
          rw [q] at h
          cases h
          exact PE.le (pe_tup (lits_ok (lit_ok n) (fun _ _ _ => lit_star) es ds q)) fun σ H Q z vs H1 s1 p1 l1 => ⟨by rw [l1, litsN_len _ _ q]; exact small _ hl, fun p np =>
            z _ _ (s1.trans (same_new np)) (.tup (upd_same) (p1.keep (same_new np)))⟩
      · cases h
    · cases h
theorem pe_lit {X : Cx} (n : Nat) {e : Expr} {d : PyData} (h : litN n e = some d) : PE X e (tLit d) := lit_ok n e d h
end XV
set_option Elab.async false
set_option linter.all false
set_option maxRecDepth 100000
set_option maxHeartbeats 4000000
/-! raise C(e), C an error class with one field. -/
namespace XV
open PySem PySem.Spec PyProof.Rows L2
theorem XCls.binds {P : Program} {w : World} {K : PySem.W.Frag} {mg : Str → Option Value} {base : Heap} {nm fld : Str} {C fI : Addr} {fd : FuncData} (T : XCls P w K mg base nm fld C fI fd) : Binds K fd ["self", fld] [] := fun s us X hl => by
  rw [List.append_nil] at hl ⊢
  match us, hl with
  | [x, u], _ => exact T.b1 s x u X
/-- a reading that may be weakened -/
def tMono (te : TE) : TE := fun σ H Q => ∃ q : VK, te σ H q ∧ ∀ v H', q v H' → Q v H'
theorem pe_mono {X : Cx} {e : Expr} {te : TE} (he : PE X e te) : PE X e (tMono te) := ⟨fun pins s σ H Q I h => by
  obtain ⟨q, h, i⟩ := h
  exact thn (he.run pins s σ H q I h) fun u s1 ⟨v, H1, I1, r, z⟩ => ⟨v, H1, I1, r, i v H1 z⟩⟩
section
variable {X : Cx} {nm fld : Str} {C fI : Addr} {fd : FuncData} {e : Expr} {te : TE} {p pos pos2 : Pos}
theorem pmk_x (T : XCls X.prog X.w X.K X.mg X.base nm fld C fI fd) (hr : Room 2 X.A) (hg : Gl X nm) (he : PE X e te) (hdb : (nm == ("__debug__" : Str)) = false := by decide)
    (hs : starEach (e :: []) X.env = (false, eval e X.env) :: starEach [] X.env := by rfl) (hpl : (backTo pos (starEach [] X.env)).any (·.1) = false := by rfl) :
    PMk X (.Call (.Name nm p) [e] [] pos) (fun σ H Q => te σ H fun v H1 => ∀ d, H1 d = none → Q (.ref C) (some d) (upd H1 d (.xd [(fld, v)]))) := by
  have low := pmk_oex (X := X) (p := p) (pos := pos) T.ox T.iC T.tI T.ini hr T.binds .nil pass0 hg T.g (pa_cons (pe_mono he) pa_nil hs) hdb hs hpl
  intro pins s σ H Q I h
  refine low pins s σ H Q I ⟨_, h, fun v H1 q => ⟨(by show 1 ≤ 1000; decide), fun a na => ⟨a, v, rfl, upd_same, fun d nd ne => ⟨rfl, d, [(fld, v)], upd_same, ?_, ?_, ?_⟩⟩⟩⟩
  · rw [upd_ne ne, upd_same]
  · rw [upd_ne ne] at nd
    exact nd
  · rw [upd_ne ne] at nd
    have e1 : upd (del (upd (upd (upd H1 a (exo a C none)) d (exd d [(fld, v)])) a (exo a C (some d))) a) d (.xd [(fld, v)]) = upd H1 d (.xd [(fld, v)]) := by
      funext b
      by_cases q1 : b = d
      · rw [q1, upd_same, upd_same]
      · rw [upd_ne q1, upd_ne q1]
        by_cases q2 : b = a
        · rw [q2, del_same, na]
        · rw [del_ne q2, upd_ne q2, upd_ne q1, upd_ne q2]
    rw [e1]
    exact q d nd
theorem ps_raiseX {W : WX} (hc : X.calm = true) (T : XCls X.prog X.w X.K X.mg X.base nm fld C fI fd) (hr : Room 2 X.A) (tk : Takes X W) (hg : Gl X nm) (he : PE X e te) (hdb : (nm == ("__debug__" : Str)) = false := by decide)
    (hs : starEach (e :: []) X.env = (false, eval e X.env) :: starEach [] X.env := by rfl) (hpl : (backTo pos (starEach [] X.env)).any (·.1) = false := by rfl) :
    PS X (.Raise (some (.Call (.Name nm p) [e] [] pos)) none pos2) (fun _ σ H => te σ H fun v H1 => ∀ d, H1 d = none → W (.ref C) (some d) σ (upd H1 d (.xd [(fld, v)]))) :=
  ps_raise hc tk (pmk_x T hr hg he hdb hs hpl)
end
/-- the module's name x is a def that keeps sp and may raise -/
structure OkX (P : Program) (w : World) (K : PySem.W.Frag) (mg : Str → Option Value) (base : Heap) (x : Str) (k : Nat) (ps : List Str) (sp : Sp) : Prop where
  ex : ∃ f fd, FnOk P w K mg base (L2.CX P w) k f fd ps sp ∧ mg x = some (.ref f) ∧ PySem.W.keepIn K (.ref f) = true ∧ Binds K fd ps []
theorem OkX.mk' {P : Program} {w : World} {K : PySem.W.Frag} {mg : Str → Option Value} {base : Heap} {x : Str} {k : Nat} {ps : List Str} {sp : Sp} {body : List Stmt} {params : Arguments} {scope : Scope} {f : Addr} {fd : FuncData}
    (F : FunD K x x params body scope [] [] f fd) (g : mg x = some (.ref f)) (b : ∀ (kV doc pm : Value) (an : Option Addr) (cdv ct : Value) (us : List Value), us.length = ps.length → bindArgs (PySem.W.fnOf x x params body scope .none kV doc pm an cdv ct) ⟨us, []⟩ = pure (ps.zip us))
    (ok : FnOk P w K mg base (L2.CX P w) k f fd ps sp) : OkX P w K mg base x k ps sp := ⟨f, fd, ok, g, F.kp, F.bindsN b⟩
section
variable {X : Cx} {k : Nat} {ps : List Str} {sp : Sp} {x : Str} {e : Expr} {es : List Expr} {t : TA} {p pos : Pos} {E : XK} {W : WX}
/-- a call within a def that lets out what the callee lets out -/
theorem pe_callX (o : OkX X.prog X.w X.K X.mg X.base x k ps sp) (tk : Takes X fun cls d _ H => E cls d H) (hr : Room k X.A) (hg : Gl X x) (ha : PA X (e :: es) t) (hdb : (x == ("__debug__" : Str)) = false := by decide)
    (he : starEach (e :: es) X.env = (false, eval e X.env) :: starEach es X.env := by rfl) (hpl : (backTo pos (starEach es X.env)).any (·.1) = false := by rfl) :
    PE X (.Call (.Name x p) (e :: es) [] pos) (tCall sp [] E t) := by
  obtain ⟨f, fd, F, hm, hk, b⟩ := o.ex
  exact pe_call F hr hg hm hk b .nil (passes_call tk fun _ _ _ _ h => h) ha hdb he hpl
/-- a call within a try -/
theorem pe_callT (o : OkX X.prog X.w X.K X.mg X.base x k ps sp) (tk : Takes X W) (hr : Room k X.A) (hg : Gl X x) (ha : PA X (e :: es) t) (hdb : (x == ("__debug__" : Str)) = false := by decide)
    (he : starEach (e :: es) X.env = (false, eval e X.env) :: starEach es X.env := by rfl) (hpl : (backTo pos (starEach es X.env)).any (·.1) = false := by rfl) :
    PE X (.Call (.Name x p) (e :: es) [] pos) (tCallS sp (WE W) t) := by
  obtain ⟨f, fd, F, hm, hk, b⟩ := o.ex
  exact pe_callS F hr hg hm hk b (fun σ => passAt tk σ) ha hdb he hpl
end
end XV
set_option Elab.async false
set_option linter.all false
set_option maxRecDepth 100000
set_option maxHeartbeats 4000000
/-! f(k = v, ..), all by keywords, the names in the parameters' order turned round. -/
namespace XV
open PySem PySem.Spec PyProof.Rows L2
theorem vals_rev : ∀ {vs : List V} {us : List Value}, Vals vs us → Vals vs.reverse us.reverse
  | _, _, .nil => .nil
  | _, _, .cons r rr => by
    rw [List.reverse_cons, List.reverse_cons]
    exact (vals_rev rr).append (.cons r .nil)
structure OkK (P : Program) (w : World) (K : PySem.W.Frag) (mg : Str → Option Value) (base : Heap) (x : Str) (k : Nat) (ps : List Str) (sp : Sp) : Prop where
  ex : ∃ f fd, FnOk P w K mg base CX0 k f fd ps sp ∧ mg x = some (.ref f) ∧ PySem.W.keepIn K (.ref f) = true ∧ KBn K fd ps 0 ps.reverse (fun _ ws => ws.reverse) (fun _ zs => zs.reverse)
theorem OkK.mk' {P : Program} {w : World} {K : PySem.W.Frag} {mg : Str → Option Value} {base : Heap} {x : Str} {k : Nat} {ps : List Str} {sp : Sp} {body : List Stmt} {params : Arguments} {scope : Scope} {f : Addr} {fd : FuncData}
    (F : FunD K x x params body scope [] [] f fd) (g : mg x = some (.ref f)) (b : ∀ (kV doc pm : Value) (an : Option Addr) (cdv ct : Value) (ws : List Value), ws.length = ps.length → bindArgs (PySem.W.fnOf x x params body scope .none kV doc pm an cdv ct) ⟨[], ps.reverse.zip ws⟩ = pure (ps.zip ws.reverse))
    (ok : FnOk P w K mg base CX0 k f fd ps sp) : OkK P w K mg base x k ps sp := by
  refine ⟨f, fd, ok, g, F.kp, ⟨fun s us ws _ l1 l2 => ?_, fun _ r => vals_rev r⟩⟩
  obtain ⟨oc, od, dV, kV, doc, pm, an, cdv, ct, osl, rfl, lk, hcd, hD, hK⟩ := F.ex
  rcases hD with ⟨_, rfl⟩ | ⟨e, _⟩
  · obtain rfl := List.length_eq_zero_iff.mp l1
    exact .of_eq (b kV doc pm an cdv ct ws (by rw [l2, List.length_reverse]))
  · exact absurd rfl e
section
variable {X : Cx} {k : Nat} {ps : List Str} {sp : Sp} {x : Str} {kws : List Keyword} {tk : TA} {p pos : Pos}
theorem pe_callK (o : OkK X.prog X.w X.K X.mg X.base x k ps sp) (hr : Room k X.A) (hg : Gl X x) (hk : PK X kws tk) (hdb : (x == ("__debug__" : Str)) = false := by decide)
    (hall : (backToKw pos (keywordEach kws X.env)).all (·.1.isSome) = true := by rfl) (hks : (backToKw pos (keywordEach kws X.env)).filterMap (·.1) = ps.reverse := by rfl)
    (hpl : ((backTo pos (starEach [] X.env)).any (·.1) || (backToKw pos (keywordEach kws X.env)).any (·.1.isNone)) = false := by rfl) :
    PE X (.Call (.Name x p) [] kws pos) (fun σ H Q => tk σ H fun zs H1 => zs.length = ps.reverse.length ∧ sp zs.reverse H1 Q E0) := by
  obtain ⟨f, fd, F, hm, kp, B⟩ := o.ex
  refine ⟨fun pins s σ H Q I h => ?_⟩
  refine wpAny_Call_Name_kw (ld_glob I hg hm ?_ hdb)
  refine PySem.W.callWith_KW0 (h₀ := X.base) I.ok.mod.kin kp hall (thn (hk.run pos pins s σ H _ I h) fun ws s1 z => ?_) hpl
  obtain ⟨zs, H1, I1, r, l, q⟩ := z
  refine ⟨I1.kIn, ?_⟩
  rw [hks]
  exact run_fnN (us := []) (vs := []) F hr B pass0 I1 .nil r rfl l q
end
end XV
set_option Elab.async false
set_option linter.all false
set_option maxRecDepth 100000
set_option maxHeartbeats 4000000
/-! lcm; == by an own __eq__ of an instance with a dict, whatever stands on the right; defs that may raise where they don't; keywords in order; != of lists that end in the same object. -/
namespace XV
open PySem PySem.Spec PyProof.Rows L2
section
variable {X : Cx}
def rLcm : List V → Hp → VK → Prop := fun vs H Q => ∃ a b : Int, vs = [.int a, .int b] ∧ a.natAbs < 2 ^ 64 ∧ b.natAbs < 2 ^ 64 ∧ Q (.int ((Nat.lcm a.natAbs b.natAbs : Nat) : Int)) H
theorem cr_lcm : CallR X (.builtin "math.lcm") rLcm := by
  intro pins s σ H vs us Q I r h
  obtain ⟨a, b, rfl, ha, hb, q⟩ := h
  obtain ⟨t, u, rfl⟩ := Vals.int2 r
  exact PySem.W.mc_lcm ha hb fun _ => ⟨.int _, H, I.tok _, ⟨_, rfl⟩, q⟩
end
section
variable {X : Cx} {CX : CXT} {C g : Addr} {n : Nat} {fd : FuncData} {ps : List Str} {sp : Sp} {E : XK}
/-- x == y, x an instance of the class at C whose __eq__ is at g -/
def rOwnE (K : PySem.W.Frag) (C : Addr) (sp : Sp) (E : XK) : R2 := fun x y H Q => ∃ a dx fs t, x = .ref a ∧ H a = some (.ins C dx fs) ∧ TyX K H y t ∧ PySem.W.notFirst K C t = true ∧ sp [x, y] H Q E
theorem op_ownE (hs : PySem.W.findIn X.K (.ref C) "__eq__" = some (some (.ref g))) (hf : PySem.W.isFn X.K (.ref g) = true) (F : FnOk X.prog X.w X.K X.mg X.base CX n g fd ps sp) (hr : Room n X.A) (hb : Binds X.K fd ps []) (hx : Passes CX X E) :
    OpR X (compareOp .Eq) (rOwnE X.K C sp E) := by
  intro pins s σ H x y v u Q I rx ry h
  obtain ⟨a, dx, fs, t, rfl, ha, hy, hn, q⟩ := h
  cases (show v = Value.ref a from rx)
  obtain ⟨mA, J, _⟩ := ins_get I.hok ha
  obtain ⟨od, J, _⟩ := J.look
  obtain ⟨P, Z, p, _⟩ := kit_of I ry hy
  obtain ⟨m, hF⟩ := I.fr
  show wpAny (model X.prog X.w) X.A (richCompare .Eq (.ref a) u) (EP X pins σ Q) X.xe s
  refine PySem.W.cmp_K (op := .Eq) (tb := t) hr.units0 hF I.ok.mod.kin J (Z.ty _ _ I.kIn p) hn hs hf ?_
  refine wpAny_mono (run_fn (us := [.ref a, u]) (vs := [.ref a, y]) F hr hb .nil hx I (.cons rfl (.cons ry .nil)) (by rw [List.append_nil]; exact q)) (fun w s' z => ?_) fun _ _ x => x
  obtain ⟨z', H', I', rz, qz⟩ := z
  exact SlX.cmpback rz ⟨z', H', I', rz, qz⟩
end
/-- a def that may raise, where it doesn't -/
theorem FnOk.calm {P : Program} {w : World} {K : PySem.W.Frag} {mg : Str → Option Value} {base : Heap} {k : Nat} {f : Addr} {fd : FuncData} {ps : List Str} {sp : Sp} (F : FnOk P w K mg base (L2.CX P w) k f fd ps sp) :
    FnOk P w K mg base CX0 k f fd ps (fun vs H Q _ => sp vs H Q fun _ _ _ => False) :=
  ⟨fun vs H Q _ h => F.len vs H Q _ h, fun A outer s H args us vs Q E hr he hb hv hs => codeAny_mono (F.run A outer s H args us vs Q (fun _ _ _ => False) hr he hb hv hs) fun r s' h => by
    cases r with
    | error e =>
      obtain ⟨_, _, _, _, _, _, _, _, _, _, _, _, z⟩ := (show L2.CX P w outer H s (fun _ _ _ => False) e s' from h)
      exact z.elim
    | ok fl => cases fl <;> exact h⟩
abbrev cm (sp : Sp) : Sp := fun vs H Q _ => sp vs H Q fun _ _ _ => False
theorem OkX.calm {P : Program} {w : World} {K : PySem.W.Frag} {mg : Str → Option Value} {base : Heap} {x : Str} {k : Nat} {ps : List Str} {sp : Sp} (o : OkX P w K mg base x k ps sp) : Ok P w K mg base x k ps (cm sp) := by
  obtain ⟨f, fd, F, h1, h2, h3⟩ := o.ex
  exact ⟨f, fd, FnOk.calm F, h1, h2, h3⟩
/-! keywords in the parameters' order -/
structure OkF (P : Program) (w : World) (K : PySem.W.Frag) (mg : Str → Option Value) (base : Heap) (x : Str) (k : Nat) (ps : List Str) (sp : Sp) : Prop where
  ex : ∃ f fd, FnOk P w K mg base CX0 k f fd ps sp ∧ mg x = some (.ref f) ∧ PySem.W.keepIn K (.ref f) = true ∧ KBn K fd ps 0 ps (fun _ ws => ws) (fun _ zs => zs)
theorem OkF.mk' {P : Program} {w : World} {K : PySem.W.Frag} {mg : Str → Option Value} {base : Heap} {x : Str} {k : Nat} {ps : List Str} {sp : Sp} {body : List Stmt} {params : Arguments} {scope : Scope} {f : Addr} {fd : FuncData}
    (F : FunD K x x params body scope [] [] f fd) (g : mg x = some (.ref f)) (b : ∀ (kV doc pm : Value) (an : Option Addr) (cdv ct : Value) (ws : List Value), ws.length = ps.length → bindArgs (PySem.W.fnOf x x params body scope .none kV doc pm an cdv ct) ⟨[], ps.zip ws⟩ = pure (ps.zip ws))
    (ok : FnOk P w K mg base CX0 k f fd ps sp) : OkF P w K mg base x k ps sp := by
  refine ⟨f, fd, ok, g, F.kp, ⟨fun s us ws _ l1 l2 => ?_, fun _ r => r⟩⟩
  obtain ⟨oc, od, dV, kV, doc, pm, an, cdv, ct, osl, rfl, lk, hcd, hD, hK⟩ := F.ex
  rcases hD with ⟨_, rfl⟩ | ⟨e, _⟩
  · obtain rfl := List.length_eq_zero_iff.mp l1
    exact .of_eq (b kV doc pm an cdv ct ws l2)
  · exact absurd rfl e
section
variable {X : Cx} {k : Nat} {ps : List Str} {sp : Sp} {x : Str} {kws : List Keyword} {tk : TA} {p pos : Pos}
theorem pe_callF (o : OkF X.prog X.w X.K X.mg X.base x k ps sp) (hr : Room k X.A) (hg : Gl X x) (hk : PK X kws tk) (hdb : (x == ("__debug__" : Str)) = false := by decide)
    (hall : (backToKw pos (keywordEach kws X.env)).all (·.1.isSome) = true := by rfl) (hks : (backToKw pos (keywordEach kws X.env)).filterMap (·.1) = ps := by rfl)
    (hpl : ((backTo pos (starEach [] X.env)).any (·.1) || (backToKw pos (keywordEach kws X.env)).any (·.1.isNone)) = false := by rfl) :
    PE X (.Call (.Name x p) [] kws pos) (fun σ H Q => tk σ H fun zs H1 => zs.length = ps.length ∧ sp zs H1 Q E0) := by
  obtain ⟨f, fd, F, hm, kp, B⟩ := o.ex
  refine ⟨fun pins s σ H Q I h => ?_⟩
  refine wpAny_Call_Name_kw (ld_glob I hg hm ?_ hdb)
  refine PySem.W.callWith_KW0 (h₀ := X.base) I.ok.mod.kin kp hall (thn (hk.run pos pins s σ H _ I h) fun ws s1 z => ?_) hpl
  obtain ⟨zs, H1, I1, r, l, q⟩ := z
  refine ⟨I1.kIn, ?_⟩
  rw [hks]
  exact run_fnN (us := []) (vs := []) F hr B pass0 I1 .nil r rfl l q
end
section
variable {X : Cx}
/-- [v, g] != [w, g], g the same object -/
def rNeI (K : PySem.W.Frag) : R2 := fun x y H Q => ∃ (a b : Addr) (v w z : V) (d e : PyData), x = .ref a ∧ y = .ref b ∧ H a = some (.lst [v, z]) ∧ H b = some (.lst [w, z]) ∧ (∃ g, z = .ref g) ∧ Dp K H v d ∧ Dp K H w e ∧ SeqAt.shaped d = true ∧ SeqAt.shaped e = true ∧ Q (.bl (!(PyData.eqv d e))) H
theorem op_neI (hu : X.A.units + 66 < cLine) : OpR X (compareOp .NotEq) (rNeI X.K) := by
  intro pins s σ H x y v u Q I rx ry h
  obtain ⟨a, b, v1, w1, z, d, e, rfl, rfl, ha, hb, ⟨g, rfl⟩, hd, he, sd, se, q⟩ := h
  cases (show v = Value.ref a from rx)
  cases (show u = Value.ref b from ry)
  obtain ⟨_, its, n, r, h1⟩ := (show ObjOk X.prog X.w H s.heap a (.lst [v1, .ref g]) from I.hok a _ ha)
  obtain ⟨_, its2, n2, r2, h2⟩ := (show ObjOk X.prog X.w H s.heap b (.lst [w1, .ref g]) from I.hok b _ hb)
  obtain ⟨u1, u2, rfl, rv, rg⟩ := vals2 r
  obtain ⟨u3, u4, rfl, rw1, rg2⟩ := vals2 r2
  cases (show u2 = Value.ref g from rg)
  cases (show u4 = Value.ref g from rg2)
  obtain ⟨as, r3⟩ := Dp.reads I d v1 u1 hd rv
  obtain ⟨bs, r4⟩ := Dp.reads I e w1 u3 he rw1
  have hl : s.heap.IsList a ([u1, Value.ref g].toArray) := ⟨_, h1, rfl, _, rfl⟩
  have hl2 : s.heap.IsList b ([u3, Value.ref g].toArray) := ⟨_, h2, rfl, _, rfl⟩
  have key := SeqAt.RcNeAt.lists (A := X.A) (e := fun j => if j = 0 then PyData.eqv d e else true) hl hl2 rfl (by omega) (fun j j1 j2 => by
    match j, j1, j2 with
    | 0, _, _ =>
      refine SeqAt.eqAt_reads d e X.A.in1 s u1 u3 as bs r3 r4 (SeqAt.canLay_of_shaped sd) (SeqAt.canLay_of_shaped se) (SeqAt.room_of_shaped sd ?_)
      show X.A.units + 1 + 64 < cLine
      omega
    | 1, _, _ => exact SeqAt.EqAt.same _
    | j + 2, j1, _ => exact absurd j1 (by show ¬ (j + 2 < 2); omega))
  show wpAny (model X.prog X.w) X.A (richCompare .NotEq (.ref a) (.ref b)) (EP X pins σ Q) X.xe s
  have e1 : (!(List.range ([u1, Value.ref g].toArray).size).all fun j => if j = 0 then PyData.eqv d e else true) = !(PyData.eqv d e) := by
    show (!((if (0 : Nat) = 0 then PyData.eqv d e else true) && ((if (1 : Nat) = 0 then PyData.eqv d e else true) && true))) = _
    rw [if_pos rfl, if_neg (by decide)]
    cases PyData.eqv d e <;> rfl
  rw [e1] at key
  exact key X.prog X.w _ _ ⟨.bl _, H, I, rfl, q⟩
end
end XV
set_option Elab.async false
set_option linter.all false
set_option maxRecDepth 100000
set_option maxHeartbeats 4000000
namespace KA
open PySem PySem.Spec PyProof.Rows L2 XV
/-! ### limits -/
abbrev Lim := Int × Int
def IsLim (H : Hp) (x : V) (l : Lim) : Prop := ∃ a, x = .ref a ∧ H a = some (.tup [.int l.1, .int l.2])
inductive Lims (H : Hp) : List V → List Lim → Prop
  | nil : Lims H [] []
  | cons {x : V} {xs : List V} {l : Lim} {L : List Lim} : IsLim H x l → Lims H xs L → Lims H (x :: xs) (l :: L)
theorem IsLim.keep {H H' : Hp} (s : Same H H') {x : V} {l : Lim} (h : IsLim H x l) : IsLim H' x l := by
  obtain ⟨a, e, t⟩ := h
  exact ⟨a, e, s _ _ t⟩
theorem Lims.keep {H H' : Hp} (s : Same H H') : ∀ {xs : List V} {L : List Lim}, Lims H xs L → Lims H' xs L
  | _, _, .nil => .nil
  | _, _, .cons h r => .cons (h.keep s) (Lims.keep s r)
theorem Lims.len {H : Hp} : ∀ {xs : List V} {L : List Lim}, Lims H xs L → xs.length = L.length
  | _, _, .nil => rfl
  | _, _, .cons _ r => congrArg (· + 1) (Lims.len r)
theorem Lims.get {H : Hp} : ∀ {xs : List V} {L : List Lim} {i : Nat} {x : V}, Lims H xs L → xs[i]? = some x → ∃ l, L[i]? = some l ∧ IsLim H x l
  | _, _, i, x, .nil, h => by simp at h
  | _, _, 0, x, .cons a r, h => by
    cases h
    exact ⟨_, rfl, a⟩
  | _, _, i + 1, x, .cons a r, h => by
    obtain ⟨l, e, z⟩ := Lims.get (i := i) r (by simpa using h)
    exact ⟨l, by simpa using e, z⟩
theorem Lims.at {H : Hp} : ∀ {xs : List V} {L : List Lim} {i : Nat} {l : Lim}, Lims H xs L → L[i]? = some l → ∃ x, xs[i]? = some x ∧ IsLim H x l
  | _, _, i, x, .nil, h => by simp at h
  | _, _, 0, x, .cons a r, h => by
    cases h
    exact ⟨_, rfl, a⟩
  | _, _, i + 1, x, .cons a r, h => by
    obtain ⟨l, e, z⟩ := Lims.at (i := i) r (by simpa using h)
    exact ⟨l, by simpa using e, z⟩
theorem Lims.snoc {H : Hp} {y : V} {m : Lim} (hy : IsLim H y m) : ∀ {xs : List V} {L : List Lim}, Lims H xs L → Lims H (xs ++ [y]) (L ++ [m])
  | _, _, .nil => .cons hy .nil
  | _, _, .cons h r => .cons h (Lims.snoc hy r)
theorem Lims.set {H : Hp} {y : V} {m : Lim} (hy : IsLim H y m) : ∀ {xs : List V} {L : List Lim} {i : Nat}, Lims H xs L → Lims H (xs.set i y) (L.set i m)
  | _, _, _, .nil => .nil
  | _, _, 0, .cons h r => .cons hy r
  | _, _, i + 1, .cons h r => .cons h (Lims.set hy r)
/-- a list of limits at a -/
def LL (H : Hp) (a : Addr) (L : List Lim) : Prop := ∃ xs, H a = some (.lst xs) ∧ Lims H xs L
theorem LL.keep {H H' : Hp} (s : Same H H') {a : Addr} {L : List Lim} (h : LL H a L) : LL H' a L := by
  obtain ⟨xs, e, r⟩ := h
  exact ⟨xs, s _ _ e, r.keep s⟩
theorem dr_neL {H : Hp} {g a : Addr} {n : Nat} {xs : List V} {L : List Lim} (d : Dr H g n) (h : H a = some (.lst xs)) (r : Lims H xs L) : a ≠ g := by
  rintro rfl
  obtain ⟨x, y, z, e, _⟩ := d
  rw [e] at h
  cases h
  cases r with
  | cons h r =>
    obtain ⟨_, e, _⟩ := h
    cases e
theorem dr_neT {H : Hp} {g a : Addr} {n : Nat} {xs : List V} (d : Dr H g n) (h : H a = some (.tup xs)) : a ≠ g := by
  rintro rfl
  obtain ⟨x, y, z, e, _⟩ := d
  rw [e] at h
  cases h
theorem Lims.but {H H' : Hp} {g : Addr} {n : Nat} (d : Dr H g n) (b : But H H' g) : ∀ {xs : List V} {L : List Lim}, Lims H xs L → Lims H' xs L
  | _, _, .nil => .nil
  | _, _, .cons h r => .cons (by
      obtain ⟨a, e, t⟩ := h
      exact ⟨a, e, b _ _ (dr_neT d t) t⟩) (Lims.but d b r)
theorem LL.but {H H' : Hp} {g a : Addr} {n : Nat} {L : List Lim} (d : Dr H g n) (b : But H H' g) (h : LL H a L) : LL H' a L := by
  obtain ⟨xs, e, r⟩ := h
  exact ⟨xs, b _ _ (dr_neL d e r) e, r.but d b⟩
/-- limits that are dealt with here -/
def Lok (L : List Lim) : Prop := L.length ≤ 3 ∧ ∀ l ∈ L, 0 ≤ l.1 ∧ l.1 < 1000 ∧ 1 ≤ l.2 ∧ l.2 < 1000
def many (L : List Lim) : Int := L.foldl (fun n l => n * (l.1 + l.2)) 1
theorem fold_take {α β : Type} (f : α → β → α) (z : α) {L : List β} {i : Nat} {l : β} (h : L[i]? = some l) : (L.take (i + 1)).foldl f z = f ((L.take i).foldl f z) l := by
  rw [List.take_add_one, h, List.foldl_append]
  rfl
theorem mem_at {α : Type} {L : List α} {i : Nat} {l : α} (h : L[i]? = some l) : l ∈ L := List.mem_of_getElem? h
theorem mul_r {x y : Int} (h : 0 ≤ y) (h2 : y < 10000) : CMul x y := .inr ⟨by omega, by omega⟩
abbrev sWhole : Stmt := top 10
abbrev sCount : Stmt := top 11
abbrev sIsPoint : Stmt := top 12
abbrev sIsLL : Stmt := top 19
abbrev sIsLim : Stmt := top 20
abbrev sHow : Stmt := top 22
theorem scWhole : FnScope ["value"] ["value"] (defScope sWhole) := ⟨rfl, rfl, rfl, by decide +kernel, rfl, by decide +kernel, by decide +kernel⟩
theorem scCount : FnScope ["value"] ["value"] (defScope sCount) := ⟨rfl, rfl, rfl, by decide +kernel, rfl, by decide +kernel, by decide +kernel⟩
theorem scIsPoint : FnScope ["many", "value", "number"] ["many", "value"] (defScope sIsPoint) := ⟨rfl, rfl, rfl, by decide +kernel, rfl, by decide +kernel, by decide +kernel⟩
theorem scIsLL : FnScope ["value", "item"] ["value"] (defScope sIsLL) := ⟨rfl, rfl, rfl, by decide +kernel, rfl, by decide +kernel, by decide +kernel⟩
theorem scIsLim : FnScope ["value"] ["value"] (defScope sIsLim) := ⟨rfl, rfl, rfl, by decide +kernel, rfl, by decide +kernel, by decide +kernel⟩
theorem scHow : FnScope ["limits", "number", "threshold", "period"] ["limits"] (defScope sHow) := ⟨rfl, rfl, rfl, by decide +kernel, rfl, by decide +kernel, by decide +kernel⟩
def spWhole : Sp := fun vs H Q _ => ∃ i : Int, vs = [.int i] ∧ Q (.bl true) H
def spCount : Sp := fun vs H Q _ => ∃ i : Int, vs = [.int i] ∧ 0 ≤ i ∧ Q (.bl true) H
def spIsPoint : Sp := fun vs H Q _ => ∃ (a : Addr) (p : List Int), vs = [.int (p.length : Int), .ref a] ∧ H a = some (.lst (p.map V.int)) ∧ p.length ≤ 3 ∧ (∀ x ∈ p, 0 ≤ x) ∧ ∀ H', Same H H' → Q (.bl true) H'
def spIsLim : Sp := fun vs H Q _ => ∃ (v : V) (l : Lim), vs = [v] ∧ IsLim H v l ∧ 0 ≤ l.1 ∧ 1 ≤ l.2 ∧ Q (.bl true) H
def spIsLL : Sp := fun vs H Q _ => ∃ (a : Addr) (L : List Lim), vs = [.ref a] ∧ LL H a L ∧ Lok L ∧ ∀ H', Same H H' → Q (.bl true) H'
def spHow : Sp := fun vs H Q _ => ∃ (a : Addr) (L : List Lim), vs = [.ref a] ∧ LL H a L ∧ Lok L ∧ Q (.int (many L)) H
theorem rep_all {n : Nat} : ((List.replicate n true).all id) = true := by
  rw [List.all_eq_true]
  intro x hx
  rw [(List.mem_replicate.mp hx).2]
  rfl
section
variable {P : Program} {w : World} {K : PySem.W.Frag} {mg : Str → Option Value} {base : Heap} {f : Addr} {fd : FuncData}
theorem ok_whole (F : FnP K "is_whole" sWhole f fd) (z_isinstance : mg "isinstance" = none) (z_int : mg "int" = none) (z_bool : mg "bool" = none) : FnOk P w K mg base CX0 1 f fd ["value"] spWhole := by
  refine F.ok scWhole (fun vs H Q E h => ?_) (fun cdv A outer s H vs Q E hr h => ?_)
  · obtain ⟨v, rfl, _⟩ := h
    rfl
  · obtain ⟨i, rfl, q⟩ := h
    refine ⟨_, PSs.nox (pss_one (ps_ret (pe_and (pe_callB call_isi (by rfl) z_isinstance (by decide +kernel) (pa_cons (pv 0) (pa_cons (pe_bltn (v := .ty "int") (by rfl) z_int (by decide +kernel) rfl) pa_nil))) (pe_one (pe_not (pe_callB call_isi (by rfl) z_isinstance (by decide +kernel) (pa_cons (pv 0) (pa_cons (pe_bltn (v := .ty "bool") (by rfl) z_bool (by decide +kernel) rfl) pa_nil)))))))), ?_⟩
    exact ⟨_, rfl, _, _, _, _, true, rfl, .ty "int", .base (.int i), kit_ty (by decide +kernel), true, rfl, _, rfl, _, _, _, _, false, rfl, .ty "bool", .base (.int i), kit_ty (by decide +kernel), false, rfl, q⟩
theorem ok_count (F : FnP K "is_count" sCount f fd) (o_is_whole : Ok P w K mg base "is_whole" 1 ["value"] spWhole) : FnOk P w K mg base CX0 2 f fd ["value"] spCount := by
  refine F.ok scCount (fun vs H Q E h => ?_) (fun cdv A outer s H vs Q E hr h => ?_)
  · obtain ⟨v, rfl, _⟩ := h
    rfl
  · obtain ⟨i, rfl, h0, q⟩ := h
    refine ⟨_, PSs.nox (pss_one (ps_ret (pe_and (pe_callO o_is_whole (hr.mono (by decide)) (by rfl) (pa_cons (pv 0) pa_nil)) (pe_one (pe_cmpR op_ge (pv 0) pe_int (nomark _)))))), ?_⟩
    refine ⟨_, rfl, _, rfl, true, rfl, _, rfl, _, _, rfl, rfl, ?_⟩
    show Q (.bl (decide (0 ≤ i))) H
    rw [decide_eq_true h0]
    exact q
theorem ok_isPoint (F : FnP K "is_point" sIsPoint f fd) (o_is_count : Ok P w K mg base "is_count" 2 ["value"] spCount) (z_isinstance : mg "isinstance" = none) (z_list : mg "list" = none) (z_len : mg "len" = none) (z_all : mg "all" = none) :
    FnOk P w K mg base CX0 3 f fd ["many", "value"] spIsPoint := by
  have nd := scIsPoint.nd
  refine F.ok scIsPoint (fun vs H Q E h => ?_) (fun cdv A outer s H vs Q E hr h => ?_)
  · obtain ⟨a, p, rfl, _⟩ := h
    rfl
  · obtain ⟨a, p, rfl, hf, h3, h0, q⟩ := h
    have hr2 : Room 2 (A.deeper (envOfC "is_point" (defScope sIsPoint) s.heap.objs.size f cdv)) := hr
    refine ⟨_, PSs.nox (pss_one (ps_ret (pe_and (pe_callB call_isi (by rfl) z_isinstance (by decide +kernel) (pa_cons (pv 1) (pa_cons (pe_bltn (v := .ty "list") (by rfl) z_list (by decide +kernel) rfl) pa_nil))) (pe_and (pe_cmpR op_eq (pe_callB call_len (by rfl) z_len boot_len (pa_cons (pv 1) pa_nil)) (pv 0) (nomark _)) (pe_one (pe_callB (cr_all rfl) (by rfl) z_all (by decide +kernel) (pa_cons
      (pe_lc (own := [("number", 2)]) (g := gName 2) (by rfl) nd (pi_list (pv 1)) (blkOk_by (N := ["many", "value", "number"]) (sc := defScope sIsPoint) (own := [("number", 2)]) (by decide +kernel)) (fun _ _ _ _ _ => pg_name (i := 2) nd rfl (Or.inl rfl)) (fun _ _ _ _ _ => pts_nil) (fun _ _ _ _ _ => pe_callO o_is_count hr2 (by rfl) (pa_cons (pv 2) pa_nil))) pa_nil))))))), ?_⟩
    refine ⟨_, rfl, _, _, _, _, true, rfl, .ty "list", .base (.lst hf), kit_ty (by decide +kernel), true, rfl, .ref a, rfl, _, (p.map V.int).length, rfl, .inl ⟨_, SqL.of hf, rfl⟩, _, rfl, rfl, true, ?_, ?_⟩
    · rw [List.length_map, decide_eq_true rfl]
    refine iteT ⟨_, rfl, a, rfl, ⟨_, SqL.of hf⟩, fun D nD => lc_list (K := K) (a := a) (xs := p.map V.int) (fun k H' => Same H H' ∧ H' D = some (.lst ((List.replicate k true).map V.bl))) ⟨same_new nD, upd_same⟩ (fun k H' _ p => SqL.of (p.1 _ _ hf)) ?_ ?_⟩
    · rintro k y H' hk ⟨sm, hD⟩
      have li : k < 3 := by
        have := (List.getElem?_eq_some_iff.mp hk).1
        rw [List.length_map] at this
        omega
      obtain ⟨x, hx, rfl⟩ := List.mem_map.mp (mem_at hk)
      refine ⟨rfl, ?_⟩
      refine ⟨_, rfl, x, rfl, h0 x hx, _, hD, ?_, fun b o e => ?_, ?_⟩
      · rw [List.length_map, List.length_replicate]
        exact small1000 (by omega)
      · rw [upd_ne (ne_of_none (H := H) e nD)]
        exact sm _ _ e
      · rw [upd_same, List.replicate_succ', List.map_append]
        rfl
    · rintro H' ⟨sm, hD⟩
      refine ⟨D, _, rfl, SqL.of hD, ?_⟩
      rw [rep_all]
      exact q H' sm
theorem ok_isLim (F : FnP K "is_limit" sIsLim f fd) (o_is_whole : Ok P w K mg base "is_whole" 1 ["value"] spWhole) (o_is_count : Ok P w K mg base "is_count" 2 ["value"] spCount) (z_isinstance : mg "isinstance" = none) (z_tuple : mg "tuple" = none) (z_len : mg "len" = none) :
    FnOk P w K mg base CX0 3 f fd ["value"] spIsLim := by
  refine F.ok scIsLim (fun vs H Q E h => ?_) (fun cdv A outer s H vs Q E hr h => ?_)
  · obtain ⟨v, l, rfl, _⟩ := h
    rfl
  · obtain ⟨v, l, rfl, ⟨a, rfl, hf⟩, h0, h1, q⟩ := h
    refine ⟨_, PSs.nox (pss_cons (ps_if (PW.pt (pw_or (pt_not (pt_val (pe_callB call_isi (by rfl) z_isinstance (by decide +kernel) (pa_cons (pv 0) (pa_cons (pe_bltn (v := .ty "tuple") (by rfl) z_tuple (by decide +kernel) rfl) pa_nil))))) (pw_or1 (pt_cmpR op_ne (pe_callB call_len (by rfl) z_len boot_len (pa_cons (pv 0) pa_nil)) pe_int (nomark _))))) (pss_one (ps_ret pe_bl)) pss_nil)
      (pss_one (ps_ret (pe_and (pe_callO o_is_count hr (by rfl) (pa_cons (pe_ix ix_tup (pv 0) pe_int (fun _ _ => rfl)) pa_nil)) (pe_and (pe_callO o_is_whole (hr.mono (by decide)) (by rfl) (pa_cons (pe_ix ix_tup (pv 0) pe_int (fun _ _ => rfl)) pa_nil)) (pe_one (pe_cmpR op_ge (pe_ix ix_tup (pv 0) pe_int (fun _ _ => rfl)) pe_int (nomark _)))))))), ?_⟩
    refine ⟨_, rfl, _, _, _, _, true, rfl, .ty "tuple", .base (.tup hf), kit_ty (by decide +kernel), true, rfl, iteF ⟨_, rfl, _, 2, rfl, .inr ⟨_, SqT.of hf, rfl⟩, rfl, false, rfl, iteF ?_⟩⟩
    refine ⟨_, rfl, a, _, _, _, rfl, rfl, SqT.of hf, rfl, _, rfl, h0, true, rfl, iteT ⟨_, rfl, a, _, _, _, rfl, rfl, SqT.of hf, rfl, _, rfl, true, rfl, iteT ⟨_, rfl, a, _, _, _, rfl, rfl, SqT.of hf, rfl, _, _, rfl, rfl, ?_⟩⟩⟩
    show Q (.bl (decide (1 ≤ l.2))) H
    rw [decide_eq_true h1]
    exact q
theorem ok_isLL (F : FnP K "is_list_of_limits" sIsLL f fd) (o_is_limit : Ok P w K mg base "is_limit" 3 ["value"] spIsLim) (z_isinstance : mg "isinstance" = none) (z_list : mg "list" = none) (z_len : mg "len" = none) (z_all : mg "all" = none) {tM : Tok} (h_M : mg "MOST_UNKNOWNS" = some (.int 3 tM)) :
    FnOk P w K mg base CX0 4 f fd ["value"] spIsLL := by
  have nd := scIsLL.nd
  refine F.ok scIsLL (fun vs H Q E h => ?_) (fun cdv A outer s H vs Q E hr h => ?_)
  · obtain ⟨a, L, rfl, _⟩ := h
    rfl
  · obtain ⟨a, L, rfl, ⟨xs, hf, hL⟩, ⟨h3, hb⟩, q⟩ := h
    have lx := hL.len
    have r3 : Room 3 (A.deeper (envOfC "is_list_of_limits" (defScope sIsLL) s.heap.objs.size f cdv)) := hr
    refine ⟨_, PSs.nox (pss_cons (ps_if (PW.pt (pw_or (pt_not (pt_val (pe_callB call_isi (by rfl) z_isinstance (by decide +kernel) (pa_cons (pv 0) (pa_cons (pe_bltn (v := .ty "list") (by rfl) z_list (by decide +kernel) rfl) pa_nil))))) (pw_or1 (pt_cmpR op_gt (pe_callB call_len (by rfl) z_len boot_len (pa_cons (pv 0) pa_nil)) (pe_glob (v := .int 3) (by rfl) h_M ⟨_, rfl⟩) (nomark _))))) (pss_one (ps_ret pe_bl)) pss_nil)
      (pss_one (ps_ret (pe_callB (cr_all rfl) (by rfl) z_all (by decide +kernel) (pa_cons
      (pe_lc (own := [("item", 1)]) (g := gName 1) (by rfl) nd (pi_list (pv 0)) (blkOk_by (N := ["value", "item"]) (sc := defScope sIsLL) (own := [("item", 1)]) (by decide +kernel)) (fun _ _ _ _ _ => pg_name (i := 1) nd rfl (Or.inl rfl)) (fun _ _ _ _ _ => pts_nil) (fun _ _ _ _ _ => pe_callO o_is_limit r3 (by rfl) (pa_cons (pv 1) pa_nil))) pa_nil))))), ?_⟩
    refine ⟨_, rfl, _, _, _, _, true, rfl, .ty "list", .base (.lst hf), kit_ty (by decide +kernel), true, rfl, iteF ⟨_, rfl, _, xs.length, rfl, .inl ⟨_, SqL.of hf, rfl⟩, _, _, rfl, rfl, false, ?_, iteF ?_⟩⟩
    · exact congrArg V.bl (decide_eq_false (by omega))
    refine ⟨_, rfl, a, rfl, ⟨_, SqL.of hf⟩, fun D nD => lc_list (K := K) (a := a) (xs := xs) (fun k H' => Same H H' ∧ H' D = some (.lst ((List.replicate k true).map V.bl))) ⟨same_new nD, upd_same⟩ (fun k H' _ p => SqL.of (p.1 _ _ hf)) ?_ ?_⟩
    · rintro k y H' hk ⟨sm, hD⟩
      have li : k < 3 := by
        have := (List.getElem?_eq_some_iff.mp hk).1
        omega
      obtain ⟨l, hl, il⟩ := (hL.keep sm).get hk
      obtain ⟨b0, _, b1, _⟩ := hb l (mem_at hl)
      refine ⟨rfl, ?_⟩
      refine ⟨_, rfl, y, l, rfl, il, b0, b1, _, hD, ?_, fun b o e => ?_, ?_⟩
      · rw [List.length_map, List.length_replicate]
        exact small1000 (by omega)
      · rw [upd_ne (ne_of_none (H := H) e nD)]
        exact sm _ _ e
      · rw [upd_same, List.replicate_succ', List.map_append]
        rfl
    · rintro H' ⟨sm, hD⟩
      refine ⟨D, _, rfl, SqL.of hD, ?_⟩
      rw [rep_all]
      exact q H' sm
theorem ok_how (F : FnP K "how_many_classes" sHow f fd) : FnOk P w K mg base CX0 1 f fd ["limits"] spHow := by
  have nd := scHow.nd
  refine F.ok scHow (fun vs H Q E h => ?_) (fun cdv A outer s H vs Q E hr h => ?_)
  · obtain ⟨a, L, rfl, _⟩ := h
    rfl
  · obtain ⟨a, L, rfl, ⟨xs, hf, hL⟩, ⟨h3, hb⟩, q⟩ := h
    have lx := hL.len
    refine ⟨_, PSs.nox (pss_cons (ps_set (i := 1) nd rfl (Or.inl rfl) pe_int)
      (pss_cons (ps_for PassesOwn.never rfl (pi_list (pv 0)) (pg_tup rfl (pgs_cons (pg_name (i := 2) nd rfl (Or.inl rfl)) (pgs_cons (pg_name (i := 3) nd rfl (Or.inl rfl)) pgs_nil)))
        (pss_one (ps_set (i := 1) nd rfl (Or.inl rfl) (pe_op op_mul (pv 1) (pe_op op_add (pv 2) (pv 3))))))
      (pss_one (ps_ret (pv 1))))), ?_⟩
    refine ⟨_, rfl, a, rfl, ⟨_, SqL.of hf⟩, for_list (K := K) (a := a) (xs := xs) (fun i σ H' => H' = H ∧ ∃ x y, σ = [some (.ref a), some (.int (many (L.take i))), x, y]) ⟨rfl, _, _, rfl⟩ (fun i σ H' _ p => p.1 ▸ SqL.of hf) ?_ ?_⟩
    · rintro i y σ H' hi ⟨rfl, x2, x3, rfl⟩
      obtain ⟨l, hl, ⟨t, rfl, ht⟩⟩ := hL.get hi
      obtain ⟨b0, b1, b2, b3⟩ := hb l (mem_at hl)
      refine ⟨t, _, rfl, SqT.of ht, rfl, _, _, rfl, _, _, rfl, rfl, _, rfl, _, rfl, _, rfl, _, _, rfl, rfl, _, _, rfl, rfl, mul_r (by omega) (by omega), rfl, some (.int l.1), some (.int l.2), ?_⟩
      show _ = [some (V.ref a), some (V.int (many (L.take (i + 1)))), some (V.int l.1), some (V.int l.2)]
      rw [show many (L.take (i + 1)) = many (L.take i) * (l.1 + l.2) from fold_take _ _ hl]
      rfl
    · rintro σ H' ⟨rfl, x2, x3, rfl⟩
      refine ⟨_, rfl, ?_⟩
      rw [lx, List.take_length]
      exact q
end
end KA
set_option Elab.async false
set_option linter.all false
set_option maxRecDepth 100000
set_option maxHeartbeats 4000000
namespace KA
open PySem PySem.Spec PyProof.Rows L2 XV
/-! ### the errors -/
def nmA (i : Nat) : Str := (["InvalidGrid", "Unlike", "TooMany"] : List Str).getD i "LoopError"
abbrev CA (K : PySem.W.Frag) (i : Nat) : Addr := He.ga K (nmA i)
structure ClA (P : Program) (w : World) (K : PySem.W.Frag) (mg : Str → Option Value) (base : Heap) : Prop where
  x : ∀ i, i < 3 → ∃ fI fd, XCls P w K mg base (nmA i) "value" (CA K i) fI fd
  g : ∀ i, i < 4 → mg (nmA i) = some (.ref (CA K i))
  e : ∀ i, i < 3 → ExcC K (CA K i)
  f : ∀ i, i < 3 → XF K (CA K i) "value"
  kit : ∀ i, i < 3 → ∀ j, j < 3 → PySem.W.kitOne K (.ref (CA K i)) (.ref (CA K j)) = some (decide (i = j))
  exm : ∀ i, i < 3 → PySem.W.exmOne K (.ref (CA K i)) (.ref (CA K 3)) = some true
  exm2 : PySem.W.exmOne K (.ref (CA K 2)) (.ref (CA K 2)) = some true
/-- the wish: an error of the class at C with the value v -/
def Rz (E : XK) (H : Hp) (C : Addr) (v : V) : Prop := ∀ (H' : Hp) (d : Addr), Same H H' → H' d = none → E (.ref C) (some d) (upd H' d (.xd [("value", v)]))
theorem Rz.at {E : XK} {H H1 : Hp} {C : Addr} {v : V} (h : Rz E H C v) (s : Same H H1) : Rz E H1 C v := fun H' d s1 n => h H' d (s.trans s1) n
/-! ### the class Grid -/
def tys : List String := ["NoneType", "int", "str", "list", "tuple"]
structure GT (K : PySem.W.Frag) (mg : Str → Option Value) (C : Addr) : Prop where
  ic : C8.InsC K C
  nF : NoAttr K C "_limits"
  g : mg "Grid" = some (.ref C)
  kt : ∀ T ∈ tys, PySem.W.kitOne K (.type T) (.ref C) = some false
  nf : ∀ T ∈ tys, PySem.W.notFirst K C (.type T) = true
theorem GT.ty {K : PySem.W.Frag} {mg : Str → Option Value} {C : Addr} (T : GT K mg C) {H : Hp} {a dx : Addr} {fs : List (Str × V)} (e : H a = some (.ins C dx fs)) : TyX K H (.ref a) (.ref C) := .base (.ins e T.ic.cl T.ic.ha T.ic.hn T.ic.htk T.ic.hm)
theorem GT.nC {K : PySem.W.Frag} {C : Addr} : PySem.W.notFirst K C (.ref C) = true := by
  unfold PySem.W.notFirst
  rw [beq_self_eq_true]
  rfl
/-- a grid stands at x -/
def Gr (C : Addr) (H : Hp) (x : Addr) (L : List Lim) : Prop := ∃ dx l, H x = some (.ins C dx [("_limits", .ref l)]) ∧ LL H l L
theorem Gr.keep {C : Addr} {H H' : Hp} (s : Same H H') {x : Addr} {L : List Lim} (h : Gr C H x L) : Gr C H' x L := by
  obtain ⟨dx, l, e, r⟩ := h
  exact ⟨dx, l, s _ _ e, r.keep s⟩
theorem dr_neI {H : Hp} {g a : Addr} {n : Nat} {C dx : Addr} {fs : List (Str × V)} (d : Dr H g n) (h : H a = some (.ins C dx fs)) : a ≠ g := by
  rintro rfl
  obtain ⟨x, y, z, e, _⟩ := d
  rw [e] at h
  cases h
theorem Gr.but {C : Addr} {H H' : Hp} {g x : Addr} {n : Nat} {L : List Lim} (d : Dr H g n) (b : But H H' g) (h : Gr C H x L) : Gr C H' x L := by
  obtain ⟨dx, l, e, r⟩ := h
  exact ⟨dx, l, b _ _ (dr_neI d e) e, r.but d b⟩
theorem lk_l (v : V) : List.lookup ("_limits" : Str) [("_limits", v)] = some v := by simp [List.lookup]
theorem lk_no {m : Str} (v : V) (h : (m == ("_limits" : Str)) = false) : List.lookup m [(("_limits" : Str), v)] = none := by simp [List.lookup, h]
/-! ### == of lists of limits -/
def limD (l : Lim) : PyData := .tuple [.int l.1, .int l.2]
def LD (L : List Lim) : PyData := .list (L.map limD)
theorem lay_L : ∀ L : List Lim, PyData.canLayAll0 (L.map limD) = true
  | [] => by simp [PyData.canLayAll0]
  | l :: L => by
    have ih := lay_L L
    simp [PyData.canLayAll0, PyData.canLay0, limD, ih]
theorem depth_L : ∀ L : List Lim, PyData.depthAll (L.map limD) ≤ 1
  | [] => by simp [PyData.depthAll]
  | l :: L => by
    have ih := depth_L L
    simp only [List.map_cons, PyData.depthAll, limD, PyData.depth]
    omega
theorem shaped_L (L : List Lim) : SeqAt.shaped (LD L) = true := by
  have h := depth_L L
  have e : (LD L).depth ≤ 64 := by
    simp only [LD, PyData.depth]
    omega
  have e2 : (LD L).canLay0 = true := by
    simp only [LD, PyData.canLay0]
    exact lay_L L
  unfold SeqAt.shaped
  rw [e2, decide_eq_true e]
  rfl
theorem eqv_l (l m : Lim) : PyData.eqv (limD l) (limD m) = decide (l = m) := by
  obtain ⟨a, b⟩ := l
  obtain ⟨c, d⟩ := m
  simp only [limD, PyData.eqv, PyData.eqvAll, Prod.mk.injEq, Bool.and_true]
  by_cases h1 : a = c <;> by_cases h2 : b = d <;> simp [h1, h2]
theorem eqv_A : ∀ L M : List Lim, PyData.eqvAll (L.map limD) (M.map limD) = decide (L = M)
  | [], [] => by simp [PyData.eqvAll]
  | [], m :: M => by simp [PyData.eqvAll]
  | l :: L, [] => by simp [PyData.eqvAll]
  | l :: L, m :: M => by
    have ih := eqv_A L M
    simp only [List.map_cons, PyData.eqvAll, ih, eqv_l, List.cons.injEq]
    by_cases h1 : l = m <;> by_cases h2 : L = M <;> simp [h1, h2]
theorem eqv_L (L M : List Lim) : PyData.eqv (LD L) (LD M) = decide (L = M) := by
  show PyData.eqv (.list _) (.list _) = _
  simp only [PyData.eqv]
  exact eqv_A L M
theorem Lims.dp {K : PySem.W.Frag} {H : Hp} : ∀ {xs : List V} {L : List Lim}, Lims H xs L → DpAll K H xs (L.map limD)
  | _, _, .nil => .nil
  | _, _, .cons h r => .cons (by
      obtain ⟨a, rfl, t⟩ := h
      exact .tup (SqT.of t) (.cons (.int _) (.cons (.int _) .nil))) (Lims.dp r)
theorem LL.dp {K : PySem.W.Frag} {H : Hp} {a : Addr} {L : List Lim} (h : LL H a L) : Dp K H (.ref a) (LD L) := by
  obtain ⟨xs, e, r⟩ := h
  exact .lst (SqL.of e) r.dp
abbrev sInit : Stmt := inClass (top 15) 0
abbrev sMany : Stmt := inClass (top 15) 1
abbrev sLimits : Stmt := inClass (top 15) 2
abbrev sEq : Stmt := inClass (top 15) 3
abbrev sReqGrid : Stmt := top 24
abbrev sReqLike : Stmt := top 26
abbrev FnM (K : PySem.W.Frag) (m q : Str) (st : Stmt) (f : Addr) (fd : FuncData) : Prop := FunD K m q (defArgs st) (defBody st) (defScope st) [] [] f fd
theorem scInit : FnScope ["self", "limits"] ["self", "limits"] (defScope sInit) := ⟨rfl, rfl, rfl, by decide +kernel, rfl, by decide +kernel, by decide +kernel⟩
theorem scMany : FnScope ["self"] ["self"] (defScope sMany) := ⟨rfl, rfl, rfl, by decide +kernel, rfl, by decide +kernel, by decide +kernel⟩
theorem scLimits : FnScope ["self"] ["self"] (defScope sLimits) := ⟨rfl, rfl, rfl, by decide +kernel, rfl, by decide +kernel, by decide +kernel⟩
theorem scEq : FnScope ["self", "other"] ["self", "other"] (defScope sEq) := ⟨rfl, rfl, rfl, by decide +kernel, rfl, by decide +kernel, by decide +kernel⟩
theorem scReqGrid : FnScope ["grid"] ["grid"] (defScope sReqGrid) := ⟨rfl, rfl, rfl, by decide +kernel, rfl, by decide +kernel, by decide +kernel⟩
theorem scReqLike : FnScope ["one", "other"] ["one", "other"] (defScope sReqLike) := ⟨rfl, rfl, rfl, by decide +kernel, rfl, by decide +kernel, by decide +kernel⟩
def spInit (K : PySem.W.Frag) (C : Addr) : Sp := fun vs H Q E => ∃ (x dx a : Addr) (L : List Lim), vs = [.ref x, .ref a] ∧ H x = some (.ins C dx []) ∧ LL H a L ∧ Lok L ∧
  (many L ≤ 600 → ∀ (H' : Hp), (∀ b o, b ≠ x → H b = some o → H' b = some o) → Gr C H' x L → Q .non H') ∧ (600 < many L → Rz E H (CA K 2) (.int (many L)))
def spMany (C : Addr) : Sp := fun vs H Q _ => ∃ (x : Addr) (L : List Lim), vs = [.ref x] ∧ Gr C H x L ∧ Q (.int (L.length : Int)) H
def spLimits (C : Addr) : Sp := fun vs H Q _ => ∃ (x : Addr) (L : List Lim), vs = [.ref x] ∧ Gr C H x L ∧ ∀ (H' : Hp) (p : Addr), Same H H' → H p = none → LL H' p L → Q (.ref p) H'
/-- no grid -/
def NoG (K : PySem.W.Frag) (H : Hp) (v : V) : Prop := ∃ T ∈ tys, TyX K H v (.type T)
def spEq (K : PySem.W.Frag) (C : Addr) : Sp := fun vs H Q _ => ∃ (x : Addr) (y : V) (L : List Lim), vs = [.ref x, y] ∧ Gr C H x L ∧ ((∃ y' M, y = .ref y' ∧ Gr C H y' M ∧ Q (.bl (decide (L = M))) H) ∨ (NoG K H y ∧ Q (.bl false) H))
def spReqGrid (K : PySem.W.Frag) (C : Addr) : Sp := fun vs H Q E => ∃ v, vs = [v] ∧ ((∃ x L, v = .ref x ∧ Gr C H x L ∧ Q .non H) ∨ (NoG K H v ∧ Rz E H (CA K 0) v))
def spReqLike (K : PySem.W.Frag) (C : Addr) : Sp := fun vs H Q E => ∃ u v, vs = [u, v] ∧ ((NoG K H u ∧ Rz E H (CA K 0) u) ∨ (∃ x L, u = .ref x ∧ Gr C H x L ∧ ((NoG K H v ∧ Rz E H (CA K 0) v) ∨ ∃ y M, v = .ref y ∧ Gr C H y M ∧ ((L.length = M.length ∧ Q .non H) ∨ (L.length ≠ M.length ∧ Rz E H (CA K 1) v)))))
section
variable {P : Program} {w : World} {K : PySem.W.Frag} {mg : Str → Option Value} {base : Heap} {f : Addr} {fd : FuncData} {C : Addr}
theorem ok_init (F : FnM K "__init__" "Grid.__init__" sInit f fd) (T : GT K mg C) (Z : ClA P w K mg base) (o_isLL : Ok P w K mg base "is_list_of_limits" 4 ["value"] spIsLL) (o_how : Ok P w K mg base "how_many_classes" 1 ["limits"] spHow) (z_list : mg "list" = none) {tM : Tok} (h_M : mg "MOST_CLASSES" = some (.int 600 tM)) :
    FnOk P w K mg base (L2.CX P w) 5 f fd ["self", "limits"] (spInit K C) := by
  refine F.ok scInit (fun vs H Q E h => ?_) (fun cdv A outer s H vs Q E hr h => ?_)
  · obtain ⟨x, dx, a, L, rfl, _⟩ := h
    rfl
  · obtain ⟨x, dx, a, L, rfl, hx, hL, hok, q, r⟩ := h
    obtain ⟨fI, fdI, XT⟩ := Z.x 2 (by decide)
    have XT : XCls P w K mg base "TooMany" "value" (CA K 2) fI fdI := XT
    have r2 : Room 2 (A.deeper (envOfC "Grid.__init__" (defScope sInit) s.heap.objs.size f cdv)) := hr.mono (by decide)
    have r1 : Room 1 (A.deeper (envOfC "Grid.__init__" (defScope sInit) s.heap.objs.size f cdv)) := hr.mono (by decide)
    refine ⟨_, pss_cons (ps_if (pt_not (pt_val (pe_callO o_isLL hr (by rfl) (pa_cons (pv 1) pa_nil)))) (pss_one ps_never) pss_nil)
      (pss_cons (ps_if (pt_cmpR op_gt (pe_callO o_how r1 (by rfl) (pa_cons (pv 1) pa_nil)) (pe_glob (v := .int 600) (by rfl) h_M ⟨_, rfl⟩) (nomark _)) (pss_one (ps_raiseX (nm := "TooMany") rfl XT r2 (takes_of rfl rfl rfl rfl) (by rfl) (pe_callO o_how r1 (by rfl) (pa_cons (pv 1) pa_nil)))) pss_nil)
      (pss_one (ps_fld (pv 0) (pe_callTy call_list_of (by rfl) z_list (by decide +kernel) (pa_cons (pv 1) pa_nil)) rfl))), ?_⟩
    refine ⟨_, rfl, a, L, rfl, hL, hok, fun H1 s1 => ⟨true, rfl, iteF ?_⟩⟩
    have hL1 := hL.keep s1
    have hx1 := s1 _ _ hx
    refine ⟨_, rfl, a, L, rfl, hL1, hok, _, _, rfl, rfl, _, rfl, ite2 (fun c => ?_) (fun c => ?_)⟩
    · have c : 600 < many L := of_decide_eq_true c
      exact ⟨_, rfl, a, L, rfl, hL1, hok, fun d nd => r c H1 d s1 nd⟩
    · have c : many L ≤ 600 := Int.not_lt.mp fun z => c (decide_eq_true z)
      obtain ⟨xs, hl, hr1⟩ := hL1
      refine ⟨_, rfl, a, xs, rfl, .inl (SqL.of hl), fun l nl => ?_⟩
      have s2 := same_new (o := .lst xs) nl
      have nx : x ≠ l := ne_of_none hx1 nl
      refine ⟨_, rfl, x, C, dx, _, rfl, s2 _ _ hx1, T.ic.cl, T.nF, (by show 0 < 1000; decide), ?_⟩
      refine q c _ (fun b o nb e => ?_) ⟨dx, l, upd_same, xs, ?_, ?_⟩
      · rw [upd_ne nb]
        exact s2 _ _ (s1 _ _ e)
      · rw [upd_ne (Ne.symm nx)]
        exact upd_same
      · have hr2 := hr1.keep s2
        clear hr1
        generalize upd H1 l (.lst xs) = H2 at *
        have hx2 := s2 _ _ hx1
        have key : ∀ {xs : List V} {L : List Lim}, Lims H2 xs L → Lims (upd H2 x (.ins C dx (putF "_limits" (.ref l) []))) xs L := by
          intro xs L h
          induction h with
          | nil => exact .nil
          | cons h _ ih =>
            obtain ⟨t, e, ht⟩ := h
            refine .cons ⟨t, e, ?_⟩ ih
            rw [upd_ne (ne_of ht hx2 (by intro z; cases z))]
            exact ht
        exact key hr2
theorem ok_many (F : FnM K "many" "Grid.many" sMany f fd) (T : GT K mg C) (z_len : mg "len" = none) : FnOk P w K mg base CX0 1 f fd ["self"] (spMany C) := by
  refine F.ok scMany (fun vs H Q E h => ?_) (fun cdv A outer s H vs Q E hr h => ?_)
  · obtain ⟨x, L, rfl, _⟩ := h
    rfl
  · obtain ⟨x, L, rfl, ⟨dx, l, hx, xs, hl, hL⟩, q⟩ := h
    refine ⟨_, PSs.nox (pss_one (ps_ret (pe_callB call_len (by rfl) z_len boot_len (pa_cons (pe_fld (pv 0) rfl) pa_nil)))), ?_⟩
    exact ⟨_, rfl, x, C, dx, _, _, rfl, hx, T.ic.cl, T.nF, lk_l _, _, L.length, rfl, .inl ⟨_, SqL.of hl, hL.len.symm⟩, q⟩
theorem ok_limits (F : FnM K "limits" "Grid.limits" sLimits f fd) (T : GT K mg C) (z_list : mg "list" = none) : FnOk P w K mg base CX0 1 f fd ["self"] (spLimits C) := by
  refine F.ok scLimits (fun vs H Q E h => ?_) (fun cdv A outer s H vs Q E hr h => ?_)
  · obtain ⟨x, L, rfl, _⟩ := h
    rfl
  · obtain ⟨x, L, rfl, ⟨dx, l, hx, xs, hl, hL⟩, q⟩ := h
    refine ⟨_, PSs.nox (pss_one (ps_ret (pe_callTy call_list_of (by rfl) z_list (by decide +kernel) (pa_cons (pe_fld (pv 0) rfl) pa_nil)))), ?_⟩
    exact ⟨_, rfl, x, C, dx, _, _, rfl, hx, T.ic.cl, T.nF, lk_l _, l, xs, rfl, .inl (SqL.of hl), fun p np => q _ p (same_new np) np ⟨xs, upd_same, hL.keep (same_new np)⟩⟩
theorem ok_eq (F : FnM K "__eq__" "Grid.__eq__" sEq f fd) (T : GT K mg C) (z_isinstance : mg "isinstance" = none) : FnOk P w K mg base CX0 1 f fd ["self", "other"] (spEq K C) := by
  refine F.ok scEq (fun vs H Q E h => ?_) (fun cdv A outer s H vs Q E hr h => ?_)
  · obtain ⟨x, y, L, rfl, _⟩ := h
    rfl
  · obtain ⟨x, y, L, rfl, ⟨dx, l, hx, hL⟩, h⟩ := h
    have hu := hr.units
    refine ⟨_, PSs.nox (pss_one (ps_ret (pe_and (pe_callB call_isi (by rfl) z_isinstance (by decide +kernel) (pa_cons (pv 1) (pa_cons (pe_glob (v := .ref C) (by rfl) T.g rfl) pa_nil))) (pe_one (pe_cmpR (op_eqD hu) (pe_fld (pv 0) rfl) (pe_fld (pv 1) rfl) (nomark _)))))), ?_⟩
    rcases h with ⟨y', M, rfl, ⟨dy, m, hy, hM⟩, q⟩ | ⟨⟨T', hT, ty⟩, q⟩
    · refine ⟨_, rfl, _, _, _, _, true, rfl, .own C, T.ty hy, T.ic.me, true, rfl, iteT ⟨_, rfl, x, C, dx, _, _, rfl, hx, T.ic.cl, T.nF, lk_l _, _, rfl, y', C, dy, _, _, rfl, hy, T.ic.cl, T.nF, lk_l _, LD L, LD M, hL.dp, hM.dp, shaped_L L, shaped_L M, ?_⟩⟩
      rw [eqv_L]
      exact q
    · exact ⟨_, rfl, _, _, _, _, false, rfl, .own C, ty, T.kt T' hT, false, rfl, iteF q⟩
theorem ok_reqGrid (F : FnP K "require_grid" sReqGrid f fd) (T : GT K mg C) (Z : ClA P w K mg base) (z_isinstance : mg "isinstance" = none) : FnOk P w K mg base (L2.CX P w) 3 f fd ["grid"] (spReqGrid K C) := by
  refine F.ok scReqGrid (fun vs H Q E h => ?_) (fun cdv A outer s H vs Q E hr h => ?_)
  · obtain ⟨v, rfl, _⟩ := h
    rfl
  · obtain ⟨v, rfl, h⟩ := h
    obtain ⟨fI, fdI, XT⟩ := Z.x 0 (by decide)
    have XT : XCls P w K mg base "InvalidGrid" "value" (CA K 0) fI fdI := XT
    refine ⟨_, pss_one (ps_if (pt_not (pt_val (pe_callB call_isi (by rfl) z_isinstance (by decide +kernel) (pa_cons (pv 0) (pa_cons (pe_glob (v := .ref C) (by rfl) T.g rfl) pa_nil))))) (pss_one (ps_raiseX (nm := "InvalidGrid") rfl XT hr (takes_of rfl rfl rfl rfl) (by rfl) (pv 0))) pss_nil), ?_⟩
    rcases h with ⟨x, L, rfl, ⟨dx, l, hx, hL⟩, q⟩ | ⟨⟨T', hT, ty⟩, r⟩
    · exact ⟨_, rfl, _, _, _, _, true, rfl, .own C, T.ty hx, T.ic.me, true, rfl, iteF q⟩
    · exact ⟨_, rfl, _, _, _, _, false, rfl, .own C, ty, T.kt T' hT, false, rfl, iteT ⟨_, rfl, fun d nd => r H d (Same.refl _) nd⟩⟩
end
end KA
set_option Elab.async false
set_option linter.all false
set_option maxRecDepth 100000
set_option maxHeartbeats 4000000
namespace XV
open PySem PySem.Spec PyProof.Rows L2
/-- a comprehension over zip of two lists of one length -/
theorem lc_zipL {K : PySem.W.Frag} {a b : Addr} {xs ys : List V} {g : TG} {tt : TT} {te : TE} {vs : List Nat} {σ : L2.St} {H1 : Hp} {D : Addr} {Qd : Hp → Prop} (hl : xs.length = ys.length) (Pv : Nat → Hp → Prop) (h0 : Pv 0 (upd H1 D (.lst [])))
    (hq : ∀ i H, Pv i H → SqL K H a xs ∧ SqL K H b ys)
    (hs : ∀ (i : Nat) (x y : V) (T : Addr) (H : Hp), xs[i]? = some x → ys[i]? = some y → Pv i H → H T = none → g (.ref T) (wipe σ vs) (upd H T (.tup [x, y])) fun σ2 H2 => wipe σ2 vs = wipe σ vs ∧ tt σ2 H2 fun c H3 =>
      if c = true then te σ2 H3 fun r H4 => ∃ acc, H4 D = some (.lst acc) ∧ acc.length < sizeLine ∧ Pv (i + 1) (upd H4 D (.lst (acc ++ [r]))) else Pv (i + 1) H3)
    (hd : ∀ H, Pv xs.length H → Qd H) :
    ∃ W : Nat → Nat → Hp → Prop, (∃ m, W 0 m (upd H1 D (.lst []))) ∧ ∀ i m H, W i m H →
      ((Itz K a b).stop i H ∧ Qd H) ∨ ((Itz K a b).go i H ∧ ∃ Nx : Hp → Prop, (∀ H', Nx H' → ∃ m', m' < m ∧ W (i + 1) m' H') ∧ ∀ x H', (Itz K a b).yld i H x H' → g x (wipe σ vs) H' fun σ2 H2 => wipe σ2 vs = wipe σ vs ∧ tt σ2 H2 fun c H3 =>
        if c = true then te σ2 H3 fun r H4 => ∃ acc, H4 D = some (.lst acc) ∧ acc.length < sizeLine ∧ Nx (upd H4 D (.lst (acc ++ [r]))) else Nx H3) := by
  refine ⟨fun i m H => m + i = xs.length ∧ Pv i H, ⟨xs.length, rfl, h0⟩, ?_⟩
  rintro i m H ⟨em, p⟩
  obtain ⟨q1, q2⟩ := hq i H p
  cases m with
  | zero =>
    have e : i = xs.length := by omega
    subst e
    exact .inl ⟨⟨xs, ys, q1, q2, .inl (Nat.le_refl _)⟩, hd H p⟩
  | succ m =>
    have l1 : i < xs.length := by omega
    have l2 : i < ys.length := by omega
    have g1 := List.getElem?_eq_getElem l1
    have g2 := List.getElem?_eq_getElem l2
    refine .inr ⟨⟨xs, ys, _, _, q1, q2, g1, g2⟩, Pv (i + 1), fun H' p' => ⟨m, Nat.lt_succ_self m, by omega, p'⟩, ?_⟩
    rintro v H' ⟨T, x, y, rfl, nT, rfl, f1, f2⟩
    exact hs i x y T H (f1 xs q1) (f2 ys q2) p nT
end XV
namespace KA
open PySem PySem.Spec PyProof.Rows L2 XV
/-! ### what is computed -/
def cls1 (l : Lim) (c : Int) : Int := if c < l.1 then c else l.1 + (c - l.1) % l.2
def clsL (L : List Lim) (p : List Int) : List Int := List.zipWith cls1 L p
def ref1 (l m : Lim) : Bool := decide (m.1 ≤ l.1) && decide (l.2 % m.2 = 0)
def refB (L M : List Lim) : Bool := (List.zipWith ref1 L M).all id
def meet1 (l m : Lim) : Lim := (if m.1 > l.1 then m.1 else l.1, ((Nat.lcm l.2.natAbs m.2.natAbs : Nat) : Int))
def meetL (L M : List Lim) : List Lim := List.zipWith meet1 L M
theorem zip_get {α β γ : Type} {f : α → β → γ} {xs : List α} {ys : List β} {i : Nat} {x : α} {y : β} (hx : xs[i]? = some x) (hy : ys[i]? = some y) : (List.zipWith f xs ys)[i]? = some (f x y) := by
  rw [List.getElem?_zipWith, hx, hy]
theorem zip_len {α β γ : Type} {f : α → β → γ} {xs : List α} {ys : List β} (h : xs.length = ys.length) : (List.zipWith f xs ys).length = xs.length := by
  rw [List.length_zipWith, h, Nat.min_self]
theorem take_all {α : Type} {xs : List α} {n : Nat} (h : xs.length = n) : xs.take n = xs := by rw [← h, List.take_length]
/-- two arguments that should be grids for as many unknowns -/
def Two (K : PySem.W.Frag) (C : Addr) (H : Hp) (u v : V) (E : XK) (R : List Lim → List Lim → Prop) : Prop := (NoG K H u ∧ Rz E H (CA K 0) u) ∨ ∃ x L, u = .ref x ∧ Gr C H x L ∧ ((NoG K H v ∧ Rz E H (CA K 0) v) ∨
  ∃ y M, v = .ref y ∧ Gr C H y M ∧ ((L.length = M.length ∧ R L M) ∨ (L.length ≠ M.length ∧ Rz E H (CA K 1) v)))
abbrev sClassOf : Stmt := top 16
abbrev sRefines : Stmt := top 17
abbrev sMeeting : Stmt := top 18
abbrev sMeetLim : Stmt := top 21
abbrev sClsCount : Stmt := top 23
abbrev sReqPt : Stmt := top 25
theorem scClassOf : FnScope ["grid", "point", "limit", "count"] ["grid", "point"] (defScope sClassOf) := ⟨rfl, rfl, rfl, by decide +kernel, rfl, by decide +kernel, by decide +kernel⟩
theorem scRefines : FnScope ["one", "other", "limit", "wide"] ["one", "other"] (defScope sRefines) := ⟨rfl, rfl, rfl, by decide +kernel, rfl, by decide +kernel, by decide +kernel⟩
theorem scMeeting : FnScope ["one", "other"] ["one", "other"] (defScope sMeeting) := ⟨rfl, rfl, rfl, by decide +kernel, rfl, by decide +kernel, by decide +kernel⟩
theorem scMeetLim : FnScope ["one", "other", "limit", "mate"] ["one", "other"] (defScope sMeetLim) := ⟨rfl, rfl, rfl, by decide +kernel, rfl, by decide +kernel, by decide +kernel⟩
theorem scClsCount : FnScope ["limit", "count", "threshold", "period"] ["limit", "count"] (defScope sClsCount) := ⟨rfl, rfl, rfl, by decide +kernel, rfl, by decide +kernel, by decide +kernel⟩
theorem scReqPt : FnScope ["grid", "point"] ["grid", "point"] (defScope sReqPt) := ⟨rfl, rfl, rfl, by decide +kernel, rfl, by decide +kernel, by decide +kernel⟩
def spLike (K : PySem.W.Frag) (C : Addr) : Sp := fun vs H Q E => ∃ u v, vs = [u, v] ∧ Two K C H u v E fun _ _ => Q .non H
def spRefines (K : PySem.W.Frag) (C : Addr) : Sp := fun vs H Q E => ∃ u v, vs = [u, v] ∧ Two K C H u v E fun L M => Lok L ∧ Lok M ∧ ∀ H', Same H H' → Q (.bl (refB L M)) H'
def spMeeting (K : PySem.W.Frag) (C : Addr) : Sp := fun vs H Q E => ∃ u v, vs = [u, v] ∧ Two K C H u v E fun L M => Lok L ∧ Lok M ∧ Lok (meetL L M) ∧
  (many (meetL L M) ≤ 600 → ∀ (H' : Hp) (z : Addr), Same H H' → H z = none → Gr C H' z (meetL L M) → Q (.ref z) H') ∧ (600 < many (meetL L M) → Rz E H (CA K 2) (.int (many (meetL L M))))
def spClsCount : Sp := fun vs H Q _ => ∃ (v : V) (l : Lim) (c : Int), vs = [v, .int c] ∧ IsLim H v l ∧ 1 ≤ l.2 ∧ Q (.int (cls1 l c)) H
def spReqPt (C : Addr) : Sp := fun vs H Q _ => ∃ (x a : Addr) (L : List Lim) (p : List Int), vs = [.ref x, .ref a] ∧ Gr C H x L ∧ H a = some (.lst (p.map V.int)) ∧ L.length = p.length ∧ p.length ≤ 3 ∧ (∀ y ∈ p, 0 ≤ y) ∧ ∀ H', Same H H' → Q .non H'
def spClassOf (C : Addr) : Sp := fun vs H Q _ => ∃ (x a : Addr) (L : List Lim) (p : List Int), vs = [.ref x, .ref a] ∧ Gr C H x L ∧ Lok L ∧ H a = some (.lst (p.map V.int)) ∧ L.length = p.length ∧ (∀ y ∈ p, 0 ≤ y) ∧
  ∀ (H' : Hp) (r : Addr), Same H H' → H' r = some (.lst ((clsL L p).map V.int)) → Q (.ref r) H'
def spMeetLim : Sp := fun vs H Q _ => ∃ (a b : Addr) (L M : List Lim), vs = [.ref a, .ref b] ∧ LL H a L ∧ LL H b M ∧ L.length = M.length ∧ Lok L ∧ Lok M ∧ ∀ (H' : Hp) (r : Addr), Same H H' → LL H' r (meetL L M) → Q (.ref r) H'
/-! ### methods, the making -/
structure OkMt (P : Program) (w : World) (K : PySem.W.Frag) (mg : Str → Option Value) (base : Heap) (C : Addr) (m : Str) (sp : Sp) : Prop where
  ex : ∃ f fd, FnOk P w K mg base CX0 1 f fd ["self"] sp ∧ Meth K C m f ∧ Binds K fd ["self"] []
structure OkMk (P : Program) (w : World) (K : PySem.W.Frag) (mg : Str → Option Value) (base : Heap) (C : Addr) : Prop where
  ex : ∃ f fd, Mk K C f ∧ FnOk P w K mg base (L2.CX P w) 5 f fd ["self", "limits"] (spInit K C) ∧ Binds K fd ["self", "limits"] [] ∧ mg "Grid" = some (.ref C)
theorem same_two {H : Hp} {x dx : Addr} {o u : HO} (nx : H x = none) (ndx : H dx = none) (ne : dx ≠ x) : Same H (upd (upd H dx o) x u) :=
  (same_new ndx).trans (same_new (by
    rw [upd_ne (Ne.symm ne)]
    exact nx))
section
variable {X : Cx} {C : Addr} {e : Expr} {te : TE} {apos pos p : Pos} {t : TA}
theorem pe_many {pl : Sem Bool} (o : OkMt X.prog X.w X.K X.mg X.base C "many" (spMany C)) (T : GT X.K X.mg C) (he : PE X e te) (hr : Room 1 X.A) (ht : eval (.Call (.Attribute e "many" apos) [] [] pos) X.env = (do
      let ov ← eval e X.env
      standAt apos.atName
      let (f, first) ← holding [ov] (getMethod ov "many" pl)
      callWith pos f first (backTo pos (starEach [] X.env)) (backToKw pos (keywordEach [] X.env))) := by rfl) :
    PE X (.Call (.Attribute e "many" apos) [] [] pos) (fun σ H Q => te σ H fun x H1 => ∃ a L, x = .ref a ∧ Gr C H1 a L ∧ Q (.int (L.length : Int)) H1) := by
  obtain ⟨f, fd, F, hm, b⟩ := o.ex
  refine PE.le (pe_meth0 (pl := pl) (pe_mono he) T.ic.cl hm F hr b .nil pass0 ht) fun σ H Q h => ⟨_, h, ?_⟩
  rintro x H1 ⟨a, L, rfl, hg, q⟩
  obtain ⟨dx, l, hx, hL⟩ := id hg
  exact ⟨a, dx, _, rfl, hx, lk_no _ (by decide +kernel), a, L, rfl, hg, q⟩
theorem pe_limits {pl : Sem Bool} (o : OkMt X.prog X.w X.K X.mg X.base C "limits" (spLimits C)) (T : GT X.K X.mg C) (he : PE X e te) (hr : Room 1 X.A) (ht : eval (.Call (.Attribute e "limits" apos) [] [] pos) X.env = (do
      let ov ← eval e X.env
      standAt apos.atName
      let (f, first) ← holding [ov] (getMethod ov "limits" pl)
      callWith pos f first (backTo pos (starEach [] X.env)) (backToKw pos (keywordEach [] X.env))) := by rfl) :
    PE X (.Call (.Attribute e "limits" apos) [] [] pos) (fun σ H Q => te σ H fun x H1 => ∃ a L, x = .ref a ∧ Gr C H1 a L ∧ ∀ (H' : Hp) (p : Addr), Same H1 H' → H1 p = none → LL H' p L → Q (.ref p) H') := by
  obtain ⟨f, fd, F, hm, b⟩ := o.ex
  refine PE.le (pe_meth0 (pl := pl) (pe_mono he) T.ic.cl hm F hr b .nil pass0 ht) fun σ H Q h => ⟨_, h, ?_⟩
  rintro x H1 ⟨a, L, rfl, hg, q⟩
  obtain ⟨dx, l, hx, hL⟩ := id hg
  exact ⟨a, dx, _, rfl, hx, lk_no _ (by decide +kernel), a, L, rfl, hg, q⟩
/-- Grid(e) where nothing is raised -/
theorem pe_mk {T : GT X.K X.mg C} (o : OkMk X.prog X.w X.K X.mg X.base C) (hr : Room 6 X.A) (hg : Gl X "Grid") (he : PE X e te) (hs : starEach (e :: []) X.env = (false, eval e X.env) :: starEach [] X.env := by rfl) (hpl : (backTo pos (starEach [] X.env)).any (·.1) = false := by rfl) :
    PE X (.Call (.Name "Grid" p) [e] [] pos) (fun σ H Q => te σ H fun v H1 => ∃ a L, v = .ref a ∧ LL H1 a L ∧ Lok L ∧ many L ≤ 600 ∧ ∀ (H' : Hp) (z : Addr), Same H1 H' → H1 z = none → Gr C H' z L → Q (.ref z) H') := by
  obtain ⟨f, fd, M, F, b, g⟩ := o.ex
  refine PE.le (pe_make M (FnOk.calm F) hr hg g b .nil pass0 (pa_cons (pe_mono he) pa_nil hs) (by decide) hs hpl) fun σ H Q h => ⟨_, h, ?_⟩
  rintro v H1 ⟨a, L, rfl, hL, hok, h6, q⟩
  intro x dx nx ndx ne
  have s := same_two (o := .own x) (u := .ins C dx []) nx ndx ne
  refine ⟨x, dx, a, L, rfl, upd_same, hL.keep s, hok, fun _ H' bt hG => ⟨rfl, q H' x (fun b' o e => ?_) nx hG⟩, fun z => absurd h6 (by omega)⟩
  exact bt _ _ (ne_of_none e nx) (s _ _ e)
/-- Grid(e) in a def that lets out what it raises -/
theorem pe_mkX {E : XK} {T : GT X.K X.mg C} (o : OkMk X.prog X.w X.K X.mg X.base C) (tk : Takes X fun cls d _ H => E cls d H) (hr : Room 6 X.A) (hg : Gl X "Grid") (he : PE X e te) (hs : starEach (e :: []) X.env = (false, eval e X.env) :: starEach [] X.env := by rfl) (hpl : (backTo pos (starEach [] X.env)).any (·.1) = false := by rfl) :
    PE X (.Call (.Name "Grid" p) [e] [] pos) (fun σ H Q => te σ H fun v H1 => ∃ a L, v = .ref a ∧ LL H1 a L ∧ Lok L ∧ (many L ≤ 600 → ∀ (H' : Hp) (z : Addr), Same H1 H' → H1 z = none → Gr C H' z L → Q (.ref z) H') ∧ (600 < many L → Rz E H1 (CA X.K 2) (.int (many L)))) := by
  obtain ⟨f, fd, M, F, b, g⟩ := o.ex
  refine PE.le (pe_make M F hr hg g b .nil (passes_call tk fun _ _ _ _ h => h) (pa_cons (pe_mono he) pa_nil hs) (by decide) hs hpl) fun σ H Q h => ⟨_, h, ?_⟩
  rintro v H1 ⟨a, L, rfl, hL, hok, q, r⟩
  intro x dx nx ndx ne
  have s := same_two (o := .own x) (u := .ins C dx []) nx ndx ne
  refine ⟨x, dx, a, L, rfl, upd_same, hL.keep s, hok, fun h6 H' bt hG => ⟨rfl, q h6 H' x (fun b' o e => ?_) nx hG⟩, fun h6 => (r h6).at s⟩
  exact bt _ _ (ne_of_none e nx) (s _ _ e)
end
section
variable {P : Program} {w : World} {K : PySem.W.Frag} {mg : Str → Option Value} {base : Heap} {f : Addr} {fd : FuncData} {C : Addr}
theorem ok_clsCount (F : FnP K "class_count" sClsCount f fd) : FnOk P w K mg base CX0 1 f fd ["limit", "count"] spClsCount := by
  have nd := scClsCount.nd
  refine F.ok scClsCount (fun vs H Q E h => ?_) (fun cdv A outer s H vs Q E hr h => ?_)
  · obtain ⟨v, l, c, rfl, _⟩ := h
    rfl
  · obtain ⟨v, l, c, rfl, ⟨t, rfl, ht⟩, h1, q⟩ := h
    refine ⟨_, PSs.nox (pss_cons (ps_asg (pv 0) (pg_tup rfl (pgs_cons (pg_name (i := 2) nd rfl (Or.inl rfl)) (pgs_cons (pg_name (i := 3) nd rfl (Or.inl rfl)) pgs_nil))))
      (pss_cons (ps_if (pt_cmpR op_lt (pv 1) (pv 2) (nomark _)) (pss_one (ps_ret (pv 1))) pss_nil)
      (pss_one (ps_ret (pe_op op_add (pv 2) (pe_op op_mod (pe_op op_sub (pv 1) (pv 2)) (pv 3))))))), ?_⟩
    refine ⟨_, rfl, t, _, rfl, SqT.of ht, rfl, _, _, rfl, _, _, rfl, rfl, ?_⟩
    refine ⟨_, rfl, _, rfl, _, _, rfl, rfl, _, rfl, ite2 (fun z => ?_) (fun z => ?_)⟩
    · have z : c < l.1 := of_decide_eq_true z
      refine ⟨_, rfl, ?_⟩
      rw [show cls1 l c = c from if_pos z] at q
      exact q
    · have z : ¬ c < l.1 := fun y => z (decide_eq_true y)
      refine ⟨_, rfl, _, rfl, _, rfl, _, _, rfl, rfl, _, rfl, _, _, rfl, rfl, (by show (0 : Int) < l.2; omega), _, _, rfl, rfl, ?_⟩
      rw [show cls1 l c = _ from if_neg z] at q
      exact q
theorem ok_reqLike (F : FnP K "require_like_grids" sReqLike f fd) (T : GT K mg C) (Z : ClA P w K mg base) (o_grid : OkX P w K mg base "require_grid" 3 ["grid"] (spReqGrid K C)) (o_many : OkMt P w K mg base C "many" (spMany C)) :
    FnOk P w K mg base (L2.CX P w) 4 f fd ["one", "other"] (spLike K C) := by
  obtain ⟨fI, fdI, XT⟩ := Z.x 1 (by decide)
  have XT : XCls P w K mg base "Unlike" "value" (CA K 1) fI fdI := XT
  refine F.ok scReqLike (fun vs H Q E h => ?_) (fun cdv A outer s H vs Q E hr h => ?_)
  · obtain ⟨u, v, rfl, _⟩ := h
    rfl
  · obtain ⟨u, v, rfl, h⟩ := h
    refine ⟨_, pss_cons (ps_expr (pe_callX (E := E) o_grid (takes_of rfl rfl rfl rfl) hr (by rfl) (pa_cons (pv 0) pa_nil)))
      (pss_cons (ps_expr (pe_callX (E := E) o_grid (takes_of rfl rfl rfl rfl) hr (by rfl) (pa_cons (pv 1) pa_nil)))
      (pss_one (ps_if (pt_cmpR op_ne (pe_many o_many T (pv 0) (hr.mono (by decide))) (pe_many o_many T (pv 1) (hr.mono (by decide))) (nomark _)) (pss_one (ps_raiseX (nm := "Unlike") rfl XT (hr.mono (by decide)) (takes_of rfl rfl rfl rfl) (by rfl) (pv 1))) pss_nil))), ?_⟩
    rcases h with ⟨n, r⟩ | ⟨x, L, rfl, hx, h⟩
    · exact ⟨_, rfl, _, rfl, .inr ⟨n, r⟩⟩
    refine ⟨_, rfl, _, rfl, .inl ⟨x, L, rfl, hx, ?_⟩⟩
    rcases h with ⟨n, r⟩ | ⟨y, M, rfl, hy, h⟩
    · exact ⟨_, rfl, _, rfl, .inr ⟨n, r⟩⟩
    refine ⟨_, rfl, _, rfl, .inl ⟨y, M, rfl, hy, ?_⟩⟩
    refine ⟨_, rfl, x, L, rfl, hx, _, rfl, y, M, rfl, hy, rfl, _, rfl, ?_⟩
    rcases h with ⟨e, q⟩ | ⟨e, r⟩
    · refine ite2 (fun z => ?_) (fun _ => q)
      rw [e] at z
      simp at z
    · refine ite2 (fun _ => ⟨_, rfl, fun d nd => r H d (Same.refl _) nd⟩) (fun z => absurd ?_ z)
      have : V.int (L.length : Int) ≠ V.int (M.length : Int) := fun z => e (by have := V.int.inj z; omega)
      simp [this]
theorem ok_reqPt (F : FnP K "require_grid_point" sReqPt f fd) (T : GT K mg C) (o_grid : Ok P w K mg base "require_grid" 3 ["grid"] (cm (spReqGrid K C))) (o_many : OkMt P w K mg base C "many" (spMany C)) (o_isPoint : Ok P w K mg base "is_point" 3 ["many", "value"] spIsPoint) :
    FnOk P w K mg base CX0 4 f fd ["grid", "point"] (spReqPt C) := by
  refine F.ok scReqPt (fun vs H Q E h => ?_) (fun cdv A outer s H vs Q E hr h => ?_)
  · obtain ⟨x, a, L, p, rfl, _⟩ := h
    rfl
  · obtain ⟨x, a, L, p, rfl, hx, ha, hl, h3, h0, q⟩ := h
    refine ⟨_, PSs.nox (pss_cons (ps_expr (pe_callO o_grid hr (by rfl) (pa_cons (pv 0) pa_nil)))
      (pss_one (ps_if (pt_not (pt_val (pe_callO o_isPoint hr (by rfl) (pa_cons (pe_many o_many T (pv 0) (hr.mono (by decide))) (pa_cons (pv 1) pa_nil))))) (pss_one ps_never) pss_nil))), ?_⟩
    refine ⟨_, rfl, _, rfl, .inl ⟨x, L, rfl, hx, ?_⟩⟩
    refine ⟨_, rfl, x, L, rfl, hx, _, rfl, a, p, ?_, ha, h3, h0, fun H1 s1 => ⟨true, rfl, iteF (q H1 s1)⟩⟩
    rw [hl]
    rfl
theorem ok_classOf (F : FnP K "class_of" sClassOf f fd) (T : GT K mg C) (o_reqPt : Ok P w K mg base "require_grid_point" 4 ["grid", "point"] (spReqPt C)) (o_cls : Ok P w K mg base "class_count" 1 ["limit", "count"] spClsCount) (o_limits : OkMt P w K mg base C "limits" (spLimits C)) (z_zip : mg "zip" = none) :
    FnOk P w K mg base CX0 5 f fd ["grid", "point"] (spClassOf C) := by
  have nd := scClassOf.nd
  refine F.ok scClassOf (fun vs H Q E h => ?_) (fun cdv A outer s H vs Q E hr h => ?_)
  · obtain ⟨x, a, L, p, rfl, _⟩ := h
    rfl
  · obtain ⟨x, a, L, p, rfl, hx, ⟨h3, hb⟩, ha, hl, h0, q⟩ := h
    have r1 : Room 1 (A.deeper (envOfC "class_of" (defScope sClassOf) s.heap.objs.size f cdv)) := hr.mono (by decide)
    refine ⟨_, PSs.nox (pss_cons (ps_expr (pe_callO o_reqPt hr (by rfl) (pa_cons (pv 0) (pa_cons (pv 1) pa_nil))))
      (pss_one (ps_ret (pe_lc (own := [("limit", 2), ("count", 3)]) (g := gTup K 2 (gCons (gName 2) (gCons (gName 3) gNil))) (by rfl) nd (pi_zip (by rfl) z_zip (pa_cons (pe_limits o_limits T (pv 0) r1) (pa_cons (pv 1) pa_nil))) (blkOk_by (N := ["grid", "point", "limit", "count"]) (sc := defScope sClassOf) (own := [("limit", 2), ("count", 3)]) (by decide +kernel))
        (fun _ _ _ _ _ => pg_tup rfl (pgs_cons (pg_name (i := 2) nd rfl (Or.inl rfl)) (pgs_cons (pg_name (i := 3) nd rfl (Or.inl rfl)) pgs_nil))) (fun _ _ _ _ _ => pts_nil)
        (fun _ _ _ _ _ => pe_callO o_cls r1 (by rfl) (pa_cons (pv 2) (pa_cons (pv 3) pa_nil))))))), ?_⟩
    refine ⟨_, rfl, _, rfl, x, a, L, p, rfl, hx, ha, hl, by omega, h0, fun H1 s1 => ?_⟩
    refine ⟨_, rfl, x, L, rfl, hx.keep s1, fun H2 m s2 nm ⟨xs, hm, hL⟩ => ⟨_, rfl, m, a, xs, p.map V.int, rfl, SqL.of hm, SqL.of (s2 _ _ (s1 _ _ ha)), fun D nD => ?_⟩⟩
    have lx := hL.len
    refine lc_zipL (K := K) (a := m) (b := a) (xs := xs) (ys := p.map V.int) (by rw [List.length_map]; omega) (fun k H' => Same H2 H' ∧ H' D = some (.lst (((clsL L p).take k).map V.int))) ⟨same_new nD, upd_same⟩ (fun i H' z => ⟨SqL.of (z.1 _ _ hm), SqL.of (z.1 _ _ (s2 _ _ (s1 _ _ ha)))⟩) ?_ ?_
    · rintro i x0 y0 U H' hx0 hy0 ⟨sm, hD⟩ nU
      obtain ⟨l, hl2, il⟩ := hL.get hx0
      rw [List.getElem?_map] at hy0
      obtain ⟨c, ec, rfl⟩ := Option.map_eq_some_iff.mp hy0
      have sU := same_new (o := .tup [x0, .int c]) nU
      have li : i < 3 := by
        have := (List.getElem?_eq_some_iff.mp ec).1
        omega
      refine ⟨U, _, rfl, SqT.of upd_same, rfl, _, _, rfl, _, _, rfl, rfl, rfl, ?_⟩
      refine ⟨_, rfl, _, rfl, _, l, c, rfl, (il.keep sm).keep sU, (hb l (mem_at hl2)).2.2.1, _, sU _ _ hD, ?_, fun b o e => ?_, ?_⟩
      · rw [List.length_map]
        exact small1000 (Nat.le_trans (List.length_take_le _ _) (by omega))
      · rw [upd_ne (ne_of_none e nD)]
        exact sU _ _ (sm _ _ e)
      · rw [upd_same, List.take_add_one, show (clsL L p)[i]? = _ from zip_get hl2 ec, List.map_append]
        rfl
    · rintro H' ⟨sm, hD⟩
      rw [take_all (n := xs.length) (by rw [show (clsL L p).length = L.length from zip_len hl]; omega)] at hD
      exact q H' D ((s1.trans s2).trans sm) hD
theorem ok_refines (F : FnP K "refines" sRefines f fd) (T : GT K mg C) (o_like : OkX P w K mg base "require_like_grids" 4 ["one", "other"] (spLike K C)) (o_limits : OkMt P w K mg base C "limits" (spLimits C)) (z_zip : mg "zip" = none) (z_all : mg "all" = none) :
    FnOk P w K mg base (L2.CX P w) 5 f fd ["one", "other"] (spRefines K C) := by
  have nd := scRefines.nd
  refine F.ok scRefines (fun vs H Q E h => ?_) (fun cdv A outer s H vs Q E hr h => ?_)
  · obtain ⟨u, v, rfl, _⟩ := h
    rfl
  · obtain ⟨u, v, rfl, h⟩ := h
    have r1 : Room 1 (A.deeper (envOfC "refines" (defScope sRefines) s.heap.objs.size f cdv)) := hr.mono (by decide)
    refine ⟨_, pss_cons (ps_expr (pe_callX (E := E) o_like (takes_of rfl rfl rfl rfl) hr (by rfl) (pa_cons (pv 0) (pa_cons (pv 1) pa_nil))))
      (pss_one (ps_ret (pe_callB (cr_all rfl) (by rfl) z_all (by decide +kernel) (pa_cons (pe_lc (own := [("limit", 2), ("wide", 3)]) (g := gTup K 2 (gCons (gName 2) (gCons (gName 3) gNil))) (by rfl) nd (pi_zip (by rfl) z_zip (pa_cons (pe_limits o_limits T (pv 0) r1) (pa_cons (pe_limits o_limits T (pv 1) r1) pa_nil))) (blkOk_by (N := ["one", "other", "limit", "wide"]) (sc := defScope sRefines) (own := [("limit", 2), ("wide", 3)]) (by decide +kernel))
        (fun _ _ _ _ _ => pg_tup rfl (pgs_cons (pg_name (i := 2) nd rfl (Or.inl rfl)) (pgs_cons (pg_name (i := 3) nd rfl (Or.inl rfl)) pgs_nil))) (fun _ _ _ _ _ => pts_nil)
        (fun _ _ _ _ _ => pe_and (pe_cmpR op_ge (pe_ix (ix_tupK (K := K) rfl) (pv 2) pe_int (fun _ _ => rfl)) (pe_ix (ix_tupK (K := K) rfl) (pv 3) pe_int (fun _ _ => rfl)) (nomark _)) (pe_one (pe_cmpR op_eq (pe_op op_mod (pe_ix (ix_tupK (K := K) rfl) (pv 2) pe_int (fun _ _ => rfl)) (pe_ix (ix_tupK (K := K) rfl) (pv 3) pe_int (fun _ _ => rfl))) pe_int (nomark _))))) pa_nil)))), ?_⟩
    refine ⟨_, rfl, _, rfl, u, v, rfl, ?_⟩
    rcases h with h | ⟨x, L, rfl, hx, h⟩
    · exact .inl h
    refine .inr ⟨x, L, rfl, hx, ?_⟩
    rcases h with h | ⟨y, M, rfl, hy, h⟩
    · exact .inl h
    refine .inr ⟨y, M, rfl, hy, ?_⟩
    rcases h with ⟨hl, ⟨h3, hb⟩, ⟨h4, hc⟩, q⟩ | h
    · refine .inl ⟨hl, ?_⟩
      refine ⟨_, rfl, x, L, rfl, hx, fun H2 m s2 nm hm2 => ⟨_, rfl, y, M, rfl, hy.keep s2, fun H3 n s3 nn ⟨ys, hn, hM⟩ => ?_⟩⟩
      obtain ⟨xs, hm, hL⟩ := hm2.keep s3
      have lx := hL.len
      have ly := hM.len
      refine ⟨m, n, xs, ys, rfl, SqL.of hm, SqL.of hn, fun D nD => ?_⟩
      refine lc_zipL (K := K) (a := m) (b := n) (xs := xs) (ys := ys) (by omega) (fun k H' => Same H3 H' ∧ H' D = some (.lst (((List.zipWith ref1 L M).take k).map V.bl))) ⟨same_new nD, upd_same⟩ (fun i H' z => ⟨SqL.of (z.1 _ _ hm), SqL.of (z.1 _ _ hn)⟩) ?_ ?_
      · rintro i x0 y0 U H' hx0 hy0 ⟨sm, hD⟩ nU
        obtain ⟨l, hl2, ⟨t, rfl, ht⟩⟩ := hL.get hx0
        obtain ⟨k, hk2, ⟨t', rfl, ht'⟩⟩ := hM.get hy0
        have sU := same_new (o := .tup [.ref t, .ref t']) nU
        have t1 := sU _ _ (sm _ _ ht)
        have t2 := sU _ _ (sm _ _ ht')
        have li : i < 3 := by
          have := (List.getElem?_eq_some_iff.mp hl2).1
          omega
        have kpos := (hc k (mem_at hk2)).2.2.1
        have fin : ∀ b : Bool, b = ref1 l k → ∃ acc, (upd H' U (.tup [.ref t, .ref t'])) D = some (.lst acc) ∧ acc.length < sizeLine ∧ (Same H3 (upd (upd H' U (.tup [.ref t, .ref t'])) D (.lst (acc ++ [.bl b]))) ∧ (upd (upd H' U (.tup [.ref t, .ref t'])) D (.lst (acc ++ [.bl b]))) D = some (.lst (((List.zipWith ref1 L M).take (i + 1)).map V.bl))) := by
          rintro b rfl
          refine ⟨_, sU _ _ hD, ?_, fun b o e => ?_, ?_⟩
          · rw [List.length_map]
            exact small1000 (Nat.le_trans (List.length_take_le _ _) (by omega))
          · rw [upd_ne (ne_of_none e nD)]
            exact sU _ _ (sm _ _ e)
          · rw [upd_same, List.take_add_one, zip_get hl2 hk2, List.map_append]
            rfl
        refine ⟨U, _, rfl, SqT.of upd_same, rfl, _, _, rfl, _, _, rfl, rfl, rfl, ?_⟩
        refine ⟨_, rfl, t, _, _, _, rfl, rfl, SqT.of t1, (show atI [V.int l.1, V.int l.2] ((0 : Nat) : Int) = _ from atI_nat rfl), _, rfl, t', _, _, _, rfl, rfl, SqT.of t2, (show atI [V.int k.1, V.int k.2] ((0 : Nat) : Int) = _ from atI_nat rfl), _, _, rfl, rfl, decide (k.1 ≤ l.1), rfl, ?_⟩
        by_cases c : k.1 ≤ l.1
        · rw [decide_eq_true c]
          refine iteT ⟨_, rfl, t, _, _, _, rfl, rfl, SqT.of t1, (show atI [V.int l.1, V.int l.2] ((1 : Nat) : Int) = _ from atI_nat rfl), _, rfl, t', _, _, _, rfl, rfl, SqT.of t2, (show atI [V.int k.1, V.int k.2] ((1 : Nat) : Int) = _ from atI_nat rfl), _, _, rfl, rfl, (by show (0 : Int) < k.2; omega), rfl, fin _ ?_⟩
          show decide (V.int (l.2 % k.2) = V.int 0) = _
          unfold ref1
          rw [decide_eq_true c, Bool.true_and]
          exact decide_eq_decide.mpr ⟨V.int.inj, congrArg V.int⟩
        · rw [decide_eq_false c]
          refine iteF (fin _ ?_)
          unfold ref1
          rw [decide_eq_false c]
          rfl
      · rintro H' ⟨sm, hD⟩
        rw [take_all (n := xs.length) (by rw [zip_len hl]; omega)] at hD
        exact ⟨D, _, rfl, SqL.of hD, q H' ((s2.trans s3).trans sm)⟩
    · exact .inr h
end
end KA
set_option Elab.async false
set_option linter.all false
set_option maxRecDepth 100000
set_option maxHeartbeats 4000000
namespace KA
open PySem PySem.Spec PyProof.Rows L2 XV
theorem Lims.updL {H : Hp} {D : Addr} {ys : List V} {o : HO} (hD : H D = some (.lst ys)) : ∀ {xs : List V} {L : List Lim}, Lims H xs L → Lims (upd H D o) xs L
  | _, _, .nil => .nil
  | _, _, .cons h r => .cons (by
      obtain ⟨a, e, t⟩ := h
      refine ⟨a, e, ?_⟩
      rw [upd_ne (ne_of t hD (by intro z; cases z))]
      exact t) (Lims.updL hD r)
theorem Lok.w {L : List Lim} (h : Lok L) {l : Lim} (m : l ∈ L) : l.2.natAbs < 2 ^ 64 := by
  have := h.2 l m
  omega
section
variable {P : Program} {w : World} {K : PySem.W.Frag} {mg : Str → Option Value} {base : Heap} {f : Addr} {fd : FuncData} {C : Addr}
theorem ok_meetLim (F : FnP K "meeting_limits" sMeetLim f fd) (z_zip : mg "zip" = none) (z_max : mg "max" = none) (g_lcm : mg "lcm" = some (.builtin "math.lcm")) : FnOk P w K mg base CX0 1 f fd ["one", "other"] spMeetLim := by
  have nd := scMeetLim.nd
  refine F.ok scMeetLim (fun vs H Q E h => ?_) (fun cdv A outer s H vs Q E hr h => ?_)
  · obtain ⟨a, b, L, M, rfl, _⟩ := h
    rfl
  · obtain ⟨m, n, L, M, rfl, ⟨xs, hm, hL⟩, ⟨ys, hn, hM⟩, hl, hok, hok2, q⟩ := h
    have lx := hL.len
    have ly := hM.len
    refine ⟨_, PSs.nox (pss_one (ps_ret (pe_lc (own := [("limit", 2), ("mate", 3)]) (g := gTup K 2 (gCons (gName 2) (gCons (gName 3) gNil))) (by rfl) nd (pi_zip (by rfl) z_zip (pa_cons (pv 0) (pa_cons (pv 1) pa_nil))) (blkOk_by (N := ["one", "other", "limit", "mate"]) (sc := defScope sMeetLim) (own := [("limit", 2), ("mate", 3)]) (by decide +kernel))
        (fun _ _ _ _ _ => pg_tup rfl (pgs_cons (pg_name (i := 2) nd rfl (Or.inl rfl)) (pgs_cons (pg_name (i := 3) nd rfl (Or.inl rfl)) pgs_nil))) (fun _ _ _ _ _ => pts_nil)
        (fun _ _ _ _ _ => pe_tup (pa_cons (pe_callB (call_max2 rfl) (by rfl) z_max (by decide +kernel) (pa_cons (pe_ix (ix_tupK (K := K) rfl) (pv 2) pe_int (fun _ _ => rfl)) (pa_cons (pe_ix (ix_tupK (K := K) rfl) (pv 3) pe_int (fun _ _ => rfl)) pa_nil)))
          (pa_cons (pe_callBfun cr_lcm (by rfl) g_lcm (pa_cons (pe_ix (ix_tupK (K := K) rfl) (pv 2) pe_int (fun _ _ => rfl)) (pa_cons (pe_ix (ix_tupK (K := K) rfl) (pv 3) pe_int (fun _ _ => rfl)) pa_nil))) pa_nil)))))), ?_⟩
    refine ⟨_, rfl, _, rfl, m, n, xs, ys, rfl, SqL.of hm, SqL.of hn, fun D nD => ?_⟩
    refine lc_zipL (K := K) (a := m) (b := n) (xs := xs) (ys := ys) (by omega) (fun k H' => Same H H' ∧ ∃ acc, H' D = some (.lst acc) ∧ Lims H' acc ((meetL L M).take k)) ⟨same_new nD, [], upd_same, .nil⟩ (fun i H' z => ⟨SqL.of (z.1 _ _ hm), SqL.of (z.1 _ _ hn)⟩) ?_ ?_
    · rintro i x0 y0 U H' hx0 hy0 ⟨sm, acc, hD, hA⟩ nU
      obtain ⟨l, hl2, ⟨t, rfl, ht⟩⟩ := hL.get hx0
      obtain ⟨k, hk2, ⟨t', rfl, ht'⟩⟩ := hM.get hy0
      have sU := same_new (o := .tup [.ref t, .ref t']) nU
      have t1 := sU _ _ (sm _ _ ht)
      have t2 := sU _ _ (sm _ _ ht')
      have li : i < 3 := by
        have := (List.getElem?_eq_some_iff.mp hl2).1
        have := hok.1
        omega
      refine ⟨U, _, rfl, SqT.of upd_same, rfl, _, _, rfl, _, _, rfl, rfl, rfl, ?_⟩
      refine ⟨_, rfl, t, _, _, _, rfl, rfl, SqT.of t1, (show atI [V.int l.1, V.int l.2] ((0 : Nat) : Int) = _ from atI_nat rfl), _, rfl, t', _, _, _, rfl, rfl, SqT.of t2, (show atI [V.int k.1, V.int k.2] ((0 : Nat) : Int) = _ from atI_nat rfl), _, _, rfl, ?_⟩
      refine ⟨_, rfl, t, _, _, _, rfl, rfl, SqT.of t1, (show atI [V.int l.1, V.int l.2] ((1 : Nat) : Int) = _ from atI_nat rfl), _, rfl, t', _, _, _, rfl, rfl, SqT.of t2, (show atI [V.int k.1, V.int k.2] ((1 : Nat) : Int) = _ from atI_nat rfl), _, _, rfl, hok.w (mem_at hl2), hok2.w (mem_at hk2), (by show 2 ≤ sizeLine; decide), fun p np => ?_⟩
      have sp := same_new (o := .tup [.int (meet1 l k).1, .int (meet1 l k).2]) np
      have hD2 := sp _ _ (sU _ _ hD)
      have hA2 := (hA.keep sU).keep sp
      refine ⟨acc, hD2, ?_, fun b o e => ?_, acc ++ [.ref p], upd_same, ?_⟩
      · have := hA.len
        rw [List.length_take] at this
        exact small1000 (by omega)
      · rw [upd_ne (ne_of_none e nD)]
        exact sp _ _ (sU _ _ (sm _ _ e))
      · rw [List.take_add_one, show (meetL L M)[i]? = _ from zip_get hl2 hk2]
        exact Lims.updL hD2 (hA2.snoc ⟨p, rfl, upd_same⟩)
    · rintro H' ⟨sm, acc, hD, hA⟩
      rw [take_all (n := xs.length) (by rw [show (meetL L M).length = L.length from zip_len hl]; omega)] at hA
      exact q H' D sm ⟨acc, hD, hA⟩
theorem ok_meeting (F : FnP K "meeting" sMeeting f fd) (T : GT K mg C) (o_like : OkX P w K mg base "require_like_grids" 4 ["one", "other"] (spLike K C)) (o_limits : OkMt P w K mg base C "limits" (spLimits C)) (o_ml : Ok P w K mg base "meeting_limits" 1 ["one", "other"] spMeetLim) (o_mk : OkMk P w K mg base C) :
    FnOk P w K mg base (L2.CX P w) 7 f fd ["one", "other"] (spMeeting K C) := by
  have nd := scMeeting.nd
  refine F.ok scMeeting (fun vs H Q E h => ?_) (fun cdv A outer s H vs Q E hr h => ?_)
  · obtain ⟨u, v, rfl, _⟩ := h
    rfl
  · obtain ⟨u, v, rfl, h⟩ := h
    have r1 : Room 1 (A.deeper (envOfC "meeting" (defScope sMeeting) s.heap.objs.size f cdv)) := hr.mono (by decide)
    refine ⟨_, pss_cons (ps_expr (pe_callX (E := E) o_like (takes_of rfl rfl rfl rfl) (hr.mono (by decide)) (by rfl) (pa_cons (pv 0) (pa_cons (pv 1) pa_nil))))
      (pss_one (ps_ret (pe_mkX (E := E) (T := T) o_mk (takes_of rfl rfl rfl rfl) hr (by rfl) (pe_callO o_ml r1 (by rfl) (pa_cons (pe_limits o_limits T (pv 0) r1) (pa_cons (pe_limits o_limits T (pv 1) r1) pa_nil)))))), ?_⟩
    refine ⟨_, rfl, _, rfl, u, v, rfl, ?_⟩
    rcases h with h | ⟨x, L, rfl, hx, h⟩
    · exact .inl h
    refine .inr ⟨x, L, rfl, hx, ?_⟩
    rcases h with h | ⟨y, M, rfl, hy, h⟩
    · exact .inl h
    refine .inr ⟨y, M, rfl, hy, ?_⟩
    rcases h with ⟨hl, hok, hok2, hok3, q, r⟩ | h
    · refine .inl ⟨hl, ?_⟩
      refine ⟨_, rfl, x, L, rfl, hx, fun H2 m s2 nm hm => ⟨_, rfl, y, M, rfl, hy.keep s2, fun H3 n s3 nn hn => ?_⟩⟩
      refine ⟨m, n, L, M, rfl, hm.keep s3, hn, hl, hok, hok2, fun H4 p s4 hp => ⟨p, _, rfl, hp, hok3, fun h6 H5 z s5 nz hG => ?_, fun h6 => (r h6).at ((s2.trans s3).trans s4)⟩⟩
      have S := (s2.trans s3).trans s4
      refine q h6 H5 z (S.trans s5) ?_ hG
      cases e : H z with
      | none => rfl
      | some o =>
        rw [S _ _ e] at nz
        cases nz
    · exact .inr h
end
end KA
set_option Elab.async false
set_option linter.all false
set_option maxRecDepth 100000
set_option maxHeartbeats 4000000
namespace KA
open PySem PySem.Spec PyProof.Rows L2 XV
theorem dr_upd {H : Hp} {g D : Addr} {n : Nat} {o : HO} (d : Dr H g n) (h : g ≠ D) : Dr (upd H D o) g n := by
  obtain ⟨a, b, c, e, r⟩ := d
  exact ⟨a, b, c, by rw [upd_ne h]; exact e, r⟩
theorem dr_new {H : Hp} {g D : Addr} {n : Nat} {o : HO} (d : Dr H g n) (h : H D = none) : Dr (upd H D o) g n := by
  refine dr_upd d ?_
  rintro rfl
  obtain ⟨a, b, c, e, _⟩ := d
  rw [h] at e
  cases e
theorem dr_ne {H : Hp} {g D : Addr} {n : Nat} (d : Dr H g n) (h : H D = none) : g ≠ D := by
  rintro rfl
  obtain ⟨a, b, c, e, _⟩ := d
  rw [h] at e
  cases e
theorem dr_same {H H' : Hp} {g : Addr} {n : Nat} (d : Dr H g n) (s : Same H H') : Dr H' g n := by
  obtain ⟨a, b, c, e, r⟩ := d
  exact ⟨a, b, c, s _ _ e, r⟩
/-! ### of ref1 -/
theorem ref_all {L M : List Lim} (h : ∀ (i : Nat) (l m : Lim), L[i]? = some l → M[i]? = some m → ref1 l m = true) : refB L M = true := by
  unfold refB
  rw [List.all_eq_true]
  intro x hx
  obtain ⟨i, hi⟩ := List.mem_iff_getElem?.mp hx
  rw [List.getElem?_zipWith] at hi
  cases e1 : L[i]? with
  | none =>
    rw [e1] at hi
    cases hi
  | some l =>
    cases e2 : M[i]? with
    | none =>
      rw [e1, e2] at hi
      cases hi
    | some m =>
      rw [e1, e2] at hi
      cases hi
      exact h i l m e1 e2
theorem ref_at {L M : List Lim} (h : refB L M = true) {i : Nat} {l m : Lim} (hl : L[i]? = some l) (hm : M[i]? = some m) : ref1 l m = true := by
  unfold refB at h
  rw [List.all_eq_true] at h
  exact h _ (mem_at (zip_get hl hm))
abbrev sLimL : Stmt := top 31
abbrev sLeast : Stmt := top 34
abbrev sClassL : Stmt := top 35
abbrev sYes : Stmt := top 36
abbrev sGcd : Stmt := top 37
abbrev sLcm : Stmt := top 38
abbrev sPut : Stmt := top 39
abbrev sManyL : Stmt := top 40
abbrev sRefL : Stmt := top 42
abbrev sMeetL : Stmt := top 43
abbrev nLimL : List Str := ["_law_generator_here", "_law_many_here", "_law_least_here", "_law_most", "_law_at"]
theorem scLimL : FnScope nLimL ["_law_generator_here", "_law_many_here", "_law_least_here", "_law_most"] (defScope sLimL) := ⟨rfl, rfl, rfl, by decide +kernel, rfl, by decide +kernel, by decide +kernel⟩
theorem scLeast : FnScope ["_law_limit", "_law_count"] ["_law_limit", "_law_count"] (defScope sLeast) := ⟨rfl, rfl, rfl, by decide +kernel, rfl, by decide +kernel, by decide +kernel⟩
theorem scClassL : FnScope ["_law_limits_here", "_law_point", "_law_at"] ["_law_limits_here", "_law_point"] (defScope sClassL) := ⟨rfl, rfl, rfl, by decide +kernel, rfl, by decide +kernel, by decide +kernel⟩
theorem scYes : FnScope ["_law_told", "_law_due"] ["_law_told", "_law_due"] (defScope sYes) := ⟨rfl, rfl, rfl, by decide +kernel, rfl, by decide +kernel, by decide +kernel⟩
theorem scGcd : FnScope ["_law_one", "_law_other_here"] ["_law_one", "_law_other_here"] (defScope sGcd) := ⟨rfl, rfl, rfl, by decide +kernel, rfl, by decide +kernel, by decide +kernel⟩
theorem scLcm : FnScope ["_law_one", "_law_other_here"] ["_law_one", "_law_other_here"] (defScope sLcm) := ⟨rfl, rfl, rfl, by decide +kernel, rfl, by decide +kernel, by decide +kernel⟩
theorem scPut : FnScope ["_law_point", "_law_at", "_law_count"] ["_law_point", "_law_at", "_law_count"] (defScope sPut) := ⟨rfl, rfl, rfl, by decide +kernel, rfl, by decide +kernel, by decide +kernel⟩
theorem scManyL : FnScope ["_law_limits_here", "_law_found", "_law_limit"] ["_law_limits_here"] (defScope sManyL) := ⟨rfl, rfl, rfl, by decide +kernel, rfl, by decide +kernel, by decide +kernel⟩
theorem scRefL : FnScope ["_law_one", "_law_other_here", "_law_at"] ["_law_one", "_law_other_here"] (defScope sRefL) := ⟨rfl, rfl, rfl, by decide +kernel, rfl, by decide +kernel, by decide +kernel⟩
theorem scMeetL : FnScope ["_law_one", "_law_other_here", "_law_at"] ["_law_one", "_law_other_here"] (defScope sMeetL) := ⟨rfl, rfl, rfl, by decide +kernel, rfl, by decide +kernel, by decide +kernel⟩
/-- the limits are at most t, p -/
def Bnd (t p : Int) (L : List Lim) : Prop := ∀ l ∈ L, 0 ≤ l.1 ∧ l.1 ≤ t ∧ 1 ≤ l.2 ∧ l.2 ≤ p
def spLimL : Sp := fun vs H Q _ => ∃ (g : Addr) (n m : Nat) (t p : Int), vs = [.ref g, .int m, .int t, .int p] ∧ Dr H g n ∧ n ≤ 500000 ∧ m ≤ 3 ∧ 0 ≤ t ∧ t ≤ 1000 ∧ 1 ≤ p ∧ p ≤ 1000 ∧
  ∀ (H' : Hp) (r : Addr) (L : List Lim), L.length = m → Bnd t p L → But H H' g → Dr H' g (n + 40 * m) → H r = none → LL H' r L → Q (.ref r) H'
def spLeast : Sp := fun vs H Q _ => ∃ (v : V) (l : Lim) (c : Int), vs = [v, .int c] ∧ IsLim H v l ∧ 1 ≤ l.2 ∧ Q (.int (cls1 l c)) H
def spClassL : Sp := fun vs H Q _ => ∃ (a b : Addr) (L : List Lim) (p : List Int), vs = [.ref a, .ref b] ∧ LL H a L ∧ H b = some (.lst (p.map V.int)) ∧ L.length = p.length ∧ Lok L ∧ ∀ (H' : Hp) (r : Addr), Same H H' → H' r = some (.lst ((clsL L p).map V.int)) → Q (.ref r) H'
def spYes : Sp := fun vs H Q _ => ∃ a b : Bool, vs = [.bl a, .bl b] ∧ Q (.bl (decide (a = b))) H
def spGcd : Sp := fun vs H Q _ => ∃ a b : Nat, vs = [.int a, .int b] ∧ Q (.int ((Nat.gcd a b : Nat) : Int)) H
def spLcm : Sp := fun vs H Q _ => ∃ a b : Nat, vs = [.int a, .int b] ∧ 1 ≤ a ∧ a < 1000 ∧ b < 1000 ∧ Q (.int ((Nat.lcm a b : Nat) : Int)) H
def spPut : Sp := fun vs H Q _ => ∃ (a : Addr) (p : List Int) (i : Nat) (c : Int), vs = [.ref a, .int i, .int c] ∧ H a = some (.lst (p.map V.int)) ∧ p.length ≤ 3 ∧ i < p.length ∧ ∀ (H' : Hp) (r : Addr), Same H H' → H' r = some (.lst ((p.set i c).map V.int)) → Q (.ref r) H'
def spManyL : Sp := fun vs H Q _ => ∃ (a : Addr) (L : List Lim), vs = [.ref a] ∧ LL H a L ∧ Lok L ∧ Q (.int (many L)) H
def spRefL : Sp := fun vs H Q _ => ∃ (a b : Addr) (L M : List Lim), vs = [.ref a, .ref b] ∧ LL H a L ∧ LL H b M ∧ L.length = M.length ∧ Lok L ∧ Lok M ∧ Q (.bl (refB L M)) H
def spMeetL : Sp := fun vs H Q _ => ∃ (a b : Addr) (L M : List Lim), vs = [.ref a, .ref b] ∧ LL H a L ∧ LL H b M ∧ L.length = M.length ∧ Lok L ∧ Lok M ∧ ∀ (H' : Hp) (r : Addr), Same H H' → H r = none → LL H' r (meetL L M) → Q (.ref r) H'
theorem set_cut (p : List Int) (i : Nat) (c : Int) (h : i < p.length) : (cutV (p.map V.int) none (some (i : Int)) ++ [V.int c]) ++ cutV (p.map V.int) (some ((i : Int) + 1)) none = (p.set i c).map V.int := by
  have e1 : cutV (p.map V.int) none (some (i : Int)) = (p.map V.int).take i := by
    unfold cutV
    rw [HT.sIx_none, show HT.sIx (p.map V.int).length (p.map V.int).length (some (i : Int)) = min i (p.map V.int).length from HT.sIx_nat _ _ i]
    rw [List.length_map, Nat.min_eq_left (Nat.le_of_lt h), Nat.sub_zero, List.drop_zero]
  have e2 : cutV (p.map V.int) (some ((i : Int) + 1)) none = (p.map V.int).drop (i + 1) := by
    unfold cutV
    rw [HT.sIx_none, show HT.sIx (p.map V.int).length 0 (some ((i : Int) + 1)) = min (i + 1) (p.map V.int).length from HT.sIx_nat _ _ (i + 1)]
    rw [List.length_map, Nat.min_eq_left h]
    exact List.take_of_length_le (by rw [List.length_drop, List.length_map]; omega)
  rw [e1, e2, List.set_eq_take_append_cons_drop, if_pos h, List.map_append, List.map_cons, List.map_take, List.map_drop, List.append_assoc]
  rfl
section
variable {P : Program} {w : World} {K : PySem.W.Frag} {mg : Str → Option Value} {base : Heap} {f : Addr} {fd : FuncData} {C : Addr}
theorem ok_limL (F : FnP K "_law_limits" sLimL f fd) (oRand : Ok P w K mg base "_law_random" 2 ["_law_generator_here", "_law_bound"] spRand) (z_range : mg "range" = none) : FnOk P w K mg base CX0 3 f fd ["_law_generator_here", "_law_many_here", "_law_least_here", "_law_most"] spLimL := by
  have nd := scLimL.nd
  refine F.ok scLimL (fun vs H Q E h => ?_) (fun cdv A outer s H vs Q E hr h => ?_)
  · obtain ⟨g, n, m, t, p, rfl, _⟩ := h
    rfl
  · obtain ⟨g, n, m, t, p, rfl, dr, hn, hm, t0, t1, p0, p1, q⟩ := h
    have r2 : Room 2 (A.deeper (envOfC "_law_limits" (defScope sLimL) s.heap.objs.size f cdv)) := hr
    refine ⟨_, PSs.nox (pss_one (ps_ret (pe_lc (own := [("_law_at", 4)]) (g := gName 4) (by rfl) nd (pi_range1 (by rfl) z_range (pa_cons (pv 1) pa_nil)) (blkOk_by (N := nLimL) (sc := defScope sLimL) (own := [("_law_at", 4)]) (by decide +kernel)) (fun _ _ _ _ _ => pg_name (i := 4) nd rfl (Or.inl rfl)) (fun _ _ _ _ _ => pts_nil)
        (fun _ _ _ _ _ => pe_tup (pa_cons (pe_callO oRand r2 (by rfl) (pa_cons (pv 0) (pa_cons (pe_op op_add (pv 2) pe_int) pa_nil))) (pa_cons (pe_op op_add pe_int (pe_callO oRand r2 (by rfl) (pa_cons (pv 0) (pa_cons (pv 3) pa_nil)))) pa_nil)))))), ?_⟩
    refine ⟨_, rfl, _, rfl, by omega, by omega, fun D nD => ?_⟩
    rw [show ((m : Nat) : Int).toNat = m from by omega]
    have gD := dr_ne dr nD
    refine lc_range (lo := 0) (n := m) (fun k H' => But H H' g ∧ Dr H' g (n + 40 * k) ∧ ∃ (L : List Lim) (acc : List V), L.length = k ∧ Bnd t p L ∧ H' D = some (.lst acc) ∧ Lims H' acc L) ⟨Same.but (same_new nD), dr_new dr nD, [], [], rfl, (fun l hl => by cases hl), upd_same, .nil⟩ ?_ ?_
    · rintro j H' hj ⟨b1, d1, L, acc, hl, hb, hD, hA⟩
      refine ⟨rfl, ?_⟩
      refine ⟨_, rfl, _, rfl, _, _, rfl, rfl, g, _, t + 1, rfl, d1, by omega, by omega, Int.lt_of_le_of_lt (b := 1001) (by omega) (by decide), fun H2 x x0 x1 b2 d2 => ?_⟩
      refine ⟨_, rfl, _, rfl, g, _, p, rfl, d2, by omega, by omega, Int.lt_of_le_of_lt (b := 1001) (by omega) (by decide), fun H3 y y0 y1 b3 d3 => ⟨_, _, rfl, rfl, (by show 2 ≤ sizeLine; decide), fun u nu => ?_⟩⟩
      have b4 := b2.trans b3
      have hD3 := b4 _ _ (Ne.symm gD) hD
      have hA3 := (hA.but d1 b2).but d2 b3
      have s4 := same_new (o := .tup [.int x, .int (1 + y)]) nu
      have hA4 := hA3.keep s4
      have hD4 := s4 _ _ hD3
      refine ⟨acc, hD4, ?_, fun b o nb e => ?_, ?_, L ++ [(x, 1 + y)], acc ++ [.ref u], by simp [hl], ?_, upd_same, Lims.updL hD4 (Lims.snoc (m := (x, 1 + y)) ⟨u, rfl, upd_same⟩ hA4)⟩
      · have := hA.len
        exact small1000 (by omega)
      · rw [upd_ne (ne_of_none (H := H) e nD)]
        exact s4 _ _ (b4 _ _ nb (b1 _ _ nb e))
      · exact dr_upd (dr_new (d3.mono (by omega)) nu) gD
      · intro l hl2
        rcases List.mem_append.mp hl2 with h | h
        · exact hb l h
        · rcases List.mem_singleton.mp h with rfl
          exact ⟨x0, by show x ≤ t; omega, by show 1 ≤ 1 + y; omega, by show 1 + y ≤ p; omega⟩
    · rintro H' ⟨b1, d1, L, acc, hl, hb, hD, hA⟩
      exact q H' D L hl hb b1 d1 nD ⟨acc, hD, hA⟩
theorem ok_least (F : FnP K "_law_least" sLeast f fd) (z_int : mg "int" = none) : FnOk P w K mg base CX0 1 f fd ["_law_limit", "_law_count"] spLeast := by
  refine F.ok scLeast (fun vs H Q E h => ?_) (fun cdv A outer s H vs Q E hr h => ?_)
  · obtain ⟨v, l, c, rfl, _⟩ := h
    rfl
  · obtain ⟨v, l, c, rfl, ⟨t, rfl, ht⟩, h1, q⟩ := h
    refine ⟨_, PSs.nox (pss_cons (ps_if (pt_cmpR op_lt (pv 1) (pe_ix ix_tup (pv 0) pe_int (fun _ _ => rfl)) (nomark _)) (pss_one (ps_ret (pv 1))) pss_nil)
      (pss_one (ps_ret (pe_op op_add (pe_ix ix_tup (pv 0) pe_int (fun _ _ => rfl)) (pe_op op_mod (pe_callTy call_int1 (by rfl) z_int (by decide +kernel) (pa_cons (pe_op op_sub (pv 1) (pe_ix ix_tup (pv 0) pe_int (fun _ _ => rfl))) pa_nil)) (pe_ix ix_tup (pv 0) pe_int (fun _ _ => rfl))))))), ?_⟩
    have i0 : atI [V.int l.1, V.int l.2] ((0 : Nat) : Int) = some (V.int l.1) := atI_nat rfl
    have i1 : atI [V.int l.1, V.int l.2] ((1 : Nat) : Int) = some (V.int l.2) := atI_nat rfl
    refine ⟨_, rfl, _, rfl, t, _, _, _, rfl, rfl, SqT.of ht, i0, _, _, rfl, rfl, _, rfl, ite2 (fun z => ?_) (fun z => ?_)⟩
    · have z : c < l.1 := of_decide_eq_true z
      refine ⟨_, rfl, ?_⟩
      rw [show cls1 l c = c from if_pos z] at q
      exact q
    · have z : ¬ c < l.1 := fun y => z (decide_eq_true y)
      refine ⟨_, rfl, t, _, _, _, rfl, rfl, SqT.of ht, i0, _, rfl, _, rfl, t, _, _, _, rfl, rfl, SqT.of ht, i0, _, _, rfl, rfl, .inl ⟨_, rfl, _, rfl, t, _, _, _, rfl, rfl, SqT.of ht, i1, _, _, rfl, rfl, (by show (0 : Int) < l.2; omega), _, _, rfl, rfl, ?_⟩⟩
      rw [show cls1 l c = _ from if_neg z] at q
      exact q
theorem ok_classL (F : FnP K "_law_class" sClassL f fd) (o_least : Ok P w K mg base "_law_least" 1 ["_law_limit", "_law_count"] spLeast) (z_range : mg "range" = none) (z_len : mg "len" = none) : FnOk P w K mg base CX0 2 f fd ["_law_limits_here", "_law_point"] spClassL := by
  have nd := scClassL.nd
  refine F.ok scClassL (fun vs H Q E h => ?_) (fun cdv A outer s H vs Q E hr h => ?_)
  · obtain ⟨a, b, L, p, rfl, _⟩ := h
    rfl
  · obtain ⟨a, b, L, p, rfl, ⟨xs, ha, hL⟩, hb, hl, ⟨h3, hbd⟩, q⟩ := h
    have lx := hL.len
    have r1 : Room 1 (A.deeper (envOfC "_law_class" (defScope sClassL) s.heap.objs.size f cdv)) := hr
    refine ⟨_, PSs.nox (pss_one (ps_ret (pe_lc (own := [("_law_at", 2)]) (g := gName 2) (by rfl) nd (pi_range1 (by rfl) z_range (pa_cons (pe_callB call_len (by rfl) z_len boot_len (pa_cons (pv 0) pa_nil)) pa_nil)) (blkOk_by (N := ["_law_limits_here", "_law_point", "_law_at"]) (sc := defScope sClassL) (own := [("_law_at", 2)]) (by decide +kernel)) (fun _ _ _ _ _ => pg_name (i := 2) nd rfl (Or.inl rfl)) (fun _ _ _ _ _ => pts_nil)
        (fun _ _ _ _ _ => pe_callO o_least r1 (by rfl) (pa_cons (pe_ix (ix_listK (K := K) rfl) (pv 0) (pv 2) (fun _ _ => rfl)) (pa_cons (pe_ix (ix_listK (K := K) rfl) (pv 1) (pv 2) (fun _ _ => rfl)) pa_nil)))))), ?_⟩
    refine ⟨_, rfl, _, L.length, rfl, .inl ⟨_, SqL.of ha, lx.symm⟩, (L.length : Int), rfl, by omega, by omega, fun D nD => ?_⟩
    rw [show ((L.length : Nat) : Int).toNat = L.length from by omega]
    refine lc_range (lo := 0) (n := L.length) (fun k H' => Same H H' ∧ H' D = some (.lst (((clsL L p).take k).map V.int))) ⟨same_new nD, upd_same⟩ ?_ ?_
    · rintro j H' hj ⟨sm, hD⟩
      rw [Int.zero_add]
      have el : L[j]? = some L[j] := List.getElem?_eq_getElem hj
      have ep : p[j]? = some p[j] := List.getElem?_eq_getElem (by omega)
      obtain ⟨x, ex, il⟩ := hL.at el
      have gp : (p.map V.int)[j]? = some (.int p[j]) := by
        rw [List.getElem?_map, ep]
        rfl
      refine ⟨rfl, ?_⟩
      refine ⟨_, rfl, _, rfl, a, _, _, _, rfl, rfl, SqL.of (sm _ _ ha), atI_nat ex, _, rfl, _, rfl, b, _, _, _, rfl, rfl, SqL.of (sm _ _ hb), atI_nat gp, x, L[j], p[j], rfl, il.keep sm, (hbd _ (mem_at el)).2.2.1, _, hD, ?_, fun b o e => ?_, ?_⟩
      · rw [List.length_map]
        exact small1000 (Nat.le_trans (List.length_take_le _ _) (by omega))
      · rw [upd_ne (ne_of_none e nD)]
        exact sm _ _ e
      · rw [upd_same, List.take_add_one, show (clsL L p)[j]? = _ from zip_get el ep, List.map_append]
        rfl
    · rintro H' ⟨sm, hD⟩
      rw [take_all (n := L.length) (show (clsL L p).length = L.length from zip_len hl)] at hD
      exact q H' D sm hD
theorem ok_yes (F : FnP K "_law_yes" sYes f fd) (z_isinstance : mg "isinstance" = none) (z_bool : mg "bool" = none) : FnOk P w K mg base CX0 1 f fd ["_law_told", "_law_due"] spYes := by
  refine F.ok scYes (fun vs H Q E h => ?_) (fun cdv A outer s H vs Q E hr h => ?_)
  · obtain ⟨a, b, rfl, _⟩ := h
    rfl
  · obtain ⟨a, b, rfl, q⟩ := h
    refine ⟨_, PSs.nox (pss_one (ps_ret (pe_and (pe_callB call_isi (by rfl) z_isinstance (by decide +kernel) (pa_cons (pv 0) (pa_cons (pe_bltn (v := .ty "bool") (by rfl) z_bool (by decide +kernel) rfl) pa_nil))) (pe_one (pe_cmpR op_eq (pv 0) (pv 1) (nomark _)))))), ?_⟩
    refine ⟨_, rfl, _, _, _, _, true, rfl, .ty "bool", .base (.bl a), kit_ty (by decide +kernel), true, rfl, iteT ⟨_, rfl, _, rfl, rfl, ?_⟩⟩
    rw [show decide (V.bl a = V.bl b) = decide (a = b) from decide_eq_decide.mpr ⟨V.bl.inj, congrArg V.bl⟩]
    exact q
theorem ok_gcd (F : FnP K "_law_gcd" sGcd f fd) (z_int : mg "int" = none) : FnOk P w K mg base CX0 1 f fd ["_law_one", "_law_other_here"] spGcd := by
  have nd := scGcd.nd
  refine F.ok scGcd (fun vs H Q E h => ?_) (fun cdv A outer s H vs Q E hr h => ?_)
  · obtain ⟨a, b, rfl, _⟩ := h
    rfl
  · obtain ⟨a, b, rfl, q⟩ := h
    refine ⟨_, PSs.nox (pss_cons (ps_while PassesOwn.never (pt_cmpR op_gt (pv 1) pe_int (nomark _)) (pss_one (ps_par (i := 0) (j := 1) rfl nd rfl rfl (by decide) rfl rfl (pa_cons (pv 1) (pa_cons (pe_op op_mod (pe_callTy call_int1 (by rfl) z_int (by decide +kernel) (pa_cons (pv 0) pa_nil)) (pv 1)) pa_nil)) (by rfl))))
      (pss_one (ps_ret (pv 0)))), ?_⟩
    refine while_by (fun σ H' => H' = H ∧ ∃ x y : Nat, σ = [some (.int x), some (.int y)] ∧ Nat.gcd x y = Nat.gcd a b) (fun σ _ => match σ with
      | [_, some (.int y)] => y.toNat
      | _ => 0) ⟨rfl, a, b, rfl, rfl⟩ ?_ ?_
    · rintro σ H' ⟨rfl, x, y, rfl, e⟩
      refine ⟨_, rfl, _, _, rfl, rfl, _, rfl, ite2 (fun z => ?_) (fun z => ?_)⟩
      · have z : (y : Int) > 0 := of_decide_eq_true z
        refine ⟨_, rfl, _, rfl, .inl ⟨_, rfl, _, rfl, _, _, rfl, rfl, z, _, _, rfl, ⟨rfl, y, x % y, ?_, ?_⟩, ?_⟩⟩
        · show [some (V.int (y : Int)), some (V.int ((x : Int) % (y : Int)))] = _
          rw [← Int.natCast_emod]
        · rw [← e, Nat.gcd_comm y, ← Nat.gcd_rec, Nat.gcd_comm]
        · show ((x : Int) % (y : Int)).toNat < ((y : Int)).toNat
          rw [← Int.natCast_emod]
          have := Nat.mod_lt x (show y > 0 by omega)
          omega
      · have z : ¬ (y : Int) > 0 := fun c => z (decide_eq_true c)
        have y0 : y = 0 := by omega
        subst y0
        rw [Nat.gcd_zero_right] at e
        refine ⟨_, rfl, ?_⟩
        rw [← e] at q
        exact q
    · rintro σ H' R R' i ⟨v, hv, x, y, e1, e2, k, ek, r⟩
      exact ⟨v, hv, x, y, e1, e2, k, ek, i _ _ r⟩
theorem ok_lcm (F : FnP K "_law_lcm" sLcm f fd) (o_gcd : Ok P w K mg base "_law_gcd" 1 ["_law_one", "_law_other_here"] spGcd) : FnOk P w K mg base CX0 2 f fd ["_law_one", "_law_other_here"] spLcm := by
  refine F.ok scLcm (fun vs H Q E h => ?_) (fun cdv A outer s H vs Q E hr h => ?_)
  · obtain ⟨a, b, rfl, _⟩ := h
    rfl
  · obtain ⟨a, b, rfl, a0, a1, b1, q⟩ := h
    refine ⟨_, PSs.nox (pss_one (ps_ret (pe_op op_fdivN (pe_op op_mul (pv 0) (pv 1)) (pe_callO o_gcd hr (by rfl) (pa_cons (pv 0) (pa_cons (pv 1) pa_nil)))))), ?_⟩
    have gp : 0 < Nat.gcd a b := Nat.gcd_pos_of_pos_left _ (by omega)
    have gl : Nat.gcd a b ≤ a := Nat.gcd_le_left _ (by omega)
    refine ⟨_, rfl, _, rfl, _, _, rfl, rfl, .inl ⟨by omega, by omega⟩, _, rfl, _, rfl, a, b, rfl, _, _, rfl, rfl, ⟨by omega, by omega⟩, ?_⟩
    have e : Int.fdiv ((a : Int) * (b : Int)) ((Nat.gcd a b : Nat) : Int) = ((Nat.lcm a b : Nat) : Int) := by
      rw [← Int.natCast_mul, ← Int.ofNat_fdiv]
      rfl
    show Q (.int (Int.fdiv ((a : Int) * (b : Int)) ((Nat.gcd a b : Nat) : Int))) H
    rw [e]
    exact q
theorem ok_put (F : FnP K "_law_put_at" sPut f fd) : FnOk P w K mg base CX0 1 f fd ["_law_point", "_law_at", "_law_count"] spPut := by
  refine F.ok scPut (fun vs H Q E h => ?_) (fun cdv A outer s H vs Q E hr h => ?_)
  · obtain ⟨a, p, i, c, rfl, _⟩ := h
    rfl
  · obtain ⟨a, p, i, c, rfl, ha, h3, hi, q⟩ := h
    refine ⟨_, PSs.nox (pss_one (ps_ret (pe_op op_cat (pe_op op_cat (pe_slice sl_list (pv 0) po_none (po_some (pv 1))) (pe_lst (pa_cons (pv 2) pa_nil))) (pe_slice sl_list (pv 0) (po_some (pe_op op_add (pv 1) pe_int)) po_none)))), ?_⟩
    have sz := sizeLine_eq
    have l1 := cutV_length (p.map V.int) none (some (i : Int))
    have l2 := cutV_length (p.map V.int) (some ((i : Int) + 1)) none
    rw [List.length_map] at l1 l2
    refine ⟨_, rfl, _, rfl, _, rfl, a, _, rfl, SqL.of ha, fun u nu => ?_⟩
    have s1 := same_new (o := .lst (cutV (p.map V.int) none (some (i : Int)))) nu
    refine ⟨_, rfl, (by show 1 ≤ sizeLine; decide), fun u2 nu2 => ?_⟩
    have s2 := same_new (o := .lst [.int c]) nu2
    refine ⟨u, u2, _, _, rfl, rfl, s2 _ _ upd_same, upd_same, by rw [List.length_singleton]; omega, fun u3 nu3 => ?_⟩
    have s3 := same_new (o := .lst (cutV (p.map V.int) none (some (i : Int)) ++ [.int c])) nu3
    refine ⟨_, rfl, _, rfl, _, _, rfl, rfl, _, rfl, a, _, rfl, SqL.of (s3 _ _ (s2 _ _ (s1 _ _ ha))), fun u4 nu4 => ?_⟩
    have s4 := same_new (o := .lst (cutV (p.map V.int) (some ((i : Int) + 1)) none)) nu4
    refine ⟨u3, u4, _, _, rfl, rfl, s4 _ _ upd_same, upd_same, by rw [List.length_append, List.length_singleton]; omega, fun u5 nu5 => ?_⟩
    refine q _ u5 ((((s1.trans s2).trans s3).trans s4).trans (same_new nu5)) ?_
    rw [upd_same, set_cut p i c hi]
theorem ok_manyL (F : FnP K "_law_many" sManyL f fd) : FnOk P w K mg base CX0 1 f fd ["_law_limits_here"] spManyL := by
  have nd := scManyL.nd
  refine F.ok scManyL (fun vs H Q E h => ?_) (fun cdv A outer s H vs Q E hr h => ?_)
  · obtain ⟨a, L, rfl, _⟩ := h
    rfl
  · obtain ⟨a, L, rfl, ⟨xs, hf, hL⟩, ⟨h3, hb⟩, q⟩ := h
    have lx := hL.len
    refine ⟨_, PSs.nox (pss_cons (ps_set (i := 1) nd rfl (Or.inl rfl) pe_int)
      (pss_cons (ps_for PassesOwn.never rfl (pi_list (pv 0)) (pg_name (i := 2) nd rfl (Or.inl rfl))
        (pss_one (ps_set (i := 1) nd rfl (Or.inl rfl) (pe_op op_mul (pv 1) (pe_op op_add (pe_ix ix_tup (pv 2) pe_int (fun _ _ => rfl)) (pe_ix ix_tup (pv 2) pe_int (fun _ _ => rfl)))))))
      (pss_one (ps_ret (pv 1))))), ?_⟩
    refine ⟨_, rfl, a, rfl, ⟨_, SqL.of hf⟩, for_list (K := K) (a := a) (xs := xs) (fun i σ H' => H' = H ∧ ∃ x, σ = [some (.ref a), some (.int (many (L.take i))), x]) ⟨rfl, _, rfl⟩ (fun i σ H' _ p => p.1 ▸ SqL.of hf) ?_ ?_⟩
    · rintro i y σ H' hi ⟨rfl, x2, rfl⟩
      obtain ⟨l, hl, ⟨t, rfl, ht⟩⟩ := hL.get hi
      obtain ⟨b0, b1, b2, b3⟩ := hb l (mem_at hl)
      refine ⟨_, rfl, _, rfl, t, _, _, _, rfl, rfl, SqT.of ht, (show atI [V.int l.1, V.int l.2] ((0 : Nat) : Int) = _ from atI_nat rfl), _, rfl, t, _, _, _, rfl, rfl, SqT.of ht, (show atI [V.int l.1, V.int l.2] ((1 : Nat) : Int) = _ from atI_nat rfl), _, _, rfl, rfl, _, _, rfl, rfl, mul_r (by omega) (by omega), rfl, some (.ref t), ?_⟩
      show _ = [some (V.ref a), some (V.int (many (L.take (i + 1)))), some (V.ref t)]
      rw [show many (L.take (i + 1)) = many (L.take i) * (l.1 + l.2) from fold_take _ _ hl]
      rfl
    · rintro σ H' ⟨rfl, x2, rfl⟩
      refine ⟨_, rfl, ?_⟩
      rw [lx, List.take_length]
      exact q
theorem ok_refL (F : FnP K "_law_refines" sRefL f fd) (z_int : mg "int" = none) (z_range : mg "range" = none) (z_len : mg "len" = none) : FnOk P w K mg base CX0 1 f fd ["_law_one", "_law_other_here"] spRefL := by
  have nd := scRefL.nd
  refine F.ok scRefL (fun vs H Q E h => ?_) (fun cdv A outer s H vs Q E hr h => ?_)
  · obtain ⟨a, b, L, M, rfl, _⟩ := h
    rfl
  · obtain ⟨a, b, L, M, rfl, ⟨xs, ha, hL⟩, ⟨ys, hb, hM⟩, hl, ⟨h3, bL⟩, ⟨_, bM⟩, q⟩ := h
    have lx := hL.len
    refine ⟨_, PSs.nox (pss_cons (ps_for PassesOwn.never rfl (pi_range1 (by rfl) z_range (pa_cons (pe_callB call_len (by rfl) z_len boot_len (pa_cons (pv 0) pa_nil)) pa_nil)) (pg_name (i := 2) nd rfl (Or.inl rfl))
        (pss_one (ps_if (PW.pt (pw_or (pt_cmpR op_lt (pe_ix ix_tup (pe_ix ix_list (pv 0) (pv 2) (fun _ _ => rfl)) pe_int (fun _ _ => rfl)) (pe_ix ix_tup (pe_ix ix_list (pv 1) (pv 2) (fun _ _ => rfl)) pe_int (fun _ _ => rfl)) (nomark _))
          (pw_or1 (pt_cmpR op_ne (pe_op op_mod (pe_callTy call_int1 (by rfl) z_int (by decide +kernel) (pa_cons (pe_ix ix_tup (pe_ix ix_list (pv 0) (pv 2) (fun _ _ => rfl)) pe_int (fun _ _ => rfl)) pa_nil)) (pe_ix ix_tup (pe_ix ix_list (pv 1) (pv 2) (fun _ _ => rfl)) pe_int (fun _ _ => rfl))) pe_int (nomark _))))) (pss_one (ps_ret pe_bl)) pss_nil)))
      (pss_one (ps_ret pe_bl))), ?_⟩
    refine ⟨_, rfl, _, L.length, rfl, .inl ⟨_, SqL.of ha, lx.symm⟩, (L.length : Int), rfl, by omega, by omega, ?_⟩
    rw [show ((L.length : Nat) : Int).toNat = L.length from by omega]
    refine for_range (lo := 0) (n := L.length) (fun i σ H' => H' = H ∧ (∃ x, σ = [some (.ref a), some (.ref b), x]) ∧ ∀ j l m, j < i → L[j]? = some l → M[j]? = some m → ref1 l m = true) ⟨rfl, ⟨_, rfl⟩, fun j l m hj => absurd hj (by omega)⟩ ?_ ?_
    · rintro i σ H' hi ⟨rfl, ⟨x, rfl⟩, ih⟩
      rw [Int.zero_add]
      have el : L[i]? = some L[i] := List.getElem?_eq_getElem hi
      have em : M[i]? = some M[i] := List.getElem?_eq_getElem (by omega)
      generalize L[i] = l at el
      generalize M[i] = m at em
      obtain ⟨x1, ex, ⟨t, rfl, ht⟩⟩ := hL.at el
      obtain ⟨y1, ey, ⟨u, rfl, hu⟩⟩ := hM.at em
      have mp := (bM m (mem_at em)).2.2.1
      have i0 : ∀ l : Lim, atI [V.int l.1, V.int l.2] ((0 : Nat) : Int) = some (V.int l.1) := fun l => atI_nat rfl
      have i1 : ∀ l : Lim, atI [V.int l.1, V.int l.2] ((1 : Nat) : Int) = some (V.int l.2) := fun l => atI_nat rfl
      refine ⟨_, rfl, _, rfl, a, _, _, _, rfl, rfl, SqL.of ha, atI_nat ex, t, _, _, _, rfl, rfl, SqT.of ht, i0 l, _, rfl, _, rfl, b, _, _, _, rfl, rfl, SqL.of hb, atI_nat ey, u, _, _, _, rfl, rfl, SqT.of hu, i0 m, _, _, rfl, rfl, _, rfl, ite2 (fun z => ?_) (fun z => ?_)⟩
      · have z : l.1 < m.1 := of_decide_eq_true z
        have e : refB L M = false := Bool.eq_false_iff.mpr fun y => by
          have := ref_at y el em
          unfold ref1 at this
          rw [Bool.and_eq_true, decide_eq_true_eq] at this
          have := this.1
          omega
        rw [e] at q
        exact iteT q
      · have z : m.1 ≤ l.1 := Int.not_lt.mp fun y => z (decide_eq_true y)
        refine ⟨_, rfl, _, rfl, a, _, _, _, rfl, rfl, SqL.of ha, atI_nat ex, t, _, _, _, rfl, rfl, SqT.of ht, i1 l, .inl ⟨_, rfl, _, rfl, _, rfl, b, _, _, _, rfl, rfl, SqL.of hb, atI_nat ey, u, _, _, _, rfl, rfl, SqT.of hu, i1 m, _, _, rfl, rfl, (by show (0 : Int) < m.2; omega), rfl, _, rfl, ite2 (fun y => ?_) (fun y => ?_)⟩⟩
        · have e : refB L M = false := Bool.eq_false_iff.mpr fun c => by
            have := ref_at c el em
            unfold ref1 at this
            rw [Bool.and_eq_true, decide_eq_true_eq, decide_eq_true_eq] at this
            have y : (!decide (V.int (l.2 % m.2) = V.int 0)) = true := y
            rw [this.2] at y
            simp at y
          rw [e] at q
          exact q
        · refine ⟨rfl, ⟨_, rfl⟩, fun j l' m' hj e1 e2 => ?_⟩
          by_cases c : j < i
          · exact ih j l' m' c e1 e2
          · obtain rfl : j = i := by omega
            cases el.symm.trans e1
            cases em.symm.trans e2
            unfold ref1
            rw [decide_eq_true z, Bool.true_and]
            refine decide_eq_true ?_
            have y2 : (!decide (V.int (l.2 % m.2) = V.int 0)) = false := Bool.eq_false_iff.mpr y
            simpa using y2
    · rintro σ H' ⟨rfl, ⟨x, rfl⟩, ih⟩
      rw [ref_all fun i l m e1 e2 => ih i l m (List.getElem?_eq_some_iff.mp e1).1 e1 e2] at q
      exact q
theorem ok_meetL (F : FnP K "_law_meeting" sMeetL f fd) (o_lcm : Ok P w K mg base "_law_lcm" 2 ["_law_one", "_law_other_here"] spLcm) (z_max : mg "max" = none) (z_range : mg "range" = none) (z_len : mg "len" = none) : FnOk P w K mg base CX0 3 f fd ["_law_one", "_law_other_here"] spMeetL := by
  have nd := scMeetL.nd
  refine F.ok scMeetL (fun vs H Q E h => ?_) (fun cdv A outer s H vs Q E hr h => ?_)
  · obtain ⟨a, b, L, M, rfl, _⟩ := h
    rfl
  · obtain ⟨a, b, L, M, rfl, ⟨xs, ha, hL⟩, ⟨ys, hb, hM⟩, hl, ⟨h3, bL⟩, ⟨_, bM⟩, q⟩ := h
    have lx := hL.len
    have r2 : Room 2 (A.deeper (envOfC "_law_meeting" (defScope sMeetL) s.heap.objs.size f cdv)) := hr
    refine ⟨_, PSs.nox (pss_one (ps_ret (pe_lc (own := [("_law_at", 2)]) (g := gName 2) (by rfl) nd (pi_range1 (by rfl) z_range (pa_cons (pe_callB call_len (by rfl) z_len boot_len (pa_cons (pv 0) pa_nil)) pa_nil)) (blkOk_by (N := ["_law_one", "_law_other_here", "_law_at"]) (sc := defScope sMeetL) (own := [("_law_at", 2)]) (by decide +kernel)) (fun _ _ _ _ _ => pg_name (i := 2) nd rfl (Or.inl rfl)) (fun _ _ _ _ _ => pts_nil)
        (fun _ _ _ _ _ => pe_tup (pa_cons (pe_callB (call_max2 rfl) (by rfl) z_max (by decide +kernel) (pa_cons (pe_ix (ix_tupK (K := K) rfl) (pe_ix (ix_listK (K := K) rfl) (pv 0) (pv 2) (fun _ _ => rfl)) pe_int (fun _ _ => rfl)) (pa_cons (pe_ix (ix_tupK (K := K) rfl) (pe_ix (ix_listK (K := K) rfl) (pv 1) (pv 2) (fun _ _ => rfl)) pe_int (fun _ _ => rfl)) pa_nil)))
          (pa_cons (pe_callO o_lcm r2 (by rfl) (pa_cons (pe_ix (ix_tupK (K := K) rfl) (pe_ix (ix_listK (K := K) rfl) (pv 0) (pv 2) (fun _ _ => rfl)) pe_int (fun _ _ => rfl)) (pa_cons (pe_ix (ix_tupK (K := K) rfl) (pe_ix (ix_listK (K := K) rfl) (pv 1) (pv 2) (fun _ _ => rfl)) pe_int (fun _ _ => rfl)) pa_nil))) pa_nil)))))), ?_⟩
    refine ⟨_, rfl, _, L.length, rfl, .inl ⟨_, SqL.of ha, lx.symm⟩, (L.length : Int), rfl, by omega, by omega, fun D nD => ?_⟩
    rw [show ((L.length : Nat) : Int).toNat = L.length from by omega]
    refine lc_range (lo := 0) (n := L.length) (fun k H' => Same H H' ∧ ∃ acc, H' D = some (.lst acc) ∧ Lims H' acc ((meetL L M).take k)) ⟨same_new nD, [], upd_same, .nil⟩ ?_ ?_
    · rintro i H' hi ⟨sm, acc, hD, hA⟩
      rw [Int.zero_add]
      have el : L[i]? = some L[i] := List.getElem?_eq_getElem hi
      have em : M[i]? = some M[i] := List.getElem?_eq_getElem (by omega)
      generalize L[i] = l at el
      generalize M[i] = m at em
      obtain ⟨x1, ex, ⟨t, rfl, ht⟩⟩ := hL.at el
      obtain ⟨y1, ey, ⟨u, rfl, hu⟩⟩ := hM.at em
      have b1 := bL l (mem_at el)
      have b2 := bM m (mem_at em)
      have i0 : ∀ l : Lim, atI [V.int l.1, V.int l.2] ((0 : Nat) : Int) = some (V.int l.1) := fun l => atI_nat rfl
      have i1 : ∀ l : Lim, atI [V.int l.1, V.int l.2] ((1 : Nat) : Int) = some (V.int l.2) := fun l => atI_nat rfl
      have n1 : l.2 = ((l.2.natAbs : Nat) : Int) := by omega
      have n2 : m.2 = ((m.2.natAbs : Nat) : Int) := by omega
      have ha' := sm _ _ ha
      have hb' := sm _ _ hb
      have ht' := sm _ _ ht
      have hu' := sm _ _ hu
      refine ⟨rfl, ?_⟩
      refine ⟨_, rfl, _, rfl, a, _, _, _, rfl, rfl, SqL.of ha', atI_nat ex, t, _, _, _, rfl, rfl, SqT.of ht', i0 l, _, rfl, _, rfl, b, _, _, _, rfl, rfl, SqL.of hb', atI_nat ey, u, _, _, _, rfl, rfl, SqT.of hu', i0 m, _, _, rfl, ?_⟩
      refine ⟨_, rfl, _, rfl, a, _, _, _, rfl, rfl, SqL.of ha', atI_nat ex, t, _, _, _, rfl, rfl, SqT.of ht', i1 l, _, rfl, _, rfl, b, _, _, _, rfl, rfl, SqL.of hb', atI_nat ey, u, _, _, _, rfl, rfl, SqT.of hu', i1 m, l.2.natAbs, m.2.natAbs, by rw [← n1, ← n2]; rfl, by omega, by omega, by omega, (by show 2 ≤ sizeLine; decide), fun p np => ?_⟩
      have sp := same_new (o := .tup [.int (meet1 l m).1, .int (meet1 l m).2]) np
      have hD2 := sp _ _ hD
      have hA2 := hA.keep sp
      refine ⟨acc, hD2, ?_, fun b o e => ?_, acc ++ [.ref p], upd_same, ?_⟩
      · have := hA.len
        rw [List.length_take] at this
        exact small1000 (by omega)
      · rw [upd_ne (ne_of_none e nD)]
        exact sp _ _ (sm _ _ e)
      · rw [List.take_add_one, show (meetL L M)[i]? = _ from zip_get el em]
        exact Lims.updL hD2 (hA2.snoc ⟨p, rfl, upd_same⟩)
    · rintro H' ⟨sm, acc, hD, hA⟩
      rw [take_all (n := L.length) (show (meetL L M).length = L.length from zip_len hl)] at hA
      exact q H' D sm nD ⟨acc, hD, hA⟩
end
end KA
set_option Elab.async false
set_option linter.all false
set_option maxRecDepth 100000
set_option maxHeartbeats 4000000
namespace KA
open PySem PySem.Spec PyProof.Rows L2 XV
/-! ### points -/
def IsPt (H : Hp) (x : V) (p : List Int) : Prop := ∃ a, x = .ref a ∧ H a = some (.lst (p.map V.int))
inductive Pts (H : Hp) : List V → List (List Int) → Prop
  | nil : Pts H [] []
  | cons {x : V} {xs : List V} {p : List Int} {P : List (List Int)} : IsPt H x p → Pts H xs P → Pts H (x :: xs) (p :: P)
theorem Pts.keep {H H' : Hp} (s : Same H H') : ∀ {xs : List V} {P : List (List Int)}, Pts H xs P → Pts H' xs P
  | _, _, .nil => .nil
  | _, _, .cons h r => .cons (by
      obtain ⟨a, e, t⟩ := h
      exact ⟨a, e, s _ _ t⟩) (Pts.keep s r)
theorem Pts.len {H : Hp} : ∀ {xs : List V} {P : List (List Int)}, Pts H xs P → xs.length = P.length
  | _, _, .nil => rfl
  | _, _, .cons _ r => congrArg (· + 1) (Pts.len r)
theorem Pts.get {H : Hp} : ∀ {xs : List V} {P : List (List Int)} {i : Nat} {x : V}, Pts H xs P → xs[i]? = some x → ∃ p, P[i]? = some p ∧ IsPt H x p
  | _, _, i, x, .nil, h => by simp at h
  | _, _, 0, x, .cons a r, h => by
    cases h
    exact ⟨_, rfl, a⟩
  | _, _, i + 1, x, .cons a r, h => by
    obtain ⟨l, e, z⟩ := Pts.get (i := i) r (by simpa using h)
    exact ⟨l, by simpa using e, z⟩
theorem Pts.snoc {H : Hp} {y : V} {m : List Int} (hy : IsPt H y m) : ∀ {xs : List V} {P : List (List Int)}, Pts H xs P → Pts H (xs ++ [y]) (P ++ [m])
  | _, _, .nil => .cons hy .nil
  | _, _, .cons h r => .cons h (Pts.snoc hy r)
theorem Pts.updL {H : Hp} {D : Addr} {o : HO} : ∀ {xs : List V} {P : List (List Int)}, (∀ x ∈ xs, x ≠ .ref D) → Pts H xs P → Pts (upd H D o) xs P
  | _, _, _, .nil => .nil
  | _, _, n, .cons h r => .cons (by
      obtain ⟨a, e, t⟩ := h
      refine ⟨a, e, ?_⟩
      rw [upd_ne (fun z => n _ List.mem_cons_self (by rw [e, z]))]
      exact t) (Pts.updL (fun x hx => n x (List.mem_cons_of_mem _ hx)) r)
def stepB (P : List (List Int)) (s : Int) : List (List Int) := P.flatMap fun p => (List.range s.toNat).map fun k => p ++ [((k : Nat) : Int)]
def box (S : List Int) : List (List Int) := S.foldl stepB [[]]
theorem stepB_len (s : Int) : ∀ P : List (List Int), (stepB P s).length = P.length * s.toNat
  | [] => by simp [stepB]
  | p :: P => by
    have ih := stepB_len s P
    unfold stepB at ih ⊢
    rw [List.flatMap_cons, List.length_append, ih, List.length_map, List.length_range, List.length_cons, Nat.succ_mul]
    omega
theorem box_len {S : List Int} (hs : ∀ s ∈ S, 0 ≤ s ∧ s ≤ 9) : ∀ i, i ≤ S.length → (box (S.take i)).length ≤ 9 ^ i := by
  intro i
  induction i with
  | zero =>
    intro _
    exact Nat.le_refl 1
  | succ i ih =>
    intro hi
    have e : S[i]? = some S[i] := List.getElem?_eq_getElem hi
    have h1 := ih (by omega)
    have h2 := hs _ (mem_at e)
    rw [show box (S.take (i + 1)) = stepB (box (S.take i)) S[i] from fold_take _ _ e, stepB_len, Nat.pow_succ]
    exact Nat.mul_le_mul h1 (by omega)
theorem mem_step {P : List (List Int)} {s : Int} {q : List Int} : q ∈ stepB P s ↔ ∃ p ∈ P, ∃ k : Nat, k < s.toNat ∧ q = p ++ [((k : Nat) : Int)] := by
  unfold stepB
  rw [List.mem_flatMap]
  constructor
  · rintro ⟨p, hp, h⟩
    obtain ⟨k, hk, rfl⟩ := List.mem_map.mp h
    exact ⟨p, hp, k, List.mem_range.mp hk, rfl⟩
  · rintro ⟨p, hp, k, hk, rfl⟩
    exact ⟨p, hp, List.mem_map.mpr ⟨k, List.mem_range.mpr hk, rfl⟩⟩
theorem box_fit {S : List Int} : ∀ n, n ≤ S.length → ∀ p ∈ box (S.take n), p.length = n ∧ ∀ (i : Nat) (x s : Int), p[i]? = some x → S[i]? = some s → 0 ≤ x ∧ x < s := by
  intro n
  induction n with
  | zero =>
    intro _ p hp
    obtain rfl : p = [] := List.mem_singleton.mp hp
    exact ⟨rfl, fun i x s h => by simp at h⟩
  | succ n ih =>
    intro hn p hp
    have e : S[n]? = some S[n] := List.getElem?_eq_getElem hn
    rw [show box (S.take (n + 1)) = stepB (box (S.take n)) S[n] from fold_take _ _ e] at hp
    obtain ⟨p0, hp0, k, hk, rfl⟩ := mem_step.mp hp
    obtain ⟨l0, h0⟩ := ih (by omega) p0 hp0
    refine ⟨by rw [List.length_append, l0, List.length_singleton], fun i x s h1 h2 => ?_⟩
    by_cases c : i < n
    · rw [List.getElem?_append_left (by omega)] at h1
      exact h0 i x s h1 h2
    · have li := (List.getElem?_eq_some_iff.mp h1).1
      rw [List.length_append, l0, List.length_singleton] at li
      obtain rfl : i = n := by omega
      rw [List.getElem?_append_right (by omega), l0, Nat.sub_self] at h1
      cases h1
      cases e.symm.trans h2
      omega
theorem box_all {S p : List Int} (hl : p.length = S.length) (h : ∀ (i : Nat) (x s : Int), p[i]? = some x → S[i]? = some s → 0 ≤ x ∧ x < s) : p ∈ box S := by
  have key : ∀ n, n ≤ S.length → p.take n ∈ box (S.take n) := by
    intro n
    induction n with
    | zero =>
      intro _
      exact List.mem_singleton.mpr rfl
    | succ n ih =>
      intro hn
      have e : S[n]? = some S[n] := List.getElem?_eq_getElem hn
      have e2 : p[n]? = some p[n] := List.getElem?_eq_getElem (by omega)
      obtain ⟨b0, b1⟩ := h n _ _ e2 e
      rw [show box (S.take (n + 1)) = stepB (box (S.take n)) S[n] from fold_take _ _ e]
      refine mem_step.mpr ⟨_, ih (by omega), (p[n]).toNat, by omega, ?_⟩
      rw [List.take_add_one, e2, Int.toNat_of_nonneg b0]
      rfl
  have z := key S.length (Nat.le_refl _)
  rw [List.take_length, ← hl, List.take_length] at z
  exact z
abbrev nBox : List Str := ["_law_sizes", "_law_found", "_law_size", "_law_more", "_law_point", "_law_count"]
abbrev sBox : Stmt := top 32
abbrev sClasses : Stmt := top 33
theorem scBox : FnScope nBox ["_law_sizes"] (defScope sBox) := ⟨rfl, rfl, rfl, by decide +kernel, rfl, by decide +kernel, by decide +kernel⟩
theorem scClasses : FnScope ["_law_limits_here", "_law_limit"] ["_law_limits_here"] (defScope sClasses) := ⟨rfl, rfl, rfl, by decide +kernel, rfl, by decide +kernel, by decide +kernel⟩
def sizes (L : List Lim) : List Int := L.map fun l => l.1 + l.2
def spBox : Sp := fun vs H Q _ => ∃ (a : Addr) (S : List Int), vs = [.ref a] ∧ H a = some (.lst (S.map V.int)) ∧ S.length ≤ 3 ∧ (∀ s ∈ S, 0 ≤ s ∧ s ≤ 9) ∧ ∀ (H' : Hp) (r : Addr) (xs : List V), Same H H' → H' r = some (.lst xs) → Pts H' xs (box S) → Q (.ref r) H'
def spClasses : Sp := fun vs H Q _ => ∃ (a : Addr) (L : List Lim), vs = [.ref a] ∧ LL H a L ∧ L.length ≤ 3 ∧ Bnd 3 6 L ∧ ∀ (H' : Hp) (r : Addr) (xs : List V), Same H H' → H' r = some (.lst xs) → Pts H' xs (box (sizes L)) → Q (.ref r) H'
section
variable {P : Program} {w : World} {K : PySem.W.Frag} {mg : Str → Option Value} {base : Heap} {f : Addr} {fd : FuncData} {C : Addr}
theorem ok_box (F : FnP K "_law_box" sBox f fd) (z_range : mg "range" = none) : FnOk P w K mg base CX0 1 f fd ["_law_sizes"] spBox := by
  have nd := scBox.nd
  refine F.ok scBox (fun vs H Q E h => ?_) (fun cdv A outer s H vs Q E hr h => ?_)
  · obtain ⟨a, S, rfl, _⟩ := h
    rfl
  · obtain ⟨sa, S, rfl, hs, h3, hb, q⟩ := h
    have sz := sizeLine_eq
    refine ⟨_, PSs.nox (pss_cons (ps_set (i := 1) nd rfl (Or.inl rfl) (pe_lst (pa_cons (pe_lst pa_nil) pa_nil)))
      (pss_cons (ps_for PassesOwn.never rfl (pi_list (pv 0)) (pg_name (i := 2) nd rfl (Or.inl rfl))
        (pss_cons (ps_set (i := 3) nd rfl (Or.inl rfl) (pe_lst pa_nil))
        (pss_cons (ps_for PassesOwn.never rfl (pi_list (pv 1)) (pg_name (i := 4) nd rfl (Or.inl rfl))
          (pss_one (ps_for PassesOwn.never rfl (pi_range1 (by rfl) z_range (pa_cons (pv 2) pa_nil)) (pg_name (i := 5) nd rfl (Or.inl rfl))
            (pss_one (ps_expr (pe_bm PySem.F.plainAttrs_list PySem.F.slot_list_append PySem.F.type_list_append mt_append (pv 3) (pa_cons (pe_op op_cat (pv 4) (pe_lst (pa_cons (pv 5) pa_nil))) pa_nil)))))))
        (pss_one (ps_set (i := 1) nd rfl (Or.inl rfl) (pv 3))))))
      (pss_one (ps_ret (pv 1))))), ?_⟩
    refine ⟨(by show 0 ≤ sizeLine; decide), fun e0 ne0 => ⟨(by show 1 ≤ sizeLine; decide), fun f0 nf0 => ?_⟩⟩
    have s1 := same_new (o := .lst []) ne0
    have s2 := same_new (o := .lst [.ref e0]) nf0
    have sA := s1.trans s2
    have he0 := s2 _ _ (upd_same (H := H) (a := e0) (o := .lst []))
    refine ⟨_, rfl, sa, rfl, ⟨_, SqL.of (sA _ _ hs)⟩, for_list (K := K) (a := sa) (xs := S.map V.int) (fun i σ H' => (∃ fa xs x2 x3 x4 x5, σ = [some (.ref sa), some (.ref fa), x2, x3, x4, x5] ∧ H' fa = some (.lst xs) ∧ Pts H' xs (box (S.take i))) ∧ Same H H')
      ⟨⟨f0, [.ref e0], _, _, _, _, rfl, upd_same, .cons ⟨e0, rfl, he0⟩ .nil⟩, sA⟩ (fun i σ H' _ p => SqL.of (p.2 _ _ hs)) ?_ ?_⟩
    · rintro i y σ H' hi ⟨⟨fa, xs, x2, x3, x4, x5, rfl, hfa, hP⟩, sm⟩
      rw [List.getElem?_map] at hi
      obtain ⟨s0, es, rfl⟩ := Option.map_eq_some_iff.mp hi
      have hs9 := hb s0 (mem_at es)
      have li : i < 3 := by
        have := (List.getElem?_eq_some_iff.mp es).1
        omega
      have lN : (box (S.take i)).length ≤ 81 := by
        have h1 := box_len hb i (by have := (List.getElem?_eq_some_iff.mp es).1; omega)
        have h2 : 9 ^ i ≤ 9 ^ 2 := Nat.pow_le_pow_right (by decide) (by omega)
        omega
      have lx := hP.len
      refine ⟨(by show 0 ≤ sizeLine; decide), fun D nD => ?_⟩
      have sD := same_new (o := .lst []) nD
      refine ⟨_, rfl, fa, rfl, ⟨_, SqL.of (sD _ _ hfa)⟩, for_list (K := K) (a := fa) (xs := xs) (fun j σ H2 => (∃ acc x4 x5, σ = [some (.ref sa), some (.ref fa), some (.int s0), some (.ref D), x4, x5] ∧ H2 D = some (.lst acc) ∧ (∀ x ∈ acc, x ≠ .ref D) ∧ Pts H2 acc (stepB ((box (S.take i)).take j) s0)) ∧ Same H' H2)
        ⟨⟨[], _, _, rfl, upd_same, (fun x hx => by cases hx), .nil⟩, sD⟩ (fun j σ H2 _ p => SqL.of (p.2 _ _ hfa)) ?_ ?_⟩
      · rintro j y2 σ H2 hj ⟨⟨acc, x4, x5, rfl, hD, hn, hA⟩, sm2⟩
        obtain ⟨p, ep, ⟨pa, rfl, hpa⟩⟩ := hP.get hj
        have lj : j < 81 := by
          have := (List.getElem?_eq_some_iff.mp ep).1
          omega
        refine ⟨_, rfl, s0, rfl, by omega, by omega, for_range (lo := 0) (n := s0.toNat) (fun k σ H3 => (∃ acc x5, σ = [some (.ref sa), some (.ref fa), some (.int s0), some (.ref D), some (.ref pa), x5] ∧ H3 D = some (.lst acc) ∧ (∀ x ∈ acc, x ≠ .ref D) ∧ Pts H3 acc (stepB ((box (S.take i)).take j) s0 ++ (List.range k).map fun k => p ++ [((k : Nat) : Int)])) ∧ Same H' H3)
          ⟨⟨acc, x5, rfl, hD, hn, by rw [List.range_zero, List.map_nil, List.append_nil]; exact hA⟩, sm2⟩ ?_ ?_⟩
        · rintro k σ H3 hk ⟨⟨acc, x5, rfl, hD, hn, hA⟩, sm3⟩
          rw [Int.zero_add]
          have hpa3 := sm3 _ _ hpa
          have la := hA.len
          rw [List.length_append, stepB_len, List.length_take, List.length_map, List.length_range] at la
          have lb : min j (box (S.take i)).length * s0.toNat ≤ 80 * 9 := Nat.mul_le_mul (by omega) (by omega)
          refine ⟨_, rfl, .inl ⟨rfl, _, SqL.of hD⟩, _, rfl, _, rfl, (by show 1 ≤ sizeLine; decide), fun u nu => ?_⟩
          have su := same_new (o := .lst [.int (k : Int)]) nu
          refine ⟨pa, u, _, _, rfl, rfl, su _ _ hpa3, upd_same, ?_, fun r nr => ?_⟩
          · have z := hpa3
            rw [List.length_map, List.length_singleton]
            have z2 := (box_fit i (by have := (List.getElem?_eq_some_iff.mp es).1; omega) p (mem_at ep)).1
            omega
          have sr := same_new (o := .lst (p.map V.int ++ [.int (k : Int)])) nr
          have sB := su.trans sr
          have hD5 := sB _ _ hD
          have nrD : r ≠ D := fun z => by
            rw [z, su _ _ hD] at nr
            cases nr
          refine ⟨D, _, _, rfl, rfl, hD5, small1000 (by omega), ⟨acc ++ [.ref r], _, rfl, upd_same, ?_, ?_⟩, fun b o e => ?_⟩
          · intro x hx
            rcases List.mem_append.mp hx with h | h
            · exact hn x h
            · rcases List.mem_singleton.mp h with rfl
              exact fun z => nrD (V.ref.inj z)
          · rw [List.range_succ, List.map_append, ← List.append_assoc]
            refine Pts.updL ?_ (Pts.snoc ⟨r, rfl, ?_⟩ (hA.keep sB))
            · intro x hx
              rcases List.mem_append.mp hx with h | h
              · exact hn x h
              · rcases List.mem_singleton.mp h with rfl
                exact fun z => nrD (V.ref.inj z)
            · rw [upd_same, List.map_append]
              rfl
          · rw [upd_ne (ne_of_none (H := H') e nD)]
            exact sB _ _ (sm3 _ _ e)
        · rintro σ H3 ⟨⟨acc, x5, rfl, hD, hn, hA⟩, sm3⟩
          refine ⟨⟨acc, _, _, rfl, hD, hn, ?_⟩, sm3⟩
          rw [List.take_add_one, ep]
          show Pts H3 acc (List.flatMap _ (_ ++ [p]))
          rw [List.flatMap_append, List.flatMap_singleton]
          exact hA
      · rintro σ H2 ⟨⟨acc, x4, x5, rfl, hD, hn, hA⟩, sm2⟩
        refine ⟨_, rfl, ⟨D, acc, _, _, _, _, rfl, hD, ?_⟩, sm.trans sm2⟩
        rw [show box (S.take (i + 1)) = stepB (box (S.take i)) s0 from fold_take _ _ es]
        rw [lx, List.take_length] at hA
        exact hA
    · rintro σ H' ⟨⟨fa, xs, x2, x3, x4, x5, rfl, hfa, hP⟩, sm⟩
      rw [List.length_map, List.take_length] at hP
      exact ⟨_, rfl, q H' fa xs sm hfa hP⟩
theorem ok_classes (F : FnP K "_law_classes" sClasses f fd) (o_box : Ok P w K mg base "_law_box" 1 ["_law_sizes"] spBox) : FnOk P w K mg base CX0 2 f fd ["_law_limits_here"] spClasses := by
  have nd := scClasses.nd
  refine F.ok scClasses (fun vs H Q E h => ?_) (fun cdv A outer s H vs Q E hr h => ?_)
  · obtain ⟨a, L, rfl, _⟩ := h
    rfl
  · obtain ⟨a, L, rfl, ⟨xs, ha, hL⟩, h3, hb, q⟩ := h
    have lx := hL.len
    refine ⟨_, PSs.nox (pss_one (ps_ret (pe_callO o_box hr (by rfl) (pa_cons (pe_lc (own := [("_law_limit", 1)]) (g := gName 1) (by rfl) nd (pi_list (pv 0)) (blkOk_by (N := ["_law_limits_here", "_law_limit"]) (sc := defScope sClasses) (own := [("_law_limit", 1)]) (by decide +kernel)) (fun _ _ _ _ _ => pg_name (i := 1) nd rfl (Or.inl rfl)) (fun _ _ _ _ _ => pts_nil)
        (fun _ _ _ _ _ => pe_op op_add (pe_ix (ix_tupK (K := K) rfl) (pv 1) pe_int (fun _ _ => rfl)) (pe_ix (ix_tupK (K := K) rfl) (pv 1) pe_int (fun _ _ => rfl)))) pa_nil)))), ?_⟩
    refine ⟨_, rfl, a, rfl, ⟨_, SqL.of ha⟩, fun D nD => lc_list (K := K) (a := a) (xs := xs) (fun k H' => Same H H' ∧ H' D = some (.lst (((sizes L).take k).map V.int))) ⟨same_new nD, upd_same⟩ (fun k H' _ p => SqL.of (p.1 _ _ ha)) ?_ ?_⟩
    · rintro k y H' hk ⟨sm, hD⟩
      obtain ⟨l, hl, ⟨t, rfl, ht⟩⟩ := hL.get hk
      have li : k < 3 := by
        have := (List.getElem?_eq_some_iff.mp hl).1
        omega
      have ht' := sm _ _ ht
      have i0 : atI [V.int l.1, V.int l.2] ((0 : Nat) : Int) = some (V.int l.1) := atI_nat rfl
      have i1 : atI [V.int l.1, V.int l.2] ((1 : Nat) : Int) = some (V.int l.2) := atI_nat rfl
      refine ⟨rfl, ?_⟩
      refine ⟨_, rfl, t, _, _, _, rfl, rfl, SqT.of ht', i0, _, rfl, t, _, _, _, rfl, rfl, SqT.of ht', i1, _, _, rfl, rfl, _, hD, ?_, fun b o e => ?_, ?_⟩
      · rw [List.length_map]
        exact small1000 (Nat.le_trans (List.length_take_le _ _) (by omega))
      · rw [upd_ne (ne_of_none (H := H) e nD)]
        exact sm _ _ e
      · rw [upd_same, List.take_add_one, show (sizes L)[k]? = some (l.1 + l.2) by unfold sizes; rw [List.getElem?_map, hl]; rfl, List.map_append]
        rfl
    · rintro H' ⟨sm, hD⟩
      rw [take_all (n := xs.length) (by unfold sizes; rw [List.length_map]; omega)] at hD
      refine ⟨D, sizes L, rfl, hD, by unfold sizes; rw [List.length_map]; exact h3, fun s hs => ?_, fun H2 r ys s2 h h2 => q H2 r ys (sm.trans s2) h h2⟩
      obtain ⟨l, hl, rfl⟩ := List.mem_map.mp hs
      have := hb l hl
      omega
end
end KA
set_option Elab.async false
set_option linter.all false
set_option maxRecDepth 100000
set_option maxHeartbeats 4000000
namespace KA
open PySem PySem.Spec PyProof.Rows L2 XV
theorem lay_ints : ∀ l : List Int, PyData.canLayAll0 (l.map PyData.int) = true
  | [] => by simp [PyData.canLayAll0]
  | x :: l => by simp [PyData.canLayAll0, PyData.canLay0, lay_ints l]
theorem depth_ints : ∀ l : List Int, PyData.depthAll (l.map PyData.int) = 0
  | [] => by simp [PyData.depthAll]
  | x :: l => by simp [PyData.depthAll, PyData.depth, depth_ints l]
theorem shaped_lst (l : List Int) : SeqAt.shaped (.list (l.map PyData.int)) = true := by simp [SeqAt.shaped, PyData.canLay0, lay_ints, PyData.depth, depth_ints]
theorem dp_ints {K : PySem.W.Frag} {H : Hp} : ∀ l : List Int, DpAll K H (l.map V.int) (l.map PyData.int)
  | [] => .nil
  | x :: l => .cons (.int x) (dp_ints l)
theorem eqv_intsA : ∀ p q : List Int, PyData.eqvAll (p.map PyData.int) (q.map PyData.int) = decide (p = q)
  | [], [] => by simp [PyData.eqvAll]
  | [], m :: M => by simp [PyData.eqvAll]
  | l :: L, [] => by simp [PyData.eqvAll]
  | l :: L, m :: M => by
    have ih := eqv_intsA L M
    simp only [List.map_cons, PyData.eqvAll, PyData.eqv, ih, List.cons.injEq]
    by_cases h1 : l = m <;> by_cases h2 : L = M <;> simp [h1, h2]
theorem eqv_ints (p q : List Int) : PyData.eqv (.list (p.map PyData.int)) (.list (q.map PyData.int)) = decide (p = q) := by
  simp only [PyData.eqv]
  exact eqv_intsA p q
/-! ### which points lie in one class -/
theorem cls1_same {l m : Lim} {x t : Int} (h1 : m.1 ≤ l.1) (hx : l.1 ≤ x) (hd : l.2 % m.2 = 0) (ht : 0 ≤ t) (hl : 0 ≤ l.2) : cls1 m (x + t * l.2) = cls1 m x := by
  have hp : 0 ≤ t * l.2 := Int.mul_nonneg ht hl
  unfold cls1
  rw [if_neg (by omega), if_neg (by omega)]
  obtain ⟨q, hq⟩ := Int.dvd_of_emod_eq_zero hd
  have e : x + t * l.2 - m.1 = (x - m.1) + m.2 * (t * q) := by
    have : t * l.2 = m.2 * (t * q) := by rw [hq, ← Int.mul_assoc, Int.mul_comm t m.2, Int.mul_assoc]
    omega
  rw [e, Int.add_mul_emod_self_left]
theorem cls1_back {l m : Lim} (h0 : 0 ≤ l.1) (h1 : 1 ≤ l.2) (h2 : 1 ≤ m.2) (h : cls1 m (l.1 + l.2) = cls1 m l.1) : ref1 l m = true := by
  unfold cls1 at h
  by_cases c : l.1 < m.1
  · rw [if_pos c] at h
    by_cases c2 : l.1 + l.2 < m.1
    · rw [if_pos c2] at h
      omega
    · rw [if_neg c2] at h
      have := Int.emod_nonneg (l.1 + l.2 - m.1) (show m.2 ≠ 0 by omega)
      omega
  · rw [if_neg c, if_neg (by omega)] at h
    have e : (l.1 + l.2 - m.1) % m.2 = (l.1 - m.1) % m.2 := by omega
    have e2 := Int.emod_eq_emod_iff_emod_sub_eq_zero.mp e
    rw [show l.1 + l.2 - m.1 - (l.1 - m.1) = l.2 by omega] at e2
    unfold ref1
    rw [decide_eq_true (show m.1 ≤ l.1 by omega), decide_eq_true e2]
    rfl
theorem clsL_same {L M : List Lim} (h : refB L M = true) {p : List Int} {i : Nat} {l : Lim} {c t : Int} (hlen : L.length = M.length) (hl : L[i]? = some l) (hc : p[i]? = some c) (hx : l.1 ≤ c) (ht : 0 ≤ t) (h2 : 0 ≤ l.2) : clsL M (p.set i (c + t * l.2)) = clsL M p := by
  have li := (List.getElem?_eq_some_iff.mp hl).1
  have hm : M[i]? = some M[i] := List.getElem?_eq_getElem (by omega)
  have r := ref_at h hl hm
  unfold ref1 at r
  rw [Bool.and_eq_true, decide_eq_true_eq, decide_eq_true_eq] at r
  unfold clsL
  apply List.ext_getElem?
  intro j
  rw [List.getElem?_zipWith, List.getElem?_zipWith]
  by_cases e : i = j
  · subst e
    rw [List.getElem?_set_self (List.getElem?_eq_some_iff.mp hc).1, hm, hc]
    show some (cls1 M[i] (c + t * l.2)) = some (cls1 M[i] c)
    rw [cls1_same r.1 hx r.2 ht h2]
  · rw [List.getElem?_set_ne e]
/-- the point p and the next one at the place i lie in one class of M -/
def passAt (L M : List Lim) (p : List Int) (i : Nat) : Prop := ∀ (l : Lim) (c : Int), L[i]? = some l → p[i]? = some c → l.1 ≤ c → clsL M (p.set i (c + 1 * l.2)) = clsL M p
theorem pass_ref {L M : List Lim} (hlen : L.length = M.length) (hL : ∀ l ∈ L, 0 ≤ l.1 ∧ 1 ≤ l.2) (hM : ∀ m ∈ M, 1 ≤ m.2) (h : ∀ p ∈ box (sizes L), ∀ i, passAt L M p i) : refB L M = true := by
  refine ref_all fun i l m hl hm => ?_
  have li := (List.getElem?_eq_some_iff.mp hl).1
  obtain ⟨l0, l1⟩ := hL l (mem_at hl)
  have hp : (List.replicate L.length (0 : Int)).set i l.1 ∈ box (sizes L) := by
    refine box_all (by unfold sizes; rw [List.length_set, List.length_replicate, List.length_map]) fun j x s h1 h2 => ?_
    unfold sizes at h2
    rw [List.getElem?_map] at h2
    obtain ⟨k, hk, rfl⟩ := Option.map_eq_some_iff.mp h2
    obtain ⟨k0, k1⟩ := hL k (mem_at hk)
    by_cases e : i = j
    · subst e
      cases hl.symm.trans hk
      rw [List.getElem?_set_self (by rw [List.length_replicate]; exact li)] at h1
      cases h1
      omega
    · rw [List.getElem?_set_ne e] at h1
      have := mem_at h1
      obtain rfl := (List.mem_replicate.mp this).2
      omega
  have hc : ((List.replicate L.length (0 : Int)).set i l.1)[i]? = some l.1 := List.getElem?_set_self (by rw [List.length_replicate]; exact li)
  have z := h _ hp i l l.1 hl hc (Int.le_refl _)
  have z2 := congrArg (fun q => q[i]?) z
  unfold clsL at z2
  simp only [List.getElem?_zipWith] at z2
  rw [List.getElem?_set_self (by rw [List.length_set, List.length_replicate]; exact li), hc, hm] at z2
  have z3 : cls1 m (l.1 + 1 * l.2) = cls1 m l.1 := Option.some.inj z2
  rw [Int.one_mul] at z3
  exact cls1_back l0 l1 (hM m (mem_at hm)) z3
abbrev nLies : List Str := ["_law_limits_here", "_law_other_here", "_law_point", "_law_at", "_law_turn", "_law_more"]
abbrev sLies : Stmt := top 44
theorem scLies : FnScope nLies ["_law_limits_here", "_law_other_here"] (defScope sLies) := ⟨rfl, rfl, rfl, by decide +kernel, rfl, by decide +kernel, by decide +kernel⟩
def spLies (C : Addr) : Sp := fun vs H Q _ => ∃ (a x : Addr) (L M : List Lim), vs = [.ref a, .ref x] ∧ LL H a L ∧ Gr C H x M ∧ L.length = M.length ∧ Bnd 3 6 L ∧ Lok M ∧ ∀ H', Same H H' → Q (.bl (refB L M)) H'
section
variable {P : Program} {w : World} {K : PySem.W.Frag} {mg : Str → Option Value} {base : Heap} {f : Addr} {fd : FuncData} {C : Addr}
theorem ok_lies (F : FnP K "_law_lies_within" sLies f fd) (o_classes : Ok P w K mg base "_law_classes" 2 ["_law_limits_here"] spClasses) (o_put : Ok P w K mg base "_law_put_at" 1 ["_law_point", "_law_at", "_law_count"] spPut) (o_cls : Ok P w K mg base "class_of" 5 ["grid", "point"] (spClassOf C))
    (z_range : mg "range" = none) (z_len : mg "len" = none) (z_list : mg "list" = none) : FnOk P w K mg base CX0 6 f fd ["_law_limits_here", "_law_other_here"] (spLies C) := by
  have nd := scLies.nd
  refine F.ok scLies (fun vs H Q E h => ?_) (fun cdv A outer s H vs Q E hr h => ?_)
  · obtain ⟨a, x, L, M, rfl, _⟩ := h
    rfl
  · obtain ⟨a, x, L, M, rfl, ⟨ys, ha, hL⟩, hx, hl, hbL, hok, q⟩ := h
    have hu := hr.units
    have lx := hL.len
    have h3 : L.length ≤ 3 := by have := hok.1; omega
    have r5 : Room 5 (A.deeper (envOfC "_law_lies_within" (defScope sLies) s.heap.objs.size f cdv)) := hr
    have r2 := r5.mono (by decide : 2 ≤ 5)
    have r1 := r5.mono (by decide : 1 ≤ 5)
    refine ⟨_, PSs.nox (pss_cons (ps_for PassesOwn.never rfl (pi_list (pe_callO o_classes r2 (by rfl) (pa_cons (pv 0) pa_nil))) (pg_name (i := 2) nd rfl (Or.inl rfl))
        (pss_one (ps_for PassesOwn.never rfl (pi_range1 (by rfl) z_range (pa_cons (pe_callB call_len (by rfl) z_len boot_len (pa_cons (pv 0) pa_nil)) pa_nil)) (pg_name (i := 3) nd rfl (Or.inl rfl))
          (pss_one (ps_for PassesOwn.never rfl (pi_range2 (by rfl) z_range (pa_cons pe_int (pa_cons pe_int pa_nil))) (pg_name (i := 4) nd rfl (Or.inl rfl))
            (pss_cons (ps_set (i := 5) nd rfl (Or.inl rfl) (pe_callO o_put r1 (by rfl) (pa_cons (pv 2) (pa_cons (pv 3) (pa_cons (pe_op op_add (pe_ix ix_list (pv 2) (pv 3) (fun _ _ => rfl)) (pe_op op_mul (pv 4) (pe_ix ix_tup (pe_ix ix_list (pv 0) (pv 3) (fun _ _ => rfl)) pe_int (fun _ _ => rfl)))) pa_nil)))))
            (pss_one (ps_if (PW.pt (pw_and (pt_cmpR op_ge (pe_ix ix_list (pv 2) (pv 3) (fun _ _ => rfl)) (pe_ix ix_tup (pe_ix ix_list (pv 0) (pv 3) (fun _ _ => rfl)) pe_int (fun _ _ => rfl)) (nomark _))
              (pw_and1 (pt_cmpR (op_neD hu) (pe_callO o_cls r5 (by rfl) (pa_cons (pv 1) (pa_cons (pe_callTy call_list_of (by rfl) z_list (by decide +kernel) (pa_cons (pv 5) pa_nil)) pa_nil))) (pe_callO o_cls r5 (by rfl) (pa_cons (pv 1) (pa_cons (pe_callTy call_list_of (by rfl) z_list (by decide +kernel) (pa_cons (pv 2) pa_nil)) pa_nil))) (nomark _))))) (pss_one (ps_ret pe_bl)) pss_nil))))))))
      (pss_one (ps_ret pe_bl))), ?_⟩
    refine ⟨_, rfl, a, L, rfl, ⟨ys, ha, hL⟩, h3, hbL, fun H0 r xs s0 hr0 hP => ?_⟩
    have lP := hP.len
    refine ⟨r, rfl, ⟨_, SqL.of hr0⟩, for_list (K := K) (a := r) (xs := xs) (fun j σ H1 => (∃ x2 x3 x4 x5, σ = [some (.ref a), some (.ref x), x2, x3, x4, x5]) ∧ Same H0 H1 ∧ ∀ j' p, j' < j → (box (sizes L))[j']? = some p → ∀ i, passAt L M p i)
      ⟨⟨_, _, _, _, rfl⟩, Same.refl _, fun j' p hj => absurd hj (by omega)⟩ (fun j σ H1 _ z => SqL.of (z.2.1 _ _ hr0)) ?_ ?_⟩
    · rintro j y σ H1 hj ⟨⟨x2, x3, x4, x5, rfl⟩, sm, ih⟩
      obtain ⟨p, ep, ⟨pa, rfl, hpa⟩⟩ := hP.get hj
      obtain ⟨lp, fit⟩ := box_fit (S := sizes L) (sizes L).length (Nat.le_refl _) p (by rw [List.take_length]; exact mem_at ep)
      have ls : (sizes L).length = L.length := by unfold sizes; rw [List.length_map]
      have sH := s0.trans sm
      have ha1 := sH _ _ ha
      refine ⟨_, rfl, _, L.length, rfl, .inl ⟨_, SqL.of ha1, lx.symm⟩, (L.length : Int), rfl, by omega, by omega, ?_⟩
      rw [show ((L.length : Nat) : Int).toNat = L.length from by omega]
      refine for_range (lo := 0) (n := L.length) (fun i σ H2 => (∃ x3 x4 x5, σ = [some (.ref a), some (.ref x), some (.ref pa), x3, x4, x5]) ∧ Same H0 H2 ∧ ∀ i', i' < i → passAt L M p i') ⟨⟨_, _, _, rfl⟩, sm, fun i' h => absurd h (by omega)⟩ ?_ ?_
      · rintro i σ H2 hi ⟨⟨x3, x4, x5, rfl⟩, sm2, ih2⟩
        rw [Int.zero_add]
        have el : L[i]? = some L[i] := List.getElem?_eq_getElem hi
        have ec : p[i]? = some p[i] := List.getElem?_eq_getElem (by omega)
        generalize L[i] = l at el
        generalize p[i] = c at ec
        obtain ⟨l0, l1, l2, l3⟩ := hbL l (mem_at el)
        have fit0 : ∀ y ∈ p, 0 ≤ y := fun y hy => by
          obtain ⟨k, hk⟩ := List.mem_iff_getElem?.mp hy
          have lk := (List.getElem?_eq_some_iff.mp hk).1
          exact (fit k y _ hk (List.getElem?_eq_getElem (by omega))).1
        have c0 : 0 ≤ c := fit0 c (mem_at ec)
        obtain ⟨lv, elv, ⟨t, rfl, ht⟩⟩ := hL.at el
        have gp : (p.map V.int)[i]? = some (.int c) := by
          rw [List.getElem?_map, ec]
          rfl
        refine ⟨1, 3, rfl, by decide, for_range (lo := 1) (n := 2) (fun k σ H3 => (∃ x4 x5, σ = [some (.ref a), some (.ref x), some (.ref pa), some (.int (i : Int)), x4, x5]) ∧ Same H0 H3 ∧ (1 ≤ k → passAt L M p i)) ⟨⟨_, _, rfl⟩, sm2, fun z => absurd z (by omega)⟩ ?_ ?_⟩
        · rintro k σ H3 hk ⟨⟨x4, x5, rfl⟩, sm3, ih3⟩
          have sK := s0.trans sm3
          have ha3 := sK _ _ ha
          have ht3 := sK _ _ ht
          have hpa3 := sm3 _ _ hpa
          have i0 : atI [V.int l.1, V.int l.2] ((0 : Nat) : Int) = some (V.int l.1) := atI_nat rfl
          have i1 : atI [V.int l.1, V.int l.2] ((1 : Nat) : Int) = some (V.int l.2) := atI_nat rfl
          refine ⟨_, rfl, _, rfl, _, rfl, _, rfl, pa, _, _, _, rfl, rfl, SqL.of hpa3, atI_nat gp, _, rfl, _, rfl, _, rfl, a, _, _, _, rfl, rfl, SqL.of ha3, atI_nat elv, t, _, _, _, rfl, rfl, SqT.of ht3, i1, _, _, rfl, rfl, .inl ⟨by omega, by omega⟩, _, _, rfl, rfl, ?_⟩
          refine ⟨pa, p, i, _, rfl, hpa3, by omega, by omega, fun H4 m s4 hm => ?_⟩
          have ha4 := s4 _ _ ha3
          have ht4 := s4 _ _ ht3
          have hpa4 := s4 _ _ hpa3
          have hx4 : Gr C H4 x M := hx.keep (sK.trans s4)
          refine ⟨_, rfl, _, rfl, pa, _, _, _, rfl, rfl, SqL.of hpa4, atI_nat gp, _, rfl, _, rfl, a, _, _, _, rfl, rfl, SqL.of ha4, atI_nat elv, t, _, _, _, rfl, rfl, SqT.of ht4, i0, _, _, rfl, rfl, _, rfl, ite2 (fun z => ?_) (fun z => ?_)⟩
          · have z : l.1 ≤ c := of_decide_eq_true z
            have pos : 0 ≤ (1 + (k : Int)) * l.2 := Int.mul_nonneg (by omega) (by omega)
            refine ⟨_, rfl, _, rfl, m, _, rfl, .inl (SqL.of hm), fun u nu => ?_⟩
            have su := same_new (o := .lst ((p.set i (c + (1 + (k : Int)) * l.2)).map V.int)) nu
            refine ⟨x, u, M, _, rfl, hx4.keep su, hok, upd_same, by rw [List.length_set]; omega, ?_, fun H5 r5' s5 h5 => ?_⟩
            · intro y hy
              rcases List.mem_or_eq_of_mem_set hy with h | h
              · exact fit0 y h
              · omega
            have s45 := su.trans s5
            refine ⟨_, rfl, _, rfl, pa, _, rfl, .inl (SqL.of (s45 _ _ hpa4)), fun u2 nu2 => ?_⟩
            have su2 := same_new (o := .lst (p.map V.int)) nu2
            refine ⟨x, u2, M, p, rfl, (hx4.keep s45).keep su2, hok, upd_same, by omega, fit0, fun H6 r6 s6 h6 => ?_⟩
            have h56 := (su2.trans s6) _ _ h5
            refine ⟨_, _, .lst (SqL.of h56) (dp_ints _), .lst (SqL.of h6) (dp_ints _), shaped_lst _, shaped_lst _, ?_⟩
            rw [eqv_ints]
            have sF : Same H0 H6 := (((sm3.trans s4).trans s45).trans su2).trans s6
            by_cases e : clsL M (p.set i (c + (1 + (k : Int)) * l.2)) = clsL M p
            · rw [decide_eq_true e]
              refine ⟨_, rfl, iteF ⟨⟨_, _, rfl⟩, sF, fun _ => ?_⟩⟩
              by_cases k0 : k = 0
              · subst k0
                intro l' c' e1 e2 _
                cases el.symm.trans e1
                cases ec.symm.trans e2
                exact e
              · exact ih3 (by omega)
            · rw [decide_eq_false e]
              have eF : refB L M = false := Bool.eq_false_iff.mpr fun y => e (clsL_same y hl el ec z (by omega) (by omega))
              refine ⟨_, rfl, iteT ?_⟩
              rw [eF] at q
              exact q H6 (s0.trans sF)
          · have z : ¬ l.1 ≤ c := fun y => z (decide_eq_true y)
            refine iteF ⟨⟨_, _, rfl⟩, sm3.trans s4, fun _ => ?_⟩
            intro l' c' e1 e2 e3
            cases el.symm.trans e1
            cases ec.symm.trans e2
            exact absurd e3 z
        · rintro σ H3 ⟨⟨x4, x5, rfl⟩, sm3, ih3⟩
          refine ⟨⟨_, _, _, rfl⟩, sm3, fun i' hi' => ?_⟩
          by_cases e : i' < i
          · exact ih2 i' e
          · obtain rfl : i' = i := by omega
            exact ih3 (by omega)
      · rintro σ H2 ⟨⟨x3, x4, x5, rfl⟩, sm2, ih2⟩
        refine ⟨⟨_, _, _, _, rfl⟩, sm2, fun j' p' hj' e => ?_⟩
        by_cases e2 : j' < j
        · exact ih j' p' e2 e
        · obtain rfl : j' = j := by omega
          cases ep.symm.trans e
          intro i l c e1
          exact ih2 i (List.getElem?_eq_some_iff.mp e1).1 l c e1
    · rintro σ H1 ⟨⟨x2, x3, x4, x5, rfl⟩, sm, ih⟩
      have e : refB L M = true := pass_ref hl (fun l hl => ⟨(hbL l hl).1, (hbL l hl).2.2.1⟩) (fun m hm => (hok.2 m hm).2.2.1) fun p hp i => by
        obtain ⟨j, hj⟩ := List.mem_iff_getElem?.mp hp
        exact ih j p (by have := (List.getElem?_eq_some_iff.mp hj).1; omega) hj i
      rw [e] at q
      exact q H1 (s0.trans sm)
end
end KA
set_option Elab.async false
set_option linter.all false
set_option maxRecDepth 100000
set_option maxHeartbeats 4000000
namespace KA
open PySem PySem.Spec PyProof.Rows L2 XV
abbrev nOther : List Str := ["_law_generator_here", "_law_limits_here", "_law_found", "_law_way", "_law_at", "_law_threshold", "_law_period"]
abbrev sOther : Stmt := top 41
theorem scOther : FnScope nOther ["_law_generator_here", "_law_limits_here"] (defScope sOther) := ⟨rfl, rfl, rfl, by decide +kernel, rfl, by decide +kernel, by decide +kernel⟩
def spOther : Sp := fun vs H Q _ => ∃ (g a : Addr) (n : Nat) (L : List Lim) (t p : Int), vs = [.ref g, .ref a] ∧ Dr H g n ∧ n ≤ 400000 ∧ LL H a L ∧ L.length ≤ 3 ∧ Bnd t p L ∧ 3 ≤ t ∧ t ≤ 300 ∧ 6 ≤ p ∧ p ≤ 300 ∧
  ∀ (H' : Hp) (r : Addr) (L' : List Lim), L'.length = L.length → Bnd (t + 1) (3 * p) L' → But H H' g → Dr H' g (n + 1000) → H r = none → LL H' r L' → Q (.ref r) H'
theorem bnd_set {t p : Int} {L : List Lim} (h : Bnd t p L) {i : Nat} {m : Lim} (hm : 0 ≤ m.1 ∧ m.1 ≤ t ∧ 1 ≤ m.2 ∧ m.2 ≤ p) : Bnd t p (L.set i m) := fun l hl => by
  rcases List.mem_or_eq_of_mem_set hl with h' | h'
  · exact h l h'
  · rw [h']
    exact hm
theorem bnd_le {t p t' p' : Int} {L : List Lim} (h : Bnd t p L) (ht : t ≤ t') (hp : p ≤ p') : Bnd t' p' L := fun l hl => by
  obtain ⟨a, b, c, d⟩ := h l hl
  exact ⟨a, by omega, c, by omega⟩
section
variable {P : Program} {w : World} {K : PySem.W.Frag} {mg : Str → Option Value} {base : Heap} {f : Addr} {fd : FuncData} {C : Addr}
theorem ok_other (F : FnP K "_law_other" sOther f fd) (oRand : Ok P w K mg base "_law_random" 2 ["_law_generator_here", "_law_bound"] spRand) (oLim : Ok P w K mg base "_law_limits" 3 ["_law_generator_here", "_law_many_here", "_law_least_here", "_law_most"] spLimL)
    (z_list : mg "list" = none) (z_len : mg "len" = none) (z_max : mg "max" = none) : FnOk P w K mg base CX0 4 f fd ["_law_generator_here", "_law_limits_here"] spOther := by
  have nd := scOther.nd
  refine F.ok scOther (fun vs H Q E h => ?_) (fun cdv A outer s H vs Q E hr h => ?_)
  · obtain ⟨g, a, n, L, t, p, rfl, _⟩ := h
    rfl
  · obtain ⟨g, a, n, L, t, p, rfl, dr, hn, ⟨xs, ha, hL⟩, h3, hb, t3, t300, p6, p300, q⟩ := h
    have hu := hr.units
    have lx := hL.len
    have r2 : Room 2 (A.deeper (envOfC "_law_other" (defScope sOther) s.heap.objs.size f cdv)) := hr.mono (by decide)
    refine ⟨_, PSs.nox (pss_cons (ps_par (i := 2) (j := 3) rfl nd rfl rfl (by decide) rfl rfl (pa_cons (pe_callTy call_list_of (by rfl) z_list (by decide +kernel) (pa_cons (pv 1) pa_nil)) (pa_cons (pe_callO oRand r2 (by rfl) (pa_cons (pv 0) (pa_cons pe_int pa_nil))) pa_nil)) (by rfl))
      (pss_cons (ps_if (PW.pt (pw_or (pt_cmpR op_eq (pv 3) pe_int (nomark _)) (pw_or1 (pt_cmpR (op_eqD hu) (pv 1) (pe_lst pa_nil) (nomark _))))) (pss_one (ps_ret (pe_callO oLim hr (by rfl) (pa_cons (pv 0) (pa_cons (pe_callB call_len (by rfl) z_len boot_len (pa_cons (pv 1) pa_nil)) (pa_cons pe_int (pa_cons pe_int pa_nil))))))) pss_nil)
      (pss_cons (ps_set (i := 4) nd rfl (Or.inl rfl) (pe_callO oRand r2 (by rfl) (pa_cons (pv 0) (pa_cons (pe_callB call_len (by rfl) z_len boot_len (pa_cons (pv 1) pa_nil)) pa_nil))))
      (pss_cons (ps_asg (pe_ix ix_list (pv 1) (pv 4) (fun _ _ => rfl)) (pg_tup rfl (pgs_cons (pg_name (i := 5) nd rfl (Or.inl rfl)) (pgs_cons (pg_name (i := 6) nd rfl (Or.inl rfl)) pgs_nil))))
      (pss_cons (ps_if (pt_cmpR op_eq (pv 3) pe_int (nomark _)) (pss_one (ps_asg (pe_tup (pa_cons (pe_op op_add (pv 5) pe_int) (pa_cons (pv 6) pa_nil))) (pg_sub (pv 2) (pv 4) set_list)))
        (pss_one (ps_if (pt_cmpR op_eq (pv 3) pe_int (nomark _)) (pss_one (ps_asg (pe_tup (pa_cons (pv 5) (pa_cons (pe_op op_mul (pv 6) (pe_op op_add pe_int (pe_callO oRand r2 (by rfl) (pa_cons (pv 0) (pa_cons pe_int pa_nil))))) pa_nil))) (pg_sub (pv 2) (pv 4) set_list)))
        (pss_one (ps_if (pt_cmpR op_eq (pv 3) pe_int (nomark _)) (pss_one (ps_asg (pe_tup (pa_cons (pe_callB (call_max2 rfl) (by rfl) z_max (by decide +kernel) (pa_cons (pe_op op_sub (pv 5) pe_int) (pa_cons pe_int pa_nil))) (pa_cons (pv 6) pa_nil))) (pg_sub (pv 2) (pv 4) set_list)))
          (pss_one (ps_asg (pe_tup (pa_cons (pv 5) (pa_cons (pe_op op_add pe_int (pe_callO oRand r2 (by rfl) (pa_cons (pv 0) (pa_cons (pv 6) pa_nil)))) pa_nil))) (pg_sub (pv 2) (pv 4) set_list))))))))
      (pss_one (ps_ret (pv 2)))))))), ?_⟩
    refine ⟨_, rfl, a, xs, rfl, .inl (SqL.of ha), fun u nu => ?_⟩
    have su := same_new (o := .lst xs) nu
    have d0 := dr_new (o := .lst xs) dr nu
    have hL0 := hL.keep su
    have hu0 : (upd H u (.lst xs)) u = some (.lst xs) := upd_same
    have ha0 := su _ _ ha
    have gu : u ≠ g := Ne.symm (dr_ne dr nu)
    generalize upd H u (.lst xs) = H0 at *
    refine ⟨_, rfl, g, n, 5, rfl, d0, by omega, by decide, by decide, fun H1 wy w0 w1 b1 d1 => ⟨_, _, rfl, ?_⟩⟩
    have hL1 := hL0.but d0 b1
    have hu1 := b1 _ _ gu hu0
    have ha1 := b1 _ _ (dr_neL d0 ha0 hL0) ha0
    have B1 : But H H1 g := fun b o nb e => b1 _ _ nb (su _ _ e)
    have fin : ∀ (H2 : Hp) (m : Lim) (i : Nat) (z : Addr), But H1 H2 g → Dr H2 g (n + 100) → H2 z = some (.tup [.int m.1, .int m.2]) → i < L.length → (0 ≤ m.1 ∧ m.1 ≤ t + 1 ∧ 1 ≤ m.2 ∧ m.2 ≤ 3 * p) → Q (.ref u) (upd H2 u (.lst (xs.set i (.ref z)))) := by
      intro H2 m i z b2 d2 hz hi hm
      have hL2 := hL1.but d1 b2
      have hu2 := b2 _ _ gu hu1
      refine q _ u (L.set i m) (by rw [List.length_set]) (bnd_set (bnd_le hb (by omega) (by omega)) hm) (fun b o nb e => ?_) (dr_upd (d2.mono (by omega)) (Ne.symm gu)) nu ⟨_, upd_same, ?_⟩
      · rw [upd_ne (ne_of_none e nu)]
        exact b2 _ _ nb (B1 _ _ nb e)
      · exact Lims.updL hu2 (Lims.set ⟨z, rfl, hz⟩ hL2)
    -- the way 0
    have way0 : L = [] ∨ True → ∀ H2, But H1 H2 g → Same H1 H2 → Dr H2 g (n + 20) → spLimL [.ref g, .int (L.length : Int), .int 3, .int 6] H2 Q E0 := by
      intro _ H2 b2 s2 d2
      refine ⟨g, n + 20, L.length, 3, 6, rfl, d2, by omega, h3, by decide, by decide, by decide, by decide, fun H' r L' hl hb' b' d' nr hr' => ?_⟩
      refine q H' r L' hl (bnd_le hb' (by omega) (by omega)) ((B1.trans b2).trans b') (d'.mono (by omega)) ?_ hr'
      cases e : H r with
      | none => rfl
      | some o =>
        by_cases c : r = g
        · subst c
          obtain ⟨x, y, z, e2, _⟩ := d2
          rw [nr] at e2
          cases e2
        · have := b2 _ _ c (B1 _ _ c e)
          rw [nr] at this
          cases this
    refine ⟨_, rfl, rfl, _, rfl, ite2 (fun c => ?_) (fun c => ?_)⟩
    · exact iteT ⟨_, rfl, _, rfl, _, L.length, rfl, .inl ⟨_, SqL.of ha1, lx.symm⟩, way0 (.inr trivial) H1 (But.refl _ _) (Same.refl _) d1⟩
    · refine ⟨_, rfl, (by show 0 ≤ sizeLine; decide), fun e0 ne0 => ?_⟩
      have s2 := same_new (o := .lst []) ne0
      have d2 := dr_new (o := .lst []) d1 ne0
      have ha2 := s2 _ _ ha1
      refine ⟨LD L, .list [], .lst (SqL.of ha2) (hL1.keep s2).dp, .lst (SqL.of upd_same) .nil, shaped_L L, by decide +kernel, _, rfl, ?_⟩
      rw [show PyData.eqv (LD L) (.list []) = decide (L = []) from eqv_L L []]
      have b2 : But H1 (upd H1 e0 (.lst [])) g := Same.but s2
      have hL2 := hL1.keep s2
      have hu2 := s2 _ _ hu1
      generalize upd H1 e0 (.lst []) = H2 at *
      refine ite2 (fun z => ?_) (fun z => ?_)
      · exact ⟨_, rfl, _, rfl, _, L.length, rfl, .inl ⟨_, SqL.of ha2, lx.symm⟩, way0 (.inr trivial) H2 b2 s2 d2⟩
      · have z : L ≠ [] := fun y => z (decide_eq_true y)
        have lp : 0 < L.length := List.length_pos_iff.mpr z
        refine ⟨_, rfl, _, rfl, _, L.length, rfl, .inl ⟨_, SqL.of ha2, lx.symm⟩, g, n + 20, (L.length : Int), rfl, d2, by omega, by omega, Int.lt_of_le_of_lt (b := 3) (by omega) (by decide), fun H3 i i0 i1 b3 d3 => ?_⟩
        obtain ⟨i, rfl⟩ := Int.eq_ofNat_of_zero_le i0
        have hi : i < L.length := by omega
        have el : L[i]? = some L[i] := List.getElem?_eq_getElem hi
        generalize L[i] = l at el
        obtain ⟨l0, l1, l2, l3⟩ := hb l (mem_at el)
        have hL3 := hL2.but d2 b3
        have ha3 := b3 _ _ (dr_neL d2 ha2 hL2) ha2
        have hu3 := b3 _ _ gu hu2
        have b13 := b2.trans b3
        obtain ⟨v, ev, ⟨tt, rfl, htt⟩⟩ := hL3.at el
        have hix : ∀ y : V, ixN (xs.length) (i : Int) = some i := fun _ => Evl.ixN_nat (by omega)
        refine ⟨_, rfl, _, rfl, a, _, _, _, rfl, rfl, SqL.of ha3, atI_nat ev, tt, _, rfl, SqT.of htt, rfl, _, _, rfl, _, _, rfl, rfl, ?_⟩
        refine ⟨_, rfl, rfl, _, rfl, ite2 (fun _ => ?_) (fun _ => ?_)⟩
        · refine ⟨_, rfl, _, _, rfl, rfl, _, rfl, (by show 2 ≤ sizeLine; decide), fun z1 nz => ?_⟩
          have sz := same_new (o := .tup [.int (l.1 + 1), .int l.2]) nz
          exact ⟨_, rfl, _, rfl, u, _, _, i, rfl, rfl, sz _ _ hu3, hix .non, _, rfl, fin _ (l.1 + 1, l.2) i z1 (b13.trans (Same.but sz)) (dr_new (d3.mono (by omega)) nz) upd_same hi ⟨by show 0 ≤ l.1 + 1; omega, by show l.1 + 1 ≤ t + 1; omega, l2, by show l.2 ≤ 3 * p; omega⟩⟩
        refine ⟨_, rfl, rfl, _, rfl, ite2 (fun _ => ?_) (fun _ => ?_)⟩
        · refine ⟨_, rfl, _, rfl, _, rfl, g, n + 40, 2, rfl, d3.mono (by omega), by omega, by decide, by decide, fun H4 y y0 y1 b4 d4 => ⟨_, _, rfl, rfl, _, _, rfl, rfl, .inl ⟨by omega, by omega⟩, (by show 2 ≤ sizeLine; decide), fun z1 nz => ?_⟩⟩
          have sz := same_new (o := .tup [.int l.1, .int (l.2 * (2 + y))]) nz
          have hm : l.2 * (2 + y) ≤ 3 * p := by
            rcases (by omega : y = 0 ∨ y = 1) with rfl | rfl <;> omega
          have hm0 : 1 ≤ l.2 * (2 + y) := by
            rcases (by omega : y = 0 ∨ y = 1) with rfl | rfl <;> omega
          exact ⟨_, rfl, _, rfl, u, _, _, i, rfl, rfl, sz _ _ (b4 _ _ gu hu3), hix .non, _, rfl, fin _ (l.1, l.2 * (2 + y)) i z1 ((b13.trans b4).trans (Same.but sz)) (dr_new (d4.mono (by omega)) nz) upd_same hi ⟨l0, by show l.1 ≤ t + 1; omega, hm0, hm⟩⟩
        refine ⟨_, rfl, rfl, _, rfl, ite2 (fun _ => ?_) (fun _ => ?_)⟩
        · refine ⟨_, rfl, _, _, rfl, rfl, _, _, rfl, _, rfl, (by show 2 ≤ sizeLine; decide), fun z1 nz => ?_⟩
          have sz := same_new (o := .tup [.int (if 0 > l.1 - 1 then 0 else l.1 - 1), .int l.2]) nz
          exact ⟨_, rfl, _, rfl, u, _, _, i, rfl, rfl, sz _ _ hu3, hix .non, _, rfl, fin _ (if 0 > l.1 - 1 then 0 else l.1 - 1, l.2) i z1 (b13.trans (Same.but sz)) (dr_new (d3.mono (by omega)) nz) upd_same hi ⟨by show 0 ≤ if 0 > l.1 - 1 then 0 else l.1 - 1; split <;> omega, by show (if 0 > l.1 - 1 then 0 else l.1 - 1) ≤ t + 1; split <;> omega, l2, by show l.2 ≤ 3 * p; omega⟩⟩
        · refine ⟨_, rfl, _, rfl, _, rfl, g, n + 40, l.2, rfl, d3.mono (by omega), by omega, by omega, Int.lt_of_le_of_lt (b := 300) (by omega) (by decide), fun H4 y y0 y1 b4 d4 => ⟨_, _, rfl, rfl, (by show 2 ≤ sizeLine; decide), fun z1 nz => ?_⟩⟩
          have sz := same_new (o := .tup [.int l.1, .int (1 + y)]) nz
          exact ⟨_, rfl, _, rfl, u, _, _, i, rfl, rfl, sz _ _ (b4 _ _ gu hu3), hix .non, _, rfl, fin _ (l.1, 1 + y) i z1 ((b13.trans b4).trans (Same.but sz)) (dr_new (d4.mono (by omega)) nz) upd_same hi ⟨l0, by show l.1 ≤ t + 1; omega, by show 1 ≤ 1 + y; omega, by show 1 + y ≤ 3 * p; omega⟩⟩
end
end KA
set_option Elab.async false
set_option linter.all false
set_option maxRecDepth 100000
set_option maxHeartbeats 4000000
namespace KA
open PySem PySem.Spec PyProof.Rows L2 XV
/-! ### the meeting -/
theorem meet1_comm (l m : Lim) : meet1 l m = meet1 m l := by
  unfold meet1
  refine Prod.ext ?_ ?_
  · show (if m.1 > l.1 then m.1 else l.1) = (if l.1 > m.1 then l.1 else m.1)
    split <;> split <;> omega
  · show ((Nat.lcm l.2.natAbs m.2.natAbs : Nat) : Int) = _
    rw [Nat.lcm_comm]
theorem meet1_self {l : Lim} (h : 1 ≤ l.2) : meet1 l l = l := by
  unfold meet1
  refine Prod.ext ?_ ?_
  · show (if l.1 > l.1 then l.1 else l.1) = l.1
    split <;> rfl
  · show ((Nat.lcm l.2.natAbs l.2.natAbs : Nat) : Int) = l.2
    rw [Nat.lcm_self]
    omega
theorem meet1_abs (l m : Lim) : meet1 (meet1 l m) l = meet1 l m := by
  unfold meet1
  refine Prod.ext ?_ ?_
  · show (if l.1 > (if m.1 > l.1 then m.1 else l.1) then l.1 else (if m.1 > l.1 then m.1 else l.1)) = (if m.1 > l.1 then m.1 else l.1)
    split <;> split <;> omega
  · show ((Nat.lcm (((Nat.lcm l.2.natAbs m.2.natAbs : Nat) : Int)).natAbs l.2.natAbs : Nat) : Int) = ((Nat.lcm l.2.natAbs m.2.natAbs : Nat) : Int)
    rw [Int.natAbs_natCast]
    congr 1
    exact Nat.dvd_antisymm (Nat.lcm_dvd (Nat.dvd_refl _) (Nat.dvd_lcm_left _ _)) (Nat.dvd_lcm_left _ _)
theorem mod_zero {a b : Int} (h : b.natAbs ∣ a.natAbs) : a % b = 0 := Int.emod_eq_zero_of_dvd (Int.natAbs_dvd_natAbs.mp h)
theorem ref1_meet (l m : Lim) : ref1 (meet1 l m) l = true := by
  unfold ref1
  rw [Bool.and_eq_true, decide_eq_true_eq, decide_eq_true_eq]
  refine ⟨?_, mod_zero ?_⟩
  · show l.1 ≤ if m.1 > l.1 then m.1 else l.1
    split <;> omega
  · show l.2.natAbs ∣ (((Nat.lcm l.2.natAbs m.2.natAbs : Nat) : Int)).natAbs
    rw [Int.natAbs_natCast]
    exact Nat.dvd_lcm_left _ _
theorem ref1_self (l : Lim) : ref1 l l = true := by
  unfold ref1
  rw [Bool.and_eq_true, decide_eq_true_eq, decide_eq_true_eq]
  exact ⟨Int.le_refl _, Int.emod_self⟩
theorem ref1_least {k l m : Lim} (h1 : ref1 k l = true) (h2 : ref1 k m = true) : ref1 k (meet1 l m) = true := by
  unfold ref1 at *
  rw [Bool.and_eq_true, decide_eq_true_eq, decide_eq_true_eq] at *
  refine ⟨?_, mod_zero ?_⟩
  · show (if m.1 > l.1 then m.1 else l.1) ≤ k.1
    split <;> omega
  · show (((Nat.lcm l.2.natAbs m.2.natAbs : Nat) : Int)).natAbs ∣ k.2.natAbs
    rw [Int.natAbs_natCast]
    exact Nat.lcm_dvd (Int.natAbs_dvd_natAbs.mpr (Int.dvd_of_emod_eq_zero h1.2)) (Int.natAbs_dvd_natAbs.mpr (Int.dvd_of_emod_eq_zero h2.2))
theorem meetL_comm (L M : List Lim) : meetL L M = meetL M L := by
  unfold meetL
  rw [List.zipWith_comm]
  congr 1
  funext l m
  exact meet1_comm m l
theorem meet_get {L M : List Lim} {i : Nat} {x : Lim} (h : (meetL L M)[i]? = some x) : ∃ l m, L[i]? = some l ∧ M[i]? = some m ∧ x = meet1 l m := by
  unfold meetL at h
  rw [List.getElem?_zipWith] at h
  cases e1 : L[i]? with
  | none =>
    rw [e1] at h
    cases h
  | some l =>
    cases e2 : M[i]? with
    | none =>
      rw [e1, e2] at h
      cases h
    | some m =>
      rw [e1, e2] at h
      cases h
      exact ⟨l, m, rfl, rfl, rfl⟩
theorem meet_len {L M : List Lim} (h : L.length = M.length) : (meetL L M).length = L.length := zip_len h
theorem meetL_self {L : List Lim} (h : ∀ l ∈ L, 1 ≤ l.2) : meetL L L = L := by
  apply List.ext_getElem?
  intro i
  cases e : L[i]? with
  | none => rw [List.getElem?_eq_none_iff, meet_len rfl]; exact List.getElem?_eq_none_iff.mp e
  | some l => rw [show (meetL L L)[i]? = _ from zip_get e e, meet1_self (h l (mem_at e))]
theorem meetL_abs {L M : List Lim} (h : L.length = M.length) : meetL (meetL L M) L = meetL L M := by
  apply List.ext_getElem?
  intro i
  cases e : (meetL L M)[i]? with
  | none => rw [List.getElem?_eq_none_iff, meet_len (meet_len h)]; exact List.getElem?_eq_none_iff.mp e
  | some x =>
    obtain ⟨l, m, e1, e2, rfl⟩ := meet_get e
    rw [show (meetL (meetL L M) L)[i]? = _ from zip_get e e1, meet1_abs]
theorem ref_meet (L M : List Lim) : refB (meetL L M) L = true := ref_all fun i x l h h2 => by
  obtain ⟨l', m, e1, e2, rfl⟩ := meet_get h
  cases e1.symm.trans h2
  exact ref1_meet _ _
theorem ref_meet2 (L M : List Lim) : refB (meetL L M) M = true := by
  rw [meetL_comm]
  exact ref_meet M L
theorem ref_self (L : List Lim) : refB L L = true := ref_all fun i x l h h2 => by
  cases h.symm.trans h2
  exact ref1_self _
theorem ref_least {N L M : List Lim} (hl : L.length = M.length) (h1 : refB N L = true) (h2 : refB N M = true) : refB N (meetL L M) = true := ref_all fun i k x hk hx => by
  obtain ⟨l, m, e1, e2, rfl⟩ := meet_get hx
  exact ref1_least (ref_at h1 hk e1) (ref_at h2 hk e2)
theorem bnd_meet {L M : List Lim} (h1 : Bnd 3 6 L) (h2 : Bnd 4 18 M) : Bnd 4 108 (meetL L M) := fun x hx => by
  obtain ⟨i, hi⟩ := List.mem_iff_getElem?.mp hx
  obtain ⟨l, m, e1, e2, rfl⟩ := meet_get hi
  have a := h1 l (mem_at e1)
  have b := h2 m (mem_at e2)
  have pos : 0 < Nat.lcm l.2.natAbs m.2.natAbs := Nat.lcm_pos (by omega) (by omega)
  have le : Nat.lcm l.2.natAbs m.2.natAbs ≤ 6 * 18 := by
    refine Nat.le_trans (Nat.div_le_self _ _) (Nat.mul_le_mul ?_ ?_) <;> omega
  refine ⟨?_, ?_, ?_, ?_⟩
  · show 0 ≤ if m.1 > l.1 then m.1 else l.1
    split <;> omega
  · show (if m.1 > l.1 then m.1 else l.1) ≤ 4
    split <;> omega
  · show 1 ≤ ((Nat.lcm l.2.natAbs m.2.natAbs : Nat) : Int)
    omega
  · show ((Nat.lcm l.2.natAbs m.2.natAbs : Nat) : Int) ≤ 108
    omega
theorem bnd_ok {L : List Lim} {t p : Int} (h : Bnd t p L) (h3 : L.length ≤ 3) (ht : t < 1000) (hp : p < 1000) : Lok L := ⟨h3, fun l hl => by
  have := h l hl
  omega⟩
theorem two_ok {K : PySem.W.Frag} {C : Addr} {H : Hp} {x y : Addr} {L M : List Lim} {E : XK} {R : List Lim → List Lim → Prop} (gx : Gr C H x L) (gy : Gr C H y M) (hl : L.length = M.length) (r : R L M) : Two K C H (.ref x) (.ref y) E R :=
  .inr ⟨_, _, rfl, gx, .inr ⟨_, _, rfl, gy, .inl ⟨hl, r⟩⟩⟩
structure OkEq (P : Program) (w : World) (K : PySem.W.Frag) (mg : Str → Option Value) (base : Heap) (C : Addr) : Prop where
  ex : ∃ f fd, PySem.W.findIn K (.ref C) "__eq__" = some (some (.ref f)) ∧ PySem.W.isFn K (.ref f) = true ∧ FnOk P w K mg base CX0 1 f fd ["self", "other"] (spEq K C) ∧ Binds K fd ["self", "other"] []
/-- low == high -/
theorem eq_ok {K : PySem.W.Frag} {mg : Str → Option Value} {C : Addr} (T : GT K mg C) {H : Hp} {x y : Addr} {L M : List Lim} {Q : VK} (gx : Gr C H x L) (gy : Gr C H y M) (q : Q (.bl (decide (L = M))) H) : rOwnE K C (spEq K C) E0 (.ref x) (.ref y) H Q := by
  obtain ⟨dx, l, hx, hL⟩ := id gx
  obtain ⟨dy, m, hy, hM⟩ := id gy
  exact ⟨x, dx, _, .ref C, rfl, hx, T.ty hy, GT.nC, x, .ref y, L, rfl, gx, .inl ⟨y, M, rfl, gy, q⟩⟩
/-- what stands while the pair is looked at -/
structure Ct (C : Addr) (H H' : Hp) (g : Addr) (n : Nat) (a b x y : Addr) (L M : List Lim) : Prop where
  but : But H H' g
  dr : Dr H' g n
  la : LL H' a L
  lb : LL H' b M
  gx : Gr C H' x L
  gy : Gr C H' y M
theorem Ct.same {C : Addr} {H H' H2 : Hp} {g : Addr} {n : Nat} {a b x y : Addr} {L M : List Lim} (c : Ct C H H' g n a b x y L M) (s : Same H' H2) : Ct C H H2 g n a b x y L M :=
  ⟨c.but.trans (Same.but s), dr_same c.dr s, c.la.keep s, c.lb.keep s, c.gx.keep s, c.gy.keep s⟩
structure Cz (C : Addr) (H H' : Hp) (g : Addr) (n : Nat) (a b x y c z : Addr) (L M : List Lim) : Prop where
  ct : Ct C H H' g n a b x y L M
  lc : LL H' c (meetL L M)
  gz : Gr C H' z (meetL L M)
theorem Cz.same {C : Addr} {H H' H2 : Hp} {g : Addr} {n : Nat} {a b x y c z : Addr} {L M : List Lim} (k : Cz C H H' g n a b x y c z L M) (s : Same H' H2) : Cz C H H2 g n a b x y c z L M :=
  ⟨k.ct.same s, k.lc.keep s, k.gz.keep s⟩
theorem look_v (f : Str) (v : V) : List.lookup f [(f, v)] = some v := by simp [List.lookup]
theorem rep41 (n : Nat) : (List.replicate n [V.int 41]).flatten = (List.replicate n (41 : Int)).map V.int := by
  induction n with
  | zero => rfl
  | succ n ih => rw [List.replicate_succ, List.replicate_succ, List.flatten_cons, ih]; rfl
theorem ne_same {p : PyData} {q : PyData} (h : PyData.eqv p q = true) : V.bl (!(PyData.eqv p q)) = V.bl false := by rw [h]; rfl
abbrev nGood : List Str := ["_law_generator_here", "_law_one", "_law_other_here", "_law_low", "_law_high", "_law_due", "_law_both", "_law_found", "_law_many_here", "_law_error", "_law_more", "_law_least_here"]
abbrev sGood : Stmt := top 45
theorem scGood : FnScope nGood ["_law_generator_here", "_law_one", "_law_other_here"] (defScope sGood) := ⟨rfl, rfl, rfl, by decide +kernel, rfl, by decide +kernel, by decide +kernel⟩
def spGood : Sp := fun vs H Q _ => ∃ (g a b : Addr) (n : Nat) (L M : List Lim), vs = [.ref g, .ref a, .ref b] ∧ Dr H g n ∧ n ≤ 300000 ∧ LL H a L ∧ LL H b M ∧ L.length = M.length ∧ L.length ≤ 3 ∧ Bnd 3 6 L ∧ Bnd 4 18 M ∧ many L ≤ 600 ∧ many M ≤ 600 ∧ ∀ H', But H H' g → Q (.bl true) H'
section
variable {P : Program} {w : World} {K : PySem.W.Frag} {mg : Str → Option Value} {base : Heap} {f : Addr} {fd : FuncData} {C : Addr}
set_option maxHeartbeats 8000000 in
theorem ok_good (F : FnP K "_law_pair_good" sGood f fd) (T : GT K mg C) (Z : ClA P w K mg base) (o_mk : OkMk P w K mg base C) (o_eq : OkEq P w K mg base C) (o_limits : OkMt P w K mg base C "limits" (spLimits C))
    (o_refL : Ok P w K mg base "_law_refines" 1 ["_law_one", "_law_other_here"] spRefL) (o_yes : Ok P w K mg base "_law_yes" 1 ["_law_told", "_law_due"] spYes) (o_ref : Ok P w K mg base "refines" 5 ["one", "other"] (cm (spRefines K C)))
    (o_refK : OkF P w K mg base "refines" 5 ["one", "other"] (cm (spRefines K C))) (o_lies : Ok P w K mg base "_law_lies_within" 6 ["_law_limits_here", "_law_other_here"] (spLies C)) (o_meetL : Ok P w K mg base "_law_meeting" 3 ["_law_one", "_law_other_here"] spMeetL)
    (o_meetX : OkX P w K mg base "meeting" 7 ["one", "other"] (spMeeting K C)) (o_meet : Ok P w K mg base "meeting" 7 ["one", "other"] (cm (spMeeting K C))) (o_meetK : OkF P w K mg base "meeting" 7 ["one", "other"] (cm (spMeeting K C)))
    (o_manyL : Ok P w K mg base "_law_many" 1 ["_law_limits_here"] spManyL) (o_cls : Ok P w K mg base "class_of" 5 ["grid", "point"] (spClassOf C)) (o_clsL : Ok P w K mg base "_law_class" 2 ["_law_limits_here", "_law_point"] spClassL)
    (o_other : Ok P w K mg base "_law_other" 4 ["_law_generator_here", "_law_limits_here"] spOther) (z_list : mg "list" = none) (z_len : mg "len" = none) (z_isinstance : mg "isinstance" = none) :
    FnOk P w K mg base CX0 8 f fd ["_law_generator_here", "_law_one", "_law_other_here"] spGood := by
  have nd := scGood.nd
  have gT : mg "TooMany" = some (.ref (CA K 2)) := Z.g 2 (by decide)
  have XF2 : XF K (CA K 2) "value" := Z.f 2 (by decide)
  obtain ⟨fe, fde, e1, e2, FE, be⟩ := o_eq.ex
  refine F.ok scGood (fun vs H Q E h => ?_) (fun cdv A outer s H vs Q E hr h => ?_)
  · obtain ⟨g, a, b, n, L, M, rfl, _⟩ := h
    rfl
  · obtain ⟨g, a, b, n, L, M, rfl, dr, hn, hLa, hLb, hl, h3, bL, bM, mL, mM, q⟩ := h
    have hu := hr.units
    have r7 : Room 7 (A.deeper (envOfC "_law_pair_good" (defScope sGood) s.heap.objs.size f cdv)) := hr
    have r6 := r7.mono (by decide : 6 ≤ 7)
    have r5 := r7.mono (by decide : 5 ≤ 7)
    have r4 := r7.mono (by decide : 4 ≤ 7)
    have r3 := r7.mono (by decide : 3 ≤ 7)
    have r2 := r7.mono (by decide : 2 ≤ 7)
    have r1 := r7.mono (by decide : 1 ≤ 7)
    have okL : Lok L := bnd_ok bL h3 (by decide) (by decide)
    have okM : Lok M := bnd_ok bM (by omega) (by decide) (by decide)
    have lB : (meetL L M).length = L.length := meet_len hl
    have bB : Bnd 4 108 (meetL L M) := bnd_meet bL bM
    have okB : Lok (meetL L M) := bnd_ok bB (by omega) (by decide) (by decide)
    refine ⟨_, PSs.nox (C8.pss_cut (ps_par (i := 3) (j := 4) rfl nd rfl rfl (by decide) rfl rfl (pa_cons (pe_mk (T := T) o_mk r6 (by rfl) (pe_callTy call_list_of (by rfl) z_list (by decide +kernel) (pa_cons (pv 1) pa_nil))) (pa_cons (pe_mk (T := T) o_mk r6 (by rfl) (pe_callTy call_list_of (by rfl) z_list (by decide +kernel) (pa_cons (pv 2) pa_nil))) pa_nil)) (by rfl))
      (pss_cons (ps_set (i := 5) nd rfl (Or.inl rfl) (pe_callO o_refL r1 (by rfl) (pa_cons (pv 1) (pa_cons (pv 2) pa_nil))))
      (C8.pss_cut (ps_if (PW.pt (pw_or (pt_not (pt_val (pe_callO o_yes r1 (by rfl) (pa_cons (pe_callO o_ref r5 (by rfl) (pa_cons (pv 3) (pa_cons (pv 4) pa_nil))) (pa_cons (pv 5) pa_nil))))) (pw_or1 (pt_cmpR op_ne (pe_callO o_lies r6 (by rfl) (pa_cons (pv 1) (pa_cons (pv 4) pa_nil))) (pv 5) (nomark _))))) (pss_one (ps_ret pe_bl)) pss_nil)
      (C8.pss_cut (ps_if (PW.pt (pw_or (pt_cmpR op_notBl (pe_callO o_ref r5 (by rfl) (pa_cons (pv 3) (pa_cons (pv 3) pa_nil))) pe_bl (nomark _)) (pw_or1 (pt_not (pt_val (pe_callO o_yes r1 (by rfl) (pa_cons (pe_cmpR (op_ownE e1 e2 FE r1 be pass0) (pv 3) (pv 4) (nomark _)) (pa_cons (pe_cmpR (op_eqD hu) (pv 1) (pv 2) (nomark _)) pa_nil)))))))) (pss_one (ps_ret pe_bl)) pss_nil)
      (C8.pss_cut (ps_par3 (i := 6) (j := 7) (l := 8) rfl nd rfl rfl rfl (by decide) (by decide) (by decide) rfl rfl rfl (pa_cons (pe_callO o_meetL r3 (by rfl) (pa_cons (pv 1) (pa_cons (pv 2) pa_nil))) (pa_cons pe_non (pa_cons pe_non pa_nil))) (by rfl))
      (C8.pss_cut (ps_try_as (i := 9) rfl rfl nd rfl rfl ⟨by rfl, by decide, .inl gT⟩ takes0 (fun W pn xe tk _ => pss_one (ps_set (i := 7) nd rfl (Or.inl rfl) (pe_callT o_meetX tk r7 (by rfl) (pa_cons (pv 3) (pa_cons (pv 4) pa_nil)))))
        (fun a oe cls d pn hz hf => pss_one (ps_set (i := 8) nd rfl (Or.inl rfl) (pe_xf XF2.xf XF2.no hz hf (pv 9)))))
      (C8.pss_cut (ps_if (pt_cmpR op_gt (pe_callO o_manyL r1 (by rfl) (pa_cons (pv 6) pa_nil)) pe_int (nomark _)) (pss_one (ps_ret (pe_and (pe_cmp (pc_isN (pv 7)) rfl) (pe_one (pe_cmpR op_eq (pv 8) (pe_callO o_manyL r1 (by rfl) (pa_cons (pv 6) pa_nil)) (nomark _)))))) pss_nil)
      (C8.pss_cut (ps_if (PW.pt (pw_or (pt_not (pt_val (pe_callB call_isi (by rfl) z_isinstance (by decide +kernel) (pa_cons (pv 7) (pa_cons (pe_glob (v := .ref C) (by rfl) T.g rfl) pa_nil))))) (pw_or (pt_cmpR (op_neD hu) (pe_limits o_limits T (pv 7) r1) (pv 6) (nomark _))
          (pw_or1 (pt_cmpR op_notBl (pe_cmpR (op_ownE e1 e2 FE r1 be pass0) (pe_callF o_meetK r7 (by rfl) (pk_cons (pv 4) (pk_cons (pv 3) pk_nil))) (pv 7) (nomark _)) pe_bl (nomark _)))))) (pss_one (ps_ret pe_bl)) pss_nil)
      (C8.pss_cut (ps_if (PW.pt (pw_or (pt_cmpR op_notBl (pe_callO o_ref r5 (by rfl) (pa_cons (pv 7) (pa_cons (pv 3) pa_nil))) pe_bl (nomark _)) (pw_or1 (pt_cmpR op_notBl (pe_callF o_refK r5 (by rfl) (pk_cons (pv 7) (pk_cons (pv 4) pk_nil))) pe_bl (nomark _))))) (pss_one (ps_ret pe_bl)) pss_nil)
      (C8.pss_cut (ps_if (PW.pt (pw_or (pt_cmpR (op_neD hu) (pe_limits o_limits T (pe_callO o_meet r7 (by rfl) (pa_cons (pv 3) (pa_cons (pv 3) pa_nil))) r1) (pv 1) (nomark _)) (pw_or (pt_cmpR (op_neD hu) (pe_limits o_limits T (pe_callO o_meet r7 (by rfl) (pa_cons (pv 3) (pa_cons (pv 4) pa_nil))) r1) (pv 6) (nomark _))
          (pw_or1 (pt_cmpR op_notBl (pe_callO o_ref r5 (by rfl) (pa_cons (pv 3) (pa_cons (pv 3) pa_nil))) pe_bl (nomark _)))))) (pss_one (ps_ret pe_bl)) pss_nil)
      (C8.pss_cut (ps_if (PW.pt (pw_or (pt_cmpR (op_neD hu) (pe_callO o_cls r5 (by rfl) (pa_cons (pv 7) (pa_cons (pe_op op_rep (pe_lst (pa_cons pe_int pa_nil)) (pe_callB call_len (by rfl) z_len boot_len (pa_cons (pv 1) pa_nil))) pa_nil))) (pe_callO o_clsL r2 (by rfl) (pa_cons (pv 6) (pa_cons (pe_op op_rep (pe_lst (pa_cons pe_int pa_nil)) (pe_callB call_len (by rfl) z_len boot_len (pa_cons (pv 1) pa_nil))) pa_nil))) (nomark _))
          (pw_or1 (pt_cmpR op_notBl (pe_cmpR (op_ownE e1 e2 FE r1 be pass0) (pe_callO o_meet r7 (by rfl) (pa_cons (pv 7) (pa_cons (pv 3) pa_nil))) (pv 7) (nomark _)) pe_bl (nomark _))))) (pss_one (ps_ret pe_bl)) pss_nil)
      (C8.pss_cut (ps_set (i := 10) nd rfl (Or.inl rfl) (pe_callO o_other r4 (by rfl) (pa_cons (pv 0) (pa_cons (pv 6) pa_nil))))
      (pss_cons (ps_if (pt_cmpR op_gt (pe_callO o_manyL r1 (by rfl) (pa_cons (pv 10) pa_nil)) pe_int (nomark _)) (pss_one (ps_ret pe_bl)) pss_nil)
      (C8.pss_cut (ps_set (i := 11) nd rfl (Or.inl rfl) (pe_and (pe_callO o_refL r1 (by rfl) (pa_cons (pv 10) (pa_cons (pv 1) pa_nil))) (pe_one (pe_callO o_refL r1 (by rfl) (pa_cons (pv 10) (pa_cons (pv 2) pa_nil))))))
      (pss_one (ps_ret (pe_or (pe_not (pv 11)) (pe_one (pe_cmpR op_isBl (pe_callO o_ref r5 (by rfl) (pa_cons (pe_mk (T := T) o_mk r6 (by rfl) (pe_callTy call_list_of (by rfl) z_list (by decide +kernel) (pa_cons (pv 10) pa_nil))) (pa_cons (pv 7) pa_nil))) pe_bl (nomark _)))))))))))))))))))), ?_⟩
    have mB0 : many (meetL M L) = many (meetL L M) := by rw [meetL_comm]
    refine ⟨fun σ' H1 => ∃ x y, σ' = [some (.ref g), some (.ref a), some (.ref b), some (.ref x), some (.ref y), none, none, none, none, none, none, none] ∧ Ct C H H1 g n a b x y L M, ?_, ?_⟩
    · obtain ⟨xs, ha, hLx⟩ := id hLa
      refine ⟨_, rfl, a, xs, rfl, .inl (SqL.of ha), fun l1 nl1 => ?_⟩
      have s1 := same_new (o := .lst xs) nl1
      refine ⟨l1, L, rfl, ⟨xs, upd_same, hLx.keep s1⟩, okL, mL, fun H1 x sx nx gx => ?_⟩
      have s2 := s1.trans sx
      obtain ⟨ys, hb, hLy⟩ := hLb.keep s2
      refine ⟨_, rfl, b, ys, rfl, .inl (SqL.of hb), fun l2 nl2 => ?_⟩
      have s3 := same_new (o := .lst ys) nl2
      refine ⟨l2, M, rfl, ⟨ys, upd_same, hLy.keep s3⟩, okM, mM, fun H2 y sy ny gy => ⟨_, _, rfl, x, y, rfl, ?_⟩⟩
      have s4 := s3.trans sy
      have s5 := s2.trans s4
      exact ⟨Same.but s5, dr_same dr s5, hLa.keep s5, hLb.keep s5, gx.keep s4, gy⟩
    rintro σ' H1 ⟨x, y, rfl, ct⟩
    refine ⟨_, rfl, _, rfl, a, b, L, M, rfl, ct.la, ct.lb, hl, okL, okM, fun σ' H1 => σ' = [some (.ref g), some (.ref a), some (.ref b), some (.ref x), some (.ref y), some (.bl (refB L M)), none, none, none, none, none, none] ∧ Ct C H H1 g n a b x y L M, ?_, ?_⟩
    · refine ⟨_, rfl, _, rfl, .ref x, .ref y, rfl, two_ok ct.gx ct.gy hl ⟨okL, okM, fun H2 s2 => ⟨_, rfl, refB L M, refB L M, rfl, true, congrArg V.bl (decide_eq_true rfl), iteF ?_⟩⟩⟩
      have ct2 := ct.same s2
      exact ⟨_, rfl, _, rfl, a, y, L, M, rfl, ct2.la, ct2.gy, hl, bL, okM, fun H3 s3 => ⟨_, rfl, rfl, false, congrArg (fun b => V.bl (!b)) (decide_eq_true rfl), iteF ⟨rfl, ct2.same s3⟩⟩⟩
    rintro σ' H1 ⟨rfl, ct⟩
    refine ⟨fun σ' H1 => σ' = [some (.ref g), some (.ref a), some (.ref b), some (.ref x), some (.ref y), some (.bl (refB L M)), none, none, none, none, none, none] ∧ Ct C H H1 g n a b x y L M, ?_, ?_⟩
    · refine ⟨_, rfl, _, rfl, .ref x, .ref x, rfl, two_ok ct.gx ct.gx rfl ⟨okL, okL, fun H2 s2 => ⟨refB L L, true, rfl, rfl, false, by rw [ref_self]; rfl, iteF ?_⟩⟩⟩
      have ct2 := ct.same s2
      exact ⟨_, rfl, _, rfl, eq_ok T ct2.gx ct2.gy ⟨_, rfl, _, rfl, LD L, LD M, ct2.la.dp, ct2.lb.dp, shaped_L L, shaped_L M, decide (L = M), PyData.eqv (LD L) (LD M), rfl, true, congrArg V.bl (decide_eq_true (eqv_L L M).symm), iteF ⟨rfl, ct2⟩⟩⟩
    rintro σ' H1 ⟨rfl, ct⟩
    refine ⟨fun σ' H1 => ∃ c, σ' = [some (.ref g), some (.ref a), some (.ref b), some (.ref x), some (.ref y), some (.bl (refB L M)), some (.ref c), some .non, some .non, none, none, none] ∧ Ct C H H1 g n a b x y L M ∧ LL H1 c (meetL L M), ?_, ?_⟩
    · exact ⟨_, rfl, _, rfl, a, b, L, M, rfl, ct.la, ct.lb, hl, okL, okM, fun H2 c s2 nc hc => ⟨_, _, _, rfl, c, rfl, ct.same s2, hc⟩⟩
    rintro σ' H1 ⟨c, rfl, ct, lc⟩
    refine ⟨fun σ' H1 => Ct C H H1 g n a b x y L M ∧ LL H1 c (meetL L M) ∧ ((many (meetL L M) ≤ 600 ∧ ∃ z, σ' = [some (.ref g), some (.ref a), some (.ref b), some (.ref x), some (.ref y), some (.bl (refB L M)), some (.ref c), some (.ref z), some .non, none, none, none] ∧ Gr C H1 z (meetL L M)) ∨
      (600 < many (meetL L M) ∧ σ' = [some (.ref g), some (.ref a), some (.ref b), some (.ref x), some (.ref y), some (.bl (refB L M)), some (.ref c), some .non, some (.int (many (meetL L M))), none, none, none])), ?_, ?_⟩
    · refine ⟨_, rfl, _, rfl, .ref x, .ref y, rfl, two_ok ct.gx ct.gy hl ⟨okL, okM, okB, fun h6 H2 z s2 nz gz => ⟨ct.same s2, lc.keep s2, .inl ⟨h6, z, rfl, gz⟩⟩, fun h6 H' d sm nd => ?_⟩⟩
      refine ⟨true, Z.exm2, fun _ a' na => ?_, fun z => nomatch z⟩
      have sD := sm.trans (same_new (o := .xd [("value", .int (many (meetL L M)))]) nd)
      exact ⟨_, rfl, rfl, rfl, d, _, _, rfl, upd_same, look_v _ _, ct.same sD, lc.keep sD, .inr ⟨h6, rfl⟩⟩
    rintro σ' H1 ⟨ct, lc, hz⟩
    refine ⟨fun σ' H1 => many (meetL L M) ≤ 600 ∧ ∃ z, σ' = [some (.ref g), some (.ref a), some (.ref b), some (.ref x), some (.ref y), some (.bl (refB L M)), some (.ref c), some (.ref z), some .non, none, none, none] ∧ Cz C H H1 g n a b x y c z L M, ?_, ?_⟩
    · rcases hz with ⟨h6, z, rfl, gz⟩ | ⟨h6, rfl⟩
      · exact ⟨_, rfl, c, _, rfl, lc, okB, _, _, rfl, rfl, false, congrArg V.bl (decide_eq_false (by omega)), iteF ⟨h6, z, rfl, ct, lc, gz⟩⟩
      · refine ⟨_, rfl, c, _, rfl, lc, okB, _, _, rfl, rfl, true, congrArg V.bl (decide_eq_true h6), iteT ?_⟩
        refine ⟨_, rfl, true, rfl, iteT ⟨_, rfl, _, rfl, c, _, rfl, lc, okB, rfl, ?_⟩⟩
        show Q (.bl (decide (V.int (many (meetL L M)) = V.int (many (meetL L M))))) H1
        rw [decide_eq_true rfl]
        exact q H1 ct.but
    rintro σ' H1 ⟨h6, z, rfl, cz⟩
    refine ⟨fun σ' H1 => σ' = [some (.ref g), some (.ref a), some (.ref b), some (.ref x), some (.ref y), some (.bl (refB L M)), some (.ref c), some (.ref z), some .non, none, none, none] ∧ Cz C H H1 g n a b x y c z L M, ?_, ?_⟩
    · obtain ⟨dz, lz, hz, hLz⟩ := id cz.gz
      refine ⟨_, rfl, _, _, _, _, true, rfl, .own C, T.ty hz, T.ic.me, true, rfl, iteF ⟨_, rfl, z, _, rfl, cz.gz, fun H2 p s2 np hp => ?_⟩⟩
      have cz2 := cz.same s2
      refine ⟨_, rfl, LD (meetL L M), LD (meetL L M), hp.dp, cz2.lc.dp, shaped_L _, shaped_L _, false, ne_same (by rw [eqv_L, decide_eq_true rfl]), iteF ?_⟩
      refine ⟨_, rfl, _, rfl, rfl, .ref y, .ref x, rfl, two_ok cz2.ct.gy cz2.ct.gx hl.symm ⟨okM, okL, by rw [meetL_comm]; exact okB, fun _ H3 z2 s3 nz2 gz2 => ?_, fun h => absurd h (by omega)⟩⟩
      have cz3 := cz2.same s3
      exact ⟨_, rfl, eq_ok T gz2 cz3.gz ⟨decide (meetL M L = meetL L M), true, rfl, rfl, false, by rw [decide_eq_true (meetL_comm M L)]; rfl, iteF ⟨rfl, cz3⟩⟩⟩
    rintro σ' H1 ⟨rfl, cz⟩
    refine ⟨fun σ' H1 => σ' = [some (.ref g), some (.ref a), some (.ref b), some (.ref x), some (.ref y), some (.bl (refB L M)), some (.ref c), some (.ref z), some .non, none, none, none] ∧ Cz C H H1 g n a b x y c z L M, ?_, ?_⟩
    · refine ⟨_, rfl, _, rfl, .ref z, .ref x, rfl, two_ok cz.gz cz.ct.gx lB ⟨okB, okL, fun H2 s2 => ⟨refB (meetL L M) L, true, rfl, rfl, false, by rw [ref_meet]; rfl, iteF ?_⟩⟩⟩
      have cz2 := cz.same s2
      exact ⟨_, rfl, _, rfl, rfl, .ref z, .ref y, rfl, two_ok cz2.gz cz2.ct.gy (lB.trans hl) ⟨okB, okM, fun H3 s3 => ⟨refB (meetL L M) M, true, rfl, rfl, false, by rw [ref_meet2]; rfl, iteF ⟨rfl, cz2.same s3⟩⟩⟩⟩
    rintro σ' H1 ⟨rfl, cz⟩
    have eLL : meetL L L = L := meetL_self fun l hl => (bL l hl).2.2.1
    refine ⟨fun σ' H1 => σ' = [some (.ref g), some (.ref a), some (.ref b), some (.ref x), some (.ref y), some (.bl (refB L M)), some (.ref c), some (.ref z), some .non, none, none, none] ∧ Cz C H H1 g n a b x y c z L M, ?_, ?_⟩
    · refine ⟨_, rfl, _, rfl, .ref x, .ref x, rfl, two_ok cz.ct.gx cz.ct.gx rfl ⟨okL, okL, by rw [eLL]; exact okL, fun _ H2 u s2 nu gu => ⟨u, _, rfl, gu, fun H3 p s3 np hp => ?_⟩, fun h => absurd h (by rw [eLL]; omega)⟩⟩
      have cz3 := (cz.same s2).same s3
      refine ⟨_, rfl, LD (meetL L L), LD L, hp.dp, cz3.ct.la.dp, shaped_L _, shaped_L _, false, ne_same (by rw [eqv_L, decide_eq_true eLL]), iteF ?_⟩
      refine ⟨_, rfl, _, rfl, .ref x, .ref y, rfl, two_ok cz3.ct.gx cz3.ct.gy hl ⟨okL, okM, okB, fun _ H4 u4 s4 nu4 gu4 => ⟨u4, _, rfl, gu4, fun H5 p5 s5 np5 hp5 => ?_⟩, fun h => absurd h (by omega)⟩⟩
      have cz5 := (cz3.same s4).same s5
      refine ⟨_, rfl, LD (meetL L M), LD (meetL L M), hp5.dp, cz5.lc.dp, shaped_L _, shaped_L _, false, ne_same (by rw [eqv_L, decide_eq_true rfl]), iteF ?_⟩
      exact ⟨_, rfl, _, rfl, .ref x, .ref x, rfl, two_ok cz5.ct.gx cz5.ct.gx rfl ⟨okL, okL, fun H6 s6 => ⟨refB L L, true, rfl, rfl, false, by rw [ref_self]; rfl, iteF ⟨rfl, cz5.same s6⟩⟩⟩⟩
    rintro σ' H1 ⟨rfl, cz⟩
    have eBL : meetL (meetL L M) L = meetL L M := meetL_abs hl
    refine ⟨fun σ' H1 => σ' = [some (.ref g), some (.ref a), some (.ref b), some (.ref x), some (.ref y), some (.bl (refB L M)), some (.ref c), some (.ref z), some .non, none, none, none] ∧ Cz C H H1 g n a b x y c z L M, ?_, ?_⟩
    · obtain ⟨xs, ha, hLx⟩ := id cz.ct.la
      have lxs := hLx.len
      have szl := sizeLine_eq
      have p41 : ∀ y ∈ List.replicate L.length (41 : Int), 0 ≤ y := fun y hy => by
        rw [(List.mem_replicate.mp hy).2]
        decide
      have tn : ((L.length : Nat) : Int).toNat = L.length := by omega
      refine ⟨_, rfl, (by show 1 ≤ sizeLine; decide), fun u nu => ?_⟩
      have su := same_new (o := .lst [.int 41]) nu
      refine ⟨_, rfl, _, L.length, rfl, .inl ⟨_, SqL.of (su _ _ ha), lxs.symm⟩, u, _, _, rfl, rfl, upd_same, by omega, by omega, by rw [tn, List.length_singleton]; omega, fun p np => ?_⟩
      rw [tn, rep41]
      have sp := same_new (o := .lst ((List.replicate L.length (41 : Int)).map V.int)) np
      have cz2 := (cz.same su).same sp
      refine ⟨z, p, _, _, rfl, cz2.gz, okB, upd_same, by rw [lB, List.length_replicate], p41, fun H2 r s2 hr2 => ?_⟩
      have cz3 := cz2.same s2
      have ha3 := s2 _ _ (sp _ _ (su _ _ ha))
      refine ⟨_, rfl, (by show 1 ≤ sizeLine; decide), fun u' nu' => ?_⟩
      have su' := same_new (o := .lst [.int 41]) nu'
      refine ⟨_, rfl, _, L.length, rfl, .inl ⟨_, SqL.of (su' _ _ ha3), lxs.symm⟩, u', _, _, rfl, rfl, upd_same, by omega, by omega, by rw [tn, List.length_singleton]; omega, fun p' np' => ?_⟩
      rw [tn, rep41]
      have sp' := same_new (o := .lst ((List.replicate L.length (41 : Int)).map V.int)) np'
      have cz4 := (cz3.same su').same sp'
      refine ⟨c, p', _, _, rfl, cz4.lc, upd_same, by rw [lB, List.length_replicate], okB, fun H5 r5' s5 hr5 => ?_⟩
      have cz5 := cz4.same s5
      have hr6 := s5 _ _ (sp' _ _ (su' _ _ hr2))
      refine ⟨_, _, .lst (SqL.of hr6) (dp_ints _), .lst (SqL.of hr5) (dp_ints _), shaped_lst _, shaped_lst _, false, ne_same (by rw [eqv_ints, decide_eq_true rfl]), iteF ?_⟩
      refine ⟨_, rfl, _, rfl, .ref z, .ref x, rfl, two_ok cz5.gz cz5.ct.gx lB ⟨okB, okL, by rw [eBL]; exact okB, fun _ H7 z2 s7 nz2 gz2 => ?_, fun h => absurd h (by rw [eBL]; omega)⟩⟩
      have cz7 := cz5.same s7
      exact ⟨_, rfl, eq_ok T gz2 cz7.gz ⟨decide (meetL (meetL L M) L = meetL L M), true, rfl, rfl, false, by rw [decide_eq_true eBL]; rfl, iteF ⟨rfl, cz7⟩⟩⟩
    rintro σ' H1 ⟨rfl, cz⟩
    refine ⟨fun σ' H1 => ∃ m N, σ' = [some (.ref g), some (.ref a), some (.ref b), some (.ref x), some (.ref y), some (.bl (refB L M)), some (.ref c), some (.ref z), some .non, none, some (.ref m), none] ∧ N.length = L.length ∧ Lok N ∧ But H H1 g ∧ LL H1 a L ∧ LL H1 b M ∧ LL H1 m N ∧ Gr C H1 z (meetL L M), ?_, ?_⟩
    · refine ⟨_, rfl, _, rfl, g, c, n, _, 4, 108, rfl, cz.ct.dr, by omega, cz.lc, by omega, bB, by decide, by decide, by decide, by decide, fun H2 m N lN bN b2 d2 nm hm => ?_⟩
      exact ⟨m, N, rfl, by omega, bnd_ok bN (by omega) (by decide) (by decide), cz.ct.but.trans b2, cz.ct.la.but cz.ct.dr b2, cz.ct.lb.but cz.ct.dr b2, hm, cz.gz.but cz.ct.dr b2⟩
    rintro σ' H1 ⟨m, N, rfl, lN, okN, bt, la, lb, lm, gz⟩
    refine ⟨_, rfl, m, N, rfl, lm, okN, _, _, rfl, rfl, _, rfl, ite2 (fun _ => q H1 bt) (fun hm => ?_)⟩
    have h6N : many N ≤ 600 := Int.not_lt.mp fun y => hm (decide_eq_true y)
    refine ⟨fun σ' H2 => σ' = [some (.ref g), some (.ref a), some (.ref b), some (.ref x), some (.ref y), some (.bl (refB L M)), some (.ref c), some (.ref z), some .non, none, some (.ref m), some (.bl (refB N L && refB N M))] ∧ H2 = H1, ?_, ?_⟩
    · refine ⟨_, rfl, _, rfl, m, a, N, L, rfl, lm, la, lN, okN, okL, refB N L, rfl, ?_⟩
      cases e : refB N L with
      | false => exact iteF ⟨rfl, rfl⟩
      | true => exact iteT ⟨_, rfl, _, rfl, m, b, N, M, rfl, lm, lb, by omega, okN, okM, rfl, rfl⟩
    rintro σ' H2 ⟨rfl, rfl⟩
    refine ⟨_, rfl, refB N L && refB N M, rfl, !(refB N L && refB N M), rfl, ?_⟩
    cases e : (refB N L && refB N M) with
    | false => exact iteT (q H2 bt)
    | true =>
      refine iteF ?_
      obtain ⟨n1, n2⟩ := Bool.and_eq_true_iff.mp e
      obtain ⟨xs, hx, hLx⟩ := id lm
      refine ⟨_, rfl, m, xs, rfl, .inl (SqL.of hx), fun u nu => ?_⟩
      have su := same_new (o := .lst xs) nu
      refine ⟨u, N, rfl, ⟨xs, upd_same, hLx.keep su⟩, okN, h6N, fun H3 v s3 nv gv => ⟨_, rfl, .ref v, .ref z, rfl, two_ok gv ((gz.keep su).keep s3) (by omega) ⟨okN, okB, fun H4 s4 => ⟨refB N (meetL L M), true, rfl, rfl, ?_⟩⟩⟩⟩
      rw [ref_least hl n1 n2, decide_eq_true rfl]
      exact q H4 (bt.trans (Same.but ((su.trans s3).trans s4)))
end
end KA
set_option Elab.async false
set_option linter.all false
set_option maxRecDepth 100000
set_option maxHeartbeats 4000000
namespace KA
open PySem PySem.Spec PyProof.Rows L2 XV
abbrev nCaught : List Str := ["_law_which", "_law_one", "_law_other_here", "_law_error", "e", "_law_kinds"]
abbrev sCaught : Stmt := top 46
theorem scCaught : FnScope nCaught ["_law_which", "_law_one", "_law_other_here"] (defScope sCaught) := ⟨rfl, rfl, rfl, by decide +kernel, rfl, by decide +kernel, by decide +kernel⟩
/-- what is refused: the class, the value -/
def Bad (K : PySem.W.Frag) (C : Addr) (H : Hp) (wh : Nat) (u v : V) (j : Nat) (w : V) : Prop := (NoG K H u ∧ j = 0 ∧ w = u) ∨ ∃ x L, u = .ref x ∧ Gr C H x L ∧ ((NoG K H v ∧ j = 0 ∧ w = v) ∨ ∃ y M, v = .ref y ∧ Gr C H y M ∧
  ((L.length ≠ M.length ∧ j = 1 ∧ w = v) ∨ (L.length = M.length ∧ wh = 1 ∧ j = 2 ∧ Lok L ∧ Lok M ∧ Lok (meetL L M) ∧ 600 < many (meetL L M) ∧ w = .int (many (meetL L M)))))
theorem Bad.lt {K : PySem.W.Frag} {C : Addr} {H : Hp} {wh : Nat} {u v : V} {j : Nat} {w : V} (h : Bad K C H wh u v j w) : j < 3 := by
  rcases h with ⟨_, rfl, _⟩ | ⟨x, L, _, _, ⟨_, rfl, _⟩ | ⟨y, M, _, _, ⟨_, rfl, _⟩ | ⟨_, _, rfl, _⟩⟩⟩ <;> decide
theorem bad_two {K : PySem.W.Frag} {C : Addr} {H : Hp} {wh : Nat} {u v : V} {j : Nat} {w : V} {E : XK} {R : List Lim → List Lim → Prop} (h : Bad K C H wh u v j w) (r : Rz E H (CA K j) w)
    (hR : ∀ L M, L.length = M.length → wh = 1 → j = 2 → Lok L → Lok M → Lok (meetL L M) → 600 < many (meetL L M) → w = .int (many (meetL L M)) → R L M) : Two K C H u v E R := by
  rcases h with ⟨n, rfl, rfl⟩ | ⟨x, L, rfl, hx, h⟩
  · exact .inl ⟨n, r⟩
  refine .inr ⟨x, L, rfl, hx, ?_⟩
  rcases h with ⟨n, rfl, rfl⟩ | ⟨y, M, rfl, hy, h⟩
  · exact .inl ⟨n, r⟩
  refine .inr ⟨y, M, rfl, hy, ?_⟩
  rcases h with ⟨n, rfl, rfl⟩ | ⟨e, h1, h2, h3, h4, h5, h6, h7⟩
  · exact .inr ⟨n, r⟩
  · exact .inl ⟨e, hR L M e h1 h2 h3 h4 h5 h6 h7⟩
def kinds (j : Nat) : List V := [.bl (decide (j = 0)), .bl (decide (j = 1)), .bl (decide (j = 2))]
def spCaught (K : PySem.W.Frag) (C : Addr) : Sp := fun vs H Q _ => ∃ (wh : Nat) (u v : V) (j : Nat) (w : V), vs = [.int wh, u, v] ∧ wh < 2 ∧ Bad K C H wh u v j w ∧ ∀ (H' : Hp) (p k : Addr), Same H H' → H' p = some (.lst [.ref k, w]) → H' k = some (.lst (kinds j)) → Q (.ref p) H'
theorem int_ne {x y : Nat} (h : x ≠ y) : ¬ decide (V.int (x : Int) = V.int (y : Int)) = true := fun c => h (by have := V.int.inj (of_decide_eq_true c); omega)
section
variable {P : Program} {w : World} {K : PySem.W.Frag} {mg : Str → Option Value} {base : Heap} {f : Addr} {fd : FuncData} {C : Addr}
theorem ok_caught (F : FnP K "_law_caught" sCaught f fd) (Z : ClA P w K mg base) (o_refX : OkX P w K mg base "refines" 5 ["one", "other"] (spRefines K C)) (o_meetX : OkX P w K mg base "meeting" 7 ["one", "other"] (spMeeting K C)) (z_isinstance : mg "isinstance" = none) :
    FnOk P w K mg base CX0 8 f fd ["_law_which", "_law_one", "_law_other_here"] (spCaught K C) := by
  have nd := scCaught.nd
  have g0 : mg "InvalidGrid" = some (.ref (CA K 0)) := Z.g 0 (by decide)
  have g1 : mg "Unlike" = some (.ref (CA K 1)) := Z.g 1 (by decide)
  have g2 : mg "TooMany" = some (.ref (CA K 2)) := Z.g 2 (by decide)
  have gE : mg "LoopError" = some (.ref (CA K 3)) := Z.g 3 (by decide)
  refine F.ok scCaught (fun vs H Q E h => ?_) (fun cdv A outer s H vs Q E hr h => ?_)
  · obtain ⟨wh, u, v, j, w, rfl, _⟩ := h
    rfl
  · obtain ⟨wh, u, v, j, vv, rfl, hwh, bad, q⟩ := h
    have hj := bad.lt
    have r7 : Room 7 (A.deeper (envOfC "_law_caught" (defScope sCaught) s.heap.objs.size f cdv)) := hr
    refine ⟨_, PSs.nox (pss_cons (ps_set (i := 3) nd rfl (Or.inl rfl) pe_non)
      (C8.pss_cut (ps_try_keep (i := 4) rfl rfl rfl nd rfl rfl ⟨by rfl, by decide, .inl gE⟩ takes0
        (fun W pn xe tk _ => pss_one (ps_if (pt_cmpR op_eq (pv 0) pe_int (nomark _))
          (pss_one (ps_expr (pe_callT o_refX tk (r7.mono (by decide)) (by rfl) (pa_cons (pv 1) (pa_cons (pv 2) pa_nil)))))
          (pss_one (ps_expr (pe_callT o_meetX tk r7 (by rfl) (pa_cons (pv 1) (pa_cons (pv 2) pa_nil)))))))
        (fun a oe cls d pn hz hf => pss_one (ps_set (i := 3) nd rfl (Or.inl rfl) (pv 4))))
      (pss_cons (ps_set (i := 5) nd rfl (Or.inl rfl) (pe_lst (pa_cons (pe_callB call_isZ (by rfl) z_isinstance (by decide +kernel) (pa_cons (pv 3) (pa_cons (pe_glob (v := .ref (CA K 0)) (by rfl) g0 rfl) pa_nil)))
          (pa_cons (pe_callB call_isZ (by rfl) z_isinstance (by decide +kernel) (pa_cons (pv 3) (pa_cons (pe_glob (v := .ref (CA K 1)) (by rfl) g1 rfl) pa_nil)))
          (pa_cons (pe_callB call_isZ (by rfl) z_isinstance (by decide +kernel) (pa_cons (pv 3) (pa_cons (pe_glob (v := .ref (CA K 2)) (by rfl) g2 rfl) pa_nil))) pa_nil)))))
      (pss_one (ps_ret (pe_lst (pa_cons (pv 5) (pa_cons (pe_ifExp (pt_cmp (pc_isN (pv 3))) pe_non (pe_zget (pv 3))) pa_nil)))))))), ?_⟩
    refine ⟨fun σ' H' => ∃ (a dx : Addr), σ' = [some (.int wh), some u, some v, some (.ref a), none, none] ∧ Same H H' ∧ H' a = some (exz a (.ref (CA K j)) (some dx)) ∧ H' dx = some (.xd [("value", vv)]), ?_, ?_⟩
    · -- the call raises: what the clause wishes
      have wish : Rz (WE (wKeep K (.ref (CA K 3)) 4 (fun a cls d => tAsg (tVar 4) (gName 3)) (fun _ _ _ _ => False)
          { nx := fun σ' H' => ∃ (a dx : Addr), σ' = [some (.int wh), some u, some v, some (.ref a), none, none] ∧ Same H H' ∧ H' a = some (exz a (.ref (CA K j)) (some dx)) ∧ H' dx = some (.xd [("value", vv)]), rt := Q })
          [some (.int wh), some u, some v, some .non, none, none]) H (CA K j) vv := fun H' dx sm nd => by
        refine ⟨true, Z.exm j hj, fun _ a na => ?_, fun z => nomatch z⟩
        refine ⟨_, rfl, fun na2 => ⟨a, dx, rfl, (sm.trans (same_new nd)).trans (same_new na2), upd_same, ?_⟩⟩
        rw [upd_ne (ne_of_none upd_same na2)]
        exact upd_same
      refine ⟨_, rfl, rfl, _, rfl, ite2 (fun c => ?_) (fun c => ?_)⟩
      · have w0 : wh = 0 := by
          by_cases e : wh = 0
          · exact e
          · exact absurd c (int_ne (y := 0) e)
        exact ⟨_, rfl, _, rfl, u, v, rfl, bad_two bad wish fun L M _ h1 => absurd h1 (by omega)⟩
      · exact ⟨_, rfl, _, rfl, u, v, rfl, bad_two bad wish fun L M _ h1 h2 h3 h4 h5 h6 h7 => ⟨h3, h4, h5, fun h => absurd h (by omega), fun _ => by subst h2 h7; exact wish⟩⟩
    · rintro σ' H1 ⟨a, dx, rfl, sm, ha, hx⟩
      refine ⟨_, rfl, _, _, _, _, _, _, _, rfl, ha, hx, Z.e j hj, (fun u r => r), Z.kit j hj 0 (by decide), _, rfl, _, _, _, _, _, _, _, rfl, ha, hx, Z.e j hj, (fun u r => r), Z.kit j hj 1 (by decide),
        _, rfl, _, _, _, _, _, _, _, rfl, ha, hx, Z.e j hj, (fun u r => r), Z.kit j hj 2 (by decide), (by show 3 ≤ sizeLine; decide), fun l1 n1 => ?_⟩
      have s1 := same_new (o := .lst (kinds j)) n1
      refine ⟨_, rfl, _, rfl, _, rfl, ite2 (fun c => nomatch of_decide_eq_true c) fun _ => ?_⟩
      refine ⟨_, rfl, a, _, dx, _, vv, rfl, s1 _ _ ha, s1 _ _ hx, Z.f j hj, look_v _ _, (by show 2 ≤ sizeLine; decide), fun p np => ?_⟩
      have s2 := same_new (o := .lst [.ref l1, vv]) np
      exact q _ p l1 ((sm.trans s1).trans s2) upd_same (s2 _ _ upd_same)
end
end KA
set_option Elab.async false
set_option linter.all false
set_option maxRecDepth 100000
set_option maxHeartbeats 4000000
namespace KA
open PySem PySem.Spec PyProof.Rows L2 XV
abbrev nLaw : List Str := ["_law_script", "_law_index", "_law_generator_here", "_law_one", "_law_other_here", "_law_few", "_law_more", "_law_which", "_law_bad", "_law_pair"]
abbrev sLaw : Stmt := top 47
theorem scLaw : FnScope nLaw ["_law_script"] (defScope sLaw) := ⟨rfl, rfl, rfl, by decide +kernel, rfl, by decide +kernel, by decide +kernel⟩
theorem da_lim {H : Hp} {v : V} {l : Lim} (h : Da H v (limD l)) : IsLim H v l := by
  obtain ⟨t, p⟩ := l
  cases h with
  | tup h r =>
    cases r with
    | cons h1 r =>
      cases r with
      | cons h2 r =>
        cases r
        cases h1
        cases h2
        exact ⟨_, rfl, h⟩
theorem da_lims {H : Hp} : ∀ {L : List Lim} {vs : List V}, DaAll H vs (L.map limD) → Lims H vs L
  | [], _, .nil => .nil
  | l :: L, _, .cons h r => .cons (da_lim h) (da_lims r)
theorem da_LL {H : Hp} {v : V} {L : List Lim} (h : Da H v (LD L)) : ∃ a, v = .ref a ∧ LL H a L := by
  cases h with
  | lst h r => exact ⟨_, rfl, _, h, da_lims r⟩
/-- data that are no grid -/
def ngD : PyData → Bool
  | .none => true
  | .int _ => true
  | .str _ => true
  | .list _ => true
  | .tuple _ => true
  | _ => false
theorem da_noG {K : PySem.W.Frag} {H : Hp} {v : V} {d : PyData} (h : Da H v d) (n : ngD d = true) : NoG K H v := by
  cases h with
  | non => exact ⟨"NoneType", by decide, .base .non⟩
  | bl b => cases n
  | int i => exact ⟨"int", by decide, .base (.int i)⟩
  | str x => exact ⟨"str", by decide, .base (.str x)⟩
  | lst h _ => exact ⟨"list", by decide, .base (.lst h)⟩
  | tup h _ => exact ⟨"tuple", by decide, .base (.tup h)⟩
def othersD : List PyData := [.none, .int 3, .list [.tuple [.int 1, .int 2]], .str "a", .tuple [.int 1, .int 2]]
def badsD : List PyData := [.none, .list [.tuple [.int 1, .int 2]], .int 3]
theorem others_ng : (othersD.all ngD) = true := by decide
theorem bads_ng : (badsD.all ngD) = true := by decide
def kD (j : Nat) : PyData := .list [.bool (decide (j = 0)), .bool (decide (j = 1)), .bool (decide (j = 2))]
def resD (j : Nat) (d : PyData) : PyData := .list [kD j, d]
theorem kD_ok (j : Nat) : SeqAt.shaped (kD j) = true := by simp [SeqAt.shaped, kD, PyData.canLay0, PyData.canLayAll0, PyData.depth, PyData.depthAll]
theorem bads_ok : (badsD.all fun d => SeqAt.shaped (resD 0 d) && PyData.eqv (resD 0 d) (resD 0 d)) = true := by decide +kernel
theorem res_601 : SeqAt.shaped (resD 2 (.int 601)) = true ∧ PyData.eqv (resD 2 (.int 601)) (resD 2 (.int 601)) = true := by decide +kernel
theorem kD_eq (j : Nat) : PyData.eqv (kD j) (kD j) = true := SeqAt.eqv_refl _ (SeqAt.canLay_of_shaped (kD_ok j))
theorem dp_kinds {K : PySem.W.Frag} {H : Hp} {k : Addr} {j : Nat} (h : H k = some (.lst (kinds j))) : Dp K H (.ref k) (kD j) := .lst (SqL.of h) (.cons (.bl _) (.cons (.bl _) (.cons (.bl _) .nil)))
theorem Lims.drop1 {H : Hp} : ∀ {xs : List V} {L : List Lim}, Lims H xs L → Lims H (xs.drop 1) (L.drop 1)
  | _, _, .nil => .nil
  | _, _, .cons _ r => r
theorem cut1 (xs : List V) : cutV xs (some 1) none = xs.drop 1 := by
  unfold cutV
  rw [HT.sIx_none, show HT.sIx xs.length 0 (some 1) = min 1 xs.length from HT.sIx_nat _ _ 1]
  cases xs with
  | nil => rfl
  | cons x xs =>
    rw [List.length_cons, Nat.min_eq_left (by omega)]
    exact List.take_of_length_le (by simp)
def mu : L2.St → Hp → Nat
  | [_, _, _, some (.ref a), _, _, _, _, _, _], H => match H a with
    | some (.lst xs) => xs.length
    | _ => 0
  | _, _ => 0
def spLaw (K : PySem.W.Frag) : Sp := fun vs H Q _ => ∃ (a : Addr) (ns : List Int), vs = [.ref a] ∧ SqL K H a (ns.map V.int) ∧ ns.length ≤ 63 ∧ ∀ H' : Hp, Q (.bl true) H'
theorem okD1 : Lok [((1 : Int), (2 : Int))] := ⟨by decide, by decide⟩
theorem op_ownEK {X : Cx} {CX : CXT} {C g : Addr} {n : Nat} {fd : FuncData} {ps : List Str} {sp : Sp} {E : XK} {K : PySem.W.Frag} (e : X.K = K) (hs : PySem.W.findIn K (.ref C) "__eq__" = some (some (.ref g))) (hf : PySem.W.isFn K (.ref g) = true) (F : FnOk X.prog X.w K X.mg X.base CX n g fd ps sp) (hr : Room n X.A) (hb : Binds K fd ps []) (hx : Passes CX X E) :
    OpR X (compareOp .Eq) (rOwnE K C sp E) := by
  subst e
  exact op_ownE hs hf F hr hb hx
theorem same_but' {H H2 H3 : Hp} {g : Addr} (hg : H g = none) (s : Same H H2) (b : But H2 H3 g) : Same H H3 := fun c o e => b c o (ne_of_none e hg) (s c o e)
theorem lok_all {L : List Lim} (h : (decide (L.length ≤ 3) && L.all fun l => decide (0 ≤ l.1) && (decide (l.1 < 1000) && (decide (1 ≤ l.2) && decide (l.2 < 1000)))) = true) : Lok L := by
  rw [Bool.and_eq_true, decide_eq_true_eq, List.all_eq_true] at h
  refine ⟨h.1, fun l hl => ?_⟩
  have := h.2 l hl
  simp only [Bool.and_eq_true, decide_eq_true_eq] at this
  exact this
def LA : List Lim := [((1 : Int), (24 : Int))]
def LB : List Lim := [((0 : Int), (25 : Int))]
def LC : List Lim := [((0 : Int), (24 : Int))]
theorem mAB : meetL LA LB = [((1 : Int), (600 : Int))] := by decide +kernel
theorem mCB : meetL LC LB = [((0 : Int), (600 : Int))] := by decide +kernel
section
variable {P : Program} {w : World} {K : PySem.W.Frag} {mg : Str → Option Value} {base : Heap} {f : Addr} {fd : FuncData} {C : Addr}
/-- both sides of a comparison are the same data -/
theorem ne_res {H H2 : Hp} {p k u u2 : Addr} {j : Nat} {w0 : V} {d : PyData} {R : Bool → Hp → Prop} (hp : H p = some (.lst [.ref k, w0])) (hk : H k = some (.lst (kinds j))) (hw : Da H w0 d) (s : Same H H2) (hu : H2 u = some (.lst [.ref u2, w0])) (hu2 : H2 u2 = some (.lst (kinds j)))
    (sh : SeqAt.shaped (resD j d) = true) (eq : PyData.eqv (resD j d) (resD j d) = true) (r : R false H2) : rNeD K (.ref p) (.ref u) H2 fun x H' => ∃ b, x = .bl b ∧ R b H' := by
  refine ⟨resD j d, resD j d, .lst (SqL.of (s _ _ hp)) (.cons (dp_kinds (s _ _ hk)) (.cons (hw.keep s).dp .nil)), .lst (SqL.of hu) (.cons (dp_kinds hu2) (.cons (hw.keep s).dp .nil)), sh, sh, false, ne_same eq, r⟩
set_option maxHeartbeats 8000000 in
theorem ok_law (F : FnP K "law" sLaw f fd) (T : GT K mg C) (oGen : Ok P w K mg base "_law_generator" 1 ["_law_script", "_law_index"] (spGen K)) (oRand : Ok P w K mg base "_law_random" 2 ["_law_generator_here", "_law_bound"] spRand)
    (oLim : Ok P w K mg base "_law_limits" 3 ["_law_generator_here", "_law_many_here", "_law_least_here", "_law_most"] spLimL) (o_manyL : Ok P w K mg base "_law_many" 1 ["_law_limits_here"] spManyL) (o_other : Ok P w K mg base "_law_other" 4 ["_law_generator_here", "_law_limits_here"] spOther)
    (o_good : Ok P w K mg base "_law_pair_good" 8 ["_law_generator_here", "_law_one", "_law_other_here"] spGood) (o_mk : OkMk P w K mg base C) (o_eq : OkEq P w K mg base C) (o_caught : Ok P w K mg base "_law_caught" 8 ["_law_which", "_law_one", "_law_other_here"] (spCaught K C))
    (o_meet : Ok P w K mg base "meeting" 7 ["one", "other"] (cm (spMeeting K C))) (o_limits : OkMt P w K mg base C "limits" (spLimits C)) (z_range : mg "range" = none) :
    FnOk P w K mg base CX0 9 f fd ["_law_script"] (spLaw K) := by
  have nd := scLaw.nd
  obtain ⟨fe, fde, e1, e2, FE, be⟩ := o_eq.ex
  refine F.ok scLaw (fun vs H Q E h => ?_) (fun cdv A outer s H vs Q E hr h => ?_)
  · obtain ⟨a, ns, rfl, _⟩ := h
    rfl
  · obtain ⟨a, ns, rfl, hS, hlen, q⟩ := h
    have hu := hr.units
    have hu66 : (A.deeper (envOfC "law" (defScope sLaw) s.heap.objs.size f cdv)).units + 66 < cLine := by
      have := hr.un
      omega
    have r8 : Room 8 (A.deeper (envOfC "law" (defScope sLaw) s.heap.objs.size f cdv)) := hr
    have r7 := r8.mono (by decide : 7 ≤ 8)
    have r6 := r8.mono (by decide : 6 ≤ 8)
    have r4 := r8.mono (by decide : 4 ≤ 8)
    have r3 := r8.mono (by decide : 3 ≤ 8)
    have r2 := r8.mono (by decide : 2 ≤ 8)
    have r1 := r8.mono (by decide : 1 ≤ 8)
    refine ⟨_, PSs.nox (C8.pss_cut (ps_for PassesOwn.never rfl (pi_range1 (by rfl) z_range (pa_cons pe_int pa_nil)) (pg_name (i := 1) nd rfl (Or.inl rfl))
        (pss_cons (ps_set (i := 2) nd rfl (Or.inl rfl) (pe_callO oGen r1 (by rfl) (pa_cons (pv 0) (pa_cons (pv 1) pa_nil))))
        (C8.pss_cut (ps_set (i := 3) nd rfl (Or.inl rfl) (pe_callO oLim r3 (by rfl) (pa_cons (pv 2) (pa_cons (pe_callO oRand r2 (by rfl) (pa_cons (pv 2) (pa_cons pe_int pa_nil))) (pa_cons pe_int (pa_cons pe_int pa_nil))))))
        (C8.pss_cut (ps_while PassesOwn.never (pt_cmpR op_gt (pe_callO o_manyL r1 (by rfl) (pa_cons (pv 3) pa_nil)) pe_int (nomark _)) (pss_one (ps_set (i := 3) nd rfl (Or.inl rfl) (pe_slice sl_list (pv 3) (po_some pe_int) po_none))))
        (pss_cons (ps_set (i := 4) nd rfl (Or.inl rfl) (pe_callO o_other r4 (by rfl) (pa_cons (pv 2) (pa_cons (pv 3) pa_nil))))
        (pss_one (ps_if (PW.pt (pw_and (pt_cmpR op_le (pe_callO o_manyL r1 (by rfl) (pa_cons (pv 4) pa_nil)) pe_int (nomark _)) (pw_and1 (pt_not (pt_val (pe_callO o_good r8 (by rfl) (pa_cons (pv 2) (pa_cons (pv 3) (pa_cons (pv 4) pa_nil))))))))) (pss_one (ps_ret pe_bl)) pss_nil)))))))
      (C8.pss_cut (ps_asg (pe_tup (pa_cons (pe_mk (T := T) o_mk r6 (by rfl) (pe_lit 4 (d := LD [((1 : Int), (2 : Int))]) rfl)) (pa_cons (pe_mk (T := T) o_mk r6 (by rfl) (pe_lit 4 (d := LD [((1 : Int), (2 : Int)), ((0 : Int), (1 : Int))]) rfl)) pa_nil))) (pg_tup rfl (pgs_cons (pg_name (i := 5) nd rfl (Or.inr rfl)) (pgs_cons (pg_name (i := 6) nd rfl (Or.inl rfl)) pgs_nil))))
      (C8.pss_cut (ps_if (pt_cmpR (op_neD hu) (pe_lc (own := [("_law_other_here", 4)]) (g := gName 4) (tt := _) (by rfl) nd (pi_list (pe_lit 5 (d := .list othersD) rfl)) (blkOk_by (N := nLaw) (sc := defScope sLaw) (own := [("_law_other_here", 4)]) (by decide +kernel)) (fun _ _ _ _ _ => pg_name (i := 4) nd rfl (Or.inl rfl))
          (fun _ _ _ _ _ => pts_one (pt_cmpR op_notBl (pe_cmpR (op_ownEK (K := K) rfl e1 e2 FE r1 be pass0) (pv 5) (pv 4) (nomark _)) pe_bl (nomark _))) (fun _ _ _ _ _ => pv 4)) (pe_lst pa_nil) (nomark _)) (pss_one (ps_ret pe_bl)) pss_nil)
      (C8.pss_cut (ps_for PassesOwn.never rfl (pi_range1 (by rfl) z_range (pa_cons pe_int pa_nil)) (pg_name (i := 7) nd rfl (Or.inl rfl))
        (C8.pss_cut (ps_for PassesOwn.never rfl (pi_list (pe_lit 5 (d := .list badsD) rfl)) (pg_name (i := 8) nd rfl (Or.inl rfl))
          (pss_cons (ps_if (pt_cmpR (op_neD hu) (pe_callO o_caught r8 (by rfl) (pa_cons (pv 7) (pa_cons (pv 8) (pa_cons pe_non pa_nil)))) (pe_lst (pa_cons (pe_lst (pa_cons pe_bl (pa_cons pe_bl (pa_cons pe_bl pa_nil)))) (pa_cons (pv 8) pa_nil))) (nomark _)) (pss_one (ps_ret pe_bl)) pss_nil)
          (pss_one (ps_if (pt_cmpR (op_neD hu) (pe_callO o_caught r8 (by rfl) (pa_cons (pv 7) (pa_cons (pv 5) (pa_cons (pv 8) pa_nil)))) (pe_lst (pa_cons (pe_lst (pa_cons pe_bl (pa_cons pe_bl (pa_cons pe_bl pa_nil)))) (pa_cons (pv 8) pa_nil))) (nomark _)) (pss_one (ps_ret pe_bl)) pss_nil))))
        (pss_one (ps_for PassesOwn.never rfl (pi_list (pe_lst (pa_cons (pe_lst (pa_cons (pv 5) (pa_cons (pv 6) pa_nil))) (pa_cons (pe_lst (pa_cons (pv 6) (pa_cons (pv 5) pa_nil))) (pa_cons (pe_lst (pa_cons (pv 5) (pa_cons (pe_mk (T := T) o_mk r6 (by rfl) (pe_lit 4 (d := LD []) rfl)) pa_nil))) pa_nil))))) (pg_name (i := 9) nd rfl (Or.inl rfl))
          (pss_one (ps_if (pt_cmpR (op_neI hu66) (pe_callO o_caught r8 (by rfl) (pa_cons (pv 7) (pa_cons (pe_ix ix_list (pv 9) pe_int (fun _ _ => rfl)) (pa_cons (pe_ix ix_list (pv 9) pe_int (fun _ _ => rfl)) pa_nil)))) (pe_lst (pa_cons (pe_lst (pa_cons pe_bl (pa_cons pe_bl (pa_cons pe_bl pa_nil)))) (pa_cons (pe_ix ix_list (pv 9) pe_int (fun _ _ => rfl)) pa_nil))) (nomark _)) (pss_one (ps_ret pe_bl)) pss_nil))))))
      (C8.pss_cut (ps_if (pt_cmpR (op_neD hu) (pe_callO o_caught r8 (by rfl) (pa_cons pe_int (pa_cons (pe_mk (T := T) o_mk r6 (by rfl) (pe_lit 4 (d := LD LA) rfl)) (pa_cons (pe_mk (T := T) o_mk r6 (by rfl) (pe_lit 4 (d := LD LB) rfl)) pa_nil)))) (pe_lst (pa_cons (pe_lst (pa_cons pe_bl (pa_cons pe_bl (pa_cons pe_bl pa_nil)))) (pa_cons pe_int pa_nil))) (nomark _)) (pss_one (ps_ret pe_bl)) pss_nil)
      (pss_one (ps_ret (pe_cmpR (op_eqD hu) (pe_limits o_limits T (pe_callO o_meet r7 (by rfl) (pa_cons (pe_mk (T := T) o_mk r6 (by rfl) (pe_lit 4 (d := LD LC) rfl)) (pa_cons (pe_mk (T := T) o_mk r6 (by rfl) (pe_lit 4 (d := LD LB) rfl)) pa_nil))) r1) (pe_lit 4 (d := LD [((0 : Int), (600 : Int))]) rfl) (nomark _))))))))), ?_⟩
    have n2 : 2 ≤ sizeLine := by decide
    have n3 : 3 ≤ sizeLine := by decide
    refine ⟨fun σ' H' => (∃ x1 x2 x3 x4, σ' = [some (.ref a), x1, x2, x3, x4, none, none, none, none, none]) ∧ Same H H', ?_, ?_⟩
    · refine ⟨3, rfl, by decide, by decide, for_range (lo := 0) (n := 3) (fun i σ H' => (∃ x1 x2 x3 x4, σ = [some (.ref a), x1, x2, x3, x4, none, none, none, none, none]) ∧ Same H H') ⟨⟨_, _, _, _, rfl⟩, Same.refl _⟩ ?_ fun σ H' h => h⟩
      rintro i σ H' hi ⟨⟨x1, x2, x3, x4, rfl⟩, sm⟩
      rw [Int.zero_add]
      refine ⟨_, rfl, _, rfl, a, ns, i, rfl, sm.seq hS, by omega, fun H1 g s1 ng d1 => ?_⟩
      have hg : H g = none := by
        cases e : H g with
        | none => rfl
        | some o =>
          rw [sm _ _ e] at ng
          cases ng
      refine ⟨fun σ' H2 => ∃ b L n, σ' = [some (.ref a), some (.int (i : Int)), some (.ref g), some (.ref b), x4, none, none, none, none, none] ∧ Same H H2 ∧ Dr H2 g n ∧ n ≤ 200000 ∧ LL H2 b L ∧ L.length ≤ 3 ∧ Bnd 3 6 L, ?_, ?_⟩
      · refine ⟨_, rfl, _, rfl, g, 1000 * i, 4, rfl, d1, by omega, by decide, by decide, fun H2 r r0 r1 b2 d2 => ?_⟩
        obtain ⟨m, rfl⟩ := Int.eq_ofNat_of_zero_le r0
        refine ⟨g, _, m, 3, 6, rfl, d2, by omega, by omega, by decide, by decide, by decide, by decide, fun H3 b L lL bL b3 d3 nb hb => ?_⟩
        exact ⟨b, L, _, rfl, same_but' hg (same_but' hg (sm.trans s1) b2) b3, d3, by omega, hb, by omega, bL⟩
      rintro σ' H2 ⟨b, L, n, rfl, s2, d2, hn, hb, h3, bL⟩
      refine ⟨fun σ' H3 => ∃ b L, σ' = [some (.ref a), some (.int (i : Int)), some (.ref g), some (.ref b), x4, none, none, none, none, none] ∧ Same H H3 ∧ Dr H3 g n ∧ LL H3 b L ∧ L.length ≤ 3 ∧ Bnd 3 6 L ∧ many L ≤ 600, ?_, ?_⟩
      · refine while_by (fun σ' H3 => ∃ b L, σ' = [some (.ref a), some (.int (i : Int)), some (.ref g), some (.ref b), x4, none, none, none, none, none] ∧ Same H H3 ∧ Dr H3 g n ∧ LL H3 b L ∧ L.length ≤ 3 ∧ Bnd 3 6 L) mu ⟨b, L, rfl, s2, d2, hb, h3, bL⟩ ?_ ?_
        · rintro σ H3 ⟨b, L, rfl, s3, d3, ⟨xs, hx, hL⟩, h3, bL⟩
          refine ⟨_, rfl, b, L, rfl, ⟨xs, hx, hL⟩, bnd_ok bL h3 (by decide) (by decide), _, _, rfl, rfl, _, rfl, ite2 (fun c => ?_) (fun c => ?_)⟩
          · have c : 600 < many L := of_decide_eq_true c
            refine ⟨_, rfl, _, rfl, b, xs, rfl, SqL.of hx, fun p np => ?_⟩
            have sp := same_new (o := .lst (cutV xs (some 1) none)) np
            refine ⟨⟨p, L.drop 1, rfl, s3.trans sp, dr_same d3 sp, ⟨_, upd_same, ?_⟩, by rw [List.length_drop]; omega, fun l hl => bL l (List.mem_of_mem_drop hl)⟩, ?_⟩
            · rw [cut1] at sp ⊢
              exact hL.drop1.keep sp
            · show (match (upd H3 p (.lst (cutV xs (some 1) none))) p with
                | some (.lst xs) => xs.length
                | _ => 0) < (match H3 b with
                | some (.lst xs) => xs.length
                | _ => 0)
              rw [upd_same, hx, cut1]
              show (xs.drop 1).length < xs.length
              have lx := hL.len
              rw [List.length_drop]
              have : L ≠ [] := fun z => by
                rw [z] at c
                exact absurd c (by decide)
              have := List.length_pos_iff.mpr this
              omega
          · have c : many L ≤ 600 := Int.not_lt.mp fun y => c (decide_eq_true y)
            exact ⟨b, L, rfl, s3, d3, ⟨xs, hx, hL⟩, h3, bL, c⟩
        · rintro σ H3 R R' j ⟨v, hv, a', L', ea, hL', hok, x, y, f1, f2, k, ek, r⟩
          exact ⟨v, hv, a', L', ea, hL', hok, x, y, f1, f2, k, ek, j _ _ r⟩
      rintro σ' H3 ⟨b, L, rfl, s3, d3, hb, h3, bL, mL⟩
      refine ⟨_, rfl, _, rfl, g, b, n, L, 3, 6, rfl, d3, by omega, hb, h3, bL, by decide, by decide, by decide, by decide, fun H4 r M lM bM b4 d4 nr hM => ?_⟩
      have s4 := same_but' hg s3 b4
      have bM : Bnd 4 18 M := bM
      refine ⟨_, rfl, r, M, rfl, hM, bnd_ok bM (by omega) (by decide) (by decide), _, _, rfl, rfl, _, rfl, ite2 (fun c => ?_) (fun _ => iteF ⟨⟨_, _, _, _, rfl⟩, s4⟩)⟩
      have c : many M ≤ 600 := of_decide_eq_true c
      exact ⟨_, rfl, _, rfl, _, rfl, g, b, r, _, L, M, rfl, d4, by omega, hb.but d3 b4, hM, lM.symm, h3, bL, bM, mL, c, fun H5 b5 => ⟨true, rfl, iteF ⟨⟨_, _, _, _, rfl⟩, same_but' hg s4 b5⟩⟩⟩
    rintro σ' H1 ⟨⟨x1, x2, x3, x4, rfl⟩, -⟩
    have grid : ∀ {H : Hp} {v : V} {L : List Lim}, Da H v (LD L) → ∃ a, v = .ref a ∧ LL H a L := fun h => da_LL h
    refine ⟨fun σ' H' => ∃ x y, σ' = [some (.ref a), x1, x2, x3, x4, some (.ref x), some (.ref y), none, none, none] ∧ Gr C H' x [((1 : Int), (2 : Int))] ∧ Gr C H' y [((1 : Int), (2 : Int)), ((0 : Int), (1 : Int))], ?_, ?_⟩
    · refine fun v1 H2 s2 dd1 => ?_
      obtain ⟨a1, rfl, h1⟩ := grid dd1
      refine ⟨a1, _, rfl, h1, lok_all (by decide), by decide, fun H3 x sx nx gx => fun v2 H4 s4 dd2 => ?_⟩
      obtain ⟨a2, rfl, h2⟩ := grid dd2
      refine ⟨a2, _, rfl, h2, lok_all (by decide), by decide, fun H5 y sy ny gy => ⟨n2, fun p np => ⟨p, _, rfl, SqT.of upd_same, rfl, _, _, rfl, _, _, rfl, rfl, x, y, rfl, ?_, ?_⟩⟩⟩
      · exact ((gx.keep s4).keep sy).keep (same_new np)
      · exact gy.keep (same_new np)
    rintro σ' H1 ⟨x, y, rfl, gx, gy⟩
    refine ⟨fun σ' H' => σ' = [some (.ref a), x1, x2, x3, x4, some (.ref x), some (.ref y), none, none, none] ∧ Same H1 H', ?_, ?_⟩
    · refine fun v1 H2 s2 dd1 => ?_
      cases dd1 with
      | @lst l xs _ hl dal =>
      refine ⟨l, rfl, ⟨_, SqL.of hl⟩, fun D nD => lc_list (K := K) (a := l) (xs := xs) (fun j H' => Same H2 H' ∧ H' D = some (.lst [])) ⟨same_new nD, upd_same⟩ (fun j H' _ p => SqL.of (p.1 _ _ hl)) ?_ ?_⟩
      · rintro j z H' hj ⟨sm, hD⟩
        obtain ⟨d, ed, hd⟩ := dal.get hj
        have gx' := (gx.keep s2).keep sm
        obtain ⟨dx, lx, hx, hLx⟩ := id gx'
        obtain ⟨T', hT, ty⟩ := da_noG (K := K) (hd.keep sm) (List.all_eq_true.mp others_ng d (mem_at ed))
        refine ⟨rfl, ?_⟩
        exact ⟨_, rfl, _, rfl, x, dx, _, .type T', rfl, hx, ty, T.nf T' hT, x, z, _, rfl, gx', .inr ⟨⟨T', hT, ty⟩, false, false, rfl, rfl, false, rfl, iteF ⟨sm, hD⟩⟩⟩
      · rintro H' ⟨sm, hD⟩
        refine ⟨(by show 0 ≤ sizeLine; decide), fun e0 ne0 => ⟨.list [], .list [], .lst (SqL.of (same_new ne0 _ _ hD)) .nil, .lst (SqL.of upd_same) .nil, by decide +kernel, by decide +kernel, false, ne_same (by simp [PyData.eqv, PyData.eqvAll]), iteF ⟨rfl, (s2.trans sm).trans (same_new ne0)⟩⟩⟩
    rintro σ' H2 ⟨rfl, s2⟩
    have gx := gx.keep s2
    have gy := gy.keep s2
    clear s2
    refine ⟨fun σ' H' => (∃ x7 x8 x9, σ' = [some (.ref a), x1, x2, x3, x4, some (.ref x), some (.ref y), x7, x8, x9]) ∧ Same H2 H', ?_, ?_⟩
    · refine ⟨2, rfl, by decide, by decide, for_range (lo := 0) (n := 2) (fun i σ H' => (∃ x7 x8 x9, σ = [some (.ref a), x1, x2, x3, x4, some (.ref x), some (.ref y), x7, x8, x9]) ∧ Same H2 H') ⟨⟨_, _, _, rfl⟩, Same.refl _⟩ ?_ fun σ H' h => h⟩
      rintro i σ H3 hi ⟨⟨x7, x8, x9, rfl⟩, sm⟩
      rw [Int.zero_add]
      refine ⟨fun σ' H' => (∃ x8 x9, σ' = [some (.ref a), x1, x2, x3, x4, some (.ref x), some (.ref y), some (.int (i : Int)), x8, x9]) ∧ Same H2 H', ?_, ?_⟩
      · refine fun v1 H4 s4 dd1 => ?_
        cases dd1 with
        | @lst l xs _ hl dal =>
        refine ⟨l, rfl, ⟨_, SqL.of hl⟩, for_list (K := K) (a := l) (xs := xs) (fun j σ H' => (∃ x8 x9, σ = [some (.ref a), x1, x2, x3, x4, some (.ref x), some (.ref y), some (.int (i : Int)), x8, x9]) ∧ Same H4 H') ⟨⟨_, _, rfl⟩, Same.refl _⟩ (fun j σ H' _ p => SqL.of (p.2 _ _ hl)) ?_ ?_⟩
        · rintro j z σ H5 hj ⟨⟨x8, x9, rfl⟩, sm5⟩
          obtain ⟨d, ed, hd⟩ := dal.get hj
          have ng := List.all_eq_true.mp bads_ng d (mem_at ed)
          have ok := List.all_eq_true.mp bads_ok d (mem_at ed)
          obtain ⟨ok1, ok2⟩ := Bool.and_eq_true_iff.mp ok
          have hd5 := hd.keep sm5
          refine ⟨_, rfl, _, rfl, i, z, .non, 0, z, rfl, by omega, .inl ⟨da_noG hd5 ng, rfl, rfl⟩, fun H6 p k s6 hp hk => ⟨n3, fun u nu => ⟨_, rfl, n2, fun u2 nu2 => ?_⟩⟩⟩
          have su := same_new (o := .lst [.bl true, .bl false, .bl false]) nu
          have su2 := same_new (o := .lst [.ref u, z]) nu2
          have hd6 := hd5.keep s6
          refine ne_res (j := 0) hp hk hd6 (su.trans su2) upd_same (su2 _ _ upd_same) ok1 ok2 (iteF ?_)
          have S7 := ((sm5.trans s6).trans su).trans su2
          have hd7 := hd.keep S7
          generalize upd (upd H6 u (.lst [.bl true, .bl false, .bl false])) u2 (.lst [.ref u, z]) = H7 at *
          have gx7 : Gr C H7 x [((1 : Int), (2 : Int))] := gx.keep ((sm.trans s4).trans S7)
          refine ⟨_, rfl, _, rfl, _, rfl, i, .ref x, z, 0, z, rfl, by omega, .inr ⟨x, _, rfl, gx7, .inl ⟨da_noG hd7 ng, rfl, rfl⟩⟩, fun H8 p k s8 hp hk => ⟨n3, fun u nu => ⟨_, rfl, n2, fun u2 nu2 => ?_⟩⟩⟩
          have su := same_new (o := .lst [.bl true, .bl false, .bl false]) nu
          have su2 := same_new (o := .lst [.ref u, z]) nu2
          have hd8 := hd7.keep s8
          exact ne_res (j := 0) hp hk hd8 (su.trans su2) upd_same (su2 _ _ upd_same) ok1 ok2 (iteF ⟨⟨_, _, rfl⟩, ((S7.trans s8).trans su).trans su2⟩)
        · rintro σ H5 ⟨⟨x8, x9, rfl⟩, sm5⟩
          exact ⟨⟨_, _, rfl⟩, (sm.trans s4).trans sm5⟩
      rintro σ' H4 ⟨⟨x8, x9, rfl⟩, s4⟩
      have gx4 := gx.keep s4
      have gy4 := gy.keep s4
      refine ⟨_, rfl, _, rfl, n2, fun p1 np1 => ?_⟩
      have t1 := same_new (o := .lst [.ref x, .ref y]) np1
      refine ⟨_, rfl, _, rfl, n2, fun p2 np2 => ?_⟩
      have t2 := same_new (o := .lst [.ref y, .ref x]) np2
      refine ⟨_, rfl, fun v1 H5 s5 dd1 => ?_⟩
      obtain ⟨a1, rfl, h1⟩ := grid dd1
      refine ⟨a1, _, rfl, h1, lok_all (by decide), by decide, fun H6 z s6 nz gz => ⟨n2, fun p3 np3 => ?_⟩⟩
      have t3 := same_new (o := .lst [.ref x, .ref z]) np3
      refine ⟨n3, fun l nl => ?_⟩
      have t4 := same_new (o := .lst [.ref p1, .ref p2, .ref p3]) nl
      have S := (((((t1.trans t2).trans s5).trans s6).trans t3).trans t4)
      have q1 := ((((t2.trans s5).trans s6).trans t3).trans t4) _ _ (upd_same (H := H4) (a := p1) (o := .lst [.ref x, .ref y]))
      have q2 := (((s5.trans s6).trans t3).trans t4) _ _ (upd_same (H := upd H4 p1 (.lst [.ref x, .ref y])) (a := p2) (o := .lst [.ref y, .ref x]))
      have q3 := t4 _ _ (upd_same (H := H6) (a := p3) (o := .lst [.ref x, .ref z]))
      have gz9 := (gz.keep t3).keep t4
      have gx9 := gx4.keep S
      have gy9 := gy4.keep S
      have hl9 : (upd (upd H6 p3 (.lst [.ref x, .ref z])) l (.lst [.ref p1, .ref p2, .ref p3])) l = some (.lst [.ref p1, .ref p2, .ref p3]) := upd_same
      generalize upd (upd H6 p3 (.lst [.ref x, .ref z])) l (.lst [.ref p1, .ref p2, .ref p3]) = H9 at *
      have all : ∀ v ∈ ([.ref p1, .ref p2, .ref p3] : List V), ∃ pp u0 v0 L M, v = .ref pp ∧ H9 pp = some (.lst [.ref u0, .ref v0]) ∧ Gr C H9 u0 L ∧ Gr C H9 v0 M ∧ L.length ≠ M.length := by
        intro v hv
        rcases List.mem_cons.mp hv with rfl | hv
        · exact ⟨p1, x, y, _, _, rfl, q1, gx9, gy9, by decide⟩
        rcases List.mem_cons.mp hv with rfl | hv
        · exact ⟨p2, y, x, _, _, rfl, q2, gy9, gx9, by decide⟩
        rcases List.mem_cons.mp hv with rfl | hv
        · exact ⟨p3, x, z, _, _, rfl, q3, gx9, gz9, by decide⟩
        · cases hv
      refine ⟨l, rfl, ⟨_, SqL.of hl9⟩, for_list (K := K) (a := l) (xs := [.ref p1, .ref p2, .ref p3]) (fun j σ H' => (∃ x9, σ = [some (.ref a), x1, x2, x3, x4, some (.ref x), some (.ref y), some (.int (i : Int)), x8, x9]) ∧ Same H9 H') ⟨⟨_, rfl⟩, Same.refl _⟩ (fun j σ H' _ p => SqL.of (p.2 _ _ hl9)) ?_ ?_⟩
      · rintro j v σ H5' hj ⟨⟨x9, rfl⟩, sm5⟩
        obtain ⟨pp, u0, v0, L, M, rfl, hpp, gu, gv, ne⟩ := all v (mem_at hj)
        have hpp5 := sm5 _ _ hpp
        have j0 : atI [V.ref u0, V.ref v0] ((0 : Nat) : Int) = some (V.ref u0) := atI_nat rfl
        have j1 : atI [V.ref u0, V.ref v0] ((1 : Nat) : Int) = some (V.ref v0) := atI_nat rfl
        refine ⟨_, rfl, _, rfl, pp, _, _, _, rfl, rfl, SqL.of hpp5, j0, _, rfl, pp, _, _, _, rfl, rfl, SqL.of hpp5, j1, i, .ref u0, .ref v0, 1, .ref v0, rfl, by omega, .inr ⟨u0, L, rfl, gu.keep sm5, .inr ⟨v0, M, rfl, gv.keep sm5, .inl ⟨ne, rfl, rfl⟩⟩⟩, fun H6' p k s6' hp hk => ⟨n3, fun u nu => ?_⟩⟩
        have su := same_new (o := .lst [.bl false, .bl true, .bl false]) nu
        refine ⟨_, rfl, pp, _, _, _, rfl, rfl, SqL.of (su _ _ (s6' _ _ hpp5)), j1, n2, fun u2 nu2 => ?_⟩
        have su2 := same_new (o := .lst [.ref u, .ref v0]) nu2
        have S7 := su.trans su2
        refine ⟨p, u2, .ref k, .ref u, .ref v0, kD 1, kD 1, rfl, rfl, S7 _ _ hp, upd_same, ⟨v0, rfl⟩, dp_kinds (S7 _ _ hk), dp_kinds (j := 1) (su2 _ _ upd_same), kD_ok 1, kD_ok 1, false, ne_same (kD_eq 1), iteF ⟨⟨_, rfl⟩, (sm5.trans s6').trans S7⟩⟩
      · rintro σ H5' ⟨⟨x9, rfl⟩, sm5⟩
        exact ⟨⟨_, _, _, rfl⟩, (s4.trans S).trans sm5⟩
    rintro σ' H3 ⟨⟨x7, x8, x9, rfl⟩, s3⟩
    have okA : Lok LA := lok_all (by decide)
    have okB : Lok LB := lok_all (by decide)
    have okC : Lok LC := lok_all (by decide)
    refine ⟨fun σ' H' => σ' = [some (.ref a), x1, x2, x3, x4, some (.ref x), some (.ref y), x7, x8, x9], ?_, ?_⟩
    · refine fun v1 H4 s4 dd1 => ?_
      obtain ⟨a1, rfl, h1⟩ := grid dd1
      refine ⟨a1, LA, rfl, h1, okA, by decide, fun H5 g1 s5 ng1 gg1 => fun v2 H6 s6 dd2 => ?_⟩
      obtain ⟨a2, rfl, h2⟩ := grid dd2
      refine ⟨a2, LB, rfl, h2, okB, by decide, fun H7 g2 s7 ng2 gg2 => ?_⟩
      have gg1' := (gg1.keep s6).keep s7
      refine ⟨1, .ref g1, .ref g2, 2, .int 601, rfl, by decide, .inr ⟨g1, LA, rfl, gg1', .inr ⟨g2, LB, rfl, gg2, .inr ⟨rfl, rfl, rfl, okA, okB, by rw [mAB]; exact lok_all (by decide), by rw [mAB]; decide, by rw [mAB]; rfl⟩⟩⟩, fun H8 p k s8 hp hk => ⟨n3, fun u nu => ⟨n2, fun u2 nu2 => ?_⟩⟩⟩
      have su := same_new (o := .lst [.bl false, .bl false, .bl true]) nu
      have su2 := same_new (o := .lst [.ref u, .int 601]) nu2
      exact ne_res (j := 2) hp hk (.int 601) (su.trans su2) upd_same (su2 _ _ upd_same) res_601.1 res_601.2 (iteF rfl)
    rintro σ' H4 rfl
    refine fun v1 H5 s5 dd1 => ?_
    obtain ⟨a1, rfl, h1⟩ := grid dd1
    refine ⟨a1, LC, rfl, h1, okC, by decide, fun H6 g1 s6 ng1 gg1 => fun v2 H7 s7 dd2 => ?_⟩
    obtain ⟨a2, rfl, h2⟩ := grid dd2
    refine ⟨a2, LB, rfl, h2, okB, by decide, fun H8 g2 s8 ng2 gg2 => ?_⟩
    have gg1' := (gg1.keep s7).keep s8
    refine ⟨.ref g1, .ref g2, rfl, two_ok gg1' gg2 rfl ⟨okC, okB, by rw [mCB]; exact lok_all (by decide), fun _ H9 u s9 nu gu => ⟨u, _, rfl, gu, fun H10 p s10 np hp => fun v3 H11 s11 dd3 => ?_⟩, fun h => absurd h (by rw [mCB]; decide)⟩⟩
    obtain ⟨a3, rfl, h3⟩ := grid dd3
    refine ⟨LD (meetL LC LB), LD [((0 : Int), (600 : Int))], (hp.keep s11).dp, h3.dp, shaped_L _, shaped_L _, ?_⟩
    rw [eqv_L, mCB, decide_eq_true rfl]
    exact q _
end
end KA
set_option Elab.async false
set_option linter.all false
set_option maxRecDepth 100000
set_option maxHeartbeats 2000000
namespace XV
open PySem PySem.Spec PyProof.Rows L2
/-! ### what isinstance says of a class, by its order of classes -/
def mroB (K : PySem.W.Frag) (C : Addr) (m : List Value) : Bool := match K.lookup C with
  | some ⟨t, _, .cls cd, _⟩ => decide (t = .type "type") && decide (cd.mro = m)
  | _ => false
theorem mroB_ok {K : PySem.W.Frag} {C : Addr} {m : List Value} (h : mroB K C m = true) : (∃ cd, PySem.W.clsIn K C = some cd ∧ cd.mro = m) ∧ PySem.W.typeIn K (.ref C) = some (.type "type") := by
  unfold mroB at h
  split at h
  · rename_i t d cd sl ho
    obtain ⟨h1, h2⟩ := He.ba h
    have e1 : t = .type "type" := of_decide_eq_true h1
    have e2 : cd.mro = m := of_decide_eq_true h2
    refine ⟨⟨cd, ?_, e2⟩, ?_⟩
    · unfold PySem.W.clsIn
      rw [ho]
    · show (K.lookup C).map (fun o => o.cls) = _
      rw [ho, e1]
      rfl
  · cases h
theorem sub_mro {K : PySem.W.Frag} {C : Addr} {m : List Value} (h : mroB K C m = true) (hm : m.isEmpty = false) (b : Value) : PySem.W.subIn K (.ref C) b = some (m.contains b) := by
  obtain ⟨⟨cd, h1, h2⟩, _⟩ := mroB_ok h
  show PySem.W.mroIn K C b = _
  unfold PySem.W.mroIn
  rw [h1]
  show (if cd.mro.isEmpty = true then none else some (cd.mro.contains b)) = _
  rw [h2, hm, if_neg Bool.false_ne_true]
theorem kit_mro {K : PySem.W.Frag} {C D : Addr} {m m' : List Value} (h : mroB K C m = true) (hm : m.isEmpty = false) (h' : mroB K D m' = true) (hs : C = D → m.contains (.ref D) = true) : PySem.W.kitOne K (.ref C) (.ref D) = some (m.contains (.ref D)) := by
  unfold PySem.W.kitOne
  by_cases e : C = D
  · rw [hs e, if_pos (beq_iff_eq.mpr (congrArg Value.ref e))]
  · rw [if_neg (fun z => e (Value.ref.inj (beq_iff_eq.mp z)))]
    obtain ⟨⟨cd, h1, _⟩, h2⟩ := mroB_ok h'
    show (if ((PySem.W.clsIn K D).isSome && PySem.W.typeIn K (.ref D) == some (.type "type")) = true then PySem.W.subIn K (.ref C) (.ref D) else none) = _
    rw [h1, h2, if_pos (by rw [Bool.and_eq_true]; exact ⟨rfl, beq_iff_eq.mpr rfl⟩)]
    exact sub_mro h hm _
theorem kit_ve {K : PySem.W.Frag} {C : Addr} {m : List Value} (h : mroB K C m = true) (hm : m.isEmpty = false) : PySem.W.kitOne K (.ref C) (.type "ValueError") = some (m.contains (.type "ValueError")) := by
  unfold PySem.W.kitOne
  rw [if_neg (fun z => by cases (beq_iff_eq.mp z))]
  show (if PySem.W.kitMeta "ValueError" = true then PySem.W.subIn K (.ref C) (.type "ValueError") else none) = _
  rw [if_pos (by decide +kernel)]
  exact sub_mro h hm _
/-! ### a part of the heap, each object once, written out -/
def refsK (o : Obj) : List Addr := match o.data with
  | .dict es _ => es.toList.flatMap fun e => He.refV e.val
  | .func fd => He.refV fd.code ++ He.refV fd.defaults
  | .cls cd => [cd.ns]
  | _ => []
def refsA (g : Addr → Option Obj) (a : Addr) : List Addr := match g a with
  | some o => refsK o
  | none => []
def frcA {α : Type} (l : List Addr) (k : List Addr → α) : α := match l with
  | [] => k []
  | a :: r => HandSHeadRun.frNat a fun a => frcA r fun r => k (a :: r)
theorem frcA_eq {α : Type} : ∀ (l : List Addr) (k : List Addr → α), frcA l k = k l
  | [], _ => rfl
  | a :: r, k => by
    show HandSHeadRun.frNat a (fun a => frcA r fun r => k (a :: r)) = _
    rw [HandSHeadRun.frNat_eq, frcA_eq r]
def asK (g : Addr → Option Obj) : List Addr := frcA (refsA g mainGlobals) fun l1 => frcA (l1.flatMap (refsA g)) fun l2 => frcA (l2.flatMap (refsA g)) fun l3 => frcA (l3.flatMap (refsA g)) fun l4 => mainGlobals :: (l1 ++ (l2 ++ (l3 ++ l4)))
def frcK {α : Type} (l : PySem.W.Frag) (k : PySem.W.Frag → α) : α := match l with
  | [] => k []
  | (a, o) :: r => HandSHeadRun.frNat a fun a => frcK r fun r => k ((a, o) :: r)
theorem frcK_eq {α : Type} : ∀ (l : PySem.W.Frag) (k : PySem.W.Frag → α), frcK l k = k l
  | [], _ => rfl
  | (a, o) :: r, k => by
    show HandSHeadRun.frNat a (fun a => frcK r fun r => k ((a, o) :: r)) = _
    rw [HandSHeadRun.frNat_eq, frcK_eq r]
def hookF (α : Type) (obs : PySem.W.Frag → α) (val : α) : PySem.W.Hook where
  α := α
  obs := fun s => obs (He.frG s.heap.get? (asK s.heap.get?))
  val := fun _ => val
  says := fun _ h => ∃ K : PySem.W.Frag, K.In h ∧ obs K = val
  of := fun _ _ e => ⟨_, He.frG_in, e⟩
  keeps := fun _ _ _ ⟨K, hK, c⟩ k => ⟨K, PySem.W.Frag.In.keeps hK k, c⟩
def obF {α : Type} (obs : PySem.W.Frag → α) (s : PySem.W.SharedT) : α := frcK (He.frG (HandSHeadRun.getT s) (asK (HandSHeadRun.getT s))) obs
theorem obF_eq {α : Type} {obs : PySem.W.Frag → α} {val : α} (s : PySem.W.SharedT) : obF obs s = (hookF α obs val).obs s.abs := by
  unfold obF
  rw [frcK_eq]
  have e : HandSHeadRun.getT s = s.abs.heap.get? := funext (HandSHeadRun.getT_eq s)
  rw [e]
  rfl
theorem map_two {S A B C D : Type} {e : Option S} {f : S → A} {g : S → B} {o : S → C} {o' : S → D} {a : A} {b : B} {c : C} {d : D} (h1 : e.map (fun s => (f s, g s, o s)) = some (a, b, c)) (h2 : e.map (fun s => o' s) = some d) :
    e.map (fun s => (f s, g s, (o s, o' s))) = some (a, b, (c, d)) := by
  cases e with
  | none => cases h1
  | some s =>
    have z1 : (f s, g s, o s) = (a, b, c) := Option.some.inj h1
    have z2 : o' s = d := Option.some.inj h2
    cases z2
    cases z1
    rfl
end XV
set_option Elab.async false
set_option linter.all false
set_option maxRecDepth 100000
set_option maxHeartbeats 0
namespace KA
open PySem PySem.Spec PyProof.Rows L2 XV
/-! ### what the top must say -/
def dF (x : Str) (i : Nat) : He.DefD := ⟨(x, none), x, x, defArgs (top i), defBody (top i), defScope (top i), [], []⟩
def dM (x q : Str) (s : Stmt) : He.DefD := ⟨("Grid", some x), x, q, defArgs s, defBody s, defScope s, [], []⟩
def dI (x q : Str) (l : Nat) (fld : Str) : He.DefD := ⟨(x, some "__init__"), "__init__", q, initA fld ⟨l, 17, l, 21⟩ ⟨l, 23, l, 28⟩ ⟨l, 29, l, 33⟩, initB fld ⟨l + 1, 8, l + 1, 12⟩ ⟨l + 1, 8, l + 1, 18⟩ ⟨l + 1, 21, l + 1, 26⟩ ⟨l + 1, 8, l + 1, 26⟩, initS fld, [.non], []⟩
def fn : List He.DefD := [dI "InvalidGrid" "InvalidGrid.__init__" 15 "value", dI "Unlike" "Unlike.__init__" 19 "value", dI "TooMany" "TooMany.__init__" 23 "value", dF "is_whole" 10, dF "is_count" 11, dF "is_point" 12, dF "class_of" 16, dF "refines" 17, dF "meeting" 18, dF "is_list_of_limits" 19, dF "is_limit" 20, dF "meeting_limits" 21, dF "how_many_classes" 22, dF "class_count" 23, dF "require_grid" 24, dF "require_grid_point" 25, dF "require_like_grids" 26, dF "_law_hash" 28, dF "_law_random" 29, dF "_law_generator" 30, dF "_law_limits" 31, dF "_law_box" 32, dF "_law_classes" 33, dF "_law_least" 34, dF "_law_class" 35, dF "_law_yes" 36, dF "_law_gcd" 37, dF "_law_lcm" 38, dF "_law_put_at" 39, dF "_law_many" 40, dF "_law_other" 41, dF "_law_refines" 42, dF "_law_meeting" 43, dF "_law_lies_within" 44, dF "_law_pair_good" 45, dF "_law_caught" 46, dF "law" 47, dM "__init__" "Grid.__init__" sInit, dM "many" "Grid.many" sMany, dM "limits" "Grid.limits" sLimits, dM "__eq__" "Grid.__eq__" sEq]
def fa : List He.Fa := [.glo "is_whole", .glo "is_count", .glo "is_point", .glo "class_of", .glo "refines", .glo "meeting", .glo "is_list_of_limits", .glo "is_limit", .glo "meeting_limits", .glo "how_many_classes", .glo "class_count", .glo "require_grid", .glo "require_grid_point", .glo "require_like_grids", .glo "_law_hash", .glo "_law_random", .glo "_law_generator", .glo "_law_limits", .glo "_law_box", .glo "_law_classes", .glo "_law_least", .glo "_law_class", .glo "_law_yes", .glo "_law_gcd", .glo "_law_lcm", .glo "_law_put_at", .glo "_law_many", .glo "_law_other", .glo "_law_refines", .glo "_law_meeting", .glo "_law_lies_within", .glo "_law_pair_good", .glo "_law_caught", .glo "law", .glo "Grid", .free "isinstance", .free "int", .free "bool", .free "tuple", .free "list", .free "len", .free "all", .free "sum", .free "range", .free "max", .free "zip", .int "MOST_UNKNOWNS" 3, .int "MOST_CLASSES" 600, .cls "Grid", .mkr "Grid", .noat "Grid" "_limits", .meth "Grid" "many", .meth "Grid" "limits", .meth "Grid" "__eq__"]
abbrev GA (K : PySem.W.Frag) : Addr := He.ga K "Grid"
def bxX (K : PySem.W.Frag) : Bool := (List.range 3).all fun i => xclsB K (nmA i) "value"
def mroI (K : PySem.W.Frag) (i : Nat) : List Value := .ref (CA K i) :: .ref (CA K 3) :: He.veBase
def bxK (K : PySem.W.Frag) : Bool := ecls0B K "LoopError" && (Nat.blt (CA K 3) (CA K 0) && (((List.range 2).all fun i => Nat.blt (CA K i) (CA K (i + 1))) && (((List.range 3).all fun i => mroB K (CA K i) (mroI K i)) && mroB K (CA K 3) (.ref (CA K 3) :: He.veBase))))
def bxT (K : PySem.W.Frag) : Bool := He.eqO (PySem.W.findIn K (.ref (GA K)) "__class__") (some (some (.builtin "object.__class__"))) && (He.eqO (PySem.W.specialIn K (.builtin "object.__class__") "__get__") (some (some (.builtin "getset_descriptor.__get__"))) &&
  (decide (PySem.W.takesIn K (.builtin "object.__class__") = some true) && (decide (PySem.W.mroIn K (GA K) (.type "object") = some true) && (decide (PySem.W.kitOne K (.ref (GA K)) (.ref (GA K)) = some true) &&
  ((tys.all fun T => decide (PySem.W.kitOne K (.type T) (.ref (GA K)) = some false)) && ((tys.all fun T => PySem.W.notFirst K (GA K) (.type T)) && He.eqO (PySem.W.nsIn K mainGlobals "lcm") (some (some (.builtin "math.lcm")))))))))
def bx (K : PySem.W.Frag) : Bool := bxX K && (bxK K && bxT K)
end KA
set_option Elab.async false
set_option linter.all false
set_option maxRecDepth 100000
set_option maxHeartbeats 0
namespace KA
open PySem PySem.Spec PyProof.Rows L2 XV
section
variable {P : Program} {w : World} {K : PySem.W.Frag} {mg : Str → Option Value} {base h : Heap}
theorem cl_of (X : K.In h) (G : h.Ns mainGlobals mg) (c : He.SaysD fa fn K) (b : bx K = true) : ClA P w K mg base := by
  obtain ⟨b1, b⟩ := He.ba b
  obtain ⟨b2, _⟩ := He.ba b
  obtain ⟨b2, b⟩ := He.ba b2
  obtain ⟨k1, b⟩ := He.ba b
  obtain ⟨k2, b⟩ := He.ba b
  obtain ⟨k3, k4⟩ := He.ba b
  have up : ∀ j, j < 3 → ∀ i, i < j → CA K i < CA K j := by
    intro j
    induction j with
    | zero => intro _ i h; exact absurd h (by omega)
    | succ j ih =>
      intro hj i hi
      have s : CA K j < CA K (j + 1) := Nat.le_of_ble_eq_true (List.all_eq_true.mp k2 j (List.mem_range.mpr (by omega)))
      by_cases q : i = j
      · rw [q]; exact s
      · exact Nat.lt_trans (ih (by omega) i (by omega)) s
  have l0 : CA K 3 < CA K 0 := Nat.le_of_ble_eq_true k1
  have lL : ∀ i, i < 3 → CA K 3 < CA K i := fun i hi => by
    by_cases q : i = 0
    · rw [q]; exact l0
    · exact Nat.lt_trans l0 (up i hi 0 (by omega))
  have hm : ∀ i, i < 3 → mroB K (CA K i) (mroI K i) = true := fun i hi => List.all_eq_true.mp k3 i (List.mem_range.mpr hi)
  have ct : ∀ i x, (mroI K i).contains (.ref x) = (decide (CA K i = x) || decide (CA K 3 = x)) := fun i x => by
    have e : ∀ y : Addr, (Value.ref x == Value.ref y) = decide (y = x) := fun y => by
      by_cases q : y = x
      · rw [q, decide_eq_true rfl]; exact beq_iff_eq.mpr rfl
      · rw [decide_eq_false q]; exact beq_eq_false_iff_ne.mpr (fun z => q (Value.ref.inj z).symm)
    have e2 : ∀ n : String, (Value.ref x == Value.type n) = false := fun n => beq_eq_false_iff_ne.mpr (fun z => by cases z)
    unfold mroI He.veBase
    simp only [List.contains_cons, List.contains_nil, e, e2, Bool.or_false]
  have hx : ∀ i, i < 3 → xclsB K (nmA i) "value" = true := fun i hi => List.all_eq_true.mp b1 i (List.mem_range.mpr hi)
  have gL := (He.ba b2).1
  have eL : ExcC K (CA K 3) := excB_ok (He.ba (He.ba (He.ba b2).2).2).2
  have tL := (mroB_ok k4).2
  refine ⟨?_, ?_, ?_, ?_, ?_, ?_, ?_⟩
  · intro i hi
    have x0 : ∃ fI fd, XCls P w K mg base (nmA 0) "value" (CA K 0) fI fd := by
      obtain ⟨fd, F⟩ := c.def_ 0 (d := dI "InvalidGrid" "InvalidGrid.__init__" 15 "value") rfl
      exact ⟨_, fd, xcls_V (nm := "InvalidGrid") X G (hx 0 (by decide)) F⟩
    have x1 : ∃ fI fd, XCls P w K mg base (nmA 1) "value" (CA K 1) fI fd := by
      obtain ⟨fd, F⟩ := c.def_ 1 (d := dI "Unlike" "Unlike.__init__" 19 "value") rfl
      exact ⟨_, fd, xcls_V (nm := "Unlike") X G (hx 1 (by decide)) F⟩
    have x2 : ∃ fI fd, XCls P w K mg base (nmA 2) "value" (CA K 2) fI fd := by
      obtain ⟨fd, F⟩ := c.def_ 2 (d := dI "TooMany" "TooMany.__init__" 23 "value") rfl
      exact ⟨_, fd, xcls_V (nm := "TooMany") X G (hx 2 (by decide)) F⟩
    match i, hi with
    | 0, _ => exact x0
    | 1, _ => exact x1
    | 2, _ => exact x2
    | _ + 3, hi => exact absurd hi (by omega)
  · intro i hi
    by_cases q : i < 3
    · exact PySem.W.mg_of X G (He.eqO_ok (He.ba (hx i q)).1)
    · obtain rfl : i = 3 := by omega
      exact PySem.W.mg_of X G (He.eqO_ok gL)
  · intro i hi
    exact (xcls_E (hx i hi)).1
  · intro i hi
    exact (xcls_E (hx i hi)).2
  · intro i hi j hj
    rw [kit_mro (hm i hi) rfl (hm j hj) (fun e => by rw [ct, decide_eq_true e]; rfl), ct]
    have nL : ¬ CA K 3 = CA K j := fun z => absurd z (Nat.ne_of_lt (lL j hj))
    rw [decide_eq_false nL, Bool.or_false]
    by_cases q : i = j
    · rw [q, decide_eq_true rfl, decide_eq_true rfl]
    · have n : ¬ CA K i = CA K j := fun z => by
        rcases Nat.lt_or_gt_of_ne q with l | l
        · exact absurd z (Nat.ne_of_lt (up j hj i l))
        · exact absurd z.symm (Nat.ne_of_lt (up i hi j l))
      rw [decide_eq_false q, decide_eq_false n]
  · intro i hi
    refine PySem.W.exm_ref eL.hs eL.hd tL ?_
    rw [sub_mro (hm i hi) rfl, ct, decide_eq_true (rfl : CA K 3 = CA K 3), Bool.or_true]
  · have e2 : ExcC K (CA K 2) := (xcls_E (hx 2 (by decide))).1
    refine PySem.W.exm_ref e2.hs e2.hd (mroB_ok (hm 2 (by decide))).2 ?_
    rw [sub_mro (hm 2 (by decide)) rfl, ct, decide_eq_true (rfl : CA K 2 = CA K 2), Bool.true_or]
theorem gt_of (X : K.In h) (G : h.Ns mainGlobals mg) (c : He.SaysD fa fn K) (b : bx K = true) : GT K mg (GA K) ∧ mg "lcm" = some (.builtin "math.lcm") := by
  obtain ⟨_, b⟩ := He.ba b
  obtain ⟨_, t⟩ := He.ba b
  obtain ⟨t1, t⟩ := He.ba t
  obtain ⟨t2, t⟩ := He.ba t
  obtain ⟨t3, t⟩ := He.ba t
  obtain ⟨t4, t⟩ := He.ba t
  obtain ⟨t5, t⟩ := He.ba t
  obtain ⟨t6, t⟩ := He.ba t
  obtain ⟨t7, t8⟩ := He.ba t
  refine ⟨⟨⟨He.cls_ok (c.fact 48 (f := .cls "Grid") rfl), He.eqO_ok t1, He.eqO_ok t2, of_decide_eq_true t3, of_decide_eq_true t4, of_decide_eq_true t5⟩, He.noat_ok (c.fact 50 (f := .noat "Grid" "_limits") rfl), He.glo_ok X G (c.fact 34 (f := .glo "Grid") rfl), fun T hT => of_decide_eq_true (List.all_eq_true.mp t6 T hT), fun T hT => List.all_eq_true.mp t7 T hT⟩, PySem.W.mg_of X G (He.eqO_ok t8)⟩
theorem facts {f : Addr} (X : K.In h) (G : h.Ns mainGlobals mg) (hfa : mg ("law" : Str) = some (.ref f)) (c : He.SaysD fa fn K) (b : bx K = true) :
    ∃ fd : FuncData, (∀ (s : Shared) (v : Value), BindsTo s fd ⟨[v], []⟩ [("_law_script", v)]) ∧ ∀ base : Heap, K.In base → base.Ns mainGlobals mg → FnOk P w K mg base CX0 9 f fd ["_law_script"] (spLaw K) := by
  obtain ⟨fd_is_whole, F_is_whole⟩ := c.def_ 3 (d := dF "is_whole" 10) rfl
  obtain ⟨fd_is_count, F_is_count⟩ := c.def_ 4 (d := dF "is_count" 11) rfl
  obtain ⟨fd_is_point, F_is_point⟩ := c.def_ 5 (d := dF "is_point" 12) rfl
  obtain ⟨fd_class_of, F_class_of⟩ := c.def_ 6 (d := dF "class_of" 16) rfl
  obtain ⟨fd_refines, F_refines⟩ := c.def_ 7 (d := dF "refines" 17) rfl
  obtain ⟨fd_meeting, F_meeting⟩ := c.def_ 8 (d := dF "meeting" 18) rfl
  obtain ⟨fd_is_list_of_limits, F_is_list_of_limits⟩ := c.def_ 9 (d := dF "is_list_of_limits" 19) rfl
  obtain ⟨fd_is_limit, F_is_limit⟩ := c.def_ 10 (d := dF "is_limit" 20) rfl
  obtain ⟨fd_meeting_limits, F_meeting_limits⟩ := c.def_ 11 (d := dF "meeting_limits" 21) rfl
  obtain ⟨fd_how_many_classes, F_how_many_classes⟩ := c.def_ 12 (d := dF "how_many_classes" 22) rfl
  obtain ⟨fd_class_count, F_class_count⟩ := c.def_ 13 (d := dF "class_count" 23) rfl
  obtain ⟨fd_require_grid, F_require_grid⟩ := c.def_ 14 (d := dF "require_grid" 24) rfl
  obtain ⟨fd_require_grid_point, F_require_grid_point⟩ := c.def_ 15 (d := dF "require_grid_point" 25) rfl
  obtain ⟨fd_require_like_grids, F_require_like_grids⟩ := c.def_ 16 (d := dF "require_like_grids" 26) rfl
  obtain ⟨fd__law_hash, F__law_hash⟩ := c.def_ 17 (d := dF "_law_hash" 28) rfl
  obtain ⟨fd__law_random, F__law_random⟩ := c.def_ 18 (d := dF "_law_random" 29) rfl
  obtain ⟨fd__law_generator, F__law_generator⟩ := c.def_ 19 (d := dF "_law_generator" 30) rfl
  obtain ⟨fd__law_limits, F__law_limits⟩ := c.def_ 20 (d := dF "_law_limits" 31) rfl
  obtain ⟨fd__law_box, F__law_box⟩ := c.def_ 21 (d := dF "_law_box" 32) rfl
  obtain ⟨fd__law_classes, F__law_classes⟩ := c.def_ 22 (d := dF "_law_classes" 33) rfl
  obtain ⟨fd__law_least, F__law_least⟩ := c.def_ 23 (d := dF "_law_least" 34) rfl
  obtain ⟨fd__law_class, F__law_class⟩ := c.def_ 24 (d := dF "_law_class" 35) rfl
  obtain ⟨fd__law_yes, F__law_yes⟩ := c.def_ 25 (d := dF "_law_yes" 36) rfl
  obtain ⟨fd__law_gcd, F__law_gcd⟩ := c.def_ 26 (d := dF "_law_gcd" 37) rfl
  obtain ⟨fd__law_lcm, F__law_lcm⟩ := c.def_ 27 (d := dF "_law_lcm" 38) rfl
  obtain ⟨fd__law_put_at, F__law_put_at⟩ := c.def_ 28 (d := dF "_law_put_at" 39) rfl
  obtain ⟨fd__law_many, F__law_many⟩ := c.def_ 29 (d := dF "_law_many" 40) rfl
  obtain ⟨fd__law_other, F__law_other⟩ := c.def_ 30 (d := dF "_law_other" 41) rfl
  obtain ⟨fd__law_refines, F__law_refines⟩ := c.def_ 31 (d := dF "_law_refines" 42) rfl
  obtain ⟨fd__law_meeting, F__law_meeting⟩ := c.def_ 32 (d := dF "_law_meeting" 43) rfl
  obtain ⟨fd__law_lies_within, F__law_lies_within⟩ := c.def_ 33 (d := dF "_law_lies_within" 44) rfl
  obtain ⟨fd__law_pair_good, F__law_pair_good⟩ := c.def_ 34 (d := dF "_law_pair_good" 45) rfl
  obtain ⟨fd__law_caught, F__law_caught⟩ := c.def_ 35 (d := dF "_law_caught" 46) rfl
  obtain ⟨fd_law, F_law⟩ := c.def_ 36 (d := dF "law" 47) rfl
  obtain ⟨fdm___init__, Fm___init__⟩ := c.def_ 37 (d := dM "__init__" "Grid.__init__" sInit) rfl
  obtain ⟨fdm_many, Fm_many⟩ := c.def_ 38 (d := dM "many" "Grid.many" sMany) rfl
  obtain ⟨fdm_limits, Fm_limits⟩ := c.def_ 39 (d := dM "limits" "Grid.limits" sLimits) rfl
  obtain ⟨fdm___eq__, Fm___eq__⟩ := c.def_ 40 (d := dM "__eq__" "Grid.__eq__" sEq) rfl
  have g_is_whole : mg "is_whole" = some (.ref (He.ga K "is_whole")) := He.glo_ok X G (c.fact 0 (f := .glo "is_whole") rfl)
  have g_is_count : mg "is_count" = some (.ref (He.ga K "is_count")) := He.glo_ok X G (c.fact 1 (f := .glo "is_count") rfl)
  have g_is_point : mg "is_point" = some (.ref (He.ga K "is_point")) := He.glo_ok X G (c.fact 2 (f := .glo "is_point") rfl)
  have g_class_of : mg "class_of" = some (.ref (He.ga K "class_of")) := He.glo_ok X G (c.fact 3 (f := .glo "class_of") rfl)
  have g_refines : mg "refines" = some (.ref (He.ga K "refines")) := He.glo_ok X G (c.fact 4 (f := .glo "refines") rfl)
  have g_meeting : mg "meeting" = some (.ref (He.ga K "meeting")) := He.glo_ok X G (c.fact 5 (f := .glo "meeting") rfl)
  have g_is_list_of_limits : mg "is_list_of_limits" = some (.ref (He.ga K "is_list_of_limits")) := He.glo_ok X G (c.fact 6 (f := .glo "is_list_of_limits") rfl)
  have g_is_limit : mg "is_limit" = some (.ref (He.ga K "is_limit")) := He.glo_ok X G (c.fact 7 (f := .glo "is_limit") rfl)
  have g_meeting_limits : mg "meeting_limits" = some (.ref (He.ga K "meeting_limits")) := He.glo_ok X G (c.fact 8 (f := .glo "meeting_limits") rfl)
  have g_how_many_classes : mg "how_many_classes" = some (.ref (He.ga K "how_many_classes")) := He.glo_ok X G (c.fact 9 (f := .glo "how_many_classes") rfl)
  have g_class_count : mg "class_count" = some (.ref (He.ga K "class_count")) := He.glo_ok X G (c.fact 10 (f := .glo "class_count") rfl)
  have g_require_grid : mg "require_grid" = some (.ref (He.ga K "require_grid")) := He.glo_ok X G (c.fact 11 (f := .glo "require_grid") rfl)
  have g_require_grid_point : mg "require_grid_point" = some (.ref (He.ga K "require_grid_point")) := He.glo_ok X G (c.fact 12 (f := .glo "require_grid_point") rfl)
  have g_require_like_grids : mg "require_like_grids" = some (.ref (He.ga K "require_like_grids")) := He.glo_ok X G (c.fact 13 (f := .glo "require_like_grids") rfl)
  have g__law_hash : mg "_law_hash" = some (.ref (He.ga K "_law_hash")) := He.glo_ok X G (c.fact 14 (f := .glo "_law_hash") rfl)
  have g__law_random : mg "_law_random" = some (.ref (He.ga K "_law_random")) := He.glo_ok X G (c.fact 15 (f := .glo "_law_random") rfl)
  have g__law_generator : mg "_law_generator" = some (.ref (He.ga K "_law_generator")) := He.glo_ok X G (c.fact 16 (f := .glo "_law_generator") rfl)
  have g__law_limits : mg "_law_limits" = some (.ref (He.ga K "_law_limits")) := He.glo_ok X G (c.fact 17 (f := .glo "_law_limits") rfl)
  have g__law_box : mg "_law_box" = some (.ref (He.ga K "_law_box")) := He.glo_ok X G (c.fact 18 (f := .glo "_law_box") rfl)
  have g__law_classes : mg "_law_classes" = some (.ref (He.ga K "_law_classes")) := He.glo_ok X G (c.fact 19 (f := .glo "_law_classes") rfl)
  have g__law_least : mg "_law_least" = some (.ref (He.ga K "_law_least")) := He.glo_ok X G (c.fact 20 (f := .glo "_law_least") rfl)
  have g__law_class : mg "_law_class" = some (.ref (He.ga K "_law_class")) := He.glo_ok X G (c.fact 21 (f := .glo "_law_class") rfl)
  have g__law_yes : mg "_law_yes" = some (.ref (He.ga K "_law_yes")) := He.glo_ok X G (c.fact 22 (f := .glo "_law_yes") rfl)
  have g__law_gcd : mg "_law_gcd" = some (.ref (He.ga K "_law_gcd")) := He.glo_ok X G (c.fact 23 (f := .glo "_law_gcd") rfl)
  have g__law_lcm : mg "_law_lcm" = some (.ref (He.ga K "_law_lcm")) := He.glo_ok X G (c.fact 24 (f := .glo "_law_lcm") rfl)
  have g__law_put_at : mg "_law_put_at" = some (.ref (He.ga K "_law_put_at")) := He.glo_ok X G (c.fact 25 (f := .glo "_law_put_at") rfl)
  have g__law_many : mg "_law_many" = some (.ref (He.ga K "_law_many")) := He.glo_ok X G (c.fact 26 (f := .glo "_law_many") rfl)
  have g__law_other : mg "_law_other" = some (.ref (He.ga K "_law_other")) := He.glo_ok X G (c.fact 27 (f := .glo "_law_other") rfl)
  have g__law_refines : mg "_law_refines" = some (.ref (He.ga K "_law_refines")) := He.glo_ok X G (c.fact 28 (f := .glo "_law_refines") rfl)
  have g__law_meeting : mg "_law_meeting" = some (.ref (He.ga K "_law_meeting")) := He.glo_ok X G (c.fact 29 (f := .glo "_law_meeting") rfl)
  have g__law_lies_within : mg "_law_lies_within" = some (.ref (He.ga K "_law_lies_within")) := He.glo_ok X G (c.fact 30 (f := .glo "_law_lies_within") rfl)
  have g__law_pair_good : mg "_law_pair_good" = some (.ref (He.ga K "_law_pair_good")) := He.glo_ok X G (c.fact 31 (f := .glo "_law_pair_good") rfl)
  have g__law_caught : mg "_law_caught" = some (.ref (He.ga K "_law_caught")) := He.glo_ok X G (c.fact 32 (f := .glo "_law_caught") rfl)
  have g_law : mg "law" = some (.ref (He.ga K "law")) := He.glo_ok X G (c.fact 33 (f := .glo "law") rfl)
  have z_isinstance : mg "isinstance" = none := He.free_ok X G (c.fact 35 (f := .free "isinstance") rfl)
  have z_int : mg "int" = none := He.free_ok X G (c.fact 36 (f := .free "int") rfl)
  have z_bool : mg "bool" = none := He.free_ok X G (c.fact 37 (f := .free "bool") rfl)
  have z_tuple : mg "tuple" = none := He.free_ok X G (c.fact 38 (f := .free "tuple") rfl)
  have z_list : mg "list" = none := He.free_ok X G (c.fact 39 (f := .free "list") rfl)
  have z_len : mg "len" = none := He.free_ok X G (c.fact 40 (f := .free "len") rfl)
  have z_all : mg "all" = none := He.free_ok X G (c.fact 41 (f := .free "all") rfl)
  have z_sum : mg "sum" = none := He.free_ok X G (c.fact 42 (f := .free "sum") rfl)
  have z_range : mg "range" = none := He.free_ok X G (c.fact 43 (f := .free "range") rfl)
  have z_max : mg "max" = none := He.free_ok X G (c.fact 44 (f := .free "max") rfl)
  have z_zip : mg "zip" = none := He.free_ok X G (c.fact 45 (f := .free "zip") rfl)
  obtain ⟨t_MOST_UNKNOWNS, h_MOST_UNKNOWNS⟩ := He.int_ok X G (c.fact 46 (f := .int "MOST_UNKNOWNS" 3) rfl)
  obtain ⟨t_MOST_CLASSES, h_MOST_CLASSES⟩ := He.int_ok X G (c.fact 47 (f := .int "MOST_CLASSES" 600) rfl)
  have MK : Mk K (GA K) (He.ma K (GA K) "__init__") := He.mkr_ok (c.fact 49 (f := .mkr "Grid") rfl)
  obtain ⟨ma1, ma2, ma3⟩ := He.meth_ok (c.fact 51 (f := .meth "Grid" "many") rfl)
  obtain ⟨ml1, ml2, ml3⟩ := He.meth_ok (c.fact 52 (f := .meth "Grid" "limits") rfl)
  obtain ⟨me1, me2, me3⟩ := He.meth_ok (c.fact 53 (f := .meth "Grid" "__eq__") rfl)
  obtain ⟨T, g_lcm⟩ := gt_of X G c b
  have eL := hfa.symm.trans g_law
  cases eL
  have bL := FunD.bindsA (ps := ["_law_script"]) F_law fun _ _ _ _ _ _ us hl => match us, hl with | [_], _ => rfl
  refine ⟨fd_law, fun s v => bL s [v] rfl, fun base Xb _ => ?_⟩
  have Z : ClA P w K mg base := cl_of X G c b
  have o__law_hash := Ok.mk' (P := P) (w := w) (base := base) F__law_hash g__law_hash (fun _ _ _ _ _ _ us hl => match us, hl with | [_, _], _ => rfl) (ok_hash F__law_hash z_int)
  have o__law_random := Ok.mk' (P := P) (w := w) (base := base) F__law_random g__law_random (fun _ _ _ _ _ _ us hl => match us, hl with | [_, _], _ => rfl) (ok_rand F__law_random o__law_hash z_int z_range)
  have o__law_generator := Ok.mk' (P := P) (w := w) (base := base) F__law_generator g__law_generator (fun _ _ _ _ _ _ us hl => match us, hl with | [_, _], _ => rfl) (ok_gen F__law_generator z_int z_len z_sum z_max)
  have o_is_whole := Ok.mk' (P := P) (w := w) (base := base) F_is_whole g_is_whole (fun _ _ _ _ _ _ us hl => match us, hl with | [_], _ => rfl) (ok_whole F_is_whole z_isinstance z_int z_bool)
  have o_is_count := Ok.mk' (P := P) (w := w) (base := base) F_is_count g_is_count (fun _ _ _ _ _ _ us hl => match us, hl with | [_], _ => rfl) (ok_count F_is_count o_is_whole)
  have o_is_point := Ok.mk' (P := P) (w := w) (base := base) F_is_point g_is_point (fun _ _ _ _ _ _ us hl => match us, hl with | [_, _], _ => rfl) (ok_isPoint F_is_point o_is_count z_isinstance z_list z_len z_all)
  have o_is_limit := Ok.mk' (P := P) (w := w) (base := base) F_is_limit g_is_limit (fun _ _ _ _ _ _ us hl => match us, hl with | [_], _ => rfl) (ok_isLim F_is_limit o_is_whole o_is_count z_isinstance z_tuple z_len)
  have o_is_list_of_limits := Ok.mk' (P := P) (w := w) (base := base) F_is_list_of_limits g_is_list_of_limits (fun _ _ _ _ _ _ us hl => match us, hl with | [_], _ => rfl) (ok_isLL F_is_list_of_limits o_is_limit z_isinstance z_list z_len z_all h_MOST_UNKNOWNS)
  have o_how_many_classes := Ok.mk' (P := P) (w := w) (base := base) F_how_many_classes g_how_many_classes (fun _ _ _ _ _ _ us hl => match us, hl with | [_], _ => rfl) (ok_how F_how_many_classes )
  have FI := ok_init (P := P) (w := w) (base := base) Fm___init__ T Z o_is_list_of_limits o_how_many_classes z_list h_MOST_CLASSES
  have o_mk : OkMk P w K mg base (GA K) := ⟨_, _, MK, FI, FunD.bindsN Fm___init__ fun _ _ _ _ _ _ us hl => match us, hl with | [_, _], _ => rfl, T.g⟩
  have o_many : OkMt P w K mg base (GA K) "many" (spMany (GA K)) := ⟨_, _, ok_many Fm_many T z_len, ⟨ma1, ma2, ma3⟩, FunD.bindsN Fm_many fun _ _ _ _ _ _ us hl => match us, hl with | [_], _ => rfl⟩
  have o_limits : OkMt P w K mg base (GA K) "limits" (spLimits (GA K)) := ⟨_, _, ok_limits Fm_limits T z_list, ⟨ml1, ml2, ml3⟩, FunD.bindsN Fm_limits fun _ _ _ _ _ _ us hl => match us, hl with | [_], _ => rfl⟩
  have o_eq : OkEq P w K mg base (GA K) := ⟨_, _, me1, me2, ok_eq Fm___eq__ T z_isinstance, FunD.bindsN Fm___eq__ fun _ _ _ _ _ _ us hl => match us, hl with | [_, _], _ => rfl⟩
  have x_require_grid := OkX.mk' (P := P) (w := w) (base := base) F_require_grid g_require_grid (fun _ _ _ _ _ _ us hl => match us, hl with | [_], _ => rfl) (ok_reqGrid F_require_grid T Z z_isinstance)
  have x_require_like_grids := OkX.mk' (P := P) (w := w) (base := base) F_require_like_grids g_require_like_grids (fun _ _ _ _ _ _ us hl => match us, hl with | [_, _], _ => rfl) (ok_reqLike F_require_like_grids T Z x_require_grid o_many)
  have o_require_grid_point := Ok.mk' (P := P) (w := w) (base := base) F_require_grid_point g_require_grid_point (fun _ _ _ _ _ _ us hl => match us, hl with | [_, _], _ => rfl) (ok_reqPt F_require_grid_point T x_require_grid.calm o_many o_is_point)
  have o_class_count := Ok.mk' (P := P) (w := w) (base := base) F_class_count g_class_count (fun _ _ _ _ _ _ us hl => match us, hl with | [_, _], _ => rfl) (ok_clsCount F_class_count )
  have o_class_of := Ok.mk' (P := P) (w := w) (base := base) F_class_of g_class_of (fun _ _ _ _ _ _ us hl => match us, hl with | [_, _], _ => rfl) (ok_classOf F_class_of T o_require_grid_point o_class_count o_limits z_zip)
  have x_refines := OkX.mk' (P := P) (w := w) (base := base) F_refines g_refines (fun _ _ _ _ _ _ us hl => match us, hl with | [_, _], _ => rfl) (ok_refines F_refines T x_require_like_grids o_limits z_zip z_all)
  have k_refines := OkF.mk' (P := P) (w := w) (base := base) F_refines g_refines (fun _ _ _ _ _ _ us hl => match us, hl with | [_, _], _ => rfl) (FnOk.calm (ok_refines F_refines T x_require_like_grids o_limits z_zip z_all))
  have o_meeting_limits := Ok.mk' (P := P) (w := w) (base := base) F_meeting_limits g_meeting_limits (fun _ _ _ _ _ _ us hl => match us, hl with | [_, _], _ => rfl) (ok_meetLim F_meeting_limits z_zip z_max g_lcm)
  have x_meeting := OkX.mk' (P := P) (w := w) (base := base) F_meeting g_meeting (fun _ _ _ _ _ _ us hl => match us, hl with | [_, _], _ => rfl) (ok_meeting F_meeting T x_require_like_grids o_limits o_meeting_limits o_mk)
  have k_meeting := OkF.mk' (P := P) (w := w) (base := base) F_meeting g_meeting (fun _ _ _ _ _ _ us hl => match us, hl with | [_, _], _ => rfl) (FnOk.calm (ok_meeting F_meeting T x_require_like_grids o_limits o_meeting_limits o_mk))
  have o__law_limits := Ok.mk' (P := P) (w := w) (base := base) F__law_limits g__law_limits (fun _ _ _ _ _ _ us hl => match us, hl with | [_, _, _, _], _ => rfl) (ok_limL F__law_limits o__law_random z_range)
  have o__law_box := Ok.mk' (P := P) (w := w) (base := base) F__law_box g__law_box (fun _ _ _ _ _ _ us hl => match us, hl with | [_], _ => rfl) (ok_box F__law_box z_range)
  have o__law_classes := Ok.mk' (P := P) (w := w) (base := base) F__law_classes g__law_classes (fun _ _ _ _ _ _ us hl => match us, hl with | [_], _ => rfl) (ok_classes F__law_classes o__law_box)
  have o__law_least := Ok.mk' (P := P) (w := w) (base := base) F__law_least g__law_least (fun _ _ _ _ _ _ us hl => match us, hl with | [_, _], _ => rfl) (ok_least F__law_least z_int)
  have o__law_class := Ok.mk' (P := P) (w := w) (base := base) F__law_class g__law_class (fun _ _ _ _ _ _ us hl => match us, hl with | [_, _], _ => rfl) (ok_classL F__law_class o__law_least z_range z_len)
  have o__law_yes := Ok.mk' (P := P) (w := w) (base := base) F__law_yes g__law_yes (fun _ _ _ _ _ _ us hl => match us, hl with | [_, _], _ => rfl) (ok_yes F__law_yes z_isinstance z_bool)
  have o__law_gcd := Ok.mk' (P := P) (w := w) (base := base) F__law_gcd g__law_gcd (fun _ _ _ _ _ _ us hl => match us, hl with | [_, _], _ => rfl) (ok_gcd F__law_gcd z_int)
  have o__law_lcm := Ok.mk' (P := P) (w := w) (base := base) F__law_lcm g__law_lcm (fun _ _ _ _ _ _ us hl => match us, hl with | [_, _], _ => rfl) (ok_lcm F__law_lcm o__law_gcd)
  have o__law_put_at := Ok.mk' (P := P) (w := w) (base := base) F__law_put_at g__law_put_at (fun _ _ _ _ _ _ us hl => match us, hl with | [_, _, _], _ => rfl) (ok_put F__law_put_at )
  have o__law_many := Ok.mk' (P := P) (w := w) (base := base) F__law_many g__law_many (fun _ _ _ _ _ _ us hl => match us, hl with | [_], _ => rfl) (ok_manyL F__law_many )
  have o__law_other := Ok.mk' (P := P) (w := w) (base := base) F__law_other g__law_other (fun _ _ _ _ _ _ us hl => match us, hl with | [_, _], _ => rfl) (ok_other F__law_other o__law_random o__law_limits z_list z_len z_max)
  have o__law_refines := Ok.mk' (P := P) (w := w) (base := base) F__law_refines g__law_refines (fun _ _ _ _ _ _ us hl => match us, hl with | [_, _], _ => rfl) (ok_refL F__law_refines z_int z_range z_len)
  have o__law_meeting := Ok.mk' (P := P) (w := w) (base := base) F__law_meeting g__law_meeting (fun _ _ _ _ _ _ us hl => match us, hl with | [_, _], _ => rfl) (ok_meetL F__law_meeting o__law_lcm z_max z_range z_len)
  have o__law_lies_within := Ok.mk' (P := P) (w := w) (base := base) F__law_lies_within g__law_lies_within (fun _ _ _ _ _ _ us hl => match us, hl with | [_, _], _ => rfl) (ok_lies F__law_lies_within o__law_classes o__law_put_at o_class_of z_range z_len z_list)
  have o__law_pair_good := Ok.mk' (P := P) (w := w) (base := base) F__law_pair_good g__law_pair_good (fun _ _ _ _ _ _ us hl => match us, hl with | [_, _, _], _ => rfl) (ok_good F__law_pair_good T Z o_mk o_eq o_limits o__law_refines o__law_yes x_refines.calm k_refines o__law_lies_within o__law_meeting x_meeting x_meeting.calm k_meeting o__law_many o_class_of o__law_class o__law_other z_list z_len z_isinstance)
  have o__law_caught := Ok.mk' (P := P) (w := w) (base := base) F__law_caught g__law_caught (fun _ _ _ _ _ _ us hl => match us, hl with | [_, _, _], _ => rfl) (ok_caught F__law_caught Z x_refines x_meeting z_isinstance)
  exact ok_law F_law T o__law_generator o__law_random o__law_limits o__law_many o__law_other o__law_pair_good o_mk o_eq o__law_caught x_meeting.calm o_limits z_range
end
end KA
set_option Elab.async false
set_option linter.all false
set_option maxRecDepth 100000
set_option maxHeartbeats 0
namespace KA
open PySem PySem.Spec PyProof.Rows L2 XV
abbrev R : PySem.W.OpenRow := PySem.W.OpenLaw.row PySem.Challenge.rw_openloops_k10_grids_that_refine
abbrev qv : Program := PySem.W.view R.prog [0, 47]
def names : List PySem.Str := (["LoopError", "InvalidPoint", "InvalidList", "InvalidGrid", "Unlike", "TooMany", "MOST_UNKNOWNS", "is_whole", "is_count", "is_point", "MOST_CLASSES", "Grid", "class_of", "refines", "meeting", "is_list_of_limits", "is_limit", "meeting_limits", "how_many_classes", "class_count"] : List PySem.Str) ++ (["require_grid", "require_grid_point", "require_like_grids", "_law_hash", "_law_random", "_law_generator", "_law_limits", "_law_box", "_law_classes", "_law_least", "_law_class", "_law_yes", "_law_gcd", "_law_lcm", "_law_put_at", "_law_many", "_law_other", "_law_refines", "_law_meeting", "_law_lies_within", "_law_pair_good", "_law_caught"] : List PySem.Str)
end KA
set_option Elab.async false
set_option linter.all false
set_option maxRecDepth 100000
set_option maxHeartbeats 0
namespace KA
open PySem PySem.Spec PyProof.Rows L2 XV
def obsK (K : PySem.W.Frag) : He.AlD × Bool := (He.obsD fa fn K, bx K)
abbrev hk : PySem.W.Hook := hookF (He.AlD × Bool) obsK (He.valD fn, true)
def ob (s : PySem.W.SharedT) : He.AlD × Bool := obF obsK s
theorem ob_eq (s : PySem.W.SharedT) : ob s = hk.obs s.abs := obF_eq (val := (He.valD fn, true)) s
theorem run (w : World) : HandSHeadRun.RunEqI R qv hk ob 12000 names w := by
  unfold HandSHeadRun.RunEqI
  kernel_rfl
end KA
set_option Elab.async false
set_option linter.all false
set_option maxRecDepth 100000
set_option maxHeartbeats 0
open PySem PySem.W PySem.Calls PyProof.Rows
theorem PySem.Challenge.cw_openloops_k10_grids_that_refine_holds : PySem.Challenge.rw_openloops_k10_grids_that_refine.Holds := by
  w_on; o_law
  refine HandSHeadRun.head_imp (r := OpenLaw.row PySem.Challenge.rw_openloops_k10_grids_that_refine) (q := view (OpenLaw.row PySem.Challenge.rw_openloops_k10_grids_that_refine).prog [0, 47]) (H := KA.hk) (ob := KA.ob) (M := 12000) (loose := KA.names)
    (d := HandSHeadRun.topDef (OpenLaw.row PySem.Challenge.rw_openloops_k10_grids_that_refine).prog 47) (kwd := []) KA.ob_eq
    KA.run (by kernel_rfl) (by kernel_rfl) (by kernel_rfl) (by rfl) (by first | assumption | decide +kernel) (by decide +kernel) ⟨rfl, rfl, rfl, rfl, rfl, by decide +kernel⟩ ?hw ?hc
  case hw => w_witness2
  case hc =>
    refine L2.walk_ofE (l := PySem.Challenge.rw_openloops_k10_grids_that_refine) (n := 63) (k := 9) (x := "_law_script") (CX := L2.CX0) rfl (by decide) (by kernel_rfl) ⟨rfl, by decide, by decide⟩ ?F (fun _ _ _ _ z => z)
    intro w mg fa h Y G hmg0
    obtain ⟨K, KX, cb⟩ := Y
    have c : He.SaysD KA.fa KA.fn K := congrArg Prod.fst cb
    have b : KA.bx K = true := congrArg Prod.snd cb
    have hmg : mg ("law" : PySem.Str) = some (.ref fa) := by
      have e : (HandSHeadRun.topDef (OpenLaw.row PySem.Challenge.rw_openloops_k10_grids_that_refine).prog 47).name = ("law" : PySem.Str) := by kernel_rfl
      rw [← e]
      exact hmg0
    obtain ⟨fd, hb, hF⟩ := KA.facts (P := (PySem.Challenge.rw_openloops_k10_grids_that_refine).prog) (w := w) KX G hmg c b
    exact ⟨K, fd, KA.spLaw K, KX, hb, fun H a ns hl _ hS => ⟨a, ns, rfl, hS, hl, fun _ => rfl⟩, hF⟩
