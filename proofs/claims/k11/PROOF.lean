import PyProof.Rows.All
import Wide.All
import OpenK.AllK
import Wide.FinOn
import HandS.ForMost
import HandS.Exc
import HandS.ExcInit
import HandS.ExcIs
import HandS.ExcField
import HandS.ExcOwn
import HandS.Defaults
import HandS.HeadHook2
import HandS.ExcValue
import HandS.Wide
import HandS.WideBits
import HandS.Style
import HandS.IsInst
import PySem.Challenge.RW_openloops_k11_classes_within_classes
import KE.DataAny
import HandS.StrMore
import HandS.Zip
import KE.GoesZip
import KE.GoesMore
import KE.GoesEnum
import HandS.Comp
import HandS.Ends
import HandS.HeadEnd
import HandS.TryMany
import HandS.Deep
import PyProof.ReprRoads
import HandS.Gcd
import HandS.SlotsOwn
import HandS.Codes
import KE.KMathGC
import PyProof.NeKinds
import PyProof.EqKinds
import HandS.OwnEq
import PyProof.EnumFor
import HandS.GenList
import HandS.Evl
import KE.SortData
import HandS.SortInts
import HandS.Head0
import HandS.Head1
import HandS.Head2
import HandS.HeadHook1
set_option Elab.async false
set_option linter.all false
set_option maxRecDepth 100000
set_option maxHeartbeats 2000000
/-! Own error classes whose instances are held as values: C(..) with any keywords, e.f, isinstance(e, C). -/
namespace XV
open PySem PySem.Spec PyProof.Rows L2 PySem.HandSPX

section
variable {prog : Program} {w : World} {A : Around} {E : Value → Shared → Prop} {R : Result → Shared → Prop}
variable {h : Heap} {g : Array GenState} {d : Drawn} {t : Nat} {os : OsState}
variable {nm q : Str} {C N : Addr} {bs bm bmB : List Value} {hdct : Bool} {sn : List Str} {sub : List Value} {ab : Bool} {col : Option Bool} {dd : Option Addr}
variable {k0 k1 k2 k3 k5 : Option Value} {B newId initId : String}

/-- the check ahead of __new__, whatever keywords there are -/
theorem chkNew {M : Model} (F : ExcBaseFacts B newId initId bmB) (hT : ∀ X : String, bm.contains (.type X) = bmB.contains (.type X))
    {rest : List Value} {kw : List (Str × Value)} {Q : Unit → Shared → Prop}
    (hC : h.get? C = some (excClassObj nm q C N bs bm hdct sn sub ab col dd k0 k1 k2 k3 k5 newId)) (hq : Q () ⟨h, g, d, t, os⟩) :
    wpAny M A (checkBuiltinCall newId ⟨.ref C :: rest, kw⟩) Q E ⟨h, g, d, t, os⟩ := by
  have cB : (Value.ref C :: bm).contains (.type B) = true := by
    rw [List.contains_cons, hT, F.hasB]
    exact Bool.or_true _
  have star := F.noStar
  simp only [checkBuiltinCall, F.newKind, F.newSplit, F.newRow]
  repeat (first
    | refine wpAny_loadPart_at hC ?_
    | (refine wpAny_isSubtype_exc hC ?_; rw [cB])
    | refine wpAny_staticBase_exc hC ?_
    | refine wpAny_madeBy_exc hC ?_
    | simp only [bne_self_eq_false, Bool.false_eq_true, if_false]
    | wp_step)
  exact hq

theorem runNew (F : ExcBaseFacts B newId initId bmB) (hT : ∀ X : String, bm.contains (.type X) = bmB.contains (.type X))
    {rest : List Value} {kw : List (Str × Value)}
    (hC : h.get? C = some (excClassObj nm q C N bs bm hdct sn sub ab col dd k0 k1 k2 k3 k5 newId))
    (hq : R (.ok (.ret (.ref (h.objs.size + 1)))) ⟨(h.push (PySem.W.kdv_tup rest)).push (excO C h.objs.size), g, d, t, os⟩) (hz : rest.length ≤ sizeLine) :
    codeAny (model prog w) A (.builtin newId ⟨.ref C :: rest, kw⟩) R ⟨h, g, d, t, os⟩ := by
  have ends := F.ends
  have cB : (Value.ref C :: bm).contains (.type B) = true := by
    rw [List.contains_cons, hT, F.hasB]
    exact Bool.or_true _
  have cA : (Value.ref C :: bm).contains (.type "AttributeError") = false := by
    rw [List.contains_cons, hT, F.noAttr] <;> rfl
  have cN : (Value.ref C :: bm).contains (.type "NameError") = false := by
    rw [List.contains_cons, hT, F.noName] <;> rfl
  refine codeAny_builtinAt F.entry ?_
  unfold Builtin.«BaseException.__new__»
  refine PySem.wpAt_bind ?_
  show PySem.wpAt _ _ _ (stack >>= _) _ _ _
  refine PySem.wpAt_bind (PySem.wpAt_stack fun p below => PySem.wpAt_of_wpAny ?_)
  wp_walk
  refine PySem.wpAt_of_wpAny ?_
  rw [F.owner]
  repeat (first
    | with_reducible refine wpAny_madeHere_exc F.canon hC ?_
    | with_reducible refine wpAny_loadPart_at hC ?_
    | (with_reducible refine wpAny_isSubtype_exc hC ?_; first | rw [cB] | rw [cA] | rw [cN])
    | wp_step)
  show R _ _
  rw [Heap.size_push]
  exact hq

theorem typeCall (F : ExcBaseFacts B newId initId bmB) (hT : ∀ X : String, bm.contains (.type X) = bmB.contains (.type X))
    {rest : List Value} {kw : List (Str × Value)} {fI : Addr} {Q : Fin → Shared → Prop}
    (hC : h.get? C = some (excClassObj nm q C N bs bm hdct sn sub ab col dd k0 k1 k2 k3 k5 newId))
    (hi : W.Looks (model prog w) h (typeLookup (.ref C) "__init__") (some (.ref fI)))
    (hb : ∀ self, W.Looks (model prog w) h (bindSpecial (.ref fI) self) (.ref fI, [self])) (hz : rest.length ≤ sizeLine)
    (hq : codeAny (model prog w) A (.call (.ref fI) ⟨.ref (h.objs.size + 1) :: rest, kw⟩)
      (fun r s' => match r with
        | .ok (.ret v) => v = .none ∧ Q (.done (.ret (.ref (h.objs.size + 1)))) s'
        | .ok _ => False
        | .error e => E e s')
      ⟨(h.push (W.kdv_tup rest)).push (excO C h.objs.size), g, d, t, os⟩) :
    wpAny (model prog w) A (Builtin.«type.__call__» ⟨.ref C :: rest, kw⟩) Q E ⟨h, g, d, t, os⟩ := by
  repeat (first
    | with_reducible refine wpAny_loadPart_at hC ?_
    | with_reducible refine wpAny_madeBy_exc hC ?_
    | wp_step)
  refine codeAny_call_builtin_code (Code.quiet_builtin _ F.quiet) (chkNew F hT hC ?_)
  refine runNew F hT hC ?_ hz
  show wpAny _ _ _ _ _ _
  have k : ∀ b o, h.get? b = some o → ((h.push (W.kdv_tup rest)).push (excO C h.objs.size)).get? b = some o :=
    fun b o e => Heap.get?_push_of_some _ (Heap.get?_push_of_some _ e)
  have hC1 := k _ _ hC
  have got : ((h.push (W.kdv_tup rest)).push (excO C h.objs.size)).get? (h.objs.size + 1) = some (excO C h.objs.size) := by heap_get
  have cC : (Value.ref C :: bm).contains (.ref C) = true := by simp
  have i1 := hi.keeps k
  have b1 := (hb (.ref (h.objs.size + 1))).keeps k
  unfold isInstance
  repeat (first
    | with_reducible refine wpAny_loadPart_at got ?_
    | (with_reducible refine wpAny_isSubtype_exc hC1 ?_; rw [cC])
    | wp_step)
  show wpAny _ _ (typeLookup (.ref C) _) _ _ _
  refine i1.at ?_
  refine wpAny_holding (wpAny_bind (b1.at ?_))
  refine wpAny_bind (wpAny_call (codeAny_mono hq fun r s' z => ?_))
  rcases r with e | (v | _ | _ | _) <;> first | exact z | exact z.elim | skip
  obtain ⟨rfl, z⟩ := z
  first
    | exact wpAny_pure (wpAny_pure z)
    | (wp_walk; exact z)

theorem chkCall {M : Model} {rest : List Value} {kw : List (Str × Value)} {Q : Unit → Shared → Prop}
    (hC : h.get? C = some (excClassObj nm q C N bs bm hdct sn sub ab col dd k0 k1 k2 k3 k5 newId)) (hq : Q () ⟨h, g, d, t, os⟩) :
    wpAny M A (checkBuiltinCall "type.__call__" ⟨.ref C :: rest, kw⟩) Q E ⟨h, g, d, t, os⟩ := by
  have f3 := tc_sub
  have ty : (⟨h, g, d, t, os⟩ : Shared).TypeIs (.ref C) "type" := ⟨_, hC, rfl⟩
  have args : argsOk "type.__call__" ⟨.ref C :: rest, kw⟩ := PySem.W.tc_args _ _ _
  unfold argsOk at args
  simp only [checkBuiltinCall, tc_kind, tc_split]
  repeat (any_goals (first
    | assumption
    | with_reducible refine wpAny_loadPart_at hC ?_
    | with_reducible refine wpAny_onRaise ?_
    | with_reducible refine wpAny_map ?_
    | rw [args]
    | wp_step))

/-- C(.., k = v, ..): an exception is made, then its class's own __init__ is called upon it -/
theorem callOwn (F : ExcBaseFacts B newId initId bmB) (hT : ∀ X : String, bm.contains (.type X) = bmB.contains (.type X))
    {rest : List Value} {kw : List (Str × Value)} {fI : Addr}
    (hC : h.get? C = some (excClassObj nm q C N bs bm hdct sn sub ab col dd k0 k1 k2 k3 k5 newId))
    (hi : W.Looks (model prog w) h (typeLookup (.ref C) "__init__") (some (.ref fI)))
    (hb : ∀ self, W.Looks (model prog w) h (bindSpecial (.ref fI) self) (.ref fI, [self])) (hz : rest.length ≤ sizeLine)
    (hq : codeAny (model prog w) (A.under (.builtin "type.__call__" ⟨.ref C :: rest, kw⟩)) (.call (.ref fI) ⟨.ref (h.objs.size + 1) :: rest, kw⟩)
      (W.InitBack (h.objs.size + 1) R) ⟨(h.push (W.kdv_tup rest)).push (excO C h.objs.size), g, d, t, os⟩) :
    codeAny (model prog w) A (.call (.ref C) ⟨rest, kw⟩) R ⟨h, g, d, t, os⟩ := by
  have f1 := tc_lookup
  have f2 := tc_bind (.ref C)
  have ty : (⟨h, g, d, t, os⟩ : Shared).TypeIs (.ref C) "type" := ⟨_, hC, rfl⟩
  refine codeAny_of_tree ?_
  show wpAny _ _ (callAny (.ref C) _) _ _ _
  repeat (any_goals (first
    | assumption
    | with_reducible refine wpAny_loadPart_at hC ?_
    | wp_step))
  refine ⟨rfl, ?_⟩
  refine codeAny_call_builtin_at (Code.quiet_builtin _ (by decide +kernel)) entry_typeCall (chkCall hC (typeCall F hT hC hi hb hz ?_))
  refine codeAny_mono hq fun r s' z => ?_
  rcases r with e | (v | _ | _ | _) <;> exact z
end
end XV
set_option Elab.async false
set_option linter.all false
set_option maxRecDepth 100000
set_option maxHeartbeats 2000000
namespace XV
open PySem PySem.Spec PyProof.Rows L2

theorem upd_mid {H : Hp} {a d : Addr} {o p q : HO} : upd (upd (upd H a o) d p) a q = upd (upd H d p) a q := by
  funext b
  by_cases e : b = a
  · subst e
    rw [upd_same, upd_same]
  · rw [upd_ne e, upd_ne e]
    by_cases f : b = d
    · subst f
      rw [upd_same, upd_same]
    · rw [upd_ne f, upd_ne f, upd_ne e]

/-- what __init__ of an error with the one field fld does -/
def spI (C : Addr) (fld : Str) : Sp := fun vs H Q _ => ∃ (a : Addr) (v : V), vs = [.ref a, v] ∧ H a = some (exo a C none) ∧
  ∀ d, H d = none → d ≠ a → Q .non (upd (upd H d (exd d [(fld, v)])) a (exo a C (some d)))

/-- what is known of such a class and its __init__ -/
structure XCls (P : Program) (w : World) (K : PySem.W.Frag) (mg : Str → Option Value) (base : Heap) (nm fld : Str) (C fI : Addr) (fd : FuncData) : Prop where
  g : mg nm = some (.ref C)
  ox : OexC K C
  iC : PySem.W.findIn K (.ref C) "__init__" = some (some (.ref fI))
  tI : PySem.W.typeIn K (.ref fI) = some (.type "function")
  no : PySem.W.findIn K (.ref C) fld = some none
  ini : FnOk P w K mg base CX0 1 fI fd ["self", fld] (spI C fld)
  b1 : ∀ (s : Shared) (x u : Value), K.In s.heap → BindsTo s fd ⟨[x, u], []⟩ [("self", x), (fld, u)]
  b0 : ∀ (s : Shared) (x : Value), K.In s.heap → BindsTo s fd ⟨[x], []⟩ [("self", x), (fld, .none)]
  bk : ∀ (s : Shared) (x u : Value), K.In s.heap → BindsTo s fd ⟨[x], [(fld, u)]⟩ [("self", x), (fld, u)]

/-- C(v): a new exception at a, its dict at d -/
structure rMk (C : Addr) (fld : Str) (v : V) (H : Hp) (Q : VK) : Prop where
  go : ∀ a d, H a = none → H d = none → d ≠ a → Q (.ref a) (upd (upd H d (exd d [(fld, v)])) a (exo a C (some d)))

section
variable {X : Cx} {pins : List (Addr × Obj)} {σ : L2.St} {H : Hp} {s : Shared} {Q : VK} {nm fld : Str} {C fI : Addr} {fd : FuncData} {v : V} {u : Value}
theorem mk_run (T : XCls X.prog X.w X.K X.mg X.base nm fld C fI fd) (hr : Room 2 X.A) (I : Inv X pins σ H s) {us : List Value} {kw : List (Str × Value)} (hu : us.length ≤ 1)
    (hb : ∀ (s' : Shared) (x : Value), X.K.In s'.heap → BindsTo s' fd ⟨x :: us, kw⟩ [("self", x), (fld, u)]) (rv : RelV v u) (q : rMk C fld v H Q) :
    wpAny (model X.prog X.w) X.A (call (.ref C) us kw) (EP X pins σ Q) X.xe s := by
  obtain ⟨n0, q0, N, bs, bm, sn, sub, ab, col, dd, k0, k1, k2, k3, k5, hC, hbm⟩ := T.ox.cls
  obtain ⟨hp, g, dr, tk, os⟩ := s
  have le1 : hp.objs.size ≤ hp.objs.size + 1 := Nat.le_succ _
  have fr : H (hp.objs.size + 1) = none := I.hok.fresh le1
  have kk : ∀ b o, hp.get? b = some o → ((hp.push (PySem.W.kdv_tup us)).push (PySem.HandSPX.excO C hp.objs.size)).get? b = some o :=
    fun b o e => Heap.get?_push_of_some _ (Heap.get?_push_of_some _ e)
  have got : ((hp.push (PySem.W.kdv_tup us)).push (PySem.HandSPX.excO C hp.objs.size)).get? (hp.objs.size + 1) = some (PySem.HandSPX.excO C hp.objs.size) := by heap_get
  have I2 := I.laid (t' := tk) (a := hp.objs.size + 1) (o := exo (hp.objs.size + 1) C none) (h' := (hp.push (PySem.W.kdv_tup us)).push (PySem.HandSPX.excO C hp.objs.size)) kk le1 (exo_ok got)
  have hz : us.length ≤ sizeLine := by
    rw [sizeLine_eq]
    omega
  have sp : spI C fld [.ref (hp.objs.size + 1), v] (upd H (hp.objs.size + 1) (exo (hp.objs.size + 1) C none)) (fun z H2 => z = .non ∧ Q (.ref (hp.objs.size + 1)) H2) E0 := by
    refine ⟨_, v, rfl, upd_same, fun d nd ne => ⟨rfl, ?_⟩⟩
    rw [upd_mid]
    rw [upd_ne ne] at nd
    exact q.go _ d fr nd ne
  refine wpAny_call (callOwn PySem.F.excBase_ValueError (fun Y => PySem.HandSPX.refsVE_contains Y bm hbm) (I.kIn _ _ hC) (PySem.W.looks_findIn I.kIn T.iC)
    (fun self => PySem.W.bind_fn I.kIn self T.tI) hz
    (codeAny_mono (T.ini.run _ X.stack _ _ ⟨Value.ref (hp.objs.size + 1) :: us, kw⟩ [Value.ref (hp.objs.size + 1), u] [.ref (hp.objs.size + 1), v] _ E0
      (hr.make C us kw) (I2.env0.make C us kw) (hb _ _ I2.kIn) (.cons rfl (.cons rv .nil)) sp) fun r s' z => ?_))
  cases r with
  | error e => exact False.elim z
  | ok fl =>
    cases fl with
    | ret r0 =>
      obtain ⟨z0, H', J, rz, ez, qz⟩ := I2.after z
      subst ez
      exact ⟨rz, ⟨V.ref (hp.objs.size + 1), H', J, rfl, qz⟩⟩
    | next => exact False.elim z
    | brk => exact False.elim z
    | cont => exact False.elim z
end

/-- of a list with one value -/
def oneOf (q : V → Hp → Prop) : List V → Hp → Prop
  | [v], H => q v H
  | _, _ => False
theorem oneOf.elim {q : V → Hp → Prop} : ∀ {vs : List V} {H : Hp}, oneOf q vs H → ∃ v, vs = [v] ∧ q v H
  | [v], _, h => ⟨v, rfl, h⟩
  | [], _, h => h.elim
  | _ :: _ :: _, _, h => h.elim
section
variable {X : Cx} {nm fld : Str} {C fI : Addr} {fd : FuncData} {e : Expr} {te : TE} {p pos kpos : Pos}
/-- C(e) -/
theorem pe_mk1 (T : XCls X.prog X.w X.K X.mg X.base nm fld C fI fd) (hr : Room 2 X.A) (hg : Gl X nm) (he : PE X e te) (hdb : (nm == ("__debug__" : Str)) = false := by decide)
    (hs : starEach (e :: []) X.env = (false, eval e X.env) :: starEach [] X.env := by rfl) (hpl : (backTo pos (starEach [] X.env)).any (·.1) = false := by rfl) :
    PE X (.Call (.Name nm p) [e] [] pos) (fun σ H Q => te σ H fun v H1 => rMk C fld v H1 Q) := by
  refine ⟨fun pins s σ H Q I h => ?_⟩
  refine wpAny_Call_Name_kw (ld_glob I hg T.g ?_ hdb)
  have ha : PA X [e] (tCons te tNil) := pa_cons he pa_nil hs
  refine PySem.W.callWith_K (h₀ := X.base) I.ok.mod.kin T.ox.kC (thn (ha.run pos pins s σ H (oneOf fun v H1 => rMk C fld v H1 Q) I h) fun us s1 z => ?_) hs hpl
  obtain ⟨vs, H1, I1, r, q⟩ := z
  obtain ⟨v, ev, q⟩ := oneOf.elim q
  subst ev
  cases r with
  | cons rv rn =>
    cases rn
    exact ⟨I1.kIn, mk_run T hr I1 (by simp) (fun s' x X' => T.b1 s' x _ X') rv q⟩
/-- C() -/
theorem pe_mk0 (T : XCls X.prog X.w X.K X.mg X.base nm fld C fI fd) (hr : Room 2 X.A) (hg : Gl X nm) (hdb : (nm == ("__debug__" : Str)) = false := by decide) :
    PE X (.Call (.Name nm p) [] [] pos) (fun σ H Q => rMk C fld .non H Q) := by
  refine ⟨fun pins s σ H Q I h => ?_⟩
  refine wpAny_Call_Name_kw (ld_glob I hg T.g ?_ hdb)
  exact PySem.W.callWith_K0 I.kIn T.ox.kC (mk_run (us := []) T hr I (by simp) (fun s' x X' => T.b0 s' x X') (v := .non) rfl h)
/-- C(fld = e) -/
theorem pe_mkK (T : XCls X.prog X.w X.K X.mg X.base nm fld C fI fd) (hr : Room 2 X.A) (hg : Gl X nm) (he : PE X e te) (hdb : (nm == ("__debug__" : Str)) = false := by decide)
    (hall : (backToKw pos (keywordEach [⟨some fld, e, kpos⟩] X.env)).all (·.1.isSome) = true := by rfl) (hks : (backToKw pos (keywordEach [⟨some fld, e, kpos⟩] X.env)).filterMap (·.1) = [fld] := by rfl)
    (hpl : ((backTo pos (starEach [] X.env)).any (·.1) || (backToKw pos (keywordEach [⟨some fld, e, kpos⟩] X.env)).any (·.1.isNone)) = false := by rfl) :
    PE X (.Call (.Name nm p) [] [⟨some fld, e, kpos⟩] pos) (fun σ H Q => te σ H fun v H1 => rMk C fld v H1 Q) := by
  refine ⟨fun pins s σ H Q I h => ?_⟩
  refine wpAny_Call_Name_kw (ld_glob I hg T.g ?_ hdb)
  have hk : PK X [⟨some fld, e, kpos⟩] (tCons te tNil) := pk_cons he pk_nil
  refine PySem.W.callWith_KW0 (h₀ := X.base) I.ok.mod.kin T.ox.kC hall (thn (hk.run pos pins s σ H (oneOf fun v H1 => rMk C fld v H1 Q) I h) fun us s1 z => ?_) hpl
  obtain ⟨vs, H1, I1, r, q⟩ := z
  obtain ⟨v, ev, q⟩ := oneOf.elim q
  subst ev
  cases r with
  | cons rv rn =>
    cases rn
    refine ⟨I1.kIn, ?_⟩
    rw [hks]
    exact mk_run (us := []) T hr I1 (by simp) (fun s' x X' => T.bk s' x _ X') rv q
end
end XV
set_option Elab.async false
set_option linter.all false
set_option maxRecDepth 100000
set_option maxHeartbeats 4000000
namespace XV
open PySem PySem.Spec PyProof.Rows L2

/-! ### e.f -/
/-- x is an error of the class at C with the fields fs -/
def Err (H : Hp) (x : V) (C : Addr) (fs : List (Str × V)) : Prop := ∃ a d, x = .ref a ∧ H a = some (exo a C (some d)) ∧ H d = some (exd d fs)
/-- the facts that a read of the field n wants -/
structure XF (K : PySem.W.Frag) (C : Addr) (n : Str) : Prop where
  xf : XfC K C
  no : PySem.W.findIn K (.ref C) n = some none
section
variable {X : Cx}
theorem pe_xget {e : Expr} {te : TE} {pos : Pos} {n : Str} (he : PE X e te) (hb : attributeBase e n X.env (eval e X.env) = eval e X.env := by rfl) :
    PE X (.Attribute e n pos) (fun σ H Q => te σ H fun x H1 => ∃ C fs v, Err H1 x C fs ∧ XF X.K C n ∧ fs.lookup n = some v ∧ Q v H1) := by
  refine ⟨fun pins s σ H Q I h => ?_⟩
  refine attr_of hb (thn (he.run pins s σ H _ I h) fun u s1 hh => ?_)
  obtain ⟨x, H1, I1, rx, C, fs, v, ⟨a, d, ex, ea, ed⟩, T, l, q⟩ := hh
  subst ex
  obtain rfl : u = Value.ref a := rx
  obtain ⟨t1, ho⟩ := exo_at I1.hok ea
  obtain ⟨mA, hns, hrel⟩ := exd_at I1.hok ed
  obtain ⟨od, hod, hl⟩ := lookIn_ns hns
  obtain ⟨w1, hw, rw1⟩ := RelO.some_of (v := v) (o := mA n) (by rw [← l]; exact hrel n)
  have J : PySem.W.InstAt s1.heap a _ C (some od) := ⟨ho, rfl, rfl, hod⟩
  exact HandSPX.exc_get I1.kIn J T.xf.ga T.xf.gg T.xf.exC (PySem.W.findObj_own T.xf.hdC T.no rfl (by rw [hl, hw])) (handed_of rw1) ⟨v, H1, I1.tok _, rw1, q⟩
end
end XV

/-! ### isinstance of an error, with its dict or without -/
namespace XV
open PySem PySem.W PySem.Calls PyProof.Rows L2
theorem find_cls {K : Frag} {D : Addr} {od : Option Obj} (E : ExcC K D) : findObj K D od "__class__" = some (.bind (.builtin "getset_descriptor.__get__") (.builtin "object.__class__")) := by
  have hc : (clsIn K D).isSome = true := by
    obtain ⟨cd, hc, _⟩ := any_some E.hd
    rw [hc]
    rfl
  cases od with
  | none => exact findObj_dataN hc E.ha E.hn E.ht
  | some o => exact findObj_data hc E.ha E.hn E.ht
theorem getCls {prog : Program} {w : World} {A : Around} {E : Value → Shared → Prop} {s : Shared} {K : Frag} {x D : Addr} {ox : Obj} {od : Option Obj} {Q : Option Value → Shared → Prop}
    (C : ExcC K D) (X : K.In s.heap) (I : InstAt s.heap x ox D od) (q : Q (some (.ref D)) { s with toks := s.toks + 1 }) : wpAny (model prog w) A (getAttr? (.ref x) "__class__") Q E s := by
  have fnd := find_cls (od := od) C
  obtain ⟨hp, g, d, t, os⟩ := s
  have tyx := I.type (M := model prog w)
  have look1 := looks_findIn (M := model prog w) X C.hg
  have look2 := looks_findIn (M := model prog w) X C.hk
  have look3 := looks_find (M := model prog w) X I fnd
  have isB : Looks (model prog w) hp (isInstance (.ref x) (.type "BaseException")) true := tyx.andThen (looks_subIn X C.hs)
  have n0 : (false && onTheHeap (Value.builtin "BaseException.__getattribute__")) = false := rfl
  have n2 : (Value.builtin "BaseException.__getattribute__" == Value.builtin "object.__getattribute__") = false := by decide +kernel
  have n1 : (onTheHeap (Value.ref D) && Value.builtin "BaseException.__getattribute__" == Value.builtin "object.__getattribute__") = false := by
    rw [n2]
    rfl
  unfold getAttr? getAttrBy? getAttrBy
  refine wpAny_bind (wpAny_mkText (wpAny_bind (wpAny_attempt (wpAny_holding (wpAny_bind (tyx.at (wpAny_bind (look1.at ?_))))))))
  show wpAny _ _ (if (onTheHeap (Value.ref D) && Value.builtin "BaseException.__getattribute__" == Value.builtin "object.__getattribute__") = true then _ else _) _ _ _
  rw [n1, if_neg Bool.false_ne_true]
  unfold getAttrByItsOwn hookBefore
  refine wpAny_bind ?_
  rw [if_pos (show onTheHeap (Value.ref D) = true from rfl)]
  refine look2.at ?_
  refine wpAny_bind (wpAny_attempt (wpAny_holding ?_))
  unfold callGetattribute
  rw [n0, if_neg Bool.false_ne_true]
  unfold boundAndCalled
  rw [PySem.F.excAttr_ValueError.ga.bind (.ref x)]
  refine wpAny_bind (wpAny_pure ?_)
  show wpAny _ _ (call (.builtin "BaseException.__getattribute__") [.ref x, .str "__class__" t]) _ _ _
  refine wpAny_call (codeAny_call_builtin PySem.F.excAttr_ValueError.ga.plain PySem.F.entry_bexc_ga ?_)
  refine @check_slot (model prog w) _ _ ⟨hp, g, d, t + 1, os⟩ "BaseException.__getattribute__" "BaseException" "__getattribute__" (.ref x) [.str "__class__" t] [] _ (by decide +kernel) (by decide +kernel) isB (PySem.F.args_bexc_ga (.ref x) (.str "__class__" t)) ?_
  unfold Builtin.«object.__getattribute__»
  refine wpAny_bind (wpAny_of_eq (a := ((Value.ref x : Value), [Value.str "__class__" t])) (by first | rfl | (simp only [slotArgs]; rfl)) ?_)
  refine wpAny_bind (wpAny_pure (wpAny_bind (tyx.at (wpAny_bind (look3.at ?_)))))
  show wpAny _ _ (holding [Value.builtin "object.__class__"] (call (.builtin "getset_descriptor.__get__") [.builtin "object.__class__", .ref x, .ref D]) >>= ret) _ _ _
  refine wpAny_bind (wpAny_holding (wpAny_call (class_get (s := ⟨hp, g, d, t + 1, os⟩) (ox := ox) (od := od) X I C.hm ?_)))
  refine wpAny_pure ?_
  show wpAny _ _ (handedOut (.ref D)) _ _ _
  rw [handedOut_of (v := .ref D) rfl]
  first
    | exact wpAny_pure (wpAny_pure q)
    | exact wpAny_pure q
    | exact wpAny_pure (wpAny_bind (wpAny_pure (wpAny_pure q)))
theorem kitErr {K : Frag} {x D : Addr} {ox : Obj} {od : Option Obj} (C : ExcC K D) : KitX K (.ref x) (.ref D) (fun h => InstAt h x ox D od) where
  ty := fun _ _ _ I => I.type
  it := fun _ _ X _ => by
    obtain ⟨cdD, hcD, _⟩ := any_some C.hd
    unfold clsIn at hcD
    split at hcD
    · rename_i c' d' cd' sl' ho
      intro A' Q' E' s' k q
      unfold isType loadHead
      exact wpAny_bind (wpAny_loadPart (k _ _ (X _ _ ho)) (wpAny_pure q))
    · cases hcD
  ne := fun h tp dd its n sl X htp => by
    obtain ⟨cdD, hcD, _⟩ := any_some C.hd
    refine Bool.eq_false_iff.mpr fun q => ?_
    have e : D = tp := Value.ref.inj (beq_iff_eq.mp q)
    subst e
    unfold clsIn at hcD
    split at hcD
    · rename_i c' d' cd' sl' ho
      have z := (X _ _ ho).symm.trans htp
      cases z
    · cases hcD
  ca := fun X I k => getCls C X I k
end XV

namespace XV
open PySem PySem.Spec PyProof.Rows L2
/-- x is an error of the class at C, whatever else is known of it -/
def IsE (H : Hp) (x : V) (C : Addr) : Prop := ∃ a, x = .ref a ∧ (H a = some (exo a C none) ∨ ∃ d fs, H a = some (exo a C (some d)) ∧ H d = some (exd d fs))
theorem Err.isE {H : Hp} {x : V} {C : Addr} {fs : List (Str × V)} (h : Err H x C fs) : IsE H x C := by
  obtain ⟨a, d, e, e1, e2⟩ := h
  exact ⟨a, e, .inr ⟨d, fs, e1, e2⟩⟩
def rIsX (K : PySem.W.Frag) : List V → Hp → VK → Prop := fun xs H Q => ∃ (x c : V) (D : Addr) (cv : Value) (b : Bool), xs = [x, c] ∧ IsE H x D ∧ ExcC K D ∧ (∀ u, RelV c u → u = cv) ∧ PySem.W.kitOne K (.ref D) cv = some b ∧ Q (.bl b) H
theorem call_isX {X : Cx} : CallR X (.builtin "isinstance") (rIsX X.K) := by
  intro pins s σ H xs us Q I r h
  obtain ⟨x, c, D, cv, b, rfl, ⟨a, ex, hx⟩, C, hcv, e, q⟩ := h
  subst ex
  cases r with
  | cons rx rr =>
    cases rr with
    | cons rt rr =>
      cases rr
      cases rx
      have ec := hcv _ rt
      subst ec
      rcases hx with hx | ⟨d, fs, hx, hd⟩
      · obtain ⟨t1, ho⟩ := exo_at I.hok hx
        have J : PySem.W.InstAt s.heap a _ D none := ⟨ho, rfl, rfl, trivial⟩
        exact PySem.W.kia_one (kitErr C) I.kIn J e (fun z => nomatch z) fun tk => ⟨.bl b, H, I.kept (t' := tk) fun _ _ z => z, rfl, q⟩
      · obtain ⟨t1, ho⟩ := exo_at I.hok hx
        obtain ⟨mA, hns, _⟩ := exd_at I.hok hd
        obtain ⟨od, hod, _⟩ := lookIn_ns hns
        have J : PySem.W.InstAt s.heap a _ D (some od) := ⟨ho, rfl, rfl, hod⟩
        exact PySem.W.kia_one (kitErr C) I.kIn J e (fun z => nomatch z) fun tk => ⟨.bl b, H, I.kept (t' := tk) fun _ _ z => z, rfl, q⟩
end XV
set_option Elab.async false
set_option linter.all false
set_option maxRecDepth 100000
set_option maxHeartbeats 4000000
namespace XV
open PySem PySem.Spec PyProof.Rows L2

/-! ### an error class without an __init__ of its own: C() -/
theorem pe_mkE {X : Cx} {nm : Str} {C : Addr} {bmB : List Value} {B newId initId : String} {p pos : Pos} (F : ExcBaseFacts B newId initId bmB) (q : PySem.W.excIn X.K C bmB newId = true) (gC : X.mg nm = some (.ref C))
    (kC : PySem.W.keepIn X.K (.ref C) = true) (hg : Gl X nm) (hdb : (nm == ("__debug__" : Str)) = false := by decide) :
    PE X (.Call (.Name nm p) [] [] pos) (fun σ H Q => ∀ a, H a = none → Q (.ref a) (upd H a (exo a C none))) := by
  refine ⟨fun pins s σ H Q I h => ?_⟩
  refine wpAny_Call_Name_kw (ld_glob I hg gC ?_ hdb)
  refine PySem.W.callWith_K0 I.kIn kC ?_
  obtain ⟨bm, N, n0, qn, bs, hdct, sn, sub, ab, col, dd, k0, k1, k2, k3, k5, mN, hC, hN, hni, T⟩ := exc_obj I.kIn q
  obtain ⟨hp, g, d, t, os⟩ := s
  refine wpAny_call_exc_subT F T hC hN hni (fun h' e hm => ?_) (by show 0 ≤ sizeLine; exact Nat.zero_le _)
  obtain ⟨t1, he, _, _⟩ := hm.there
  have hn : H e = none := I.hok.gone hm.new
  exact ⟨.ref e, _, I.laidN (t' := t) (a := e) (o := exo e C none) hm.keeps hm.new hn (exo_ok he), rfl, h e hn⟩

/-! ### facts by Bools -/
def clsB (K : PySem.W.Frag) (C : Addr) : Bool := match K.lookup C with
  | some ⟨.type "type", _, .cls cd, sl⟩ => (match cd.mro, sl.toList with
    | .ref C' :: bm, [_, _, _, _, some (.builtin n), _] => (C' == C && n == "ValueError.__new__") && (cd.hasDict && (!cd.hasDel && PySem.HandSPX.refsVE bm))
    | _, _ => false)
  | _ => false
theorem clsB_ok {K : PySem.W.Frag} {C : Addr} (h : clsB K C = true) :
    ∃ nm q N bs bm sn sub ab col dd k0 k1 k2 k3 k5, K.lookup C = some (excClassObj nm q C N bs bm true sn sub ab col dd k0 k1 k2 k3 k5 "ValueError.__new__") ∧ PySem.HandSPX.refsVE bm = true := by
  unfold clsB at h
  split at h
  · rename_i dd cd sl ho
    split at h
    · rename_i C' bm k0 k1 k2 k3 n k5 hm hs
      obtain ⟨h1, h2⟩ := He.ba h
      obtain ⟨h3, h4⟩ := He.ba h1
      obtain ⟨h5, h6⟩ := He.ba h2
      obtain ⟨h7, h8⟩ := He.ba h6
      obtain ⟨n1, bs, mro, ns, qn, hd, sn, sub, ab, col, del⟩ := cd
      dsimp only at hm h5 h7
      have e1 : C' = C := eq_of_beq h3
      have e2 : n = "ValueError.__new__" := eq_of_beq h4
      have e3 : del = false := by
        cases del with
        | false => rfl
        | true => cases h7
      subst e1 e2 e3 hm h5
      have e4 : sl = #[k0, k1, k2, k3, some (.builtin "ValueError.__new__"), k5] := by
        obtain ⟨l⟩ := sl
        simp only at hs
        rw [hs]
      subst e4
      exact ⟨n1, qn, ns, bs, bm, sn, sub, ab, col, dd, k0, k1, k2, k3, k5, ho, h8⟩
    · cases h
  · cases h
def oexB (K : PySem.W.Frag) (C : Addr) : Bool := clsB K C && (He.eqO (PySem.W.findIn K (.ref C) "__setattr__") (some (some (.builtin "object.__setattr__"))) &&
  (decide (PySem.W.subIn K (.ref C) (.type "BaseException") = some true) && (decide (PySem.W.typeIn K (.ref C) = some (.type "type")) && PySem.W.keepIn K (.ref C))))
theorem oexB_ok {K : PySem.W.Frag} {C : Addr} (h : oexB K C = true) : OexC K C := by
  obtain ⟨h1, h⟩ := He.ba h
  obtain ⟨h2, h⟩ := He.ba h
  obtain ⟨h3, h⟩ := He.ba h
  obtain ⟨h4, h5⟩ := He.ba h
  exact ⟨clsB_ok h1, He.eqO_ok h2, of_decide_eq_true h3, of_decide_eq_true h4, h5⟩
def excB (K : PySem.W.Frag) (D : Addr) : Bool := xfB K D && (He.eqO (PySem.W.findIn K (.ref D) "__class__") (some (some (.builtin "object.__class__"))) &&
  (He.eqO (PySem.W.specialIn K (.builtin "object.__class__") "__get__") (some (some (.builtin "getset_descriptor.__get__"))) &&
  (decide (PySem.W.takesIn K (.builtin "object.__class__") = some true) && decide (PySem.W.mroIn K D (.type "object") = some true))))
theorem excB_ok {K : PySem.W.Frag} {D : Addr} (h : excB K D = true) : ExcC K D := by
  obtain ⟨h1, h⟩ := He.ba h
  obtain ⟨h2, h⟩ := He.ba h
  obtain ⟨h3, h⟩ := He.ba h
  obtain ⟨h4, h5⟩ := He.ba h
  have x := xfB_ok h1
  exact ⟨x.ga, x.gg, x.exC, x.hdC, He.eqO_ok h2, He.eqO_ok h3, of_decide_eq_true h4, of_decide_eq_true h5⟩
/-- an error class nm whose own __init__ sets the field fld -/
def xclsB (K : PySem.W.Frag) (nm fld : Str) : Bool := He.eqO (PySem.W.nsIn K mainGlobals nm) (some (some (.ref (He.ga K nm)))) && (oexB K (He.ga K nm) &&
  (He.eqO (PySem.W.findIn K (.ref (He.ga K nm)) "__init__") (some (some (.ref (He.fAd K (nm, some "__init__"))))) &&
  (decide (PySem.W.typeIn K (.ref (He.fAd K (nm, some "__init__"))) = some (.type "function")) && (He.eqO (PySem.W.findIn K (.ref (He.ga K nm)) fld) (some none) && excB K (He.ga K nm)))))
/-- one without -/
def ecls0B (K : PySem.W.Frag) (nm : Str) : Bool := He.eqO (PySem.W.nsIn K mainGlobals nm) (some (some (.ref (He.ga K nm)))) && (PySem.W.excIn K (He.ga K nm) He.veBase "ValueError.__new__" && (PySem.W.keepIn K (.ref (He.ga K nm)) && excB K (He.ga K nm)))

/-! ### __init__(self, fld=None): self.fld = fld -/
def initA (fld : Str) (p1 p2 p3 : Pos) : Arguments :=
  { posonlyargs := [], args := [{ arg := "self", annotation := none, pos := p1 }, { arg := fld, annotation := none, pos := p2 }], vararg := none, kwonlyargs := [], kw_defaults := [], kwarg := none, defaults := [.Constant .none 0 p3] }
def initB (fld : Str) (q1 q2 q3 q4 : Pos) : List Stmt := [.Assign [.Attribute (.Name "self" q1) fld q2] (.Name fld q3) q4]
def initS (fld : Str) : Scope := { kind := .function, names := [(PySem.Str.ofString "self", .local), (fld, .local)], isGenerator := false, isCoroutine := false, more := [] }

section
variable {P : Program} {w : World} {K : PySem.W.Frag} {mg : Str → Option Value} {base h : Heap} {nm qual fld : Str} {p1 p2 p3 q1 q2 q3 q4 : Pos} {C fI : Addr} {fd : FuncData}
theorem ok_initV (F : FunD K "__init__" qual (initA "value" p1 p2 p3) (initB "value" q1 q2 q3 q4) (initS "value") [.non] [] fI fd) (O : OexC K C) (no : PySem.W.findIn K (.ref C) "value" = some none) :
    FnOk P w K mg base CX0 1 fI fd ["self", "value"] (spI C "value") := by
  refine F.ok (N := ["self", "value"]) ⟨rfl, rfl, rfl, by decide +kernel, rfl, by decide +kernel, by decide +kernel⟩ (fun vs H Q E h => ?_) (fun cdv A outer s H vs Q E hr h => ?_)
  · obtain ⟨a, v, rfl, _⟩ := h
    rfl
  · obtain ⟨a, v, rfl, ha, q⟩ := h
    exact ⟨_, pss_one (ps_ost (pv 0) (pv 1)), ⟨_, rfl, _, rfl, a, C, rfl, O, no, .inl ⟨ha, fun d n ne => q d n ne⟩⟩⟩
theorem ok_initP (F : FunD K "__init__" qual (initA "place" p1 p2 p3) (initB "place" q1 q2 q3 q4) (initS "place") [.non] [] fI fd) (O : OexC K C) (no : PySem.W.findIn K (.ref C) "place" = some none) :
    FnOk P w K mg base CX0 1 fI fd ["self", "place"] (spI C "place") := by
  refine F.ok (N := ["self", "place"]) ⟨rfl, rfl, rfl, by decide +kernel, rfl, by decide +kernel, by decide +kernel⟩ (fun vs H Q E h => ?_) (fun cdv A outer s H vs Q E hr h => ?_)
  · obtain ⟨a, v, rfl, _⟩ := h
    rfl
  · obtain ⟨a, v, rfl, ha, q⟩ := h
    exact ⟨_, pss_one (ps_ost (pv 0) (pv 1)), ⟨_, rfl, _, rfl, a, C, rfl, O, no, .inl ⟨ha, fun d n ne => q d n ne⟩⟩⟩
theorem bind_ini {args : Args} {binds : List Value → List (Str × Value)} (F : FunD K "__init__" qual (initA fld p1 p2 p3) (initB fld q1 q2 q3 q4) (initS fld) [.non] [] fI fd)
    (hb : ∀ (T : Addr) (kV doc pm : Value) (an : Option Addr) (cdv ct : Value), ∃ k, bindArgs (PySem.W.fnOf "__init__" qual (initA fld p1 p2 p3) (initB fld q1 q2 q3 q4) (initS fld) (.ref T) kV doc pm an cdv ct) args = seqItems? (.ref T) >>= k ∧ k (some #[Value.none]) = pure (binds [.none]))
    (s : Shared) (X : K.In s.heap) : BindsTo s fd args (binds [.none]) := by
  obtain ⟨oc, od, dV, kV, doc, pm, an, cdv, ct, osl, rfl, lk, hcd, hD, hK⟩ := F.ex
  rcases hD with ⟨e, _⟩ | ⟨_, T, o, its, m, rfl, lT, oT, rT⟩
  · cases e
  · cases rT with
    | cons r0 r1 =>
      cases r1
      cases r0
      obtain ⟨k, e1, e2⟩ := hb T kV doc pm an cdv ct
      refine BindsTo.of_looks fun M => ?_
      rw [e1]
      exact looks_items X lT oT (.of_pure e2)
theorem xcls_V (X : K.In h) (G : h.Ns mainGlobals mg) (c : xclsB K nm "value" = true) (F : FunD K "__init__" qual (initA "value" p1 p2 p3) (initB "value" q1 q2 q3 q4) (initS "value") [.non] [] (He.fAd K (nm, some "__init__")) fd) :
    XCls P w K mg base nm "value" (He.ga K nm) (He.fAd K (nm, some "__init__")) fd := by
  obtain ⟨c1, c⟩ := He.ba c
  obtain ⟨c2, c⟩ := He.ba c
  obtain ⟨c3, c⟩ := He.ba c
  obtain ⟨c4, c⟩ := He.ba c
  obtain ⟨c5, c6⟩ := He.ba c
  have O := oexB_ok c2
  have no := He.eqO_ok c5
  exact ⟨PySem.W.mg_of X G (He.eqO_ok c1), O, He.eqO_ok c3, of_decide_eq_true c4, no, ok_initV F O no,
    fun s x u Y => bind_ini (binds := fun _ => [("self", x), ("value", u)]) F (fun _ _ _ _ _ _ _ => ⟨_, rfl, rfl⟩) s Y,
    fun s x Y => bind_ini (binds := fun _ => [("self", x), ("value", .none)]) F (fun _ _ _ _ _ _ _ => ⟨_, rfl, rfl⟩) s Y,
    fun s x u Y => bind_ini (binds := fun _ => [("self", x), ("value", u)]) F (fun _ _ _ _ _ _ _ => ⟨_, rfl, rfl⟩) s Y⟩
theorem xcls_P (X : K.In h) (G : h.Ns mainGlobals mg) (c : xclsB K nm "place" = true) (F : FunD K "__init__" qual (initA "place" p1 p2 p3) (initB "place" q1 q2 q3 q4) (initS "place") [.non] [] (He.fAd K (nm, some "__init__")) fd) :
    XCls P w K mg base nm "place" (He.ga K nm) (He.fAd K (nm, some "__init__")) fd := by
  obtain ⟨c1, c⟩ := He.ba c
  obtain ⟨c2, c⟩ := He.ba c
  obtain ⟨c3, c⟩ := He.ba c
  obtain ⟨c4, c⟩ := He.ba c
  obtain ⟨c5, c6⟩ := He.ba c
  have O := oexB_ok c2
  have no := He.eqO_ok c5
  exact ⟨PySem.W.mg_of X G (He.eqO_ok c1), O, He.eqO_ok c3, of_decide_eq_true c4, no, ok_initP F O no,
    fun s x u Y => bind_ini (binds := fun _ => [("self", x), ("place", u)]) F (fun _ _ _ _ _ _ _ => ⟨_, rfl, rfl⟩) s Y,
    fun s x Y => bind_ini (binds := fun _ => [("self", x), ("place", .none)]) F (fun _ _ _ _ _ _ _ => ⟨_, rfl, rfl⟩) s Y,
    fun s x u Y => bind_ini (binds := fun _ => [("self", x), ("place", u)]) F (fun _ _ _ _ _ _ _ => ⟨_, rfl, rfl⟩) s Y⟩
theorem xcls_E (c : xclsB K nm fld = true) : ExcC K (He.ga K nm) ∧ XF K (He.ga K nm) fld := by
  obtain ⟨c1, c⟩ := He.ba c
  obtain ⟨c2, c⟩ := He.ba c
  obtain ⟨c3, c⟩ := He.ba c
  obtain ⟨c4, c⟩ := He.ba c
  obtain ⟨c5, c6⟩ := He.ba c
  exact ⟨excB_ok c6, ⟨xfB_ok (He.ba c6).1, He.eqO_ok c5⟩⟩
end
/-! ### a Hook with one Bool more -/
def hookB (n : Nat) (fa : List He.Fa) (fn : List He.DefD) (bx : PySem.W.Frag → Bool) : PySem.W.Hook where
  α := He.AlD × Bool
  obs := fun s => (He.obsDG n fa fn s.heap.get?, bx (He.frG s.heap.get? (He.asD s.heap.get? n)))
  val := fun _ => (He.valD fn, true)
  says := fun _ h => ∃ K : PySem.W.Frag, K.In h ∧ He.SaysD fa fn K ∧ bx K = true
  of := fun _ _ e => ⟨_, He.frG_in, congrArg Prod.fst e, congrArg Prod.snd e⟩
  keeps := fun _ _ _ ⟨K, hK, c⟩ k => ⟨K, PySem.W.Frag.In.keeps hK k, c⟩
def obsB (n : Nat) (fa : List He.Fa) (fn : List He.DefD) (bx : PySem.W.Frag → Bool) (g : Addr → Option Obj) : He.AlD × Bool := (He.obsDG n fa fn g, bx (He.frG g (He.asD g n)))
theorem obsB_eq {n : Nat} {fa : List He.Fa} {fn : List He.DefD} {bx : PySem.W.Frag → Bool} {g : Addr → Option Obj} {s : Shared} (h : ∀ a, g a = s.heap.get? a) : obsB n fa fn bx g = (hookB n fa fn bx).obs s := by
  have e : g = s.heap.get? := funext h
  rw [e] <;> rfl
end XV
set_option Elab.async false
set_option linter.all false
set_option maxRecDepth 100000
set_option maxHeartbeats 4000000
/-! Words of our own for calls of the text's defs, and the drawing of numbers. -/
namespace XV
open PySem PySem.Spec PyProof.Rows L2

/-- the module's name x is a def that keeps sp -/
structure Ok (P : Program) (w : World) (K : PySem.W.Frag) (mg : Str → Option Value) (base : Heap) (x : Str) (k : Nat) (ps : List Str) (sp : Sp) : Prop where
  ex : ∃ f fd, FnOk P w K mg base CX0 k f fd ps sp ∧ mg x = some (.ref f) ∧ PySem.W.keepIn K (.ref f) = true ∧ Binds K fd ps []
section
variable {X : Cx} {k : Nat} {ps : List Str} {sp : Sp} {x : Str} {e : Expr} {es : List Expr} {t : TA} {p pos : Pos}
theorem pe_callO (o : Ok X.prog X.w X.K X.mg X.base x k ps sp) (hr : Room k X.A) (hg : Gl X x) (ha : PA X (e :: es) t) (hdb : (x == ("__debug__" : Str)) = false := by decide)
    (he : starEach (e :: es) X.env = (false, eval e X.env) :: starEach es X.env := by rfl) (hpl : (backTo pos (starEach es X.env)).any (·.1) = false := by rfl) :
    PE X (.Call (.Name x p) (e :: es) [] pos) (tCall sp [] E0 t) := by
  obtain ⟨f, fd, F, hm, hk, b⟩ := o.ex
  exact pe_call F hr hg hm hk b .nil pass0 ha hdb he hpl
theorem pe_callO0 (o : Ok X.prog X.w X.K X.mg X.base x k ps sp) (hr : Room k X.A) (hg : Gl X x) (hdb : (x == ("__debug__" : Str)) = false := by decide) :
    PE X (.Call (.Name x p) [] [] pos) (tCall sp [] E0 tNil) := by
  obtain ⟨f, fd, F, hm, hk, b⟩ := o.ex
  exact pe_call0 F hr hg hm hk b .nil pass0 hdb
end
theorem Ok.mk' {P : Program} {w : World} {K : PySem.W.Frag} {mg : Str → Option Value} {base : Heap} {x : Str} {k : Nat} {ps : List Str} {sp : Sp} {body : List Stmt} {params : Arguments} {scope : Scope} {f : Addr} {fd : FuncData}
    (F : FunD K x x params body scope [] [] f fd) (g : mg x = some (.ref f)) (b : ∀ (kV doc pm : Value) (an : Option Addr) (cdv ct : Value) (us : List Value), us.length = ps.length → bindArgs (PySem.W.fnOf x x params body scope .none kV doc pm an cdv ct) ⟨us, []⟩ = pure (ps.zip us))
    (ok : FnOk P w K mg base CX0 k f fd ps sp) : Ok P w K mg base x k ps sp := ⟨f, fd, ok, g, F.kp, F.bindsN b⟩

/-- i ** j, the answer of at most 2 ^ 27 bits -/
def CPowW (i j : Int) : Prop := 0 ≤ j ∧ (Builtin.Int.intBits i : Int) * j ≤ 2 ^ 27
theorem op_powW {X : Cx} : OpR X (binaryOp .Pow) (rI CPowW fun i j => .int (i ^ j.toNat)) := opI fun _ _ _ _ _ _ _ hc q => pow_int hc.1 hc.2 q

/-! ### the list of three numbers from which is drawn -/
/-- at g: a list [a, b, c], a below 10 ** 600, b below 2 ** 31, c at most n -/
def Dr (H : Hp) (g : Addr) (n : Nat) : Prop := ∃ a b c : Int, H g = some (.lst [.int a, .int b, .int c]) ∧ 0 ≤ a ∧ a < 10 ^ 600 ∧ 0 ≤ b ∧ b < 2147483647 ∧ 0 ≤ c ∧ c ≤ n
theorem Dr.mono {H : Hp} {g : Addr} {n m : Nat} (h : Dr H g n) (l : n ≤ m) : Dr H g m := by
  obtain ⟨a, b, c, e, h1, h2, h3, h4, h5, h6⟩ := h
  exact ⟨a, b, c, e, h1, h2, h3, h4, h5, by omega⟩
/-- all but g as it was -/
def But (H H' : Hp) (g : Addr) : Prop := ∀ b o, b ≠ g → H b = some o → H' b = some o
theorem But.refl (H : Hp) (g : Addr) : But H H g := fun _ _ _ e => e
theorem But.trans {H H1 H2 : Hp} {g : Addr} (a : But H H1 g) (b : But H1 H2 g) : But H H2 g := fun c o n e => b c o n (a c o n e)
theorem But.upd {H : Hp} {g : Addr} {o : HO} : But H (upd H g o) g := fun b u n e => by
  rw [upd_ne n]
  exact e
theorem Same.but {H H' : Hp} {g : Addr} (a : Same H H') : But H H' g := fun b o _ e => a b o e
theorem same_new {H : Hp} {p : Addr} {o : HO} (h : H p = none) : Same H (L2.upd H p o) := fun b x e => by
  rw [upd_ne (ne_of_none e h)]
  exact e
def spHash : Sp := fun vs H Q _ => ∃ s i : Int, vs = [.int s, .int i] ∧ 0 ≤ s ∧ s < 2147483647 ∧ 0 ≤ i ∧ i < 2 ^ 60 ∧ ∀ r : Int, 0 ≤ r → r < 2147483647 → Q (.int r) H
def spRand : Sp := fun vs H Q _ => ∃ (g : Addr) (n : Nat) (m : Int), vs = [.ref g, .int m] ∧ Dr H g n ∧ n ≤ 1000000 ∧ 0 < m ∧ m < 10 ^ 100 ∧
  ∀ (H' : Hp) (r : Int), 0 ≤ r → r < m → But H H' g → Dr H' g (n + 20) → Q (.int r) H'
end XV
set_option Elab.async false
set_option linter.all false
set_option maxRecDepth 100000
set_option maxHeartbeats 4000000
namespace KB
open PySem PySem.Spec PyProof.Rows L2 XV
def top (i : Nat) : Stmt := PySem.Challenge.pw_openloops_k11_classes_within_classes.main.body.getD i (.Pass ⟨0, 0, 0, 0⟩)
abbrev sHash : Stmt := top 49
abbrev sGen : Stmt := top 51
abbrev sRand : Stmt := top 50
abbrev FnP (K : PySem.W.Frag) (x : Str) (st : Stmt) (f : Addr) (fd : FuncData) : Prop := FunD K x x (defArgs st) (defBody st) (defScope st) [] [] f fd
theorem scHash : FnScope ["_law_seed", "_law_index", "_law_mixed"] ["_law_seed", "_law_index"] (defScope sHash) := ⟨rfl, rfl, rfl, by decide +kernel, rfl, by decide +kernel, by decide +kernel⟩
theorem scGen : FnScope ["_law_script", "_law_index", "_law_seed"] ["_law_script", "_law_index"] (defScope sGen) := ⟨rfl, rfl, rfl, by decide +kernel, rfl, by decide +kernel, by decide +kernel⟩
theorem scRand : FnScope ["_law_generator_here", "_law_bound", "_law_drawn", "_law_turn"] ["_law_generator_here", "_law_bound"] (defScope sRand) := ⟨rfl, rfl, rfl, by decide +kernel, rfl, by decide +kernel, by decide +kernel⟩
theorem mod_in (x : Int) {m : Int} (h : 0 < m) : 0 ≤ x % m ∧ x % m < m := ⟨Int.emod_nonneg x (by omega), Int.emod_lt_of_pos x h⟩
section
variable {P : Program} {w : World} {K : PySem.W.Frag} {mg : Str → Option Value} {base : Heap} {f : Addr} {fd : FuncData}
theorem ok_hash (F : FnP K "_law_hash" sHash f fd) (z_int : mg "int" = none) : FnOk P w K mg base CX0 1 f fd ["_law_seed", "_law_index"] spHash := by
  have nd := scHash.nd
  refine F.ok scHash (fun vs H Q E h => ?_) (fun cdv A outer s H vs Q E hr h => ?_)
  · obtain ⟨s, i, rfl, _⟩ := h
    rfl
  · obtain ⟨s, i, rfl, s0, s1, i0, i1, q⟩ := h
    refine ⟨_, PSs.nox (pss_cons (ps_set (i := 2) nd rfl (Or.inl rfl) (pe_op op_mod (pe_callTy call_int1 (by rfl) z_int (by decide +kernel) (pa_cons (pe_op op_add (pe_op op_add (pe_op op_add (pe_op op_mul (pv 0) pe_int) (pe_op op_mul (pe_op op_mul pe_int (pv 1)) (pv 1))) (pe_op op_mul pe_int (pv 1))) pe_int) pa_nil)) pe_int))
 (pss_cons (ps_set (i := 2) nd rfl (Or.inl rfl) (pe_op op_mod (pe_callTy call_int1 (by rfl) z_int (by decide +kernel) (pa_cons (pe_op op_add (pe_op op_add (pe_op op_mul (pv 2) (pv 2)) (pe_op op_mul pe_int (pv 1))) pe_int) pa_nil)) pe_int))
 (pss_one (ps_ret (pe_op op_mod (pe_callTy call_int1 (by rfl) z_int (by decide +kernel) (pa_cons (pe_op op_mul (pv 2) pe_int) pa_nil)) pe_int))))), ?_⟩
    have c1 : CMul s 1597334 := .inl ⟨by omega, by omega⟩
    have c2 : CMul 22695477 i := .inl ⟨by decide, by decide⟩
    have c3 : CMul (22695477 * i) i := .inr ⟨by omega, by omega⟩
    have c4 : CMul 977 i := .inl ⟨by decide, by decide⟩
    refine ⟨_, rfl, _, _, rfl, rfl, c1, _, rfl, _, _, rfl, rfl, c2, _, rfl, _, _, rfl, rfl, c3, _, _, rfl, rfl, _, rfl, _, _, rfl, rfl, c4, _, _, rfl, rfl, _, _, rfl, rfl, .inl ⟨_, rfl, _, _, rfl, rfl, (by show (0 : Int) < 2147483629; decide), ?_⟩⟩
    obtain ⟨m0, m1⟩ := mod_in (s * 1597334 + 22695477 * i * i + 977 * i + 41) (m := 2147483629) (by decide)
    have c5 : CMul ((s * 1597334 + 22695477 * i * i + 977 * i + 41) % 2147483629) ((s * 1597334 + 22695477 * i * i + 977 * i + 41) % 2147483629) := .inl ⟨by omega, by omega⟩
    refine ⟨_, rfl, _, rfl, _, _, rfl, rfl, c5, _, rfl, _, _, rfl, rfl, .inl ⟨by decide, by decide⟩, _, _, rfl, rfl, _, _, rfl, rfl, .inl ⟨_, rfl, _, _, rfl, rfl, (by show (0 : Int) < 2147483587; decide), ?_⟩⟩
    refine ⟨_, rfl, _, _, rfl, rfl, .inr ⟨by decide, by decide⟩, .inl ⟨_, rfl, _, _, rfl, rfl, (by show (0 : Int) < 2147483647; decide), ?_⟩⟩
    obtain ⟨n0, n1⟩ := mod_in ((((s * 1597334 + 22695477 * i * i + 977 * i + 41) % 2147483629 * ((s * 1597334 + 22695477 * i * i + 977 * i + 41) % 2147483629) + 40503 * i + 9973) % 2147483587) * 69621) (m := 2147483647) (by decide)
    exact q _ n0 n1

theorem bits_small {m : Int} (h0 : 0 < m) (h1 : m < 10 ^ 100) : Builtin.Int.intBits m ≤ 340 := by
  refine intBits_le (k := 340) ?_
  have e : (10 : Int) ^ 100 < 2 ^ 340 := by decide
  have e2 : m < 2 ^ 340 := Int.lt_trans h1 e
  have e3 : ((m.natAbs : Nat) : Int) = m := Int.natAbs_of_nonneg (by omega)
  have e4 : ((m.natAbs : Nat) : Int) < ((2 ^ 340 : Nat) : Int) := by
    rw [e3]
    exact e2
  exact Int.ofNat_lt.mp e4
theorem ok_rand (F : FnP K "_law_random" sRand f fd) (oHash : Ok P w K mg base "_law_hash" 1 ["_law_seed", "_law_index"] spHash) (z_int : mg "int" = none) (z_range : mg "range" = none) :
    FnOk P w K mg base CX0 2 f fd ["_law_generator_here", "_law_bound"] spRand := by
  have nd := scRand.nd
  refine F.ok scRand (fun vs H Q E h => ?_) (fun cdv A outer s H vs Q E hr h => ?_)
  · obtain ⟨g, n, m, rfl, _⟩ := h
    rfl
  · obtain ⟨g, n, m, rfl, ⟨a, b, c, hg, a0, a1, b0, b1, c0, c1⟩, hn, m0, m1, q⟩ := h
    refine ⟨_, PSs.nox (pss_cons (ps_if (pt_cmpR op_gt (pe_ix ix_list (pv 0) pe_int (fun _ _ => rfl)) pe_int (nomark _))
        (pss_cons (ps_set (i := 2) nd rfl (Or.inl rfl) (pe_op op_mod (pe_callTy call_int1 (by rfl) z_int (by decide +kernel) (pa_cons (pe_ix ix_list (pv 0) pe_int (fun _ _ => rfl)) pa_nil)) (pv 1)))
          (pss_cons (ps_asg (pe_op op_fdivW (pe_ix ix_list (pv 0) pe_int (fun _ _ => rfl)) (pv 1)) (pg_sub (pv 0) pe_int set_list))
            (pss_one (ps_ret (pv 2))))) pss_nil)
      (pss_cons (ps_set (i := 2) nd rfl (Or.inl rfl) pe_int)
      (pss_cons (ps_for PassesOwn.never rfl (pi_range1 (by rfl) z_range (pa_cons (pe_op op_add pe_int (pe_op op_fdiv (pe_bits (pv 1)) pe_int)) pa_nil)) (pg_name (i := 3) nd rfl (Or.inl rfl))
        (pss_cons (ps_asg (pe_op op_add (pe_ix ix_list (pv 0) pe_int (fun _ _ => rfl)) pe_int) (pg_sub (pv 0) pe_int set_list))
          (pss_one (ps_set (i := 2) nd rfl (Or.inl rfl) (pe_op op_add (pe_op op_mul (pv 2) pe_int)
            (pe_callO oHash (hr.mono (by decide)) (by rfl) (pa_cons (pe_ix ix_list (pv 0) pe_int (fun _ _ => rfl)) (pa_cons (pe_ix ix_list (pv 0) pe_int (fun _ _ => rfl)) pa_nil))))))))
      (pss_one (ps_ret (pe_op op_mod (pe_callTy call_int1 (by rfl) z_int (by decide +kernel) (pa_cons (pv 2) pa_nil)) (pv 1))))))), ?_⟩
    refine ⟨.ref g, rfl, g, _, 0, _, rfl, rfl, SqL.of hg, rfl, _, _, rfl, rfl, _, rfl, ite2 (fun e => ?_) (fun e => ?_)⟩
    · have ap : 0 < a := of_decide_eq_true e
      refine ⟨.ref g, rfl, g, _, 0, _, rfl, rfl, SqL.of hg, rfl, .inl ⟨_, rfl, _, rfl, _, _, rfl, rfl, m0, ?_⟩⟩
      have e1 : (10 : Int) ^ 100 < 2 ^ 340 := by decide
      have mb : m.natAbs < 2 ^ 340 := by
        have e3 : ((m.natAbs : Nat) : Int) = m := Int.natAbs_of_nonneg (by omega)
        have e4 : ((m.natAbs : Nat) : Int) < ((2 ^ 340 : Nat) : Int) := by
          rw [e3]
          exact Int.lt_trans m1 e1
        exact Int.ofNat_lt.mp e4
      refine ⟨.ref g, rfl, g, _, 0, _, rfl, rfl, SqL.of hg, rfl, _, rfl, _, _, rfl, rfl, wide_div m0 mb (by decide) (by decide), .ref g, rfl, g, _, 0, 0, rfl, rfl, hg, rfl, _, rfl, ?_⟩
      obtain ⟨r0, r1⟩ := mod_in a m0
      refine q _ _ r0 r1 But.upd ⟨a / m, b, c, upd_same, Int.ediv_nonneg a0 (by omega), ?_, b0, b1, c0, by omega⟩
      exact Int.lt_of_le_of_lt (Int.ediv_le_self m a0) a1
    · have hb := bits_small m0 m1
      refine ⟨_, rfl, m, rfl, _, _, rfl, rfl, ⟨by decide, by decide⟩, _, _, rfl, rfl, _, rfl, by omega, by omega, ?_⟩
      refine for_range (lo := 0) (n := (1 + ((Builtin.Int.intBits m : Nat) : Int) / 30).toNat)
        (fun i σ H' => ∃ (d : Int) (y : Option V), σ = [some (.ref g), some (.int m), some (.int d), y] ∧ But H H' g ∧ H' g = some (.lst [.int a, .int b, .int (c + i)]))
        ⟨0, none, rfl, But.refl H g, by rw [hg]; simp⟩ ?_ ?_
      · rintro i σ H' hi ⟨d, y, rfl, bt, eg⟩
        refine ⟨.ref g, rfl, g, _, 2, _, rfl, rfl, SqL.of eg, rfl, _, _, rfl, rfl, .ref g, rfl, g, _, 2, 2, rfl, rfl, eg, rfl, ?_⟩
        have e2 : (upd H' g (.lst ([V.int a, .int b, .int (c + i)].set 2 (.int (c + i + 1))))) g = some (.lst [.int a, .int b, .int (c + i + 1)]) := upd_same
        refine ⟨_, rfl, _, _, rfl, rfl, .inr ⟨by decide, by decide⟩, .ref g, rfl, g, _, 1, _, rfl, rfl, SqL.of e2, rfl, .ref g, rfl, g, _, 2, _, rfl, rfl, SqL.of e2, rfl, ?_⟩
        refine ⟨b, c + i + 1, rfl, b0, b1, by omega, ?_, fun r r0 r1 => ?_⟩
        · have : i < 13 := by omega
          omega
        · refine ⟨_, _, rfl, rfl, _, _, rfl, bt.trans But.upd, ?_⟩
          have ec : c + ((i : Nat) : Int) + 1 = c + ((i + 1 : Nat) : Int) := by omega
          rw [e2, ec]
      · rintro σ H' ⟨d, y, rfl, bt, eg⟩
        refine ⟨_, rfl, .inl ⟨_, rfl, _, rfl, _, _, rfl, rfl, m0, ?_⟩⟩
        obtain ⟨r0, r1⟩ := mod_in d m0
        refine q _ _ r0 r1 bt ⟨a, b, _, eg, a0, a1, b0, b1, by omega, ?_⟩
        have : (1 + ((Builtin.Int.intBits m : Nat) : Int) / 30).toNat ≤ 13 := by omega
        omega

theorem cut_first (ns : List Int) : cutV (ns.map V.int) none (some 1) = (ns.take 1).map V.int := by
  unfold cutV
  rw [HT.sIx_none, show HT.sIx (ns.map V.int).length (ns.map V.int).length (some 1) = min 1 (ns.map V.int).length from HT.sIx_nat _ _ 1]
  cases ns with
  | nil => rfl
  | cons x r =>
    rw [List.map_cons, List.length_cons, show min 1 ((r.map V.int).length + 1) = 1 by omega]
    rfl
def spGen (K : PySem.W.Frag) : Sp := fun vs H Q _ => ∃ (a : Addr) (ns : List Int) (k : Nat), vs = [.ref a, .int k] ∧ SqL K H a (ns.map V.int) ∧ k < 100 ∧
  ∀ (H' : Hp) (g : Addr), Same H H' → H g = none → Dr H' g (1000 * k) → Q (.ref g) H'
theorem ok_gen (F : FnP K "_law_generator" sGen f fd) (z_int : mg "int" = none) (z_len : mg "len" = none) (z_sum : mg "sum" = none) (z_max : mg "max" = none) :
    FnOk P w K mg base CX0 1 f fd ["_law_script", "_law_index"] (spGen K) := by
  have nd := scGen.nd
  refine F.ok scGen (fun vs H Q E h => ?_) (fun cdv A outer s H vs Q E hr h => ?_)
  · obtain ⟨a, ns, k, rfl, _⟩ := h
    rfl
  · obtain ⟨a, ns, k, rfl, hS, hk, q⟩ := h
    refine ⟨_, PSs.nox (pss_cons (ps_set (i := 2) nd rfl (Or.inl rfl) (pe_ifExp (pt_cmpR op_lt (pv 1) (pe_callB call_len (by rfl) z_len boot_len (pa_cons (pv 0) pa_nil)) (nomark _)) (pe_ix ix_list (pv 0) (pv 1) (fun _ _ => rfl)) (pe_op op_mod (pe_callB (cr_sum rfl) (by rfl) z_sum (by decide +kernel) (pa_cons (pe_slice sl_list (pv 0) po_none (po_some pe_int)) pa_nil)) pe_int)))
 (pss_one (ps_ret (pe_lst (pa_cons (pe_op op_mod (pe_callTy call_int1 (by rfl) z_int (by decide +kernel) (pa_cons (pe_callB (call_max2 rfl) (by rfl) z_max (by decide +kernel) (pa_cons (pe_op op_sub (pv 2) (pe_op op_pow pe_int pe_int)) (pa_cons pe_int pa_nil))) pa_nil)) (pe_op op_powW (pe_op op_pow pe_int pe_int) pe_int)) (pa_cons (pe_op op_mod (pe_callTy call_int1 (by rfl) z_int (by decide +kernel) (pa_cons (pv 2) pa_nil)) pe_int) (pa_cons (pe_op op_mul pe_int (pv 1)) pa_nil))))))), ?_⟩
    have last : ∀ (H' : Hp) (sd : Int), Same H H' → (∀ g, H' g = none → H g = none) → tRet (tLst (tCons (tOp (rI (fun _ j => 0 < j) fun i j => .int (i % j)) (tCB (fun xs H Q => (∃ i, xs = [.int i] ∧ Q (.int i) H) ∨ ∃ k, xs = [.bl k] ∧ Q (.int (if k then 1 else 0)) H) (tCons (tCB (fun xs H Q => ∃ i j, xs = [.int i, .int j] ∧ Q (.int (if j > i then j else i)) H) (tCons (tOp (rI0 fun i j => .int (i - j)) (tVar 2) (tOp (rI CPow fun i j => .int (i ^ j.toNat)) (tC (.int 10)) (tC (.int 18)))) (tCons (tC (.int 0)) tNil))) tNil)) (tOp (rI CPowW fun i j => .int (i ^ j.toNat)) (tOp (rI CPow fun i j => .int (i ^ j.toNat)) (tC (.int 10)) (tC (.int 60))) (tC (.int 10)))) (tCons (tOp (rI (fun _ j => 0 < j) fun i j => .int (i % j)) (tCB (fun xs H Q => (∃ i, xs = [.int i] ∧ Q (.int i) H) ∨ ∃ k, xs = [.bl k] ∧ Q (.int (if k then 1 else 0)) H) (tCons (tVar 2) tNil)) (tC (.int 2147483647))) (tCons (tOp (rI CMul fun i j => .int (i * j)) (tC (.int 1000)) (tVar 1)) tNil)))) { nx := fun _ H' => Q .non H', rt := Q } [some (.ref a), some (.int k), some (.int sd)] H' := by
      intro H' sd sm fr
      refine ⟨_, rfl, _, _, rfl, rfl, ⟨by decide, by decide, by decide⟩, _, _, rfl, rfl, _, _, rfl, .inl ⟨_, rfl, _, _, rfl, rfl, ⟨by decide, by decide, by decide⟩, _, _, rfl, rfl, ⟨by decide, by decide +kernel⟩, _, _, rfl, rfl, (by show (0 : Int) < ((10 : Int) ^ (60 : Int).toNat) ^ (10 : Int).toNat; decide +kernel), ?_⟩⟩
      refine ⟨_, rfl, .inl ⟨_, rfl, _, _, rfl, rfl, (by show (0 : Int) < 2147483647; decide), _, rfl, _, _, rfl, rfl, .inl ⟨by decide, by decide⟩, by show 3 ≤ sizeLine; decide, fun p np => ?_⟩⟩
      obtain ⟨m0, m1⟩ := mod_in sd (m := 2147483647) (by decide)
      have e600 : ((10 : Int) ^ (60 : Int).toNat) ^ (10 : Int).toNat = 10 ^ 600 := by decide +kernel
      have p600 : (0 : Int) < 10 ^ 600 := by decide +kernel
      refine q _ p (sm.trans (same_new np)) (fr p np) ⟨_, _, _, upd_same, ?_, ?_, m0, m1, by omega, by omega⟩
      · rw [e600]
        exact (mod_in _ p600).1
      · rw [e600]
        exact (mod_in _ p600).2
    refine ⟨_, rfl, .ref a, rfl, _, (ns.map V.int).length, rfl, Or.inl ⟨_, hS, rfl⟩, _, _, rfl, rfl, _, rfl, ite2 (fun e => ?_) (fun e => ?_)⟩
    · have lt : (k : Int) < ((ns.map V.int).length : Nat) := of_decide_eq_true e
      have lt2 : k < ns.length := by
        rw [List.length_map] at lt
        omega
      have g : (ns.map V.int)[k]? = some (.int ns[k]) := by
        rw [List.getElem?_map, List.getElem?_eq_getElem lt2]
        rfl
      exact ⟨.ref a, rfl, _, rfl, a, _, _, _, rfl, rfl, hS, atI_nat g, last H _ (Same.refl H) fun _ z => z⟩
    · refine ⟨.ref a, rfl, _, rfl, a, _, rfl, hS, fun p np => ?_⟩
      rw [cut_first]
      refine ⟨p, ns.take 1, rfl, SqL.of upd_same, _, _, rfl, rfl, (by show (0 : Int) < 1000003; decide), ?_⟩
      refine last _ _ (same_new np) fun g ng => ?_
      by_cases eg : g = p
      · rw [eg]
        exact np
      · rw [upd_ne eg] at ng
        exact ng
end
end KB
set_option Elab.async false
set_option linter.all false
set_option maxRecDepth 100000
set_option maxHeartbeats 4000000
namespace XV
open PySem PySem.Spec PyProof.Rows L2
/-- any(t), t a tuple of flat data -/
def rAnyT (K : PySem.W.Frag) : List V → Hp → VK → Prop := fun vs H Q => ∃ (a : Addr) (xs : List V) (ds : List PyData), vs = [V.ref a] ∧ SqT K H a xs ∧ DpAll K H xs ds ∧ PyData.plainAll ds = true ∧ (∀ d ∈ ds, d.fits63) ∧ Q (.bl (ds.any PyData.truthy)) H
theorem call_anyT {X : Cx} (hc : X.calm = true) : CallR X (.builtin "any") (rAnyT X.K) := by
  intro pins s σ H vs us Q I r h
  obtain ⟨a, xs, ds, rfl, hs, hd, hp, hf, q⟩ := h
  obtain ⟨its, rv, ht, _⟩ := I.tuple hs
  rw [Vals.ref1 r]
  obtain ⟨as, hr⟩ := Dp.readsAll I ds xs its hd rv
  refine PySem.W.any_tuple_data (as := as) (I.ok.hd hc) (vs := its.toArray) (l := a) ?_ (xs := ds) (by simpa using hr) hp hf fun h' tk k => ?_
  · exact ht
  · exact ⟨.bl _, H, I.kept (t' := tk) k, rfl, q⟩
/-- a text times a number -/
theorem op_mulS {X : Cx} : OpR X (binaryOp .Mult) (fun x y H Q => ∃ (z : Str) (i : Int), x = .str z ∧ y = .int i ∧ MulOk z i ∧ Q (.str (Txt.mul z i)) H) := by
  intro pins s σ H x y v u Q I rx ry h
  obtain ⟨z, i, rfl, rfl, hok, q⟩ := h
  obtain ⟨t, rfl⟩ := rx
  obtain ⟨t2, rfl⟩ := ry
  exact SB.mul hok fun t' k => ⟨.str _, H, I.tok k, ⟨t', rfl⟩, q⟩
theorem ip_addS {X : Cx} : PIp X .Add (fun x y H Q => ∃ i j : Str, x = .str i ∧ y = .str j ∧ i.length + j.length ≤ sizeLine ∧ Q (.str (i ++ j)) H) := by
  intro pins s σ H x y v u Q I rx ry h
  exact iop_add_str pins s σ H x y v u Q I rx ry h
end XV
set_option Elab.async false
set_option linter.all false
set_option maxRecDepth 100000
set_option maxHeartbeats 2000000
/-! zip of a tuple (first) and a list (second). -/
namespace XV
open PySem PySem.Spec PyProof.Rows L2
/-- the tuple at a and the list at b, as they are when a turn begins; each turn's two items come in a pair of their own -/
def ItzM (K : PySem.W.Frag) (a b : Addr) : It where
  go := fun i H => ∃ (xs ys : List V) (x y : V), SqT K H a xs ∧ SqL K H b ys ∧ xs[i]? = some x ∧ ys[i]? = some y
  yld := fun i H v H' => ∃ T x y, v = .ref T ∧ H T = none ∧ H' = upd H T (.tup [x, y]) ∧ (∀ xs, SqT K H a xs → xs[i]? = some x) ∧ ∀ ys, SqL K H b ys → ys[i]? = some y
  stop := fun i H => ∃ xs ys : List V, (SqT K H a xs ∧ SqL K H b ys) ∧ (xs.length = i ∨ ys.length = i) ∧ i ≤ xs.length ∧ i ≤ ys.length
/-- where such a zip's parts stand, ahead of turn i -/
def AtM (a b z tI tO j k : Addr) (i : Nat) (h : Heap) : Prop :=
  IsZip h z tI tO .none ∧ IsPair h tI (.ref j) (.ref k) ∧ (∃ p q, IsPair h tO p q) ∧ h.IsTupleIter j a i ∧ h.IsListIter k b i
theorem sep_of {z tI tO j k a b : Addr} (D : ZipApart z tI tO j k a b) : ZipSep2 z tI tO j k [j, a] [k, b] where
  TIz := D.TIz
  TOz := D.TOz
  TITO := D.TITO
  TIi1 := D.TIi1
  mem1 := List.mem_cons_self
  zf1 := by simp [D.i1z.symm, D.l1z.symm]
  Tf1 := by simp [D.TOi1, D.l1TO.symm]
  TIi2 := D.TIi2
  mem2 := List.mem_cons_self
  zf2 := by simp [D.i2z.symm, D.l2z.symm]
  Tf2 := by simp [D.TOi2, D.l2TO.symm]
  sep1_2 := by simp [D.i12, D.l2i1.symm]
  sep2_1 := by simp [D.i12.symm, D.l1i2.symm]
theorem turnM {P : Program} {w : World} {K : PySem.W.Frag} {es : List Expr} {kk : Nat} {tp : Pos} {a b z tI tO j k : Addr} (D : ZipApart z tI tO j k a b) :
    Turn P w K (.Tuple es kk tp) (ItzM K a b) [z, tI, tO, j, k] z (AtM a b z tI tO j k) where
  mem := List.mem_cons_self
  obj := fun i h ⟨s1, s2, ⟨p, q, s3⟩, ⟨o1, e1, _, d1⟩, ⟨o2, e2, _, d2⟩⟩ c hc => by
    simp only [List.mem_cons, List.not_mem_nil, or_false] at hc
    rcases hc with rfl | rfl | rfl | rfl | rfl
    · exact ⟨_, s1, fun _ x => nomatch x⟩
    · exact ⟨_, s2, fun _ x => nomatch x⟩
    · exact ⟨_, s3, fun _ x => nomatch x⟩
    · exact ⟨o1, e1, fun _ x => by rw [d1] at x; cases x⟩
    · exact ⟨o2, e2, fun _ x => by rw [d2] at x; cases x⟩
  keep := fun i h h' ⟨s1, s2, ⟨p, q, s3⟩, s4, s5⟩ kp =>
    ⟨kp z (by simp) _ s1, kp tI (by simp) _ s2, ⟨p, q, kp tO (by simp) _ s3⟩, s4.at (fun o e => kp j (by simp) o e), s5.at (fun o e => kp k (by simp) o e)⟩
  item := by
    intro X eP ew eK calm i pins s σ H E I fp st gg
    subst eP ew eK
    obtain ⟨s1, s2, ⟨p0, q0, s3⟩, s4, s5⟩ := st
    obtain ⟨xs, ys, x, y, tx, ly, ex, ey⟩ := gg
    obtain ⟨us, ru, pu, _⟩ := I.tuple tx
    obtain ⟨vs, rv, pw, _⟩ := I.list ly
    obtain ⟨u, eu, rux⟩ := ru.get ex
    obtain ⟨v, ev, rvy⟩ := rv.get ey
    have zlt : z < s.heap.objs.size := Heap.lt_size s1
    have hu : i < us.toArray.size := by
      have := (List.getElem?_eq_some_iff.mp eu).1
      simpa using this
    have hv : i < vs.toArray.size := by
      have := (List.getElem?_eq_some_iff.mp ev).1
      simpa using this
    have hh : X.A.in1.handled = none := I.ok.hd calm
    refine wpAny_pyNext_zipD2_item (sep_of D) (Draws.tuple hh j a D.l1i1 us.toArray) (Draws.list hh k b D.l2i2 vs.toArray) s1 s2 s3 ⟨s4, pu⟩ ⟨s5, pw.isList⟩ hu hv fun x1 x2 h' tk d1 d2 z1 t1 n1 n2 new sz kp => ?_
    have e1 : x1 = u := Option.some.inj (d1.symm.trans (by simpa using eu))
    have e2 : x2 = v := Option.some.inj (d2.symm.trans (by simpa using ev))
    subst e1 e2
    refine ⟨_, rfl, wpAny_letOwnedTupleGo_zip (s := { s with heap := h', toks := tk }) z1 fun g z2 sb => ?_⟩
    have far : ∀ c, c = z ∨ c = tI ∨ c = tO ∨ c = j ∨ c = k → c < s.heap.objs.size := fun c hc => by
      rcases hc with rfl | rfl | rfl | rfl | rfl
      · exact zlt
      · exact Heap.lt_size s2
      · exact Heap.lt_size s3
      · obtain ⟨_, q, _⟩ := s4
        exact Heap.lt_size q
      · obtain ⟨_, q, _⟩ := s5
        exact Heap.lt_size q
    have fresh : g.get? s.heap.objs.size = some { cls := .type "tuple", data := .seq #[x1, x2] } := (sb.2 _ (Nat.ne_of_gt zlt)).trans new
    have ok2 : ObjOk X.prog X.w (upd H s.heap.objs.size (.tup [x, y])) g s.heap.objs.size (.tup [x, y]) := ⟨(by show 2 ≤ sizeLine; decide), [x1, x2], .cons rux (.cons rvy .nil), ⟨_, fresh, rfl, _, rfl⟩⟩
    have J := I.turnedNew (t' := tk) (h' := g) (ch := [z, tI, tO, j, k]) (fun c o out q => (sb.2 c (fun e => out (by simp [e]))).trans (kp c o (fun e => out (by simp [e])) (fun e => out (by simp [e])) (fun e => out (by simp [e])) (fun e => out (by simp [e])) q)) fp (Nat.le_refl _) ok2
    refine ⟨.ref s.heap.objs.size, _, J, rfl, ⟨_, x, y, rfl, I.hok.fresh (Nat.le_refl _), rfl, fun l hl => (I.tuple_inj hl tx) ▸ ex, fun l hl => (I.list_inj hl ly) ▸ ey⟩, ⟨z2, (sb.2 _ D.TIz).trans (kp _ _ D.TIz D.TITO D.TIi1 D.TIi2 s2), ⟨x1, x2, (sb.2 _ D.TOz).trans t1⟩, n1.1.at (fun o q => (sb.2 _ D.i1z).trans q), n2.1.at (fun o q => (sb.2 _ D.i2z).trans q)⟩, fun c hc => ?_⟩
    simp only [List.mem_cons, List.not_mem_nil, or_false] at hc
    rw [upd_ne (Nat.ne_of_lt (far c hc))]
    exact (fp c (by simpa using hc)).1
  done := by
    intro X eP ew eK calm i pins s σ H E I fp st gg
    subst eP ew eK
    obtain ⟨s1, s2, ⟨p0, q0, s3⟩, s4, s5⟩ := st
    obtain ⟨xs, ys, ⟨tx, ly⟩, stop, l1, l2⟩ := gg
    obtain ⟨us, ru, pu, _⟩ := I.tuple tx
    obtain ⟨vs, rv, pw, _⟩ := I.list ly
    have n1 := ru.length
    have n2 := rv.length
    have hh : X.A.in1.handled = none := I.ok.hd calm
    refine wpAny_pyNext_zipD2_end (sep_of D) (Draws.tuple hh j a D.l1i1 us.toArray) (Draws.list hh k b D.l2i2 vs.toArray) s1 s2 s3 ⟨s4, pu⟩ ⟨s5, pw.isList⟩ (by simp; omega) (by simp; omega) (by simp; omega) fun h' tk kp => ⟨rfl, ?_⟩
    exact I.turnedL (t' := tk) (ch := [z, tI, tO, j, k]) (fun c o out q => kp c o (fun e => out (by simp [e])) (fun e => out (by simp [e])) (fun e => out (by simp [e])) (fun e => out (by simp [e])) q) fp
  self := fun A i s Q E st q => wpAny_pyIter_zip st.1 q
/-- .. in zip(e, e2) -/
def iZipM (K : PySem.W.Frag) (ta : TA) : TI := fun σ H R => ta σ H fun vs H1 => ∃ a b xs ys, vs = [.ref a, .ref b] ∧ (SqT K H1 a xs ∧ SqL K H1 b ys) ∧ R (ItzM K a b) H1
theorem pi_zipM {X : Cx} {e e2 : Expr} {ta : TA} {p pos tp : Pos} {es : List Expr} {kk : Nat} (gl : Gl X "zip") (z_zip : X.mg "zip" = none) (ha : PA X [e, e2] ta)
    (hs : starEach [e, e2] X.env = (false, eval e X.env) :: starEach [e2] X.env := by rfl) (np : (backTo pos (starEach [e2] X.env)).any (·.1) = false := by rfl) :
    PI X (.Tuple es kk tp) (.Call (.Name "zip" p) [e, e2] [] pos) (iZipM X.K ta) := by
  refine ⟨fun pins s σ H R I h => Call_ (ld_blt I gl z_zip PyProof.Rows.boot_zip (PyProof.Rows.callWith_type1 (thn (ha.run pos pins s σ H _ I h) fun us s1 ⟨vs, H1, J, rv, q⟩ => ?_) hs np))⟩
  obtain ⟨a, b, xs, ys, rfl, ⟨tx, ly⟩, q⟩ := q
  obtain ⟨u1, u2, rfl, r1, r2⟩ := vals2 rv
  cases r1
  cases r2
  obtain ⟨ps, _, pu, _⟩ := J.tuple tx
  obtain ⟨qs, _, pw, _⟩ := J.list ly
  have lt1 : a < s1.heap.objs.size := by
    obtain ⟨o, ho, _⟩ := id pu
    exact Heap.lt_size ho
  have lt2 : b < s1.heap.objs.size := pw.lt
  refine zip_begins2 (begins_tuple a ps.toArray) (begins_list b qs.toArray) pu pw.isList fun h' z1 t1 t2 g1 g2 sz kp => wpAny_pyIter_zip z1 ?_
  have J2 : Inv X pins σ H1 { s1 with heap := h' } := J.kept (t' := s1.toks) kp
  refine ⟨s1.heap.objs.size + 4, [s1.heap.objs.size + 4, s1.heap.objs.size + 2, s1.heap.objs.size + 3, s1.heap.objs.size, s1.heap.objs.size + 1], _, _, H1, rfl, J2, turnM (PySem.W.ktu_apart s1.heap.objs.size a b lt1 lt2), ⟨z1, t1, ⟨_, _, t2⟩, ⟨_, g1, rfl, rfl⟩, ⟨_, g2, rfl, rfl⟩⟩, fun c hc => ?_, q⟩
  have le : s1.heap.objs.size ≤ c := by
    simp only [List.mem_cons, List.not_mem_nil, or_false] at hc
    rcases hc with rfl | rfl | rfl | rfl | rfl
    · exact Nat.le_add_right _ 4
    · exact Nat.le_add_right _ 2
    · exact Nat.le_add_right _ 3
    · exact Nat.le_refl _
    · exact Nat.le_add_right _ 1
  exact J.fpOk le (J.hok.fresh le)
end XV
set_option Elab.async false
set_option linter.all false
set_option maxRecDepth 100000
set_option maxHeartbeats 2000000
namespace XV
open PySem PySem.Spec PyProof.Rows L2
/-- a comprehension over zip of a tuple and a list of one length -/
theorem lc_zipM {K : PySem.W.Frag} {a b : Addr} {xs ys : List V} {g : TG} {tt : TT} {te : TE} {vs : List Nat} {σ : L2.St} {H1 : Hp} {D : Addr} {Qd : Hp → Prop} (hl : xs.length = ys.length) (Pv : Nat → Hp → Prop) (h0 : Pv 0 (upd H1 D (.lst [])))
    (hq : ∀ i H, Pv i H → SqT K H a xs ∧ SqL K H b ys)
    (hs : ∀ (i : Nat) (x y : V) (T : Addr) (H : Hp), xs[i]? = some x → ys[i]? = some y → Pv i H → H T = none → g (.ref T) (wipe σ vs) (upd H T (.tup [x, y])) fun σ2 H2 => wipe σ2 vs = wipe σ vs ∧ tt σ2 H2 fun c H3 =>
      if c = true then te σ2 H3 fun r H4 => ∃ acc, H4 D = some (.lst acc) ∧ acc.length < sizeLine ∧ Pv (i + 1) (upd H4 D (.lst (acc ++ [r]))) else Pv (i + 1) H3)
    (hd : ∀ H, Pv xs.length H → Qd H) :
    ∃ W : Nat → Nat → Hp → Prop, (∃ m, W 0 m (upd H1 D (.lst []))) ∧ ∀ i m H, W i m H →
      ((ItzM K a b).stop i H ∧ Qd H) ∨ ((ItzM K a b).go i H ∧ ∃ Nx : Hp → Prop, (∀ H', Nx H' → ∃ m', m' < m ∧ W (i + 1) m' H') ∧ ∀ x H', (ItzM K a b).yld i H x H' → g x (wipe σ vs) H' fun σ2 H2 => wipe σ2 vs = wipe σ vs ∧ tt σ2 H2 fun c H3 =>
        if c = true then te σ2 H3 fun r H4 => ∃ acc, H4 D = some (.lst acc) ∧ acc.length < sizeLine ∧ Nx (upd H4 D (.lst (acc ++ [r]))) else Nx H3) := by
  refine ⟨fun i m H => m + i = xs.length ∧ Pv i H, ⟨xs.length, rfl, h0⟩, ?_⟩
  rintro i m H ⟨em, p⟩
  obtain ⟨q1, q2⟩ := hq i H p
  cases m with
  | zero =>
    have e : i = xs.length := by omega
    subst e
    exact .inl ⟨⟨xs, ys, ⟨q1, q2⟩, .inl rfl, Nat.le_refl _, by omega⟩, hd H p⟩
  | succ m =>
    have l1 : i < xs.length := by omega
    have l2 : i < ys.length := by omega
    have g1 := List.getElem?_eq_getElem l1
    have g2 := List.getElem?_eq_getElem l2
    refine .inr ⟨⟨xs, ys, _, _, q1, q2, g1, g2⟩, Pv (i + 1), fun H' p' => ⟨m, Nat.lt_succ_self m, by omega, p'⟩, ?_⟩
    rintro v H' ⟨T, x, y, rfl, nT, rfl, f1, f2⟩
    exact hs i x y T H (f1 xs q1) (f2 ys q2) p nT
/-- ix of a tuple, len of a text: where the part of the heap must be told -/
theorem ix_tupK {X : Cx} {K : PySem.W.Frag} (e : X.K = K) : IxR X (rIxT K) := by
  subst e
  exact ix_tup
theorem ix_listK {X : Cx} {K : PySem.W.Frag} (e : X.K = K) : IxR X (rIxL K) := by
  subst e
  exact ix_list
theorem cr_sumK {X : Cx} {K : PySem.W.Frag} (e : X.K = K) (hc : X.calm = true) : CallR X (.builtin "sum") (rSum K) := by
  subst e
  exact cr_sum hc
theorem pi_listK {X : Cx} {K : PySem.W.Frag} {tg l : Expr} {tl : TE} (e : X.K = K) (hl : PE X l tl) : PI X tg l (iList K tl) := by
  subst e
  exact pi_list hl
end XV
set_option Elab.async false
set_option linter.all false
set_option maxRecDepth 100000
set_option maxHeartbeats 4000000
/-! Defs that are called where no repr is under way: what is around them has no guards. -/
namespace XV
open PySem PySem.Spec PyProof.Rows L2
structure FnG (P : Program) (w : World) (K : PySem.W.Frag) (mg : Str → Option Value) (base : Heap) (Z : CXT) (k : Nat) (f : Addr) (fd : FuncData) (ps : List Str) (sp : Sp) : Prop where
  gl : ∀ l H Q E, sp l H Q E → l.length = ps.length
  go : ∀ (A : Around) (o : List Env) (s : Shared) (H : Hp) (ar : Args) (us : List Value) (l : List V) (Q : VK) (E : XK), A.guards = some [] → Room k A → Env0 P w K mg base A o s H → BindsTo s fd ar (ps.zip us) → Vals l us → sp l H Q E →
    codeAny (model P w) A (.call (.ref f) ar) (CR Z o P w H s Q E) s
theorem FnG.of {P : Program} {w : World} {K : PySem.W.Frag} {mg : Str → Option Value} {base : Heap} {Z : CXT} {k : Nat} {f : Addr} {fd : FuncData} {ps : List Str} {sp : Sp} (F : FnOk P w K mg base Z k f fd ps sp) : FnG P w K mg base Z k f fd ps sp :=
  ⟨F.len, fun A o s H ar us l Q E _ => F.run A o s H ar us l Q E⟩
section
variable {P : Program} {w : World} {K : PySem.W.Frag} {mg : Str → Option Value} {base : Heap} {x qual : Str} {params : Arguments} {body : List Stmt} {scope : Scope} {dvs : List V} {kws : List (Str × V)} {f : Addr} {fd : FuncData}
/-- a def by its body, where nothing guards -/
theorem okG {Z : CXT} {N ps : List Str} {k : Nat} {sp : Sp} (F : FunD K x qual params body scope dvs kws f fd) (S : FnScope N ps scope) (gl : ∀ l H Q E, sp l H Q E → l.length = ps.length)
    (bd : ∀ (cdv : Value) (A : Around) (o : List Env) (s : Shared) (H : Hp) (l : List V) (Q : VK) (E : XK), (A.deeper (envOfC qual scope s.heap.objs.size f cdv)).guards = some [] → Room k (A.deeper (envOfC qual scope s.heap.objs.size f cdv)) → sp l H Q E →
      ∃ t, PSs (cxOf Z P w K mg base N qual scope f cdv A o s H E) body t ∧ t { nx := fun _ H' => Q .non H', rt := Q } (start N l) H) : FnG P w K mg base Z (k + 1) f fd ps sp := by
  obtain ⟨oc, od, dV, kV, doc, pm, an, cdv, ct, osl, rfl, lk, hcd, _, _⟩ := F.ex
  refine ⟨gl, fun A o s H ar us l Q E ag hr e0 hb r hs => ?_⟩
  have hlen := gl _ _ _ _ hs
  have inK : K.In s.heap := e0.mod.kin.keeps fun b ob e => (e0.bs b ob e).1
  have nol : s.heap.NoLimit := e0.mod.nolimit.keeps fun b ob e => (e0.bs b ob e).1
  have kinds : ∀ y ∈ ps.zip us, scope.names.lookup y.1 = some .local ∨ (scope.names.lookup y.1 = some .cell ∧ ((cellsFrom (s.heap.objs.size + 1) scope.names []).lookup y.1).isSome = true) := by
    rintro ⟨n, v⟩ hy
    exact (S.par n (List.of_mem_zip hy).1).imp id fun q => ⟨q, PySem.W.cellsFrom_some _ _ _ (.inl q)⟩
  refine codeAny_call_function hr.depth (inK _ _ lk) rfl S.co S.gen rfl (PySem.W.codeRec_of inK hcd) (hb _ _ _ _ ?_)
  refine wpAny_newFunctionEnv_cells S.kind kinds fun env he s1 xx => ?_
  subst he
  refine ⟨nol.keeps xx.toInCall.keep, codeAny_func ?_⟩
  obtain ⟨t, ht, hq⟩ := bd cdv A o s H l Q E (show A.guards = some [] from ag) (hr.deeper _) hs
  have J0 := inv_start (CX := Z) (E := E) S hr.hd e0 hlen r xx
  refine wpAny_mono (ht.run [] s1 (start N l) H _ J0 hq) (fun fl s' z => ?_) fun e s' z => z
  have done : ∀ {τ : L2.St} {H' : Hp} {v : V} {u : Value}, Inv (cxOf Z P w K mg base N qual scope f cdv A o s H E) [] τ H' s' → RelV v u → Q v H' → CE o P w H s Q u s' := fun J rv q => ⟨_, _, J.os, J.bare, J.base, J.hok, rv, q⟩
  cases fl with
  | next =>
    obtain ⟨τ, H', J, q⟩ := z
    exact done (v := V.non) (u := Value.none) J rfl q
  | ret u =>
    obtain ⟨v, τ, H', J, rv, q⟩ := z
    exact done J rv q
  | brk =>
    obtain ⟨_, _, _, q⟩ := z
    exact q.elim
  | cont =>
    obtain ⟨_, _, _, q⟩ := z
    exact q.elim
end
/-- the module's name x is a def that keeps sp where nothing guards -/
structure OkG (P : Program) (w : World) (K : PySem.W.Frag) (mg : Str → Option Value) (base : Heap) (x : Str) (k : Nat) (ps : List Str) (sp : Sp) : Prop where
  ex : ∃ f fd, FnG P w K mg base CX0 k f fd ps sp ∧ mg x = some (.ref f) ∧ PySem.W.keepIn K (.ref f) = true ∧ Binds K fd ps []
section
variable {X : Cx} {k : Nat} {f : Addr} {fd : FuncData} {ps : List Str} {sp : Sp} {x : Str} {e : Expr} {es : List Expr} {t : TA} {p pos : Pos}
theorem run_g {pins : List (Addr × Obj)} {σ : L2.St} {H : Hp} {s : Shared} {Q : VK} {us : List Value} {l : List V} (F : FnG X.prog X.w X.K X.mg X.base CX0 k f fd ps sp) (ag : X.A.guards = some []) (hr : Room k X.A) (hb : Binds X.K fd ps [])
    (I : Inv X pins σ H s) (r : Vals l us) (h : sp l H Q E0) : wpAny (model X.prog X.w) X.A (call (.ref f) us) (EP X pins σ Q) X.xe s := by
  have hl : us.length = ps.length := r.length ▸ F.gl _ _ _ _ h
  have b := hb s us I.kIn (by rw [List.append_nil]; exact hl)
  rw [List.append_nil] at b
  refine wpAny_call (codeAny_mono (F.go X.A X.stack s H ⟨us, []⟩ us l Q E0 ag hr I.env0 b r h) fun r' s' hq => ?_)
  cases r' with
  | error er => exact hq.elim
  | ok fl => cases fl with
    | ret u => exact I.after hq
    | next => exact hq.elim
    | brk => exact hq.elim
    | cont => exact hq.elim
theorem pe_callG (o : OkG X.prog X.w X.K X.mg X.base x k ps sp) (ag : X.A.guards = some []) (hr : Room k X.A) (hg : Gl X x) (ha : PA X (e :: es) t) (hdb : (x == ("__debug__" : Str)) = false := by decide)
    (he : starEach (e :: es) X.env = (false, eval e X.env) :: starEach es X.env := by rfl) (hpl : (backTo pos (starEach es X.env)).any (·.1) = false := by rfl) :
    PE X (.Call (.Name x p) (e :: es) [] pos) (fun σ H Q => t σ H fun l H1 => sp l H1 Q E0) := by
  obtain ⟨f, fd, F, hm, hk, b⟩ := o.ex
  refine ⟨fun pins s σ H Q I h => ?_⟩
  refine wpAny_Call_Name_kw (ld_glob I hg hm ?_ hdb)
  refine PySem.W.callWith_K (h₀ := X.base) I.ok.mod.kin hk (thn (ha.run pos pins s σ H _ I h) fun us s1 z => ?_) he hpl
  obtain ⟨l, H1, I1, r, q⟩ := z
  exact ⟨I1.kIn, run_g F ag hr b I1 r q⟩
theorem pe_callG0 (o : OkG X.prog X.w X.K X.mg X.base x k ps sp) (ag : X.A.guards = some []) (hr : Room k X.A) (hg : Gl X x) (hdb : (x == ("__debug__" : Str)) = false := by decide) :
    PE X (.Call (.Name x p) [] [] pos) (fun σ H Q => sp [] H Q E0) := by
  obtain ⟨f, fd, F, hm, hk, b⟩ := o.ex
  refine ⟨fun pins s σ H Q I h => ?_⟩
  refine wpAny_Call_Name_kw (ld_glob I hg hm ?_ hdb)
  exact PySem.W.callWith_K0 I.kIn hk (run_g (us := []) F ag hr b I .nil h)
end
theorem OkG.mk' {P : Program} {w : World} {K : PySem.W.Frag} {mg : Str → Option Value} {base : Heap} {x : Str} {k : Nat} {ps : List Str} {sp : Sp} {body : List Stmt} {params : Arguments} {scope : Scope} {f : Addr} {fd : FuncData}
    (F : FunD K x x params body scope [] [] f fd) (g : mg x = some (.ref f)) (b : ∀ (kV doc pm : Value) (an : Option Addr) (cdv ct : Value) (us : List Value), us.length = ps.length → bindArgs (PySem.W.fnOf x x params body scope .none kV doc pm an cdv ct) ⟨us, []⟩ = pure (ps.zip us))
    (ok : FnG P w K mg base CX0 k f fd ps sp) : OkG P w K mg base x k ps sp := ⟨f, fd, ok, g, F.kp, F.bindsN b⟩
end XV
set_option Elab.async false
set_option linter.all false
set_option maxRecDepth 100000
set_option maxHeartbeats 4000000
/-! The end of a law whose def is told of where nothing guards. -/
namespace XV
open PySem PySem.Spec PyProof.Rows L2
theorem law_g {P : Program} {w : World} {K : PySem.W.Frag} {mg mb : Str → Option Value} {k : Nat} {fa a : Addr} {fd : FuncData} {x : Str} {sp : Sp} {s : Shared} {us : List Value} {ns : List Int}
    (KX : K.In s.heap) (gn : s.heap.Ns mainGlobals mg) (bn : s.heap.Ns builtinsNs mb) (bb : ∀ y : Str, y ≠ "__name__" → mb y = bootBuiltins y) (nl : s.heap.NoLimit) (g0 : s.gens = #[])
    (ha : s.heap.get? a = some { cls := .type "list", data := .seq us.toArray }) (hi : IntsAre us ns) (hl : ns.length ≤ sizeLine) (hr : Room k callerA)
    (F : ∀ base : Heap, K.In base → base.Ns mainGlobals mg → FnG P w K mg base CX0 k fa fd [x] sp) (hb : ∀ (s' : Shared) (u : Value), BindsTo s' fd ⟨[u], []⟩ [(x, u)])
    (hsp : ∀ H : Hp, Only H → SqL K H a (ns.map V.int) → sp [.ref a] H (fun v _ => v = .bl true) fun _ _ _ => False) :
    codeAny (model P w) callerA (.call (.ref fa) ⟨[.ref a], []⟩) (fun r s' => r = .ok (.ret (.bool true)) ∧ OldK s.heap s'.heap ∧ s'.os = s.os ∧ AllBare s'.gens) s := by
  have rv := vals_ints hi
  have len := hi.length
  -- H tells of the script alone, or of nothing
  have main : ∀ H : Hp, Only H → SqL K H a (ns.map V.int) → HOk P w H s.heap → (∀ b, H b ≠ none → b = a) → (H a ≠ none → K.lookup a = none) →
      codeAny (model P w) callerA (.call (.ref fa) ⟨[.ref a], []⟩) (fun r s' => r = .ok (.ret (.bool true)) ∧ OldK s.heap s'.heap ∧ s'.os = s.os ∧ AllBare s'.gens) s := by
    intro H only told ok alone notK
    have part : ∀ {b : Addr} {o : Obj}, s.heap.get? b = some o → H b = none → (hidT s.heap H).get? b = some o := fun e n => hidT_get e n
    have dictN : ∀ {b : Addr} {o : Obj} {es : Array DictEntry} {ep : Nat}, s.heap.get? b = some o → o.data = .dict es ep → H b = none := by
      intro b o es ep e d
      by_cases q : H b = none
      · exact q
      · obtain rfl := alone b q
        rw [ha] at e
        cases e
        exact nomatch (show Data.seq us.toArray _ = Data.dict es ep from d)
    have nsP : ∀ {b : Addr} {m : Str → Option Value}, s.heap.Ns b m → (hidT s.heap H).Ns b m := by
      rintro b m ⟨o, es, ep, e, d, r⟩
      exact ⟨o, es, ep, part e (dictN e d), d, r⟩
    have KP : K.In (hidT s.heap H) := fun b o e => part (KX b o e) (by
      by_cases q : H b = none
      · exact q
      · obtain rfl := alone b q
        rw [notK q] at e
        cases e)
    have md : Mod K mg (hidT s.heap H) := ⟨KP, nsP gn, ⟨mb, nsP bn, bb⟩, nl.imp fun _ z => ⟨nsP z.1, z.2⟩⟩
    have st : Env0 P w K mg (hidT s.heap H) callerA [] s H := { frames := rfl, mod := md, bs := fun b o e => of_hidT e, bsz := Nat.le_of_eq (hidT_size _ _), funs := trivial, frf := fun b z => absurd (show b ∈ ([] : List Addr) from z) (by simp), hok := ok, bare := .of_eq g0 }
    refine codeAny_mono ((F _ KP (nsP gn)).go callerA [] s H ⟨[.ref a], []⟩ [.ref a] [.ref a] _ _ rfl hr st (hb s (.ref a)) (.cons rfl .nil) (hsp H only told)) fun r s' h => ?_
    cases r with
    | error er => exact h.elim
    | ok fl => cases fl with
      | next => exact h.elim
      | brk => exact h.elim
      | cont => exact h.elim
      | ret u =>
        obtain ⟨v, H', os, bare, un, ok', r', q⟩ := h
        obtain rfl : v = .bl true := q
        obtain rfl : u = Value.bool true := r'
        refine ⟨rfl, OldK.of_keep fun b o e => ?_, os, bare⟩
        by_cases q : H b = none
        · exact un.keep b o e q (fun z => nomatch (show b ∈ ([] : List Addr) from z)) (by simp)
        · rcases only b with z | ⟨ob, xs, z⟩
          · exact absurd z q
          · obtain ⟨e1, _⟩ := ok b _ z
            obtain ⟨e2, _⟩ := ok' b _ (un.frzs b ob _ z)
            rw [e] at e1
            cases e1
            exact e2
  cases hk : K.lookup a with
  | some o =>
    obtain rfl := Option.some.inj (ha.symm.trans (KX a o hk))
    exact main (fun _ => none) (fun _ => .inl rfl) (.inr ⟨_, us.toArray, _, hk, rfl, rfl, rfl, by rw [List.size_toArray, len]; exact hl, by simpa using rv⟩) (fun b u z => nomatch (show (none : Option HO) = some u from z)) (fun b z => absurd rfl z) fun z => absurd rfl z
  | none =>
    let o1 : Obj := { cls := .type "list", data := .seq us.toArray }
    have at_ : ∀ b : Addr, b = a → (fun b : Addr => if b = a then some (HO.frz o1 (.lst (ns.map V.int))) else none) b = some (.frz o1 (.lst (ns.map V.int))) := fun b e => if_pos e
    have off : ∀ b : Addr, b ≠ a → (fun b : Addr => if b = a then some (HO.frz o1 (.lst (ns.map V.int))) else none) b = none := fun b e => if_neg e
    refine main (fun b => if b = a then some (.frz o1 (.lst (ns.map V.int))) else none) (fun b => ?_) (.inl (.inr ⟨o1, if_pos rfl⟩)) (fun b u z => ?_) (fun b z => ?_) fun _ => hk
    · by_cases e : b = a
      · exact .inr ⟨_, _, at_ b e⟩
      · exact .inl (off b e)
    · by_cases e : b = a
      · cases (at_ b e).symm.trans z
        subst e
        exact ⟨ha, by rw [List.length_map]; exact hl, us, _, rv, ha⟩
      · cases (off b e).symm.trans z
    · by_cases e : b = a
      · exact e
      · exact absurd (off b e) z
theorem walk_ofG {l : PySem.W.OpenLaw} {n k : Nat} {q : Program} {loose : List Str} {XP : (Str → Option Value) → Heap → Prop} {YP : World → Heap → Prop} {d : DefRec} {x : Str}
    (hn : l.most = some n) (hz : n ≤ sizeLine) (hd : d.params.defaults = []) (hr : Room k callerA)
    (F : ∀ (w : World) (mg : Str → Option Value) (fa : Addr) (h : Heap), YP w h → h.Ns mainGlobals mg → mg d.name = some (.ref fa) →
      ∃ (K : PySem.W.Frag) (fd : FuncData) (sp : Sp), K.In h ∧ (∀ (s : Shared) (u : Value), BindsTo s fd ⟨[u], []⟩ [(x, u)]) ∧
        (∀ (H : Hp) (a : Addr) (ns : List Int), ns.length ≤ n → Only H → SqL K H a (ns.map V.int) → sp [.ref a] H (fun v _ => v = .bl true) fun _ _ _ => False) ∧
        ∀ base : Heap, K.In base → base.Ns mainGlobals mg → FnG l.prog w K mg base CX0 k fa fd [x] sp) :
    PySem.W.WalkO q loose XP YP l.row.toRowW d [] (fun f vs => PySem.call f vs) := by
  refine Att.attach_call hn hd fun w s₀ s₁ mg mb fa o pm cd doc a us ns G Y ho hd' hcd hmg hobj hints hlen hg => ?_
  obtain ⟨K, fd, sp, KX, hb, hsp, hF⟩ := F w mg fa _ Y G.T.g hmg
  exact law_g KX G.T.g G.T.b G.T.builtins G.T.nolimit hg hobj hints (Nat.le_trans hlen hz) hr hF hb fun H hO hS => hsp H a ns hlen hO hS
end XV
set_option Elab.async false
set_option linter.all false
set_option maxRecDepth 100000
set_option maxHeartbeats 4000000
/-! An error that an except suite has caught, held in a name behind the suite. -/
namespace XV
open PySem PySem.Spec PyProof.Rows L2
/-- at a: an error of the class cls that was raised and caught, its dict at d -/
def exz (a : Addr) (cls : Value) (d : Option Addr) : HO := .ext fun h => ∃ (oe : Obj) (vs : Array Value), h.get? a = some oe ∧ Zc cls d oe ∧ oe.data = .fields vs
theorem exz_ok {P : Program} {w : World} {H : Hp} {h : Heap} {a : Addr} {cls : Value} {d : Option Addr} {oe : Obj} {vs : Array Value} (e : h.get? a = some oe) (z : Zc cls d oe) (f : oe.data = .fields vs) : ObjOk P w H h a (exz a cls d) :=
  ⟨⟨oe, vs, e, z, f⟩, ⟨oe, e⟩, fun _ _ y k => y.elim fun o y => y.elim fun v y => ⟨o, v, k o y.1, y.2⟩⟩
theorem exz_at {P : Program} {w : World} {H : Hp} {h : Heap} {a : Addr} {cls : Value} {d : Option Addr} (hok : HOk P w H h) (e : H a = some (exz a cls d)) : ∃ (oe : Obj) (vs : Array Value), h.get? a = some oe ∧ Zc cls d oe ∧ oe.data = .fields vs := by
  have x : ObjOk P w H h a (.ext fun h => ∃ (oe : Obj) (vs : Array Value), h.get? a = some oe ∧ Zc cls d oe ∧ oe.data = .fields vs) := hok a _ e
  exact x.1
/-- what is there, new since the entry and not told of, is told of -/
theorem tell {X : Cx} {pins : List (Addr × Obj)} {σ : L2.St} {H : Hp} {s : Shared} {a : Addr} {cls : Value} {d : Option Addr} {oe : Obj} {vs : Array Value} (I : Inv X pins σ H s) (e : s.heap.get? a = some oe) (z : Zc cls d oe) (f : oe.data = .fields vs)
    (na : H a = none) (n0 : X.s_0.heap.get? a = none) (nL : a ≠ X.env.locals) (np : ∀ p ∈ X.pn ++ pins, p.1 ≠ a) : Inv X pins σ (upd H a (exz a cls d)) s := by
  have nc : ∀ x c, X.env.cells.lookup x = some c → c ≠ a := fun x c l q => by
    obtain ⟨v, o, ho, hd⟩ := I.cell x c l
    rw [q, e] at ho
    cases ho
    rw [f] at hd
    cases hd
  refine { ok := I.ok, os := I.os, bare := I.bare, base := ?_, loc := I.loc, cell := I.cell, free := ?_, freeC := fun x c l => ?_, pin := fun p hp => ?_, hok := fun b o q => ?_, len := I.len }
  · refine { keep := I.base.keep, slot := I.base.slot, free := fun b o q n hx => ?_, there := I.base.there, tups := fun b xs q => ?_, frzs := fun b o u q => ?_, tbls := fun b ps q => ?_ }
    · rw [upd_ne (fun y => by rw [y, n0] at q; cases q)]
      exact I.base.free b o q n hx
    · have y := I.base.tups b xs q
      rw [upd_ne (ne_of_none y na)]
      exact y
    · have y := I.base.frzs b o u q
      rw [upd_ne (ne_of_none y na)]
      exact y
    · obtain ⟨m, y⟩ := I.base.tbls b ps q
      exact ⟨m, by rw [upd_ne (ne_of_none y na)]; exact y⟩
  · rw [upd_ne (Ne.symm nL)]
    exact I.free
  · rw [upd_ne (nc x c l)]
    exact I.freeC x c l
  · obtain ⟨p1, p2, p3⟩ := I.pin p hp
    exact ⟨p1, by rw [upd_ne (np p hp)]; exact p2, p3⟩
  · by_cases hb : b = a
    · subst hb
      rw [upd_same] at q
      cases q
      exact exz_ok e z f
    · rw [upd_ne hb] at q
      exact (I.hok b o q).stay (fun c w' _ y => y) (fun c y => by rw [upd_ne (ne_of_none y na)]; exact y) fun c xs y => by
        rw [upd_ne (ne_of_none y na)]
        exact y
/-- the clause's wish: behind its suite the error is told of -/
def wKeep (K : PySem.W.Frag) (c : Value) (i : Nat) (ts : Addr → Value → Option Addr → TS) (Wout : WX) (D : Ends) : WX := fun cls d σ H => ∃ b, PySem.W.exmOne K cls c = some b ∧
  (b = true → ∀ a, H a = none → ts a cls d { nx := fun σ' H' => H' a = none → D.nx (σ'.set i none) (upd H' a (exz a cls d)), rt := fun _ _ => False, bk := fun _ _ => False, ct := fun _ _ => False } (σ.set i (some (.ref a))) H) ∧ (b = false → Wout cls d σ H)
section
variable {X : Cx} {x n : Str} {c : Value} {i : Nat} {body suite : List Stmt} {b₀ : Stmt} {np pos pos' : Pos} {tb : WX → TS} {ts : Addr → Value → Option Addr → TS} {Wout : WX}
theorem ps_try_keep (hs : X.stack = X.env :: X.outer) (hf : X.env.frame = some X.env.locals) (hex : X.ex = []) (nd : X.N.Nodup) (hi : X.N[i]? = some n) (hln : X.env.kindOf n = some .local) (hc : Names X x c) (tk : Takes X Wout)
    (hb : ∀ (W : WX) (pn : List (Addr × Obj)) (xe : Value → Shared → Prop), Takes (X.tr pn xe) W → PassesOwn (model X.prog X.w) X.A X.env xe → PSs (X.tr pn xe) body (tb W))
    (hsu : ∀ (a : Addr) (oe : Obj) (cls : Value) (d : Option Addr) (pn : List (Addr × Obj)), Zc cls d oe → (∃ vs, oe.data = .fields vs) → PSs (X.suite a ((a, oe) :: pn)) (b₀ :: suite) (ts a cls d)) :
    PS X (.Try body [.ExceptHandler (some (.Name x np)) (some n) (b₀ :: suite) pos'] [] [] pos) (fun D σ H => tb (wKeep X.K c i ts Wout D) D σ H) := by
  refine ⟨fun pins s σ H D I h => ?_⟩
  have ok := I.ok
  have fr : X.A.frames = some (X.env :: X.outer) := ok.frames.trans (congrArg some hs)
  have lc : Loc X.env.scope n := .inl hln
  let catch_ : Value → Shared → Prop := fun e s₁ => wpAny (model X.prog X.w) X.A (noteFrame e X.env) (fun _ s₂ => wpAny (model X.prog X.w) X.A (setFlight e none) (fun _ s₃ =>
    wpAny (model X.prog X.w) X.A (handleBy e X.env [.ExceptHandler (some (.Name x np)) (some n) (b₀ :: suite) pos']) (SP X pins D) X.xe s₃) X.xe s₂) X.xe s₁
  refine wpAny_Try_except ?_
  refine wpAny_mono ((hb (wKeep X.K c i ts Wout D) (X.pn ++ pins) catch_ (fun u s' air => ?_) PassesOwn.looking).run [] s σ H D (I.toTry _) h) (fun fl s1 out => ?_) (fun e s1 z => z)
  · obtain ⟨a, B, sI, pins1, σ1, H1, cls, d, rfl, J1, nb, up, sky, na, os, ag, b, known, yes, no⟩ := air
    have J : Inv X pins σ1 H1 sI := J1.ofTry ok
    have skyE : Sky B (X.env :: X.outer) a (Zc cls d) X.env.locals s'.heap := hs ▸ sky
    -- the error is new since the entry
    have nB : B.get? a = none := by
      rcases skyE with q | q | q
      · exact q.2.1
      · exact q.2.1
      · exact q.2.1
    show wpAny (model X.prog X.w) X.A (noteFrame (.ref a) X.env) _ _ _
    refine Sky.land Zc.steady fr hf skyE fun h3 fly3 up3 => ?_
    have J3 : Inv X pins σ1 H1 { s' with heap := h3 } := J.landed nb fly3.1 (up.trans up3) os ag
    obtain ⟨oe3, vs3, e3, z3, f3⟩ := fly3.there
    have nfr : a ∉ frs (X.env :: X.outer) := fun m => by
      obtain ⟨_, o, e, nf⟩ := fly3.2.2.1.mem m
      rw [e3] at e
      cases e
      exact nf _ f3
    have nL : a ≠ X.env.locals := fun q => nfr (List.mem_filterMap.mpr ⟨X.env, List.mem_cons_self, q ▸ hf⟩)
    have nF : a ∉ X.fs := fun m => (List.mem_filterMap.mp m).elim fun y q => nfr (List.mem_filterMap.mpr ⟨y, List.mem_cons_of_mem _ q.1, q.2⟩)
    have nI : sI.heap.get? a = none := by
      cases q : sI.heap.get? a with
      | none => rfl
      | some o =>
        have y := nb a o q (by rw [hs]; exact nfr)
        rw [nB] at y
        cases y
    have n0 : X.s_0.heap.get? a = none := by
      cases q : X.s_0.heap.get? a with
      | none => rfl
      | some o =>
        obtain ⟨o', y⟩ := J.base.there a o q (by rw [hex]; exact fun z => nomatch z)
        rw [nI] at y
        cases y
    have npin : ∀ p ∈ X.pn ++ pins, p.1 ≠ a := fun p hp q => by
      have y := (J.pin p hp).1
      rw [q, nI] at y
      cases y
    have S3 := J3.suite e3 f3 na nL nF
    refine wpAny_handleBy_cons (codeAny_handlers_test ?_) (by intro q; cases q)
    have tyLook : PySem.W.Looks (model X.prog X.w) h3 (typeOf (.ref a)) cls := fun A Q E s k q => wpAny_typeOf_ref (k _ _ e3) (by rw [z3.1]; exact q)
    have match_ := PySem.W.exm_one (M := model X.prog X.w) J3.kIn tyLook known
    have clause : ∀ {Q : Value → Shared → Prop} {E : Value → Shared → Prop}, Q c { s' with heap := h3 } → wpAny (model X.prog X.w) (X.A.mark (some (.ref a))) (eval (.Name x np) X.env) Q E { s' with heap := h3 } := by
      intro Q E q
      obtain ⟨hg, hdb, hm | ⟨hm, hv, hnn⟩⟩ := hc
      · exact ld_glob (X := X.suite a ((a, oe3) :: (X.pn ++ pins))) S3 hg hm q hdb
      · exact ld_blt (X := X.suite a ((a, oe3) :: (X.pn ++ pins))) S3 hg hm hv q hnn hdb
    refine clause (match_.here ?_)
    cases b with
    | false =>
      show wpAny _ X.A (handleBy (.ref a) X.env []) _ _ _
      refine wpAny_handleBy_nil ?_
      obtain ⟨k1, k2, k3, oe, vs, T, oT, ts', he, hz, hd, h1, hr⟩ := id fly3
      unfold PySem.passOn
      refine wpAny_bind (wpAny_field he hd h1 ?_)
      rw [if_neg (show ¬ ((Value.ref T == Value.none) = true) from by simp)]
      have fin : wpAny (model X.prog X.w) X.A (setFlight (.ref a) X.env.frame) (fun _ s4 => wpAny (model X.prog X.w) X.A (throw (.ref a) : Sem Flow) (SP X pins D) X.xe s4) X.xe { s' with heap := h3 } := by
        rw [hf]
        exact HandSPX.setFlight_upZ fly3 fun h4 held4 up4 => wpAny_throw (tk _ _ ⟨a, B, sI, pins, σ1, H1, cls, d, rfl, J, nb, (up.trans up3).trans up4, .inr (.inr (by rw [hs]; exact held4)), na, os, ag, no rfl⟩)
      first
        | exact wpAny_bind (wpAny_pure (wpAny_bind fin))
        | exact wpAny_bind fin
    | true =>
      refine codeAny_handlers_suite_as ?_
      refine HandSPX.lands_againZ fly3 fun h4 fly4 up4 => ?_
      have J4 : Inv X pins σ1 H1 { s' with heap := h4 } := J.landed nb fly4.1 ((up.trans up3).trans up4) os ag
      obtain ⟨oe4, vs4, e4, z4, f4⟩ := fly4.there
      refine store_ok (X := X.suite a ((a, oe4) :: (X.pn ++ pins))) (v := .ref a) (J4.suite e4 f4 na nL nF) nd hi lc rfl (fun s5 S5 => ?_) (.inr hln)
      refine wpAny_mono ((hsu a oe4 cls d (X.pn ++ pins) z4 ⟨_, f4⟩).run [] s5 _ H1 _ S5 (yes rfl a na)) (fun fl s6 out => ?_) (fun _ _ z => z.elim)
      cases fl with
      | next =>
        obtain ⟨σ6, H6, S6, q6⟩ := out
        obtain ⟨p1, p2, _⟩ := S6.pin (a, oe4) (List.mem_append_left _ List.mem_cons_self)
        have T6 := tell (S6.unsuite ok) p1 z4 f4 p2 n0 nL npin
        exact gone_ok T6 nd hi hln fun s7 J7 => ⟨_, _, J7, q6 p2⟩
      | brk =>
        obtain ⟨_, _, _, q6⟩ := out
        exact q6.elim
      | cont =>
        obtain ⟨_, _, _, q6⟩ := out
        exact q6.elim
      | ret u =>
        obtain ⟨_, _, _, _, _, q6⟩ := out
        exact q6.elim
  · cases fl with
    | next => exact out.elim fun σ' z => z.elim fun H' z => wpAny_execs_nil ⟨σ', H', z.1.ofTry ok, z.2⟩
    | brk => exact out.elim fun σ' z => z.elim fun H' z => ⟨σ', H', z.1.ofTry ok, z.2⟩
    | cont => exact out.elim fun σ' z => z.elim fun H' z => ⟨σ', H', z.1.ofTry ok, z.2⟩
    | ret u =>
      obtain ⟨v, σ', H', J', r, q⟩ := out
      exact ⟨v, σ', H', J'.ofTry ok, r, q⟩
end
/-! ### e.f and isinstance(e, C) of such an error -/
section
variable {X : Cx}
theorem pe_zget {e : Expr} {te : TE} {pos : Pos} {n : Str} (he : PE X e te) (hb : attributeBase e n X.env (eval e X.env) = eval e X.env := by rfl) :
    PE X (.Attribute e n pos) (fun σ H Q => te σ H fun x H1 => ∃ a C d fs v, x = .ref a ∧ H1 a = some (exz a (.ref C) (some d)) ∧ H1 d = some (.xd fs) ∧ XF X.K C n ∧ fs.lookup n = some v ∧ Q v H1) := by
  refine ⟨fun pins s σ H Q I h => ?_⟩
  refine attr_of hb (thn (he.run pins s σ H _ I h) fun u s1 hh => ?_)
  obtain ⟨x, H1, I1, rx, a, C, d, fs, v, ex, ea, ed, T, l, q⟩ := hh
  subst ex
  obtain rfl : u = Value.ref a := rx
  obtain ⟨oe, vs, ho, hz, hf⟩ := exz_at I1.hok ea
  have hx : ObjOk X.prog X.w H1 s1.heap d (.xd fs) := I1.hok d _ ed
  obtain ⟨mA, hns, hrel⟩ := hx
  obtain ⟨od, hod, hl⟩ := lookIn_ns hns
  obtain ⟨w1, hw, rw1⟩ := RelO.some_of (v := v) (o := mA n) (by rw [← l]; exact hrel n)
  have J : PySem.W.InstAt s1.heap a oe C (some od) := ⟨ho, hz.1, by unfold PySem.W.notCls; rw [hf] <;> rfl, by rw [hz.2]; exact hod⟩
  exact HandSPX.exc_get I1.kIn J T.xf.ga T.xf.gg T.xf.exC (PySem.W.findObj_own T.xf.hdC T.no rfl (by rw [hl, hw])) (handed_of rw1) ⟨v, H1, I1.tok _, rw1, q⟩
def rIsZ (K : PySem.W.Frag) : List V → Hp → VK → Prop := fun xs H Q => ∃ (a : Addr) (c : V) (D d : Addr) (fs : List (Str × V)) (cv : Value) (b : Bool), xs = [.ref a, c] ∧ H a = some (exz a (.ref D) (some d)) ∧ H d = some (.xd fs) ∧ ExcC K D ∧ (∀ u, RelV c u → u = cv) ∧ PySem.W.kitOne K (.ref D) cv = some b ∧ Q (.bl b) H
theorem call_isZ : CallR X (.builtin "isinstance") (rIsZ X.K) := by
  intro pins s σ H xs us Q I r h
  obtain ⟨a, c, D, d, fs, cv, b, rfl, ea, ed, C, hcv, e, q⟩ := h
  cases r with
  | cons rx rr =>
    cases rr with
    | cons rt rr =>
      cases rr
      cases rx
      obtain rfl := hcv _ rt
      obtain ⟨oe, vs, ho, hz, hf⟩ := exz_at I.hok ea
      have hx : ObjOk X.prog X.w H s.heap d (.xd fs) := I.hok d _ ed
      obtain ⟨mA, hns, _⟩ := hx
      obtain ⟨od, hod, _⟩ := lookIn_ns hns
      have J : PySem.W.InstAt s.heap a oe D (some od) := ⟨ho, hz.1, by unfold PySem.W.notCls; rw [hf] <;> rfl, by rw [hz.2]; exact hod⟩
      exact PySem.W.kia_one (kitErr C) I.kIn J e (fun z => nomatch z) fun tk => ⟨.bl b, H, I.kept (t' := tk) fun _ _ z => z, rfl, q⟩
end
end XV
set_option Elab.async false
set_option linter.all false
set_option maxRecDepth 100000
set_option maxHeartbeats 4000000
/-! repr of data, where nothing guards; written data. -/
namespace XV
open PySem PySem.Spec PyProof.Rows L2
section
variable {X : Cx}
def rRepr (K : PySem.W.Frag) : List V → Hp → VK → Prop := fun xs H Q => ∃ (v : V) (d : PyData), xs = [v] ∧ Dp K H v d ∧ d.showable = true ∧ d.hasDict = false ∧ d.depth ≤ 60 ∧ d.shown.length ≤ sizeLine ∧ Q (.str d.shown) H
theorem call_reprD (ag : X.A.guards = some []) (hu : X.A.units + 64 < cLine) : CallR X (.builtin "repr") (rRepr X.K) := by
  intro pins s σ H xs us Q I r h
  obtain ⟨v, d, rfl, hd, sh, nd, dp, sz, q⟩ := h
  have deep : ∀ a : Addr, ∀ as, Reads s.heap (.ref a) d as → wpAny (model X.prog X.w) X.A (call (.builtin "repr") [.ref a]) (EP X pins σ Q) X.xe s := fun a as rd =>
    repr_of_reads' rd sh (fun z => by rw [nd] at z; cases z) ag (by omega) (fun _ _ e => e) (fun h' u tk k => ⟨.str d.shown, H, I.kept (t' := tk) k, ⟨u, rfl⟩, q⟩) sz
  cases r with
  | cons rv rr =>
    cases rr
    cases hd with
    | non =>
      cases rv
      exact PySem.P.repr_of_none ⟨.str _, H, I.tok _, ⟨_, rfl⟩, q⟩
    | bl b =>
      cases rv
      exact PySem.P.repr_of_bool ⟨.str _, H, I.tok _, ⟨_, rfl⟩, q⟩
    | int i =>
      obtain ⟨t, rfl⟩ := rv
      exact PySem.P.repr_of_int (of_decide_eq_true (by simpa [PyData.showable] using sh)) ⟨.str _, H, I.tok _, ⟨_, rfl⟩, q⟩
    | str x =>
      obtain ⟨t, rfl⟩ := rv
      exact PySem.P.repr_of_str ⟨.str _, H, I.tok _, ⟨_, rfl⟩, q⟩ sz
    | lst hs ha =>
      cases rv
      obtain ⟨as, rd⟩ := Dp.reads I _ _ _ (Dp.lst hs ha) rfl
      exact deep _ as rd
    | tup hs ha =>
      cases rv
      obtain ⟨as, rd⟩ := Dp.reads I _ _ _ (Dp.tup hs ha) rfl
      exact deep _ as rd
end
/-! ### data that is tracked throughout -/
mutual
inductive Da (H : Hp) : V → PyData → Prop
  | non : Da H .non .none
  | bl (b : Bool) : Da H (.bl b) (.bool b)
  | int (i : Int) : Da H (.int i) (.int i)
  | str (x : Str) : Da H (.str x) (.str x)
  | lst {a : Addr} {xs : List V} {ds : List PyData} : H a = some (.lst xs) → DaAll H xs ds → Da H (.ref a) (.list ds)
  | tup {a : Addr} {xs : List V} {ds : List PyData} : H a = some (.tup xs) → DaAll H xs ds → Da H (.ref a) (.tuple ds)
inductive DaAll (H : Hp) : List V → List PyData → Prop
  | nil : DaAll H [] []
  | cons {v : V} {vs : List V} {d : PyData} {ds : List PyData} : Da H v d → DaAll H vs ds → DaAll H (v :: vs) (d :: ds)
end
mutual
theorem Da.keep {H H' : Hp} (s : Same H H') : ∀ {d : PyData} {v : V}, Da H v d → Da H' v d
  | _, _, .non => .non
  | _, _, .bl b => .bl b
  | _, _, .int i => .int i
  | _, _, .str x => .str x
  | _, _, .lst h a => .lst (s _ _ h) (DaAll.keep s a)
  | _, _, .tup h a => .tup (s _ _ h) (DaAll.keep s a)
theorem DaAll.keep {H H' : Hp} (s : Same H H') : ∀ {ds : List PyData} {vs : List V}, DaAll H vs ds → DaAll H' vs ds
  | _, _, .nil => .nil
  | _, _, .cons h r => .cons (Da.keep s h) (DaAll.keep s r)
end
mutual
theorem Da.dp {K : PySem.W.Frag} {H : Hp} : ∀ {d : PyData} {v : V}, Da H v d → Dp K H v d
  | _, _, .non => .non
  | _, _, .bl b => .bl b
  | _, _, .int i => .int i
  | _, _, .str x => .str x
  | _, _, .lst h a => .lst (SqL.of h) (DaAll.dp a)
  | _, _, .tup h a => .tup (SqT.of h) (DaAll.dp a)
theorem DaAll.dp {K : PySem.W.Frag} {H : Hp} : ∀ {ds : List PyData} {vs : List V}, DaAll H vs ds → DpAll K H vs ds
  | _, _, .nil => .nil
  | _, _, .cons h r => .cons (Da.dp h) (DaAll.dp r)
end
theorem DaAll.length {H : Hp} : ∀ {ds : List PyData} {vs : List V}, DaAll H vs ds → vs.length = ds.length
  | _, _, .nil => rfl
  | _, _, .cons _ r => congrArg (· + 1) (DaAll.length r)
theorem DaAll.get {H : Hp} : ∀ {ds : List PyData} {vs : List V} {i : Nat} {v : V}, DaAll H vs ds → vs[i]? = some v → ∃ d, ds[i]? = some d ∧ Da H v d
  | _, _, i, v, .nil, h => by simp at h
  | _, _, 0, v, .cons a r, h => by
    cases h
    exact ⟨_, rfl, a⟩
  | _, _, i + 1, v, .cons a r, h => by
    obtain ⟨d, e, x⟩ := DaAll.get (i := i) r (by simpa using h)
    exact ⟨d, by simpa using e, x⟩
/-! ### written data -/
def litsN (f : Expr → Option PyData) : List Expr → Option (List PyData)
  | [] => some []
  | e :: es => match f e, litsN f es with
    | some d, some ds => some (d :: ds)
    | _, _ => none
def litN : Nat → Expr → Option PyData
  | 0, _ => none
  | n + 1, e => match e with
    | .Constant .none _ _ => some .none
    | .Constant (.bool b) _ _ => some (.bool b)
    | .Constant (.int i) _ _ => some (.int i)
    | .Constant (.str x) _ _ => some (.str x)
    | .UnaryOp .USub (.Constant (.int i) _ _) _ => some (.int (-i))
    | .List es _ => if es.length ≤ 1000 then (litsN (litN n) es).map .list else none
    | .Tuple es _ _ => if es.length ≤ 1000 then (litsN (litN n) es).map .tuple else none
    | _ => none
/-- the reading of written data -/
def tLit (d : PyData) : TE := fun _ H Q => ∀ (v : V) (H' : Hp), Same H H' → Da H' v d → Q v H'
def tLits (ds : List PyData) : TA := fun _ H Q => ∀ (vs : List V) (H' : Hp), Same H H' → DaAll H' vs ds → vs.length = ds.length → Q vs H'
theorem PE.le {X : Cx} {e : Expr} {t t' : TE} (h : PE X e t) (i : ∀ σ H Q, t' σ H Q → t σ H Q) : PE X e t' := ⟨fun pins s σ H Q I z => h.run pins s σ H Q I (i _ _ _ z)⟩
theorem PA.le {X : Cx} {es : List Expr} {t t' : TA} (h : PA X es t) (i : ∀ σ H Q, t' σ H Q → t σ H Q) : PA X es t' := ⟨fun p pins s σ H Q I z => h.run p pins s σ H Q I (i _ _ _ z)⟩
theorem litsN_len {f : Expr → Option PyData} : ∀ (es : List Expr) (ds : List PyData), litsN f es = some ds → ds.length = es.length
  | [], ds, h => by
    cases h
    rfl
  | e :: es, ds, h => by
    unfold litsN at h
    split at h
    · rename_i d ds' h1 h2
      cases h
      rw [List.length_cons, List.length_cons, litsN_len es ds' h2]
    · cases h
theorem lits_ok {X : Cx} {f : Expr → Option PyData} (hf : ∀ e d, f e = some d → PE X e (tLit d)) (hs : ∀ e d es, f e = some d → starEach (e :: es) X.env = (false, eval e X.env) :: starEach es X.env) :
    ∀ (es : List Expr) (ds : List PyData), litsN f es = some ds → PA X es (tLits ds)
  | [], ds, h => by
    cases h
    exact PA.le pa_nil fun σ H Q z => z [] H (fun _ _ e => e) .nil rfl
  | e :: es, ds, h => by
    unfold litsN at h
    split at h
    · rename_i d ds' h1 h2
      cases h
      exact PA.le (pa_cons (hf e d h1) (lits_ok hf hs es ds' h2) (hs e d es h1)) fun σ H Q z v H1 s1 p1 vs H2 s2 p2 l2 => z (v :: vs) H2 (s1.trans s2) (.cons (p1.keep s2) p2) (by rw [List.length_cons, List.length_cons, l2])
    · cases h
theorem lit_star {n : Nat} {e : Expr} {d : PyData} {es : List Expr} {env : Env} (h : litN n e = some d) : starEach (e :: es) env = (false, eval e env) :: starEach es env := by
  cases n with
  | zero => cases h
  | succ n => cases e <;> first | rfl | cases h
theorem lit_ok {X : Cx} : ∀ (n : Nat) (e : Expr) (d : PyData), litN n e = some d → PE X e (tLit d)
  | 0, _, _, h => by cases h
  | n + 1, e, d, h => by
    have small : ∀ m : Nat, m ≤ 1000 → m ≤ sizeLine := fun m hm => by
      rw [sizeLine_eq]
      omega
    unfold litN at h
    split at h
    · cases h
      exact PE.le pe_non fun σ H Q z => z _ H (fun _ _ e => e) .non
    · cases h
      exact PE.le pe_bl fun σ H Q z => z _ H (fun _ _ e => e) (.bl _)
    · cases h
      exact PE.le pe_int fun σ H Q z => z _ H (fun _ _ e => e) (.int _)
    · cases h
      exact PE.le pe_str fun σ H Q z => z _ H (fun _ _ e => e) (.str _)
    · cases h
      exact PE.le (pe_un un_neg pe_int) fun σ H Q z => ⟨_, rfl, z _ H (fun _ _ e => e) (.int _)⟩
    · rename_i es p
      split at h
      · rename_i hl
        cases q : litsN (litN n) es with
        | none =>
          rw [q] at h
          cases h
        | some ds =>
          rw [q] at h
          cases h
          exact PE.le (pe_lst (lits_ok (lit_ok n) (fun _ _ _ => lit_star) es ds q)) fun σ H Q z vs H1 s1 p1 l1 => ⟨by rw [l1, litsN_len _ _ q]; exact small _ hl, fun p np =>
            z _ _ (s1.trans (same_new np)) (.lst (upd_same) (p1.keep (same_new np)))⟩
      · cases h
    · rename_i es k p
      split at h
      · rename_i hl
        cases q : litsN (litN n) es with
        | none =>
          rw [q] at h
          cases h
        | some ds =>
          rw [q] at h
          cases h
          exact PE.le (pe_tup (lits_ok (lit_ok n) (fun _ _ _ => lit_star) es ds q)) fun σ H Q z vs H1 s1 p1 l1 => ⟨by rw [l1, litsN_len _ _ q]; exact small _ hl, fun p np =>
            z _ _ (s1.trans (same_new np)) (.tup (upd_same) (p1.keep (same_new np)))⟩
      · cases h
    · cases h
theorem pe_lit {X : Cx} (n : Nat) {e : Expr} {d : PyData} (h : litN n e = some d) : PE X e (tLit d) := lit_ok n e d h
end XV
set_option Elab.async false
set_option linter.all false
set_option maxRecDepth 100000
set_option maxHeartbeats 4000000
/-! raise C(e), C an error class with one field. -/
namespace XV
open PySem PySem.Spec PyProof.Rows L2
theorem XCls.binds {P : Program} {w : World} {K : PySem.W.Frag} {mg : Str → Option Value} {base : Heap} {nm fld : Str} {C fI : Addr} {fd : FuncData} (T : XCls P w K mg base nm fld C fI fd) : Binds K fd ["self", fld] [] := fun s us X hl => by
  rw [List.append_nil] at hl ⊢
  match us, hl with
  | [x, u], _ => exact T.b1 s x u X
/-- a reading that may be weakened -/
def tMono (te : TE) : TE := fun σ H Q => ∃ q : VK, te σ H q ∧ ∀ v H', q v H' → Q v H'
theorem pe_mono {X : Cx} {e : Expr} {te : TE} (he : PE X e te) : PE X e (tMono te) := ⟨fun pins s σ H Q I h => by
  obtain ⟨q, h, i⟩ := h
  exact thn (he.run pins s σ H q I h) fun u s1 ⟨v, H1, I1, r, z⟩ => ⟨v, H1, I1, r, i v H1 z⟩⟩
section
variable {X : Cx} {nm fld : Str} {C fI : Addr} {fd : FuncData} {e : Expr} {te : TE} {p pos pos2 : Pos}
theorem pmk_x (T : XCls X.prog X.w X.K X.mg X.base nm fld C fI fd) (hr : Room 2 X.A) (hg : Gl X nm) (he : PE X e te) (hdb : (nm == ("__debug__" : Str)) = false := by decide)
    (hs : starEach (e :: []) X.env = (false, eval e X.env) :: starEach [] X.env := by rfl) (hpl : (backTo pos (starEach [] X.env)).any (·.1) = false := by rfl) :
    PMk X (.Call (.Name nm p) [e] [] pos) (fun σ H Q => te σ H fun v H1 => ∀ d, H1 d = none → Q (.ref C) (some d) (upd H1 d (.xd [(fld, v)]))) := by
  have low := pmk_oex (X := X) (p := p) (pos := pos) T.ox T.iC T.tI T.ini hr T.binds .nil pass0 hg T.g (pa_cons (pe_mono he) pa_nil hs) hdb hs hpl
  intro pins s σ H Q I h
  refine low pins s σ H Q I ⟨_, h, fun v H1 q => ⟨(by show 1 ≤ 1000; decide), fun a na => ⟨a, v, rfl, upd_same, fun d nd ne => ⟨rfl, d, [(fld, v)], upd_same, ?_, ?_, ?_⟩⟩⟩⟩
  · rw [upd_ne ne, upd_same]
  · rw [upd_ne ne] at nd
    exact nd
  · rw [upd_ne ne] at nd
    have e1 : upd (del (upd (upd (upd H1 a (exo a C none)) d (exd d [(fld, v)])) a (exo a C (some d))) a) d (.xd [(fld, v)]) = upd H1 d (.xd [(fld, v)]) := by
      funext b
      by_cases q1 : b = d
      · rw [q1, upd_same, upd_same]
      · rw [upd_ne q1, upd_ne q1]
        by_cases q2 : b = a
        · rw [q2, del_same, na]
        · rw [del_ne q2, upd_ne q2, upd_ne q1, upd_ne q2]
    rw [e1]
    exact q d nd
theorem ps_raiseX {W : WX} (hc : X.calm = true) (T : XCls X.prog X.w X.K X.mg X.base nm fld C fI fd) (hr : Room 2 X.A) (tk : Takes X W) (hg : Gl X nm) (he : PE X e te) (hdb : (nm == ("__debug__" : Str)) = false := by decide)
    (hs : starEach (e :: []) X.env = (false, eval e X.env) :: starEach [] X.env := by rfl) (hpl : (backTo pos (starEach [] X.env)).any (·.1) = false := by rfl) :
    PS X (.Raise (some (.Call (.Name nm p) [e] [] pos)) none pos2) (fun _ σ H => te σ H fun v H1 => ∀ d, H1 d = none → W (.ref C) (some d) σ (upd H1 d (.xd [(fld, v)]))) :=
  ps_raise hc tk (pmk_x T hr hg he hdb hs hpl)
end
/-- the module's name x is a def that keeps sp and may raise -/
structure OkX (P : Program) (w : World) (K : PySem.W.Frag) (mg : Str → Option Value) (base : Heap) (x : Str) (k : Nat) (ps : List Str) (sp : Sp) : Prop where
  ex : ∃ f fd, FnOk P w K mg base (L2.CX P w) k f fd ps sp ∧ mg x = some (.ref f) ∧ PySem.W.keepIn K (.ref f) = true ∧ Binds K fd ps []
theorem OkX.mk' {P : Program} {w : World} {K : PySem.W.Frag} {mg : Str → Option Value} {base : Heap} {x : Str} {k : Nat} {ps : List Str} {sp : Sp} {body : List Stmt} {params : Arguments} {scope : Scope} {f : Addr} {fd : FuncData}
    (F : FunD K x x params body scope [] [] f fd) (g : mg x = some (.ref f)) (b : ∀ (kV doc pm : Value) (an : Option Addr) (cdv ct : Value) (us : List Value), us.length = ps.length → bindArgs (PySem.W.fnOf x x params body scope .none kV doc pm an cdv ct) ⟨us, []⟩ = pure (ps.zip us))
    (ok : FnOk P w K mg base (L2.CX P w) k f fd ps sp) : OkX P w K mg base x k ps sp := ⟨f, fd, ok, g, F.kp, F.bindsN b⟩
section
variable {X : Cx} {k : Nat} {ps : List Str} {sp : Sp} {x : Str} {e : Expr} {es : List Expr} {t : TA} {p pos : Pos} {E : XK} {W : WX}
/-- a call within a def that lets out what the callee lets out -/
theorem pe_callX (o : OkX X.prog X.w X.K X.mg X.base x k ps sp) (tk : Takes X fun cls d _ H => E cls d H) (hr : Room k X.A) (hg : Gl X x) (ha : PA X (e :: es) t) (hdb : (x == ("__debug__" : Str)) = false := by decide)
    (he : starEach (e :: es) X.env = (false, eval e X.env) :: starEach es X.env := by rfl) (hpl : (backTo pos (starEach es X.env)).any (·.1) = false := by rfl) :
    PE X (.Call (.Name x p) (e :: es) [] pos) (tCall sp [] E t) := by
  obtain ⟨f, fd, F, hm, hk, b⟩ := o.ex
  exact pe_call F hr hg hm hk b .nil (passes_call tk fun _ _ _ _ h => h) ha hdb he hpl
/-- a call within a try -/
theorem pe_callT (o : OkX X.prog X.w X.K X.mg X.base x k ps sp) (tk : Takes X W) (hr : Room k X.A) (hg : Gl X x) (ha : PA X (e :: es) t) (hdb : (x == ("__debug__" : Str)) = false := by decide)
    (he : starEach (e :: es) X.env = (false, eval e X.env) :: starEach es X.env := by rfl) (hpl : (backTo pos (starEach es X.env)).any (·.1) = false := by rfl) :
    PE X (.Call (.Name x p) (e :: es) [] pos) (tCallS sp (WE W) t) := by
  obtain ⟨f, fd, F, hm, hk, b⟩ := o.ex
  exact pe_callS F hr hg hm hk b (fun σ => passAt tk σ) ha hdb he hpl
end
end XV
set_option Elab.async false
set_option linter.all false
set_option maxRecDepth 100000
set_option maxHeartbeats 4000000
/-! f(k = v, ..), all by keywords, the names in the parameters' order turned round. -/
namespace XV
open PySem PySem.Spec PyProof.Rows L2
theorem vals_rev : ∀ {vs : List V} {us : List Value}, Vals vs us → Vals vs.reverse us.reverse
  | _, _, .nil => .nil
  | _, _, .cons r rr => by
    rw [List.reverse_cons, List.reverse_cons]
    exact (vals_rev rr).append (.cons r .nil)
structure OkK (P : Program) (w : World) (K : PySem.W.Frag) (mg : Str → Option Value) (base : Heap) (x : Str) (k : Nat) (ps : List Str) (sp : Sp) : Prop where
  ex : ∃ f fd, FnOk P w K mg base CX0 k f fd ps sp ∧ mg x = some (.ref f) ∧ PySem.W.keepIn K (.ref f) = true ∧ KBn K fd ps 0 ps.reverse (fun _ ws => ws.reverse) (fun _ zs => zs.reverse)
theorem OkK.mk' {P : Program} {w : World} {K : PySem.W.Frag} {mg : Str → Option Value} {base : Heap} {x : Str} {k : Nat} {ps : List Str} {sp : Sp} {body : List Stmt} {params : Arguments} {scope : Scope} {f : Addr} {fd : FuncData}
    (F : FunD K x x params body scope [] [] f fd) (g : mg x = some (.ref f)) (b : ∀ (kV doc pm : Value) (an : Option Addr) (cdv ct : Value) (ws : List Value), ws.length = ps.length → bindArgs (PySem.W.fnOf x x params body scope .none kV doc pm an cdv ct) ⟨[], ps.reverse.zip ws⟩ = pure (ps.zip ws.reverse))
    (ok : FnOk P w K mg base CX0 k f fd ps sp) : OkK P w K mg base x k ps sp := by
  refine ⟨f, fd, ok, g, F.kp, ⟨fun s us ws _ l1 l2 => ?_, fun _ r => vals_rev r⟩⟩
  obtain ⟨oc, od, dV, kV, doc, pm, an, cdv, ct, osl, rfl, lk, hcd, hD, hK⟩ := F.ex
  rcases hD with ⟨_, rfl⟩ | ⟨e, _⟩
  · obtain rfl := List.length_eq_zero_iff.mp l1
    exact .of_eq (b kV doc pm an cdv ct ws (by rw [l2, List.length_reverse]))
  · exact absurd rfl e
section
variable {X : Cx} {k : Nat} {ps : List Str} {sp : Sp} {x : Str} {kws : List Keyword} {tk : TA} {p pos : Pos}
theorem pe_callK (o : OkK X.prog X.w X.K X.mg X.base x k ps sp) (hr : Room k X.A) (hg : Gl X x) (hk : PK X kws tk) (hdb : (x == ("__debug__" : Str)) = false := by decide)
    (hall : (backToKw pos (keywordEach kws X.env)).all (·.1.isSome) = true := by rfl) (hks : (backToKw pos (keywordEach kws X.env)).filterMap (·.1) = ps.reverse := by rfl)
    (hpl : ((backTo pos (starEach [] X.env)).any (·.1) || (backToKw pos (keywordEach kws X.env)).any (·.1.isNone)) = false := by rfl) :
    PE X (.Call (.Name x p) [] kws pos) (fun σ H Q => tk σ H fun zs H1 => zs.length = ps.reverse.length ∧ sp zs.reverse H1 Q E0) := by
  obtain ⟨f, fd, F, hm, kp, B⟩ := o.ex
  refine ⟨fun pins s σ H Q I h => ?_⟩
  refine wpAny_Call_Name_kw (ld_glob I hg hm ?_ hdb)
  refine PySem.W.callWith_KW0 (h₀ := X.base) I.ok.mod.kin kp hall (thn (hk.run pos pins s σ H _ I h) fun ws s1 z => ?_) hpl
  obtain ⟨zs, H1, I1, r, l, q⟩ := z
  refine ⟨I1.kIn, ?_⟩
  rw [hks]
  exact run_fnN (us := []) (vs := []) F hr B pass0 I1 .nil r rfl l q
end
end XV
set_option Elab.async false
set_option linter.all false
set_option maxRecDepth 100000
set_option maxHeartbeats 4000000
/-! lcm; == by an own __eq__ of an instance with a dict, whatever stands on the right; defs that may raise where they don't; keywords in order; != of lists that end in the same object. -/
namespace XV
open PySem PySem.Spec PyProof.Rows L2
section
variable {X : Cx}
def rLcm : List V → Hp → VK → Prop := fun vs H Q => ∃ a b : Int, vs = [.int a, .int b] ∧ a.natAbs < 2 ^ 64 ∧ b.natAbs < 2 ^ 64 ∧ Q (.int ((Nat.lcm a.natAbs b.natAbs : Nat) : Int)) H
theorem cr_lcm : CallR X (.builtin "math.lcm") rLcm := by
  intro pins s σ H vs us Q I r h
  obtain ⟨a, b, rfl, ha, hb, q⟩ := h
  obtain ⟨t, u, rfl⟩ := Vals.int2 r
  exact PySem.W.mc_lcm ha hb fun _ => ⟨.int _, H, I.tok _, ⟨_, rfl⟩, q⟩
end
section
variable {X : Cx} {CX : CXT} {C g : Addr} {n : Nat} {fd : FuncData} {ps : List Str} {sp : Sp} {E : XK}
/-- x == y, x an instance of the class at C whose __eq__ is at g -/
def rOwnE (K : PySem.W.Frag) (C : Addr) (sp : Sp) (E : XK) : R2 := fun x y H Q => ∃ a dx fs t, x = .ref a ∧ H a = some (.ins C dx fs) ∧ TyX K H y t ∧ PySem.W.notFirst K C t = true ∧ sp [x, y] H Q E
theorem op_ownE (hs : PySem.W.findIn X.K (.ref C) "__eq__" = some (some (.ref g))) (hf : PySem.W.isFn X.K (.ref g) = true) (F : FnOk X.prog X.w X.K X.mg X.base CX n g fd ps sp) (hr : Room n X.A) (hb : Binds X.K fd ps []) (hx : Passes CX X E) :
    OpR X (compareOp .Eq) (rOwnE X.K C sp E) := by
  intro pins s σ H x y v u Q I rx ry h
  obtain ⟨a, dx, fs, t, rfl, ha, hy, hn, q⟩ := h
  cases (show v = Value.ref a from rx)
  obtain ⟨mA, J, _⟩ := ins_get I.hok ha
  obtain ⟨od, J, _⟩ := J.look
  obtain ⟨P, Z, p, _⟩ := kit_of I ry hy
  obtain ⟨m, hF⟩ := I.fr
  show wpAny (model X.prog X.w) X.A (richCompare .Eq (.ref a) u) (EP X pins σ Q) X.xe s
  refine PySem.W.cmp_K (op := .Eq) (tb := t) hr.units0 hF I.ok.mod.kin J (Z.ty _ _ I.kIn p) hn hs hf ?_
  refine wpAny_mono (run_fn (us := [.ref a, u]) (vs := [.ref a, y]) F hr hb .nil hx I (.cons rfl (.cons ry .nil)) (by rw [List.append_nil]; exact q)) (fun w s' z => ?_) fun _ _ x => x
  obtain ⟨z', H', I', rz, qz⟩ := z
  exact SlX.cmpback rz ⟨z', H', I', rz, qz⟩
end
/-- a def that may raise, where it doesn't -/
theorem FnOk.calm {P : Program} {w : World} {K : PySem.W.Frag} {mg : Str → Option Value} {base : Heap} {k : Nat} {f : Addr} {fd : FuncData} {ps : List Str} {sp : Sp} (F : FnOk P w K mg base (L2.CX P w) k f fd ps sp) :
    FnOk P w K mg base CX0 k f fd ps (fun vs H Q _ => sp vs H Q fun _ _ _ => False) :=
  ⟨fun vs H Q _ h => F.len vs H Q _ h, fun A outer s H args us vs Q E hr he hb hv hs => codeAny_mono (F.run A outer s H args us vs Q (fun _ _ _ => False) hr he hb hv hs) fun r s' h => by
    cases r with
    | error e =>
      obtain ⟨_, _, _, _, _, _, _, _, _, _, _, _, z⟩ := (show L2.CX P w outer H s (fun _ _ _ => False) e s' from h)
      exact z.elim
    | ok fl => cases fl <;> exact h⟩
abbrev cm (sp : Sp) : Sp := fun vs H Q _ => sp vs H Q fun _ _ _ => False
theorem OkX.calm {P : Program} {w : World} {K : PySem.W.Frag} {mg : Str → Option Value} {base : Heap} {x : Str} {k : Nat} {ps : List Str} {sp : Sp} (o : OkX P w K mg base x k ps sp) : Ok P w K mg base x k ps (cm sp) := by
  obtain ⟨f, fd, F, h1, h2, h3⟩ := o.ex
  exact ⟨f, fd, FnOk.calm F, h1, h2, h3⟩
/-! keywords in the parameters' order -/
structure OkF (P : Program) (w : World) (K : PySem.W.Frag) (mg : Str → Option Value) (base : Heap) (x : Str) (k : Nat) (ps : List Str) (sp : Sp) : Prop where
  ex : ∃ f fd, FnOk P w K mg base CX0 k f fd ps sp ∧ mg x = some (.ref f) ∧ PySem.W.keepIn K (.ref f) = true ∧ KBn K fd ps 0 ps (fun _ ws => ws) (fun _ zs => zs)
theorem OkF.mk' {P : Program} {w : World} {K : PySem.W.Frag} {mg : Str → Option Value} {base : Heap} {x : Str} {k : Nat} {ps : List Str} {sp : Sp} {body : List Stmt} {params : Arguments} {scope : Scope} {f : Addr} {fd : FuncData}
    (F : FunD K x x params body scope [] [] f fd) (g : mg x = some (.ref f)) (b : ∀ (kV doc pm : Value) (an : Option Addr) (cdv ct : Value) (ws : List Value), ws.length = ps.length → bindArgs (PySem.W.fnOf x x params body scope .none kV doc pm an cdv ct) ⟨[], ps.zip ws⟩ = pure (ps.zip ws))
    (ok : FnOk P w K mg base CX0 k f fd ps sp) : OkF P w K mg base x k ps sp := by
  refine ⟨f, fd, ok, g, F.kp, ⟨fun s us ws _ l1 l2 => ?_, fun _ r => r⟩⟩
  obtain ⟨oc, od, dV, kV, doc, pm, an, cdv, ct, osl, rfl, lk, hcd, hD, hK⟩ := F.ex
  rcases hD with ⟨_, rfl⟩ | ⟨e, _⟩
  · obtain rfl := List.length_eq_zero_iff.mp l1
    exact .of_eq (b kV doc pm an cdv ct ws l2)
  · exact absurd rfl e
section
variable {X : Cx} {k : Nat} {ps : List Str} {sp : Sp} {x : Str} {kws : List Keyword} {tk : TA} {p pos : Pos}
theorem pe_callF (o : OkF X.prog X.w X.K X.mg X.base x k ps sp) (hr : Room k X.A) (hg : Gl X x) (hk : PK X kws tk) (hdb : (x == ("__debug__" : Str)) = false := by decide)
    (hall : (backToKw pos (keywordEach kws X.env)).all (·.1.isSome) = true := by rfl) (hks : (backToKw pos (keywordEach kws X.env)).filterMap (·.1) = ps := by rfl)
    (hpl : ((backTo pos (starEach [] X.env)).any (·.1) || (backToKw pos (keywordEach kws X.env)).any (·.1.isNone)) = false := by rfl) :
    PE X (.Call (.Name x p) [] kws pos) (fun σ H Q => tk σ H fun zs H1 => zs.length = ps.length ∧ sp zs H1 Q E0) := by
  obtain ⟨f, fd, F, hm, kp, B⟩ := o.ex
  refine ⟨fun pins s σ H Q I h => ?_⟩
  refine wpAny_Call_Name_kw (ld_glob I hg hm ?_ hdb)
  refine PySem.W.callWith_KW0 (h₀ := X.base) I.ok.mod.kin kp hall (thn (hk.run pos pins s σ H _ I h) fun ws s1 z => ?_) hpl
  obtain ⟨zs, H1, I1, r, l, q⟩ := z
  refine ⟨I1.kIn, ?_⟩
  rw [hks]
  exact run_fnN (us := []) (vs := []) F hr B pass0 I1 .nil r rfl l q
end
section
variable {X : Cx}
/-- [v, g] != [w, g], g the same object -/
def rNeI (K : PySem.W.Frag) : R2 := fun x y H Q => ∃ (a b : Addr) (v w z : V) (d e : PyData), x = .ref a ∧ y = .ref b ∧ H a = some (.lst [v, z]) ∧ H b = some (.lst [w, z]) ∧ (∃ g, z = .ref g) ∧ Dp K H v d ∧ Dp K H w e ∧ SeqAt.shaped d = true ∧ SeqAt.shaped e = true ∧ Q (.bl (!(PyData.eqv d e))) H
theorem op_neI (hu : X.A.units + 66 < cLine) : OpR X (compareOp .NotEq) (rNeI X.K) := by
  intro pins s σ H x y v u Q I rx ry h
  obtain ⟨a, b, v1, w1, z, d, e, rfl, rfl, ha, hb, ⟨g, rfl⟩, hd, he, sd, se, q⟩ := h
  cases (show v = Value.ref a from rx)
  cases (show u = Value.ref b from ry)
  obtain ⟨_, its, n, r, h1⟩ := (show ObjOk X.prog X.w H s.heap a (.lst [v1, .ref g]) from I.hok a _ ha)
  obtain ⟨_, its2, n2, r2, h2⟩ := (show ObjOk X.prog X.w H s.heap b (.lst [w1, .ref g]) from I.hok b _ hb)
  obtain ⟨u1, u2, rfl, rv, rg⟩ := vals2 r
  obtain ⟨u3, u4, rfl, rw1, rg2⟩ := vals2 r2
  cases (show u2 = Value.ref g from rg)
  cases (show u4 = Value.ref g from rg2)
  obtain ⟨as, r3⟩ := Dp.reads I d v1 u1 hd rv
  obtain ⟨bs, r4⟩ := Dp.reads I e w1 u3 he rw1
  have hl : s.heap.IsList a ([u1, Value.ref g].toArray) := ⟨_, h1, rfl, _, rfl⟩
  have hl2 : s.heap.IsList b ([u3, Value.ref g].toArray) := ⟨_, h2, rfl, _, rfl⟩
  have key := SeqAt.RcNeAt.lists (A := X.A) (e := fun j => if j = 0 then PyData.eqv d e else true) hl hl2 rfl (by omega) (fun j j1 j2 => by
    match j, j1, j2 with
    | 0, _, _ =>
      refine SeqAt.eqAt_reads d e X.A.in1 s u1 u3 as bs r3 r4 (SeqAt.canLay_of_shaped sd) (SeqAt.canLay_of_shaped se) (SeqAt.room_of_shaped sd ?_)
      show X.A.units + 1 + 64 < cLine
      omega
    | 1, _, _ => exact SeqAt.EqAt.same _
    | j + 2, j1, _ => exact absurd j1 (by show ¬ (j + 2 < 2); omega))
  show wpAny (model X.prog X.w) X.A (richCompare .NotEq (.ref a) (.ref b)) (EP X pins σ Q) X.xe s
  have e1 : (!(List.range ([u1, Value.ref g].toArray).size).all fun j => if j = 0 then PyData.eqv d e else true) = !(PyData.eqv d e) := by
    show (!((if (0 : Nat) = 0 then PyData.eqv d e else true) && ((if (1 : Nat) = 0 then PyData.eqv d e else true) && true))) = _
    rw [if_pos rfl, if_neg (by decide)]
    cases PyData.eqv d e <;> rfl
  rw [e1] at key
  exact key X.prog X.w _ _ ⟨.bl _, H, I, rfl, q⟩
end
end XV
set_option Elab.async false
set_option linter.all false
set_option maxRecDepth 100000
set_option maxHeartbeats 4000000
namespace KB
open PySem PySem.Spec PyProof.Rows L2 XV
/-! ### limits -/
abbrev Lim := Int × Int
def IsLim (H : Hp) (x : V) (l : Lim) : Prop := ∃ a, x = .ref a ∧ H a = some (.tup [.int l.1, .int l.2])
inductive Lims (H : Hp) : List V → List Lim → Prop
  | nil : Lims H [] []
  | cons {x : V} {xs : List V} {l : Lim} {L : List Lim} : IsLim H x l → Lims H xs L → Lims H (x :: xs) (l :: L)
theorem IsLim.keep {H H' : Hp} (s : Same H H') {x : V} {l : Lim} (h : IsLim H x l) : IsLim H' x l := by
  obtain ⟨a, e, t⟩ := h
  exact ⟨a, e, s _ _ t⟩
theorem Lims.keep {H H' : Hp} (s : Same H H') : ∀ {xs : List V} {L : List Lim}, Lims H xs L → Lims H' xs L
  | _, _, .nil => .nil
  | _, _, .cons h r => .cons (h.keep s) (Lims.keep s r)
theorem Lims.len {H : Hp} : ∀ {xs : List V} {L : List Lim}, Lims H xs L → xs.length = L.length
  | _, _, .nil => rfl
  | _, _, .cons _ r => congrArg (· + 1) (Lims.len r)
theorem Lims.get {H : Hp} : ∀ {xs : List V} {L : List Lim} {i : Nat} {x : V}, Lims H xs L → xs[i]? = some x → ∃ l, L[i]? = some l ∧ IsLim H x l
  | _, _, i, x, .nil, h => by simp at h
  | _, _, 0, x, .cons a r, h => by
    cases h
    exact ⟨_, rfl, a⟩
  | _, _, i + 1, x, .cons a r, h => by
    obtain ⟨l, e, z⟩ := Lims.get (i := i) r (by simpa using h)
    exact ⟨l, by simpa using e, z⟩
theorem Lims.at {H : Hp} : ∀ {xs : List V} {L : List Lim} {i : Nat} {l : Lim}, Lims H xs L → L[i]? = some l → ∃ x, xs[i]? = some x ∧ IsLim H x l
  | _, _, i, x, .nil, h => by simp at h
  | _, _, 0, x, .cons a r, h => by
    cases h
    exact ⟨_, rfl, a⟩
  | _, _, i + 1, x, .cons a r, h => by
    obtain ⟨l, e, z⟩ := Lims.at (i := i) r (by simpa using h)
    exact ⟨l, by simpa using e, z⟩
theorem Lims.snoc {H : Hp} {y : V} {m : Lim} (hy : IsLim H y m) : ∀ {xs : List V} {L : List Lim}, Lims H xs L → Lims H (xs ++ [y]) (L ++ [m])
  | _, _, .nil => .cons hy .nil
  | _, _, .cons h r => .cons h (Lims.snoc hy r)
theorem Lims.set {H : Hp} {y : V} {m : Lim} (hy : IsLim H y m) : ∀ {xs : List V} {L : List Lim} {i : Nat}, Lims H xs L → Lims H (xs.set i y) (L.set i m)
  | _, _, _, .nil => .nil
  | _, _, 0, .cons h r => .cons hy r
  | _, _, i + 1, .cons h r => .cons h (Lims.set hy r)
/-- a list of limits at a -/
def LL (H : Hp) (a : Addr) (L : List Lim) : Prop := ∃ xs, H a = some (.lst xs) ∧ Lims H xs L
theorem LL.keep {H H' : Hp} (s : Same H H') {a : Addr} {L : List Lim} (h : LL H a L) : LL H' a L := by
  obtain ⟨xs, e, r⟩ := h
  exact ⟨xs, s _ _ e, r.keep s⟩
theorem dr_neL {H : Hp} {g a : Addr} {n : Nat} {xs : List V} {L : List Lim} (d : Dr H g n) (h : H a = some (.lst xs)) (r : Lims H xs L) : a ≠ g := by
  rintro rfl
  obtain ⟨x, y, z, e, _⟩ := d
  rw [e] at h
  cases h
  cases r with
  | cons h r =>
    obtain ⟨_, e, _⟩ := h
    cases e
theorem dr_neT {H : Hp} {g a : Addr} {n : Nat} {xs : List V} (d : Dr H g n) (h : H a = some (.tup xs)) : a ≠ g := by
  rintro rfl
  obtain ⟨x, y, z, e, _⟩ := d
  rw [e] at h
  cases h
theorem Lims.but {H H' : Hp} {g : Addr} {n : Nat} (d : Dr H g n) (b : But H H' g) : ∀ {xs : List V} {L : List Lim}, Lims H xs L → Lims H' xs L
  | _, _, .nil => .nil
  | _, _, .cons h r => .cons (by
      obtain ⟨a, e, t⟩ := h
      exact ⟨a, e, b _ _ (dr_neT d t) t⟩) (Lims.but d b r)
theorem LL.but {H H' : Hp} {g a : Addr} {n : Nat} {L : List Lim} (d : Dr H g n) (b : But H H' g) (h : LL H a L) : LL H' a L := by
  obtain ⟨xs, e, r⟩ := h
  exact ⟨xs, b _ _ (dr_neL d e r) e, r.but d b⟩
/-- limits that are dealt with here -/
def Lok (L : List Lim) : Prop := L.length ≤ 3 ∧ ∀ l ∈ L, 0 ≤ l.1 ∧ l.1 < 1000 ∧ 1 ≤ l.2 ∧ l.2 < 1000
def many (L : List Lim) : Int := L.foldl (fun n l => n * (l.1 + l.2)) 1
theorem fold_take {α β : Type} (f : α → β → α) (z : α) {L : List β} {i : Nat} {l : β} (h : L[i]? = some l) : (L.take (i + 1)).foldl f z = f ((L.take i).foldl f z) l := by
  rw [List.take_add_one, h, List.foldl_append]
  rfl
theorem mem_at {α : Type} {L : List α} {i : Nat} {l : α} (h : L[i]? = some l) : l ∈ L := List.mem_of_getElem? h
theorem mul_r {x y : Int} (h : 0 ≤ y) (h2 : y < 10000) : CMul x y := .inr ⟨by omega, by omega⟩
abbrev sWhole : Stmt := top 11
abbrev sCount : Stmt := top 12
abbrev sIsPoint : Stmt := top 15
abbrev sIsLL : Stmt := top 36
abbrev sIsLim : Stmt := top 37
abbrev sHow : Stmt := top 40
theorem scWhole : FnScope ["value"] ["value"] (defScope sWhole) := ⟨rfl, rfl, rfl, by decide +kernel, rfl, by decide +kernel, by decide +kernel⟩
theorem scCount : FnScope ["value"] ["value"] (defScope sCount) := ⟨rfl, rfl, rfl, by decide +kernel, rfl, by decide +kernel, by decide +kernel⟩
theorem scIsPoint : FnScope ["many", "value", "number"] ["many", "value"] (defScope sIsPoint) := ⟨rfl, rfl, rfl, by decide +kernel, rfl, by decide +kernel, by decide +kernel⟩
theorem scIsLL : FnScope ["value", "item"] ["value"] (defScope sIsLL) := ⟨rfl, rfl, rfl, by decide +kernel, rfl, by decide +kernel, by decide +kernel⟩
theorem scIsLim : FnScope ["value"] ["value"] (defScope sIsLim) := ⟨rfl, rfl, rfl, by decide +kernel, rfl, by decide +kernel, by decide +kernel⟩
theorem scHow : FnScope ["limits", "number", "threshold", "period"] ["limits"] (defScope sHow) := ⟨rfl, rfl, rfl, by decide +kernel, rfl, by decide +kernel, by decide +kernel⟩
def spWhole : Sp := fun vs H Q _ => ∃ i : Int, vs = [.int i] ∧ Q (.bl true) H
def spCount : Sp := fun vs H Q _ => ∃ i : Int, vs = [.int i] ∧ 0 ≤ i ∧ Q (.bl true) H
def spIsPoint : Sp := fun vs H Q _ => ∃ (a : Addr) (p : List Int), vs = [.int (p.length : Int), .ref a] ∧ H a = some (.lst (p.map V.int)) ∧ p.length ≤ 3 ∧ (∀ x ∈ p, 0 ≤ x) ∧ ∀ H', Same H H' → Q (.bl true) H'
def spIsLim : Sp := fun vs H Q _ => ∃ (v : V) (l : Lim), vs = [v] ∧ IsLim H v l ∧ 0 ≤ l.1 ∧ 1 ≤ l.2 ∧ Q (.bl true) H
def spIsLL : Sp := fun vs H Q _ => ∃ (a : Addr) (L : List Lim), vs = [.ref a] ∧ LL H a L ∧ Lok L ∧ ∀ H', Same H H' → Q (.bl true) H'
def spHow : Sp := fun vs H Q _ => ∃ (a : Addr) (L : List Lim), vs = [.ref a] ∧ LL H a L ∧ Lok L ∧ Q (.int (many L)) H
theorem rep_all {n : Nat} : ((List.replicate n true).all id) = true := by
  rw [List.all_eq_true]
  intro x hx
  rw [(List.mem_replicate.mp hx).2]
  rfl
section
variable {P : Program} {w : World} {K : PySem.W.Frag} {mg : Str → Option Value} {base : Heap} {f : Addr} {fd : FuncData}
theorem ok_whole (F : FnP K "is_whole" sWhole f fd) (z_isinstance : mg "isinstance" = none) (z_int : mg "int" = none) (z_bool : mg "bool" = none) : FnOk P w K mg base CX0 1 f fd ["value"] spWhole := by
  refine F.ok scWhole (fun vs H Q E h => ?_) (fun cdv A outer s H vs Q E hr h => ?_)
  · obtain ⟨v, rfl, _⟩ := h
    rfl
  · obtain ⟨i, rfl, q⟩ := h
    refine ⟨_, PSs.nox (pss_one (ps_ret (pe_and (pe_callB call_isi (by rfl) z_isinstance (by decide +kernel) (pa_cons (pv 0) (pa_cons (pe_bltn (v := .ty "int") (by rfl) z_int (by decide +kernel) rfl) pa_nil))) (pe_one (pe_not (pe_callB call_isi (by rfl) z_isinstance (by decide +kernel) (pa_cons (pv 0) (pa_cons (pe_bltn (v := .ty "bool") (by rfl) z_bool (by decide +kernel) rfl) pa_nil)))))))), ?_⟩
    exact ⟨_, rfl, _, _, _, _, true, rfl, .ty "int", .base (.int i), kit_ty (by decide +kernel), true, rfl, _, rfl, _, _, _, _, false, rfl, .ty "bool", .base (.int i), kit_ty (by decide +kernel), false, rfl, q⟩
theorem ok_count (F : FnP K "is_count" sCount f fd) (o_is_whole : Ok P w K mg base "is_whole" 1 ["value"] spWhole) : FnOk P w K mg base CX0 2 f fd ["value"] spCount := by
  refine F.ok scCount (fun vs H Q E h => ?_) (fun cdv A outer s H vs Q E hr h => ?_)
  · obtain ⟨v, rfl, _⟩ := h
    rfl
  · obtain ⟨i, rfl, h0, q⟩ := h
    refine ⟨_, PSs.nox (pss_one (ps_ret (pe_and (pe_callO o_is_whole (hr.mono (by decide)) (by rfl) (pa_cons (pv 0) pa_nil)) (pe_one (pe_cmpR op_ge (pv 0) pe_int (nomark _)))))), ?_⟩
    refine ⟨_, rfl, _, rfl, true, rfl, _, rfl, _, _, rfl, rfl, ?_⟩
    show Q (.bl (decide (0 ≤ i))) H
    rw [decide_eq_true h0]
    exact q
theorem ok_isPoint (F : FnP K "is_point" sIsPoint f fd) (o_is_count : Ok P w K mg base "is_count" 2 ["value"] spCount) (z_isinstance : mg "isinstance" = none) (z_list : mg "list" = none) (z_len : mg "len" = none) (z_all : mg "all" = none) :
    FnOk P w K mg base CX0 3 f fd ["many", "value"] spIsPoint := by
  have nd := scIsPoint.nd
  refine F.ok scIsPoint (fun vs H Q E h => ?_) (fun cdv A outer s H vs Q E hr h => ?_)
  · obtain ⟨a, p, rfl, _⟩ := h
    rfl
  · obtain ⟨a, p, rfl, hf, h3, h0, q⟩ := h
    have hr2 : Room 2 (A.deeper (envOfC "is_point" (defScope sIsPoint) s.heap.objs.size f cdv)) := hr
    refine ⟨_, PSs.nox (pss_one (ps_ret (pe_and (pe_callB call_isi (by rfl) z_isinstance (by decide +kernel) (pa_cons (pv 1) (pa_cons (pe_bltn (v := .ty "list") (by rfl) z_list (by decide +kernel) rfl) pa_nil))) (pe_and (pe_cmpR op_eq (pe_callB call_len (by rfl) z_len boot_len (pa_cons (pv 1) pa_nil)) (pv 0) (nomark _)) (pe_one (pe_callB (cr_all rfl) (by rfl) z_all (by decide +kernel) (pa_cons
      (pe_lc (own := [("number", 2)]) (g := gName 2) (by rfl) nd (pi_list (pv 1)) (blkOk_by (N := ["many", "value", "number"]) (sc := defScope sIsPoint) (own := [("number", 2)]) (by decide +kernel)) (fun _ _ _ _ _ => pg_name (i := 2) nd rfl (Or.inl rfl)) (fun _ _ _ _ _ => pts_nil) (fun _ _ _ _ _ => pe_callO o_is_count hr2 (by rfl) (pa_cons (pv 2) pa_nil))) pa_nil))))))), ?_⟩
    refine ⟨_, rfl, _, _, _, _, true, rfl, .ty "list", .base (.lst hf), kit_ty (by decide +kernel), true, rfl, .ref a, rfl, _, (p.map V.int).length, rfl, .inl ⟨_, SqL.of hf, rfl⟩, _, rfl, rfl, true, ?_, ?_⟩
    · rw [List.length_map, decide_eq_true rfl]
    refine iteT ⟨_, rfl, a, rfl, ⟨_, SqL.of hf⟩, fun D nD => lc_list (K := K) (a := a) (xs := p.map V.int) (fun k H' => Same H H' ∧ H' D = some (.lst ((List.replicate k true).map V.bl))) ⟨same_new nD, upd_same⟩ (fun k H' _ p => SqL.of (p.1 _ _ hf)) ?_ ?_⟩
    · rintro k y H' hk ⟨sm, hD⟩
      have li : k < 3 := by
        have := (List.getElem?_eq_some_iff.mp hk).1
        rw [List.length_map] at this
        omega
      obtain ⟨x, hx, rfl⟩ := List.mem_map.mp (mem_at hk)
      refine ⟨rfl, ?_⟩
      refine ⟨_, rfl, x, rfl, h0 x hx, _, hD, ?_, fun b o e => ?_, ?_⟩
      · rw [List.length_map, List.length_replicate]
        exact small1000 (by omega)
      · rw [upd_ne (ne_of_none (H := H) e nD)]
        exact sm _ _ e
      · rw [upd_same, List.replicate_succ', List.map_append]
        rfl
    · rintro H' ⟨sm, hD⟩
      refine ⟨D, _, rfl, SqL.of hD, ?_⟩
      rw [rep_all]
      exact q H' sm
theorem ok_isLim (F : FnP K "is_limit" sIsLim f fd) (o_is_whole : Ok P w K mg base "is_whole" 1 ["value"] spWhole) (o_is_count : Ok P w K mg base "is_count" 2 ["value"] spCount) (z_isinstance : mg "isinstance" = none) (z_tuple : mg "tuple" = none) (z_len : mg "len" = none) :
    FnOk P w K mg base CX0 3 f fd ["value"] spIsLim := by
  refine F.ok scIsLim (fun vs H Q E h => ?_) (fun cdv A outer s H vs Q E hr h => ?_)
  · obtain ⟨v, l, rfl, _⟩ := h
    rfl
  · obtain ⟨v, l, rfl, ⟨a, rfl, hf⟩, h0, h1, q⟩ := h
    refine ⟨_, PSs.nox (pss_cons (ps_if (PW.pt (pw_or (pt_not (pt_val (pe_callB call_isi (by rfl) z_isinstance (by decide +kernel) (pa_cons (pv 0) (pa_cons (pe_bltn (v := .ty "tuple") (by rfl) z_tuple (by decide +kernel) rfl) pa_nil))))) (pw_or1 (pt_cmpR op_ne (pe_callB call_len (by rfl) z_len boot_len (pa_cons (pv 0) pa_nil)) pe_int (nomark _))))) (pss_one (ps_ret pe_bl)) pss_nil)
      (pss_one (ps_ret (pe_and (pe_callO o_is_count hr (by rfl) (pa_cons (pe_ix ix_tup (pv 0) pe_int (fun _ _ => rfl)) pa_nil)) (pe_and (pe_callO o_is_whole (hr.mono (by decide)) (by rfl) (pa_cons (pe_ix ix_tup (pv 0) pe_int (fun _ _ => rfl)) pa_nil)) (pe_one (pe_cmpR op_ge (pe_ix ix_tup (pv 0) pe_int (fun _ _ => rfl)) pe_int (nomark _)))))))), ?_⟩
    refine ⟨_, rfl, _, _, _, _, true, rfl, .ty "tuple", .base (.tup hf), kit_ty (by decide +kernel), true, rfl, iteF ⟨_, rfl, _, 2, rfl, .inr ⟨_, SqT.of hf, rfl⟩, rfl, false, rfl, iteF ?_⟩⟩
    refine ⟨_, rfl, a, _, _, _, rfl, rfl, SqT.of hf, rfl, _, rfl, h0, true, rfl, iteT ⟨_, rfl, a, _, _, _, rfl, rfl, SqT.of hf, rfl, _, rfl, true, rfl, iteT ⟨_, rfl, a, _, _, _, rfl, rfl, SqT.of hf, rfl, _, _, rfl, rfl, ?_⟩⟩⟩
    show Q (.bl (decide (1 ≤ l.2))) H
    rw [decide_eq_true h1]
    exact q
theorem ok_isLL (F : FnP K "is_list_of_limits" sIsLL f fd) (o_is_limit : Ok P w K mg base "is_limit" 3 ["value"] spIsLim) (z_isinstance : mg "isinstance" = none) (z_list : mg "list" = none) (z_len : mg "len" = none) (z_all : mg "all" = none) {tM : Tok} (h_M : mg "MOST_UNKNOWNS" = some (.int 3 tM)) :
    FnOk P w K mg base CX0 4 f fd ["value"] spIsLL := by
  have nd := scIsLL.nd
  refine F.ok scIsLL (fun vs H Q E h => ?_) (fun cdv A outer s H vs Q E hr h => ?_)
  · obtain ⟨a, L, rfl, _⟩ := h
    rfl
  · obtain ⟨a, L, rfl, ⟨xs, hf, hL⟩, ⟨h3, hb⟩, q⟩ := h
    have lx := hL.len
    have r3 : Room 3 (A.deeper (envOfC "is_list_of_limits" (defScope sIsLL) s.heap.objs.size f cdv)) := hr
    refine ⟨_, PSs.nox (pss_cons (ps_if (PW.pt (pw_or (pt_not (pt_val (pe_callB call_isi (by rfl) z_isinstance (by decide +kernel) (pa_cons (pv 0) (pa_cons (pe_bltn (v := .ty "list") (by rfl) z_list (by decide +kernel) rfl) pa_nil))))) (pw_or1 (pt_cmpR op_gt (pe_callB call_len (by rfl) z_len boot_len (pa_cons (pv 0) pa_nil)) (pe_glob (v := .int 3) (by rfl) h_M ⟨_, rfl⟩) (nomark _))))) (pss_one (ps_ret pe_bl)) pss_nil)
      (pss_one (ps_ret (pe_callB (cr_all rfl) (by rfl) z_all (by decide +kernel) (pa_cons
      (pe_lc (own := [("item", 1)]) (g := gName 1) (by rfl) nd (pi_list (pv 0)) (blkOk_by (N := ["value", "item"]) (sc := defScope sIsLL) (own := [("item", 1)]) (by decide +kernel)) (fun _ _ _ _ _ => pg_name (i := 1) nd rfl (Or.inl rfl)) (fun _ _ _ _ _ => pts_nil) (fun _ _ _ _ _ => pe_callO o_is_limit r3 (by rfl) (pa_cons (pv 1) pa_nil))) pa_nil))))), ?_⟩
    refine ⟨_, rfl, _, _, _, _, true, rfl, .ty "list", .base (.lst hf), kit_ty (by decide +kernel), true, rfl, iteF ⟨_, rfl, _, xs.length, rfl, .inl ⟨_, SqL.of hf, rfl⟩, _, _, rfl, rfl, false, ?_, iteF ?_⟩⟩
    · exact congrArg V.bl (decide_eq_false (by omega))
    refine ⟨_, rfl, a, rfl, ⟨_, SqL.of hf⟩, fun D nD => lc_list (K := K) (a := a) (xs := xs) (fun k H' => Same H H' ∧ H' D = some (.lst ((List.replicate k true).map V.bl))) ⟨same_new nD, upd_same⟩ (fun k H' _ p => SqL.of (p.1 _ _ hf)) ?_ ?_⟩
    · rintro k y H' hk ⟨sm, hD⟩
      have li : k < 3 := by
        have := (List.getElem?_eq_some_iff.mp hk).1
        omega
      obtain ⟨l, hl, il⟩ := (hL.keep sm).get hk
      obtain ⟨b0, _, b1, _⟩ := hb l (mem_at hl)
      refine ⟨rfl, ?_⟩
      refine ⟨_, rfl, y, l, rfl, il, b0, b1, _, hD, ?_, fun b o e => ?_, ?_⟩
      · rw [List.length_map, List.length_replicate]
        exact small1000 (by omega)
      · rw [upd_ne (ne_of_none (H := H) e nD)]
        exact sm _ _ e
      · rw [upd_same, List.replicate_succ', List.map_append]
        rfl
    · rintro H' ⟨sm, hD⟩
      refine ⟨D, _, rfl, SqL.of hD, ?_⟩
      rw [rep_all]
      exact q H' sm
theorem ok_how (F : FnP K "how_many_classes" sHow f fd) : FnOk P w K mg base CX0 1 f fd ["limits"] spHow := by
  have nd := scHow.nd
  refine F.ok scHow (fun vs H Q E h => ?_) (fun cdv A outer s H vs Q E hr h => ?_)
  · obtain ⟨a, L, rfl, _⟩ := h
    rfl
  · obtain ⟨a, L, rfl, ⟨xs, hf, hL⟩, ⟨h3, hb⟩, q⟩ := h
    have lx := hL.len
    refine ⟨_, PSs.nox (pss_cons (ps_set (i := 1) nd rfl (Or.inl rfl) pe_int)
      (pss_cons (ps_for PassesOwn.never rfl (pi_list (pv 0)) (pg_tup rfl (pgs_cons (pg_name (i := 2) nd rfl (Or.inl rfl)) (pgs_cons (pg_name (i := 3) nd rfl (Or.inl rfl)) pgs_nil)))
        (pss_one (ps_set (i := 1) nd rfl (Or.inl rfl) (pe_op op_mul (pv 1) (pe_op op_add (pv 2) (pv 3))))))
      (pss_one (ps_ret (pv 1))))), ?_⟩
    refine ⟨_, rfl, a, rfl, ⟨_, SqL.of hf⟩, for_list (K := K) (a := a) (xs := xs) (fun i σ H' => H' = H ∧ ∃ x y, σ = [some (.ref a), some (.int (many (L.take i))), x, y]) ⟨rfl, _, _, rfl⟩ (fun i σ H' _ p => p.1 ▸ SqL.of hf) ?_ ?_⟩
    · rintro i y σ H' hi ⟨rfl, x2, x3, rfl⟩
      obtain ⟨l, hl, ⟨t, rfl, ht⟩⟩ := hL.get hi
      obtain ⟨b0, b1, b2, b3⟩ := hb l (mem_at hl)
      refine ⟨t, _, rfl, SqT.of ht, rfl, _, _, rfl, _, _, rfl, rfl, _, rfl, _, rfl, _, rfl, _, _, rfl, rfl, _, _, rfl, rfl, mul_r (by omega) (by omega), rfl, some (.int l.1), some (.int l.2), ?_⟩
      show _ = [some (V.ref a), some (V.int (many (L.take (i + 1)))), some (V.int l.1), some (V.int l.2)]
      rw [show many (L.take (i + 1)) = many (L.take i) * (l.1 + l.2) from fold_take _ _ hl]
      rfl
    · rintro σ H' ⟨rfl, x2, x3, rfl⟩
      refine ⟨_, rfl, ?_⟩
      rw [lx, List.take_length]
      exact q
end
end KB
set_option Elab.async false
set_option linter.all false
set_option maxRecDepth 100000
set_option maxHeartbeats 4000000
namespace KB
open PySem PySem.Spec PyProof.Rows L2 XV
/-! ### the class Grid -/
structure GT (K : PySem.W.Frag) (mg : Str → Option Value) (C : Addr) : Prop where
  ic : C8.InsC K C
  nF : NoAttr K C "_limits"
  g : mg "Grid" = some (.ref C)
theorem GT.ty {K : PySem.W.Frag} {mg : Str → Option Value} {C : Addr} (T : GT K mg C) {H : Hp} {a dx : Addr} {fs : List (Str × V)} (e : H a = some (.ins C dx fs)) : TyX K H (.ref a) (.ref C) := .base (.ins e T.ic.cl T.ic.ha T.ic.hn T.ic.htk T.ic.hm)
theorem GT.nC_ {K : PySem.W.Frag} {C : Addr} : PySem.W.notFirst K C (.ref C) = true := by
  unfold PySem.W.notFirst
  rw [beq_self_eq_true]
  rfl
/-- a grid stands at x -/
def Gr (C : Addr) (H : Hp) (x : Addr) (L : List Lim) : Prop := ∃ dx l, H x = some (.ins C dx [("_limits", .ref l)]) ∧ LL H l L
theorem Gr.keep {C : Addr} {H H' : Hp} (s : Same H H') {x : Addr} {L : List Lim} (h : Gr C H x L) : Gr C H' x L := by
  obtain ⟨dx, l, e, r⟩ := h
  exact ⟨dx, l, s _ _ e, r.keep s⟩
theorem dr_neI {H : Hp} {g a : Addr} {n : Nat} {C dx : Addr} {fs : List (Str × V)} (d : Dr H g n) (h : H a = some (.ins C dx fs)) : a ≠ g := by
  rintro rfl
  obtain ⟨x, y, z, e, _⟩ := d
  rw [e] at h
  cases h
theorem Gr.but {C : Addr} {H H' : Hp} {g x : Addr} {n : Nat} {L : List Lim} (d : Dr H g n) (b : But H H' g) (h : Gr C H x L) : Gr C H' x L := by
  obtain ⟨dx, l, e, r⟩ := h
  exact ⟨dx, l, b _ _ (dr_neI d e) e, r.but d b⟩
theorem lk_l (v : V) : List.lookup ("_limits" : Str) [("_limits", v)] = some v := by simp [List.lookup]
theorem lk_no {m : Str} (v : V) (h : (m == ("_limits" : Str)) = false) : List.lookup m [(("_limits" : Str), v)] = none := by simp [List.lookup, h]
/-! ### == of lists of limits -/
def limD (l : Lim) : PyData := .tuple [.int l.1, .int l.2]
def LD (L : List Lim) : PyData := .list (L.map limD)
theorem lay_L : ∀ L : List Lim, PyData.canLayAll0 (L.map limD) = true
  | [] => by simp [PyData.canLayAll0]
  | l :: L => by
    have ih := lay_L L
    simp [PyData.canLayAll0, PyData.canLay0, limD, ih]
theorem depth_L : ∀ L : List Lim, PyData.depthAll (L.map limD) ≤ 1
  | [] => by simp [PyData.depthAll]
  | l :: L => by
    have ih := depth_L L
    simp only [List.map_cons, PyData.depthAll, limD, PyData.depth]
    omega
theorem shaped_L (L : List Lim) : SeqAt.shaped (LD L) = true := by
  have h := depth_L L
  have e : (LD L).depth ≤ 64 := by
    simp only [LD, PyData.depth]
    omega
  have e2 : (LD L).canLay0 = true := by
    simp only [LD, PyData.canLay0]
    exact lay_L L
  unfold SeqAt.shaped
  rw [e2, decide_eq_true e]
  rfl
theorem eqv_l (l m : Lim) : PyData.eqv (limD l) (limD m) = decide (l = m) := by
  obtain ⟨a, b⟩ := l
  obtain ⟨c, d⟩ := m
  simp only [limD, PyData.eqv, PyData.eqvAll, Prod.mk.injEq, Bool.and_true]
  by_cases h1 : a = c <;> by_cases h2 : b = d <;> simp [h1, h2]
theorem eqv_A : ∀ L M : List Lim, PyData.eqvAll (L.map limD) (M.map limD) = decide (L = M)
  | [], [] => by simp [PyData.eqvAll]
  | [], m :: M => by simp [PyData.eqvAll]
  | l :: L, [] => by simp [PyData.eqvAll]
  | l :: L, m :: M => by
    have ih := eqv_A L M
    simp only [List.map_cons, PyData.eqvAll, ih, eqv_l, List.cons.injEq]
    by_cases h1 : l = m <;> by_cases h2 : L = M <;> simp [h1, h2]
theorem eqv_L (L M : List Lim) : PyData.eqv (LD L) (LD M) = decide (L = M) := by
  show PyData.eqv (.list _) (.list _) = _
  simp only [PyData.eqv]
  exact eqv_A L M
theorem Lims.dp {K : PySem.W.Frag} {H : Hp} : ∀ {xs : List V} {L : List Lim}, Lims H xs L → DpAll K H xs (L.map limD)
  | _, _, .nil => .nil
  | _, _, .cons h r => .cons (by
      obtain ⟨a, rfl, t⟩ := h
      exact .tup (SqT.of t) (.cons (.int _) (.cons (.int _) .nil))) (Lims.dp r)
theorem LL.dp {K : PySem.W.Frag} {H : Hp} {a : Addr} {L : List Lim} (h : LL H a L) : Dp K H (.ref a) (LD L) := by
  obtain ⟨xs, e, r⟩ := h
  exact .lst (SqL.of e) r.dp
abbrev sInit : Stmt := inClass (top 28) 0
abbrev sMany : Stmt := inClass (top 28) 1
abbrev sLimits : Stmt := inClass (top 28) 2
abbrev sReqGrid : Stmt := top 44
abbrev sReqLike : Stmt := top 46
abbrev FnM (K : PySem.W.Frag) (m q : Str) (st : Stmt) (f : Addr) (fd : FuncData) : Prop := FunD K m q (defArgs st) (defBody st) (defScope st) [] [] f fd
theorem scInit : FnScope ["self", "limits"] ["self", "limits"] (defScope sInit) := ⟨rfl, rfl, rfl, by decide +kernel, rfl, by decide +kernel, by decide +kernel⟩
theorem scMany : FnScope ["self"] ["self"] (defScope sMany) := ⟨rfl, rfl, rfl, by decide +kernel, rfl, by decide +kernel, by decide +kernel⟩
theorem scLimits : FnScope ["self"] ["self"] (defScope sLimits) := ⟨rfl, rfl, rfl, by decide +kernel, rfl, by decide +kernel, by decide +kernel⟩
theorem scReqGrid : FnScope ["grid"] ["grid"] (defScope sReqGrid) := ⟨rfl, rfl, rfl, by decide +kernel, rfl, by decide +kernel, by decide +kernel⟩
theorem scReqLike : FnScope ["one", "other"] ["one", "other"] (defScope sReqLike) := ⟨rfl, rfl, rfl, by decide +kernel, rfl, by decide +kernel, by decide +kernel⟩
def spInit (C : Addr) : Sp := fun vs H Q _ => ∃ (x dx a : Addr) (L : List Lim), vs = [.ref x, .ref a] ∧ H x = some (.ins C dx []) ∧ LL H a L ∧ Lok L ∧ many L ≤ 600 ∧ ∀ (H' : Hp), (∀ b o, b ≠ x → H b = some o → H' b = some o) → Gr C H' x L → Q .non H'
def spMany (C : Addr) : Sp := fun vs H Q _ => ∃ (x : Addr) (L : List Lim), vs = [.ref x] ∧ Gr C H x L ∧ Q (.int (L.length : Int)) H
def spLimits (C : Addr) : Sp := fun vs H Q _ => ∃ (x : Addr) (L : List Lim), vs = [.ref x] ∧ Gr C H x L ∧ ∀ (H' : Hp) (p : Addr), Same H H' → H p = none → LL H' p L → Q (.ref p) H'
def spReqGrid (C : Addr) : Sp := fun vs H Q _ => ∃ x L, vs = [.ref x] ∧ Gr C H x L ∧ Q .non H
def spLike (C : Addr) : Sp := fun vs H Q _ => ∃ x y L M, vs = [.ref x, .ref y] ∧ Gr C H x L ∧ Gr C H y M ∧ L.length = M.length ∧ Q .non H
section
variable {P : Program} {w : World} {K : PySem.W.Frag} {mg : Str → Option Value} {base : Heap} {f : Addr} {fd : FuncData} {C : Addr}
theorem ok_init (F : FnM K "__init__" "Grid.__init__" sInit f fd) (T : GT K mg C) (o_isLL : Ok P w K mg base "is_list_of_limits" 4 ["value"] spIsLL) (o_how : Ok P w K mg base "how_many_classes" 1 ["limits"] spHow) (z_list : mg "list" = none) {tM : Tok} (h_M : mg "MOST_CLASSES" = some (.int 600 tM)) :
    FnOk P w K mg base CX0 5 f fd ["self", "limits"] (spInit C) := by
  refine F.ok scInit (fun vs H Q E h => ?_) (fun cdv A outer s H vs Q E hr h => ?_)
  · obtain ⟨x, dx, a, L, rfl, _⟩ := h
    rfl
  · obtain ⟨x, dx, a, L, rfl, hx, hL, hok, c, q⟩ := h
    have r1 : Room 1 (A.deeper (envOfC "Grid.__init__" (defScope sInit) s.heap.objs.size f cdv)) := hr.mono (by decide)
    refine ⟨_, PSs.nox (pss_cons (ps_if (pt_not (pt_val (pe_callO o_isLL hr (by rfl) (pa_cons (pv 1) pa_nil)))) (pss_one ps_never) pss_nil)
      (pss_cons (ps_if (pt_cmpR op_gt (pe_callO o_how r1 (by rfl) (pa_cons (pv 1) pa_nil)) (pe_glob (v := .int 600) (by rfl) h_M ⟨_, rfl⟩) (nomark _)) (pss_one ps_never) pss_nil)
      (pss_one (ps_fld (pv 0) (pe_callTy call_list_of (by rfl) z_list (by decide +kernel) (pa_cons (pv 1) pa_nil)) rfl)))), ?_⟩
    refine ⟨_, rfl, a, L, rfl, hL, hok, fun H1 s1 => ⟨true, rfl, iteF ?_⟩⟩
    have hL1 := hL.keep s1
    have hx1 := s1 _ _ hx
    refine ⟨_, rfl, a, L, rfl, hL1, hok, _, _, rfl, rfl, _, rfl, ite2 (fun z => ?_) (fun _ => ?_)⟩
    · have z : 600 < many L := of_decide_eq_true z
      exact absurd z (by omega)
    · obtain ⟨xs, hl, hr1⟩ := hL1
      refine ⟨_, rfl, a, xs, rfl, .inl (SqL.of hl), fun l nl => ?_⟩
      have s2 := same_new (o := .lst xs) nl
      have nx : x ≠ l := ne_of_none hx1 nl
      refine ⟨_, rfl, x, C, dx, _, rfl, s2 _ _ hx1, T.ic.cl, T.nF, (by show 0 < 1000; decide), ?_⟩
      refine q _ (fun b o nb e => ?_) ⟨dx, l, upd_same, xs, ?_, ?_⟩
      · rw [upd_ne nb]
        exact s2 _ _ (s1 _ _ e)
      · rw [upd_ne (Ne.symm nx)]
        exact upd_same
      · have hr2 := hr1.keep s2
        clear hr1
        generalize upd H1 l (.lst xs) = H2 at *
        have hx2 := s2 _ _ hx1
        have key : ∀ {xs : List V} {L : List Lim}, Lims H2 xs L → Lims (upd H2 x (.ins C dx (putF "_limits" (.ref l) []))) xs L := by
          intro xs L h
          induction h with
          | nil => exact .nil
          | cons h _ ih =>
            obtain ⟨t, e, ht⟩ := h
            refine .cons ⟨t, e, ?_⟩ ih
            rw [upd_ne (ne_of ht hx2 (by intro z; cases z))]
            exact ht
        exact key hr2
theorem ok_many (F : FnM K "many" "Grid.many" sMany f fd) (T : GT K mg C) (z_len : mg "len" = none) : FnOk P w K mg base CX0 1 f fd ["self"] (spMany C) := by
  refine F.ok scMany (fun vs H Q E h => ?_) (fun cdv A outer s H vs Q E hr h => ?_)
  · obtain ⟨x, L, rfl, _⟩ := h
    rfl
  · obtain ⟨x, L, rfl, ⟨dx, l, hx, xs, hl, hL⟩, q⟩ := h
    refine ⟨_, PSs.nox (pss_one (ps_ret (pe_callB call_len (by rfl) z_len boot_len (pa_cons (pe_fld (pv 0) rfl) pa_nil)))), ?_⟩
    exact ⟨_, rfl, x, C, dx, _, _, rfl, hx, T.ic.cl, T.nF, lk_l _, _, L.length, rfl, .inl ⟨_, SqL.of hl, hL.len.symm⟩, q⟩
theorem ok_limits (F : FnM K "limits" "Grid.limits" sLimits f fd) (T : GT K mg C) (z_list : mg "list" = none) : FnOk P w K mg base CX0 1 f fd ["self"] (spLimits C) := by
  refine F.ok scLimits (fun vs H Q E h => ?_) (fun cdv A outer s H vs Q E hr h => ?_)
  · obtain ⟨x, L, rfl, _⟩ := h
    rfl
  · obtain ⟨x, L, rfl, ⟨dx, l, hx, xs, hl, hL⟩, q⟩ := h
    refine ⟨_, PSs.nox (pss_one (ps_ret (pe_callTy call_list_of (by rfl) z_list (by decide +kernel) (pa_cons (pe_fld (pv 0) rfl) pa_nil)))), ?_⟩
    exact ⟨_, rfl, x, C, dx, _, _, rfl, hx, T.ic.cl, T.nF, lk_l _, l, xs, rfl, .inl (SqL.of hl), fun p np => q _ p (same_new np) np ⟨xs, upd_same, hL.keep (same_new np)⟩⟩
theorem ok_reqGrid (F : FnP K "require_grid" sReqGrid f fd) (T : GT K mg C) (z_isinstance : mg "isinstance" = none) : FnOk P w K mg base CX0 1 f fd ["grid"] (spReqGrid C) := by
  refine F.ok scReqGrid (fun vs H Q E h => ?_) (fun cdv A outer s H vs Q E hr h => ?_)
  · obtain ⟨x, L, rfl, _⟩ := h
    rfl
  · obtain ⟨x, L, rfl, ⟨dx, l, hx, hL⟩, q⟩ := h
    refine ⟨_, PSs.nox (pss_one (ps_if (pt_not (pt_val (pe_callB call_isi (by rfl) z_isinstance (by decide +kernel) (pa_cons (pv 0) (pa_cons (pe_glob (v := .ref C) (by rfl) T.g rfl) pa_nil))))) (pss_one ps_never) pss_nil)), ?_⟩
    exact ⟨_, rfl, _, _, _, _, true, rfl, .own C, T.ty hx, T.ic.me, true, rfl, iteF q⟩
end
end KB
set_option Elab.async false
set_option linter.all false
set_option maxRecDepth 100000
set_option maxHeartbeats 4000000
namespace XV
open PySem PySem.Spec PyProof.Rows L2
/-- a comprehension over zip of two lists of one length -/
theorem lc_zipL {K : PySem.W.Frag} {a b : Addr} {xs ys : List V} {g : TG} {tt : TT} {te : TE} {vs : List Nat} {σ : L2.St} {H1 : Hp} {D : Addr} {Qd : Hp → Prop} (hl : xs.length = ys.length) (Pv : Nat → Hp → Prop) (h0 : Pv 0 (upd H1 D (.lst [])))
    (hq : ∀ i H, Pv i H → SqL K H a xs ∧ SqL K H b ys)
    (hs : ∀ (i : Nat) (x y : V) (T : Addr) (H : Hp), xs[i]? = some x → ys[i]? = some y → Pv i H → H T = none → g (.ref T) (wipe σ vs) (upd H T (.tup [x, y])) fun σ2 H2 => wipe σ2 vs = wipe σ vs ∧ tt σ2 H2 fun c H3 =>
      if c = true then te σ2 H3 fun r H4 => ∃ acc, H4 D = some (.lst acc) ∧ acc.length < sizeLine ∧ Pv (i + 1) (upd H4 D (.lst (acc ++ [r]))) else Pv (i + 1) H3)
    (hd : ∀ H, Pv xs.length H → Qd H) :
    ∃ W : Nat → Nat → Hp → Prop, (∃ m, W 0 m (upd H1 D (.lst []))) ∧ ∀ i m H, W i m H →
      ((Itz K a b).stop i H ∧ Qd H) ∨ ((Itz K a b).go i H ∧ ∃ Nx : Hp → Prop, (∀ H', Nx H' → ∃ m', m' < m ∧ W (i + 1) m' H') ∧ ∀ x H', (Itz K a b).yld i H x H' → g x (wipe σ vs) H' fun σ2 H2 => wipe σ2 vs = wipe σ vs ∧ tt σ2 H2 fun c H3 =>
        if c = true then te σ2 H3 fun r H4 => ∃ acc, H4 D = some (.lst acc) ∧ acc.length < sizeLine ∧ Nx (upd H4 D (.lst (acc ++ [r]))) else Nx H3) := by
  refine ⟨fun i m H => m + i = xs.length ∧ Pv i H, ⟨xs.length, rfl, h0⟩, ?_⟩
  rintro i m H ⟨em, p⟩
  obtain ⟨q1, q2⟩ := hq i H p
  cases m with
  | zero =>
    have e : i = xs.length := by omega
    subst e
    exact .inl ⟨⟨xs, ys, q1, q2, .inl (Nat.le_refl _)⟩, hd H p⟩
  | succ m =>
    have l1 : i < xs.length := by omega
    have l2 : i < ys.length := by omega
    have g1 := List.getElem?_eq_getElem l1
    have g2 := List.getElem?_eq_getElem l2
    refine .inr ⟨⟨xs, ys, _, _, q1, q2, g1, g2⟩, Pv (i + 1), fun H' p' => ⟨m, Nat.lt_succ_self m, by omega, p'⟩, ?_⟩
    rintro v H' ⟨T, x, y, rfl, nT, rfl, f1, f2⟩
    exact hs i x y T H (f1 xs q1) (f2 ys q2) p nT
end XV
namespace KB
open PySem PySem.Spec PyProof.Rows L2 XV
/-! ### what is computed -/
def cls1 (l : Lim) (c : Int) : Int := if c < l.1 then c else l.1 + (c - l.1) % l.2
def clsL (L : List Lim) (p : List Int) : List Int := List.zipWith cls1 L p
def ref1 (l m : Lim) : Bool := decide (m.1 ≤ l.1) && decide (l.2 % m.2 = 0)
def refB (L M : List Lim) : Bool := (List.zipWith ref1 L M).all id
theorem zip_get {α β γ : Type} {f : α → β → γ} {xs : List α} {ys : List β} {i : Nat} {x : α} {y : β} (hx : xs[i]? = some x) (hy : ys[i]? = some y) : (List.zipWith f xs ys)[i]? = some (f x y) := by
  rw [List.getElem?_zipWith, hx, hy]
theorem zip_len {α β γ : Type} {f : α → β → γ} {xs : List α} {ys : List β} (h : xs.length = ys.length) : (List.zipWith f xs ys).length = xs.length := by
  rw [List.length_zipWith, h, Nat.min_self]
theorem take_all {α : Type} {xs : List α} {n : Nat} (h : xs.length = n) : xs.take n = xs := by rw [← h, List.take_length]
abbrev sClassOf : Stmt := top 30
abbrev sRefines : Stmt := top 33
abbrev sClsCount : Stmt := top 41
abbrev sReqPt : Stmt := top 45
theorem scClassOf : FnScope ["grid", "point", "limit", "count"] ["grid", "point"] (defScope sClassOf) := ⟨rfl, rfl, rfl, by decide +kernel, rfl, by decide +kernel, by decide +kernel⟩
theorem scRefines : FnScope ["one", "other", "limit", "wide"] ["one", "other"] (defScope sRefines) := ⟨rfl, rfl, rfl, by decide +kernel, rfl, by decide +kernel, by decide +kernel⟩
theorem scClsCount : FnScope ["limit", "count", "threshold", "period"] ["limit", "count"] (defScope sClsCount) := ⟨rfl, rfl, rfl, by decide +kernel, rfl, by decide +kernel, by decide +kernel⟩
theorem scReqPt : FnScope ["grid", "point"] ["grid", "point"] (defScope sReqPt) := ⟨rfl, rfl, rfl, by decide +kernel, rfl, by decide +kernel, by decide +kernel⟩
def spRefines (C : Addr) : Sp := fun vs H Q _ => ∃ x y L M, vs = [.ref x, .ref y] ∧ Gr C H x L ∧ Gr C H y M ∧ L.length = M.length ∧ Lok L ∧ Lok M ∧ ∀ H', Same H H' → Q (.bl (refB L M)) H'
def spClsCount : Sp := fun vs H Q _ => ∃ (v : V) (l : Lim) (c : Int), vs = [v, .int c] ∧ IsLim H v l ∧ 1 ≤ l.2 ∧ Q (.int (cls1 l c)) H
def spReqPt (C : Addr) : Sp := fun vs H Q _ => ∃ (x a : Addr) (L : List Lim) (p : List Int), vs = [.ref x, .ref a] ∧ Gr C H x L ∧ H a = some (.lst (p.map V.int)) ∧ L.length = p.length ∧ p.length ≤ 3 ∧ (∀ y ∈ p, 0 ≤ y) ∧ ∀ H', Same H H' → Q .non H'
def spClassOf (C : Addr) : Sp := fun vs H Q _ => ∃ (x a : Addr) (L : List Lim) (p : List Int), vs = [.ref x, .ref a] ∧ Gr C H x L ∧ Lok L ∧ H a = some (.lst (p.map V.int)) ∧ L.length = p.length ∧ (∀ y ∈ p, 0 ≤ y) ∧
  ∀ (H' : Hp) (r : Addr), Same H H' → H' r = some (.lst ((clsL L p).map V.int)) → Q (.ref r) H'
/-! ### methods, the making -/
structure OkMt (P : Program) (w : World) (K : PySem.W.Frag) (mg : Str → Option Value) (base : Heap) (C : Addr) (m : Str) (sp : Sp) : Prop where
  ex : ∃ f fd, FnOk P w K mg base CX0 1 f fd ["self"] sp ∧ Meth K C m f ∧ Binds K fd ["self"] []
structure OkMk (P : Program) (w : World) (K : PySem.W.Frag) (mg : Str → Option Value) (base : Heap) (C : Addr) : Prop where
  ex : ∃ f fd, Mk K C f ∧ FnOk P w K mg base CX0 5 f fd ["self", "limits"] (spInit C) ∧ Binds K fd ["self", "limits"] [] ∧ mg "Grid" = some (.ref C)
theorem same_two {H : Hp} {x dx : Addr} {o u : HO} (nx : H x = none) (ndx : H dx = none) (ne : dx ≠ x) : Same H (upd (upd H dx o) x u) :=
  (same_new ndx).trans (same_new (by
    rw [upd_ne (Ne.symm ne)]
    exact nx))
section
variable {X : Cx} {C : Addr} {e : Expr} {te : TE} {apos pos p : Pos} {t : TA}
theorem pe_many {pl : Sem Bool} (o : OkMt X.prog X.w X.K X.mg X.base C "many" (spMany C)) (T : GT X.K X.mg C) (he : PE X e te) (hr : Room 1 X.A) (ht : eval (.Call (.Attribute e "many" apos) [] [] pos) X.env = (do
      let ov ← eval e X.env
      standAt apos.atName
      let (f, first) ← holding [ov] (getMethod ov "many" pl)
      callWith pos f first (backTo pos (starEach [] X.env)) (backToKw pos (keywordEach [] X.env))) := by rfl) :
    PE X (.Call (.Attribute e "many" apos) [] [] pos) (fun σ H Q => te σ H fun x H1 => ∃ a L, x = .ref a ∧ Gr C H1 a L ∧ Q (.int (L.length : Int)) H1) := by
  obtain ⟨f, fd, F, hm, b⟩ := o.ex
  refine PE.le (pe_meth0 (pl := pl) (pe_mono he) T.ic.cl hm F hr b .nil pass0 ht) fun σ H Q h => ⟨_, h, ?_⟩
  rintro x H1 ⟨a, L, rfl, hg, q⟩
  obtain ⟨dx, l, hx, hL⟩ := id hg
  exact ⟨a, dx, _, rfl, hx, lk_no _ (by decide +kernel), a, L, rfl, hg, q⟩
theorem pe_limits {pl : Sem Bool} (o : OkMt X.prog X.w X.K X.mg X.base C "limits" (spLimits C)) (T : GT X.K X.mg C) (he : PE X e te) (hr : Room 1 X.A) (ht : eval (.Call (.Attribute e "limits" apos) [] [] pos) X.env = (do
      let ov ← eval e X.env
      standAt apos.atName
      let (f, first) ← holding [ov] (getMethod ov "limits" pl)
      callWith pos f first (backTo pos (starEach [] X.env)) (backToKw pos (keywordEach [] X.env))) := by rfl) :
    PE X (.Call (.Attribute e "limits" apos) [] [] pos) (fun σ H Q => te σ H fun x H1 => ∃ a L, x = .ref a ∧ Gr C H1 a L ∧ ∀ (H' : Hp) (p : Addr), Same H1 H' → H1 p = none → LL H' p L → Q (.ref p) H') := by
  obtain ⟨f, fd, F, hm, b⟩ := o.ex
  refine PE.le (pe_meth0 (pl := pl) (pe_mono he) T.ic.cl hm F hr b .nil pass0 ht) fun σ H Q h => ⟨_, h, ?_⟩
  rintro x H1 ⟨a, L, rfl, hg, q⟩
  obtain ⟨dx, l, hx, hL⟩ := id hg
  exact ⟨a, dx, _, rfl, hx, lk_no _ (by decide +kernel), a, L, rfl, hg, q⟩
/-- Grid(e) where nothing is raised -/
theorem pe_mk {T : GT X.K X.mg C} (o : OkMk X.prog X.w X.K X.mg X.base C) (hr : Room 6 X.A) (hg : Gl X "Grid") (he : PE X e te) (hs : starEach (e :: []) X.env = (false, eval e X.env) :: starEach [] X.env := by rfl) (hpl : (backTo pos (starEach [] X.env)).any (·.1) = false := by rfl) :
    PE X (.Call (.Name "Grid" p) [e] [] pos) (fun σ H Q => te σ H fun v H1 => ∃ a L, v = .ref a ∧ LL H1 a L ∧ Lok L ∧ many L ≤ 600 ∧ ∀ (H' : Hp) (z : Addr), Same H1 H' → H1 z = none → Gr C H' z L → Q (.ref z) H') := by
  obtain ⟨f, fd, M, F, b, g⟩ := o.ex
  refine PE.le (pe_make M F hr hg g b .nil pass0 (pa_cons (pe_mono he) pa_nil hs) (by decide) hs hpl) fun σ H Q h => ⟨_, h, ?_⟩
  rintro v H1 ⟨a, L, rfl, hL, hok, h6, q⟩
  intro x dx nx ndx ne
  have s := same_two (o := .own x) (u := .ins C dx []) nx ndx ne
  refine ⟨x, dx, a, L, rfl, upd_same, hL.keep s, hok, h6, fun H' bt hG => ⟨rfl, q H' x (fun b' o e => ?_) nx hG⟩⟩
  exact bt _ _ (ne_of_none e nx) (s _ _ e)
end
section
variable {P : Program} {w : World} {K : PySem.W.Frag} {mg : Str → Option Value} {base : Heap} {f : Addr} {fd : FuncData} {C : Addr}
theorem ok_clsCount (F : FnP K "class_count" sClsCount f fd) : FnOk P w K mg base CX0 1 f fd ["limit", "count"] spClsCount := by
  have nd := scClsCount.nd
  refine F.ok scClsCount (fun vs H Q E h => ?_) (fun cdv A outer s H vs Q E hr h => ?_)
  · obtain ⟨v, l, c, rfl, _⟩ := h
    rfl
  · obtain ⟨v, l, c, rfl, ⟨t, rfl, ht⟩, h1, q⟩ := h
    refine ⟨_, PSs.nox (pss_cons (ps_asg (pv 0) (pg_tup rfl (pgs_cons (pg_name (i := 2) nd rfl (Or.inl rfl)) (pgs_cons (pg_name (i := 3) nd rfl (Or.inl rfl)) pgs_nil))))
      (pss_cons (ps_if (pt_cmpR op_lt (pv 1) (pv 2) (nomark _)) (pss_one (ps_ret (pv 1))) pss_nil)
      (pss_one (ps_ret (pe_op op_add (pv 2) (pe_op op_mod (pe_op op_sub (pv 1) (pv 2)) (pv 3))))))), ?_⟩
    refine ⟨_, rfl, t, _, rfl, SqT.of ht, rfl, _, _, rfl, _, _, rfl, rfl, ?_⟩
    refine ⟨_, rfl, _, rfl, _, _, rfl, rfl, _, rfl, ite2 (fun z => ?_) (fun z => ?_)⟩
    · have z : c < l.1 := of_decide_eq_true z
      refine ⟨_, rfl, ?_⟩
      rw [show cls1 l c = c from if_pos z] at q
      exact q
    · have z : ¬ c < l.1 := fun y => z (decide_eq_true y)
      refine ⟨_, rfl, _, rfl, _, rfl, _, _, rfl, rfl, _, rfl, _, _, rfl, rfl, (by show (0 : Int) < l.2; omega), _, _, rfl, rfl, ?_⟩
      rw [show cls1 l c = _ from if_neg z] at q
      exact q
theorem ok_reqLike (F : FnP K "require_like_grids" sReqLike f fd) (T : GT K mg C) (o_grid : Ok P w K mg base "require_grid" 1 ["grid"] (spReqGrid C)) (o_many : OkMt P w K mg base C "many" (spMany C)) :
    FnOk P w K mg base CX0 2 f fd ["one", "other"] (spLike C) := by
  refine F.ok scReqLike (fun vs H Q E h => ?_) (fun cdv A outer s H vs Q E hr h => ?_)
  · obtain ⟨x, y, L, M, rfl, _⟩ := h
    rfl
  · obtain ⟨x, y, L, M, rfl, hx, hy, hl, q⟩ := h
    refine ⟨_, PSs.nox (pss_cons (ps_expr (pe_callO o_grid hr (by rfl) (pa_cons (pv 0) pa_nil)))
      (pss_cons (ps_expr (pe_callO o_grid hr (by rfl) (pa_cons (pv 1) pa_nil)))
      (pss_one (ps_if (pt_cmpR op_ne (pe_many o_many T (pv 0) (hr.mono (by decide))) (pe_many o_many T (pv 1) (hr.mono (by decide))) (nomark _)) (pss_one ps_never) pss_nil)))), ?_⟩
    refine ⟨_, rfl, x, L, rfl, hx, _, rfl, y, M, rfl, hy, _, rfl, x, L, rfl, hx, _, rfl, y, M, rfl, hy, rfl, _, rfl, ite2 (fun z => ?_) (fun _ => q)⟩
    rw [hl] at z
    simp at z
theorem ok_reqPt (F : FnP K "require_grid_point" sReqPt f fd) (T : GT K mg C) (o_grid : Ok P w K mg base "require_grid" 1 ["grid"] (spReqGrid C)) (o_many : OkMt P w K mg base C "many" (spMany C)) (o_isPoint : Ok P w K mg base "is_point" 3 ["many", "value"] spIsPoint) :
    FnOk P w K mg base CX0 4 f fd ["grid", "point"] (spReqPt C) := by
  refine F.ok scReqPt (fun vs H Q E h => ?_) (fun cdv A outer s H vs Q E hr h => ?_)
  · obtain ⟨x, a, L, p, rfl, _⟩ := h
    rfl
  · obtain ⟨x, a, L, p, rfl, hx, ha, hl, h3, h0, q⟩ := h
    refine ⟨_, PSs.nox (pss_cons (ps_expr (pe_callO o_grid (hr.mono (by decide)) (by rfl) (pa_cons (pv 0) pa_nil)))
      (pss_one (ps_if (pt_not (pt_val (pe_callO o_isPoint hr (by rfl) (pa_cons (pe_many o_many T (pv 0) (hr.mono (by decide))) (pa_cons (pv 1) pa_nil))))) (pss_one ps_never) pss_nil))), ?_⟩
    refine ⟨_, rfl, x, L, rfl, hx, ?_⟩
    refine ⟨_, rfl, x, L, rfl, hx, _, rfl, a, p, ?_, ha, h3, h0, fun H1 s1 => ⟨true, rfl, iteF (q H1 s1)⟩⟩
    rw [hl]
    rfl
theorem ok_classOf (F : FnP K "class_of" sClassOf f fd) (T : GT K mg C) (o_reqPt : Ok P w K mg base "require_grid_point" 4 ["grid", "point"] (spReqPt C)) (o_cls : Ok P w K mg base "class_count" 1 ["limit", "count"] spClsCount) (o_limits : OkMt P w K mg base C "limits" (spLimits C)) (z_zip : mg "zip" = none) :
    FnOk P w K mg base CX0 5 f fd ["grid", "point"] (spClassOf C) := by
  have nd := scClassOf.nd
  refine F.ok scClassOf (fun vs H Q E h => ?_) (fun cdv A outer s H vs Q E hr h => ?_)
  · obtain ⟨x, a, L, p, rfl, _⟩ := h
    rfl
  · obtain ⟨x, a, L, p, rfl, hx, ⟨h3, hb⟩, ha, hl, h0, q⟩ := h
    have r1 : Room 1 (A.deeper (envOfC "class_of" (defScope sClassOf) s.heap.objs.size f cdv)) := hr.mono (by decide)
    refine ⟨_, PSs.nox (pss_cons (ps_expr (pe_callO o_reqPt hr (by rfl) (pa_cons (pv 0) (pa_cons (pv 1) pa_nil))))
      (pss_one (ps_ret (pe_lc (own := [("limit", 2), ("count", 3)]) (g := gTup K 2 (gCons (gName 2) (gCons (gName 3) gNil))) (by rfl) nd (pi_zip (by rfl) z_zip (pa_cons (pe_limits o_limits T (pv 0) r1) (pa_cons (pv 1) pa_nil))) (blkOk_by (N := ["grid", "point", "limit", "count"]) (sc := defScope sClassOf) (own := [("limit", 2), ("count", 3)]) (by decide +kernel))
        (fun _ _ _ _ _ => pg_tup rfl (pgs_cons (pg_name (i := 2) nd rfl (Or.inl rfl)) (pgs_cons (pg_name (i := 3) nd rfl (Or.inl rfl)) pgs_nil))) (fun _ _ _ _ _ => pts_nil)
        (fun _ _ _ _ _ => pe_callO o_cls r1 (by rfl) (pa_cons (pv 2) (pa_cons (pv 3) pa_nil))))))), ?_⟩
    refine ⟨_, rfl, _, rfl, x, a, L, p, rfl, hx, ha, hl, by omega, h0, fun H1 s1 => ?_⟩
    refine ⟨_, rfl, x, L, rfl, hx.keep s1, fun H2 m s2 nm ⟨xs, hm, hL⟩ => ⟨_, rfl, m, a, xs, p.map V.int, rfl, SqL.of hm, SqL.of (s2 _ _ (s1 _ _ ha)), fun D nD => ?_⟩⟩
    have lx := hL.len
    refine lc_zipL (K := K) (a := m) (b := a) (xs := xs) (ys := p.map V.int) (by rw [List.length_map]; omega) (fun k H' => Same H2 H' ∧ H' D = some (.lst (((clsL L p).take k).map V.int))) ⟨same_new nD, upd_same⟩ (fun i H' z => ⟨SqL.of (z.1 _ _ hm), SqL.of (z.1 _ _ (s2 _ _ (s1 _ _ ha)))⟩) ?_ ?_
    · rintro i x0 y0 U H' hx0 hy0 ⟨sm, hD⟩ nU
      obtain ⟨l, hl2, il⟩ := hL.get hx0
      rw [List.getElem?_map] at hy0
      obtain ⟨c, ec, rfl⟩ := Option.map_eq_some_iff.mp hy0
      have sU := same_new (o := .tup [x0, .int c]) nU
      have li : i < 3 := by
        have := (List.getElem?_eq_some_iff.mp ec).1
        omega
      refine ⟨U, _, rfl, SqT.of upd_same, rfl, _, _, rfl, _, _, rfl, rfl, rfl, ?_⟩
      refine ⟨_, rfl, _, rfl, _, l, c, rfl, (il.keep sm).keep sU, (hb l (mem_at hl2)).2.2.1, _, sU _ _ hD, ?_, fun b o e => ?_, ?_⟩
      · rw [List.length_map]
        exact small1000 (Nat.le_trans (List.length_take_le _ _) (by omega))
      · rw [upd_ne (ne_of_none e nD)]
        exact sU _ _ (sm _ _ e)
      · rw [upd_same, List.take_add_one, show (clsL L p)[i]? = _ from zip_get hl2 ec, List.map_append]
        rfl
    · rintro H' ⟨sm, hD⟩
      rw [take_all (n := xs.length) (by rw [show (clsL L p).length = L.length from zip_len hl]; omega)] at hD
      exact q H' D ((s1.trans s2).trans sm) hD
theorem ok_refines (F : FnP K "refines" sRefines f fd) (T : GT K mg C) (o_like : Ok P w K mg base "require_like_grids" 2 ["one", "other"] (spLike C)) (o_limits : OkMt P w K mg base C "limits" (spLimits C)) (z_zip : mg "zip" = none) (z_all : mg "all" = none) :
    FnOk P w K mg base CX0 3 f fd ["one", "other"] (spRefines C) := by
  have nd := scRefines.nd
  refine F.ok scRefines (fun vs H Q E h => ?_) (fun cdv A outer s H vs Q E hr h => ?_)
  · obtain ⟨x, y, L, M, rfl, _⟩ := h
    rfl
  · obtain ⟨x, y, L, M, rfl, hx, hy, hl, ⟨h3, hb⟩, ⟨h4, hc⟩, q⟩ := h
    have r1 : Room 1 (A.deeper (envOfC "refines" (defScope sRefines) s.heap.objs.size f cdv)) := hr.mono (by decide)
    refine ⟨_, PSs.nox (pss_cons (ps_expr (pe_callO o_like hr (by rfl) (pa_cons (pv 0) (pa_cons (pv 1) pa_nil))))
      (pss_one (ps_ret (pe_callB (cr_all rfl) (by rfl) z_all (by decide +kernel) (pa_cons (pe_lc (own := [("limit", 2), ("wide", 3)]) (g := gTup K 2 (gCons (gName 2) (gCons (gName 3) gNil))) (by rfl) nd (pi_zip (by rfl) z_zip (pa_cons (pe_limits o_limits T (pv 0) r1) (pa_cons (pe_limits o_limits T (pv 1) r1) pa_nil))) (blkOk_by (N := ["one", "other", "limit", "wide"]) (sc := defScope sRefines) (own := [("limit", 2), ("wide", 3)]) (by decide +kernel))
        (fun _ _ _ _ _ => pg_tup rfl (pgs_cons (pg_name (i := 2) nd rfl (Or.inl rfl)) (pgs_cons (pg_name (i := 3) nd rfl (Or.inl rfl)) pgs_nil))) (fun _ _ _ _ _ => pts_nil)
        (fun _ _ _ _ _ => pe_and (pe_cmpR op_ge (pe_ix (ix_tupK (K := K) rfl) (pv 2) pe_int (fun _ _ => rfl)) (pe_ix (ix_tupK (K := K) rfl) (pv 3) pe_int (fun _ _ => rfl)) (nomark _)) (pe_one (pe_cmpR op_eq (pe_op op_mod (pe_ix (ix_tupK (K := K) rfl) (pv 2) pe_int (fun _ _ => rfl)) (pe_ix (ix_tupK (K := K) rfl) (pv 3) pe_int (fun _ _ => rfl))) pe_int (nomark _))))) pa_nil))))), ?_⟩
    refine ⟨_, rfl, _, rfl, x, y, L, M, rfl, hx, hy, hl, ?_⟩
    · skip
      refine ⟨_, rfl, x, L, rfl, hx, fun H2 m s2 nm hm2 => ⟨_, rfl, y, M, rfl, hy.keep s2, fun H3 n s3 nn ⟨ys, hn, hM⟩ => ?_⟩⟩
      obtain ⟨xs, hm, hL⟩ := hm2.keep s3
      have lx := hL.len
      have ly := hM.len
      refine ⟨m, n, xs, ys, rfl, SqL.of hm, SqL.of hn, fun D nD => ?_⟩
      refine lc_zipL (K := K) (a := m) (b := n) (xs := xs) (ys := ys) (by omega) (fun k H' => Same H3 H' ∧ H' D = some (.lst (((List.zipWith ref1 L M).take k).map V.bl))) ⟨same_new nD, upd_same⟩ (fun i H' z => ⟨SqL.of (z.1 _ _ hm), SqL.of (z.1 _ _ hn)⟩) ?_ ?_
      · rintro i x0 y0 U H' hx0 hy0 ⟨sm, hD⟩ nU
        obtain ⟨l, hl2, ⟨t, rfl, ht⟩⟩ := hL.get hx0
        obtain ⟨k, hk2, ⟨t', rfl, ht'⟩⟩ := hM.get hy0
        have sU := same_new (o := .tup [.ref t, .ref t']) nU
        have t1 := sU _ _ (sm _ _ ht)
        have t2 := sU _ _ (sm _ _ ht')
        have li : i < 3 := by
          have := (List.getElem?_eq_some_iff.mp hl2).1
          omega
        have kpos := (hc k (mem_at hk2)).2.2.1
        have fin : ∀ b : Bool, b = ref1 l k → ∃ acc, (upd H' U (.tup [.ref t, .ref t'])) D = some (.lst acc) ∧ acc.length < sizeLine ∧ (Same H3 (upd (upd H' U (.tup [.ref t, .ref t'])) D (.lst (acc ++ [.bl b]))) ∧ (upd (upd H' U (.tup [.ref t, .ref t'])) D (.lst (acc ++ [.bl b]))) D = some (.lst (((List.zipWith ref1 L M).take (i + 1)).map V.bl))) := by
          rintro b rfl
          refine ⟨_, sU _ _ hD, ?_, fun b o e => ?_, ?_⟩
          · rw [List.length_map]
            exact small1000 (Nat.le_trans (List.length_take_le _ _) (by omega))
          · rw [upd_ne (ne_of_none e nD)]
            exact sU _ _ (sm _ _ e)
          · rw [upd_same, List.take_add_one, zip_get hl2 hk2, List.map_append]
            rfl
        refine ⟨U, _, rfl, SqT.of upd_same, rfl, _, _, rfl, _, _, rfl, rfl, rfl, ?_⟩
        refine ⟨_, rfl, t, _, _, _, rfl, rfl, SqT.of t1, (show atI [V.int l.1, V.int l.2] ((0 : Nat) : Int) = _ from atI_nat rfl), _, rfl, t', _, _, _, rfl, rfl, SqT.of t2, (show atI [V.int k.1, V.int k.2] ((0 : Nat) : Int) = _ from atI_nat rfl), _, _, rfl, rfl, decide (k.1 ≤ l.1), rfl, ?_⟩
        by_cases c : k.1 ≤ l.1
        · rw [decide_eq_true c]
          refine iteT ⟨_, rfl, t, _, _, _, rfl, rfl, SqT.of t1, (show atI [V.int l.1, V.int l.2] ((1 : Nat) : Int) = _ from atI_nat rfl), _, rfl, t', _, _, _, rfl, rfl, SqT.of t2, (show atI [V.int k.1, V.int k.2] ((1 : Nat) : Int) = _ from atI_nat rfl), _, _, rfl, rfl, (by show (0 : Int) < k.2; omega), rfl, fin _ ?_⟩
          show decide (V.int (l.2 % k.2) = V.int 0) = _
          unfold ref1
          rw [decide_eq_true c, Bool.true_and]
          exact decide_eq_decide.mpr ⟨V.int.inj, congrArg V.int⟩
        · rw [decide_eq_false c]
          refine iteF (fin _ ?_)
          unfold ref1
          rw [decide_eq_false c]
          rfl
      · rintro H' ⟨sm, hD⟩
        rw [take_all (n := xs.length) (by rw [zip_len hl]; omega)] at hD
        exact ⟨D, _, rfl, SqL.of hD, q H' ((s2.trans s3).trans sm)⟩
end
end KB
set_option Elab.async false
set_option linter.all false
set_option maxRecDepth 100000
set_option maxHeartbeats 4000000
namespace KB
open PySem PySem.Spec PyProof.Rows L2 XV
theorem Lims.updL {H : Hp} {D : Addr} {ys : List V} {o : HO} (hD : H D = some (.lst ys)) : ∀ {xs : List V} {L : List Lim}, Lims H xs L → Lims (upd H D o) xs L
  | _, _, .nil => .nil
  | _, _, .cons h r => .cons (by
      obtain ⟨a, e, t⟩ := h
      refine ⟨a, e, ?_⟩
      rw [upd_ne (ne_of t hD (by intro z; cases z))]
      exact t) (Lims.updL hD r)
theorem dr_upd {H : Hp} {g D : Addr} {n : Nat} {o : HO} (d : Dr H g n) (h : g ≠ D) : Dr (upd H D o) g n := by
  obtain ⟨a, b, c, e, r⟩ := d
  exact ⟨a, b, c, by rw [upd_ne h]; exact e, r⟩
theorem dr_new {H : Hp} {g D : Addr} {n : Nat} {o : HO} (d : Dr H g n) (h : H D = none) : Dr (upd H D o) g n := by
  refine dr_upd d ?_
  rintro rfl
  obtain ⟨a, b, c, e, _⟩ := d
  rw [h] at e
  cases e
theorem dr_ne {H : Hp} {g D : Addr} {n : Nat} (d : Dr H g n) (h : H D = none) : g ≠ D := by
  rintro rfl
  obtain ⟨a, b, c, e, _⟩ := d
  rw [h] at e
  cases e
theorem dr_same {H H' : Hp} {g : Addr} {n : Nat} (d : Dr H g n) (s : Same H H') : Dr H' g n := by
  obtain ⟨a, b, c, e, r⟩ := d
  exact ⟨a, b, c, s _ _ e, r⟩
/-! ### of ref1 -/
theorem ref_all {L M : List Lim} (h : ∀ (i : Nat) (l m : Lim), L[i]? = some l → M[i]? = some m → ref1 l m = true) : refB L M = true := by
  unfold refB
  rw [List.all_eq_true]
  intro x hx
  obtain ⟨i, hi⟩ := List.mem_iff_getElem?.mp hx
  rw [List.getElem?_zipWith] at hi
  cases e1 : L[i]? with
  | none =>
    rw [e1] at hi
    cases hi
  | some l =>
    cases e2 : M[i]? with
    | none =>
      rw [e1, e2] at hi
      cases hi
    | some m =>
      rw [e1, e2] at hi
      cases hi
      exact h i l m e1 e2
theorem ref_at {L M : List Lim} (h : refB L M = true) {i : Nat} {l m : Lim} (hl : L[i]? = some l) (hm : M[i]? = some m) : ref1 l m = true := by
  unfold refB at h
  rw [List.all_eq_true] at h
  exact h _ (mem_at (zip_get hl hm))
abbrev sLimL : Stmt := top 52
abbrev sLeast : Stmt := top 55
abbrev sClassL : Stmt := top 56
abbrev sManyL : Stmt := top 61
abbrev nLimL : List Str := ["_law_generator_here", "_law_many_here", "_law_least_here", "_law_most", "_law_at"]
theorem scLimL : FnScope nLimL ["_law_generator_here", "_law_many_here", "_law_least_here", "_law_most"] (defScope sLimL) := ⟨rfl, rfl, rfl, by decide +kernel, rfl, by decide +kernel, by decide +kernel⟩
theorem scLeast : FnScope ["_law_limit", "_law_count"] ["_law_limit", "_law_count"] (defScope sLeast) := ⟨rfl, rfl, rfl, by decide +kernel, rfl, by decide +kernel, by decide +kernel⟩
theorem scClassL : FnScope ["_law_limits_here", "_law_point_here", "_law_at"] ["_law_limits_here", "_law_point_here"] (defScope sClassL) := ⟨rfl, rfl, rfl, by decide +kernel, rfl, by decide +kernel, by decide +kernel⟩
theorem scManyL : FnScope ["_law_limits_here", "_law_found", "_law_limit"] ["_law_limits_here"] (defScope sManyL) := ⟨rfl, rfl, rfl, by decide +kernel, rfl, by decide +kernel, by decide +kernel⟩
/-- the limits are at most t, p -/
def Bnd (t p : Int) (L : List Lim) : Prop := ∀ l ∈ L, 0 ≤ l.1 ∧ l.1 ≤ t ∧ 1 ≤ l.2 ∧ l.2 ≤ p
def spLimL : Sp := fun vs H Q _ => ∃ (g : Addr) (n m : Nat) (t p : Int), vs = [.ref g, .int m, .int t, .int p] ∧ Dr H g n ∧ n ≤ 500000 ∧ m ≤ 3 ∧ 0 ≤ t ∧ t ≤ 1000 ∧ 1 ≤ p ∧ p ≤ 1000 ∧
  ∀ (H' : Hp) (r : Addr) (L : List Lim), L.length = m → Bnd t p L → But H H' g → Dr H' g (n + 40 * m) → H r = none → LL H' r L → Q (.ref r) H'
def spLeast : Sp := fun vs H Q _ => ∃ (v : V) (l : Lim) (c : Int), vs = [v, .int c] ∧ IsLim H v l ∧ 1 ≤ l.2 ∧ Q (.int (cls1 l c)) H
def spClassL : Sp := fun vs H Q _ => ∃ (a b : Addr) (L : List Lim) (p : List Int), vs = [.ref a, .ref b] ∧ LL H a L ∧ H b = some (.lst (p.map V.int)) ∧ L.length = p.length ∧ Lok L ∧ ∀ (H' : Hp) (r : Addr), Same H H' → H' r = some (.lst ((clsL L p).map V.int)) → Q (.ref r) H'
def spManyL : Sp := fun vs H Q _ => ∃ (a : Addr) (L : List Lim), vs = [.ref a] ∧ LL H a L ∧ Lok L ∧ Q (.int (many L)) H
section
variable {P : Program} {w : World} {K : PySem.W.Frag} {mg : Str → Option Value} {base : Heap} {f : Addr} {fd : FuncData} {C : Addr}
theorem ok_limL (F : FnP K "_law_limits" sLimL f fd) (oRand : Ok P w K mg base "_law_random" 2 ["_law_generator_here", "_law_bound"] spRand) (z_range : mg "range" = none) : FnOk P w K mg base CX0 3 f fd ["_law_generator_here", "_law_many_here", "_law_least_here", "_law_most"] spLimL := by
  have nd := scLimL.nd
  refine F.ok scLimL (fun vs H Q E h => ?_) (fun cdv A outer s H vs Q E hr h => ?_)
  · obtain ⟨g, n, m, t, p, rfl, _⟩ := h
    rfl
  · obtain ⟨g, n, m, t, p, rfl, dr, hn, hm, t0, t1, p0, p1, q⟩ := h
    have r2 : Room 2 (A.deeper (envOfC "_law_limits" (defScope sLimL) s.heap.objs.size f cdv)) := hr
    refine ⟨_, PSs.nox (pss_one (ps_ret (pe_lc (own := [("_law_at", 4)]) (g := gName 4) (by rfl) nd (pi_range1 (by rfl) z_range (pa_cons (pv 1) pa_nil)) (blkOk_by (N := nLimL) (sc := defScope sLimL) (own := [("_law_at", 4)]) (by decide +kernel)) (fun _ _ _ _ _ => pg_name (i := 4) nd rfl (Or.inl rfl)) (fun _ _ _ _ _ => pts_nil)
        (fun _ _ _ _ _ => pe_tup (pa_cons (pe_callO oRand r2 (by rfl) (pa_cons (pv 0) (pa_cons (pe_op op_add (pv 2) pe_int) pa_nil))) (pa_cons (pe_op op_add pe_int (pe_callO oRand r2 (by rfl) (pa_cons (pv 0) (pa_cons (pv 3) pa_nil)))) pa_nil)))))), ?_⟩
    refine ⟨_, rfl, _, rfl, by omega, by omega, fun D nD => ?_⟩
    rw [show ((m : Nat) : Int).toNat = m from by omega]
    have gD := dr_ne dr nD
    refine lc_range (lo := 0) (n := m) (fun k H' => But H H' g ∧ Dr H' g (n + 40 * k) ∧ ∃ (L : List Lim) (acc : List V), L.length = k ∧ Bnd t p L ∧ H' D = some (.lst acc) ∧ Lims H' acc L) ⟨Same.but (same_new nD), dr_new dr nD, [], [], rfl, (fun l hl => by cases hl), upd_same, .nil⟩ ?_ ?_
    · rintro j H' hj ⟨b1, d1, L, acc, hl, hb, hD, hA⟩
      refine ⟨rfl, ?_⟩
      refine ⟨_, rfl, _, rfl, _, _, rfl, rfl, g, _, t + 1, rfl, d1, by omega, by omega, Int.lt_of_le_of_lt (b := 1001) (by omega) (by decide), fun H2 x x0 x1 b2 d2 => ?_⟩
      refine ⟨_, rfl, _, rfl, g, _, p, rfl, d2, by omega, by omega, Int.lt_of_le_of_lt (b := 1001) (by omega) (by decide), fun H3 y y0 y1 b3 d3 => ⟨_, _, rfl, rfl, (by show 2 ≤ sizeLine; decide), fun u nu => ?_⟩⟩
      have b4 := b2.trans b3
      have hD3 := b4 _ _ (Ne.symm gD) hD
      have hA3 := (hA.but d1 b2).but d2 b3
      have s4 := same_new (o := .tup [.int x, .int (1 + y)]) nu
      have hA4 := hA3.keep s4
      have hD4 := s4 _ _ hD3
      refine ⟨acc, hD4, ?_, fun b o nb e => ?_, ?_, L ++ [(x, 1 + y)], acc ++ [.ref u], by simp [hl], ?_, upd_same, Lims.updL hD4 (Lims.snoc (m := (x, 1 + y)) ⟨u, rfl, upd_same⟩ hA4)⟩
      · have := hA.len
        exact small1000 (by omega)
      · rw [upd_ne (ne_of_none (H := H) e nD)]
        exact s4 _ _ (b4 _ _ nb (b1 _ _ nb e))
      · exact dr_upd (dr_new (d3.mono (by omega)) nu) gD
      · intro l hl2
        rcases List.mem_append.mp hl2 with h | h
        · exact hb l h
        · rcases List.mem_singleton.mp h with rfl
          exact ⟨x0, by show x ≤ t; omega, by show 1 ≤ 1 + y; omega, by show 1 + y ≤ p; omega⟩
    · rintro H' ⟨b1, d1, L, acc, hl, hb, hD, hA⟩
      exact q H' D L hl hb b1 d1 nD ⟨acc, hD, hA⟩
theorem ok_least (F : FnP K "_law_least" sLeast f fd) (z_int : mg "int" = none) : FnOk P w K mg base CX0 1 f fd ["_law_limit", "_law_count"] spLeast := by
  refine F.ok scLeast (fun vs H Q E h => ?_) (fun cdv A outer s H vs Q E hr h => ?_)
  · obtain ⟨v, l, c, rfl, _⟩ := h
    rfl
  · obtain ⟨v, l, c, rfl, ⟨t, rfl, ht⟩, h1, q⟩ := h
    refine ⟨_, PSs.nox (pss_cons (ps_if (pt_cmpR op_lt (pv 1) (pe_ix ix_tup (pv 0) pe_int (fun _ _ => rfl)) (nomark _)) (pss_one (ps_ret (pv 1))) pss_nil)
      (pss_one (ps_ret (pe_op op_add (pe_ix ix_tup (pv 0) pe_int (fun _ _ => rfl)) (pe_op op_mod (pe_callTy call_int1 (by rfl) z_int (by decide +kernel) (pa_cons (pe_op op_sub (pv 1) (pe_ix ix_tup (pv 0) pe_int (fun _ _ => rfl))) pa_nil)) (pe_ix ix_tup (pv 0) pe_int (fun _ _ => rfl))))))), ?_⟩
    have i0 : atI [V.int l.1, V.int l.2] ((0 : Nat) : Int) = some (V.int l.1) := atI_nat rfl
    have i1 : atI [V.int l.1, V.int l.2] ((1 : Nat) : Int) = some (V.int l.2) := atI_nat rfl
    refine ⟨_, rfl, _, rfl, t, _, _, _, rfl, rfl, SqT.of ht, i0, _, _, rfl, rfl, _, rfl, ite2 (fun z => ?_) (fun z => ?_)⟩
    · have z : c < l.1 := of_decide_eq_true z
      refine ⟨_, rfl, ?_⟩
      rw [show cls1 l c = c from if_pos z] at q
      exact q
    · have z : ¬ c < l.1 := fun y => z (decide_eq_true y)
      refine ⟨_, rfl, t, _, _, _, rfl, rfl, SqT.of ht, i0, _, rfl, _, rfl, t, _, _, _, rfl, rfl, SqT.of ht, i0, _, _, rfl, rfl, .inl ⟨_, rfl, _, rfl, t, _, _, _, rfl, rfl, SqT.of ht, i1, _, _, rfl, rfl, (by show (0 : Int) < l.2; omega), _, _, rfl, rfl, ?_⟩⟩
      rw [show cls1 l c = _ from if_neg z] at q
      exact q
theorem ok_classL (F : FnP K "_law_class" sClassL f fd) (o_least : Ok P w K mg base "_law_least" 1 ["_law_limit", "_law_count"] spLeast) (z_range : mg "range" = none) (z_len : mg "len" = none) : FnOk P w K mg base CX0 2 f fd ["_law_limits_here", "_law_point_here"] spClassL := by
  have nd := scClassL.nd
  refine F.ok scClassL (fun vs H Q E h => ?_) (fun cdv A outer s H vs Q E hr h => ?_)
  · obtain ⟨a, b, L, p, rfl, _⟩ := h
    rfl
  · obtain ⟨a, b, L, p, rfl, ⟨xs, ha, hL⟩, hb, hl, ⟨h3, hbd⟩, q⟩ := h
    have lx := hL.len
    have r1 : Room 1 (A.deeper (envOfC "_law_class" (defScope sClassL) s.heap.objs.size f cdv)) := hr
    refine ⟨_, PSs.nox (pss_one (ps_ret (pe_lc (own := [("_law_at", 2)]) (g := gName 2) (by rfl) nd (pi_range1 (by rfl) z_range (pa_cons (pe_callB call_len (by rfl) z_len boot_len (pa_cons (pv 0) pa_nil)) pa_nil)) (blkOk_by (N := ["_law_limits_here", "_law_point_here", "_law_at"]) (sc := defScope sClassL) (own := [("_law_at", 2)]) (by decide +kernel)) (fun _ _ _ _ _ => pg_name (i := 2) nd rfl (Or.inl rfl)) (fun _ _ _ _ _ => pts_nil)
        (fun _ _ _ _ _ => pe_callO o_least r1 (by rfl) (pa_cons (pe_ix (ix_listK (K := K) rfl) (pv 0) (pv 2) (fun _ _ => rfl)) (pa_cons (pe_ix (ix_listK (K := K) rfl) (pv 1) (pv 2) (fun _ _ => rfl)) pa_nil)))))), ?_⟩
    refine ⟨_, rfl, _, L.length, rfl, .inl ⟨_, SqL.of ha, lx.symm⟩, (L.length : Int), rfl, by omega, by omega, fun D nD => ?_⟩
    rw [show ((L.length : Nat) : Int).toNat = L.length from by omega]
    refine lc_range (lo := 0) (n := L.length) (fun k H' => Same H H' ∧ H' D = some (.lst (((clsL L p).take k).map V.int))) ⟨same_new nD, upd_same⟩ ?_ ?_
    · rintro j H' hj ⟨sm, hD⟩
      rw [Int.zero_add]
      have el : L[j]? = some L[j] := List.getElem?_eq_getElem hj
      have ep : p[j]? = some p[j] := List.getElem?_eq_getElem (by omega)
      obtain ⟨x, ex, il⟩ := hL.at el
      have gp : (p.map V.int)[j]? = some (.int p[j]) := by
        rw [List.getElem?_map, ep]
        rfl
      refine ⟨rfl, ?_⟩
      refine ⟨_, rfl, _, rfl, a, _, _, _, rfl, rfl, SqL.of (sm _ _ ha), atI_nat ex, _, rfl, _, rfl, b, _, _, _, rfl, rfl, SqL.of (sm _ _ hb), atI_nat gp, x, L[j], p[j], rfl, il.keep sm, (hbd _ (mem_at el)).2.2.1, _, hD, ?_, fun b o e => ?_, ?_⟩
      · rw [List.length_map]
        exact small1000 (Nat.le_trans (List.length_take_le _ _) (by omega))
      · rw [upd_ne (ne_of_none e nD)]
        exact sm _ _ e
      · rw [upd_same, List.take_add_one, show (clsL L p)[j]? = _ from zip_get el ep, List.map_append]
        rfl
    · rintro H' ⟨sm, hD⟩
      rw [take_all (n := L.length) (show (clsL L p).length = L.length from zip_len hl)] at hD
      exact q H' D sm hD
theorem ok_manyL (F : FnP K "_law_many" sManyL f fd) : FnOk P w K mg base CX0 1 f fd ["_law_limits_here"] spManyL := by
  have nd := scManyL.nd
  refine F.ok scManyL (fun vs H Q E h => ?_) (fun cdv A outer s H vs Q E hr h => ?_)
  · obtain ⟨a, L, rfl, _⟩ := h
    rfl
  · obtain ⟨a, L, rfl, ⟨xs, hf, hL⟩, ⟨h3, hb⟩, q⟩ := h
    have lx := hL.len
    refine ⟨_, PSs.nox (pss_cons (ps_set (i := 1) nd rfl (Or.inl rfl) pe_int)
      (pss_cons (ps_for PassesOwn.never rfl (pi_list (pv 0)) (pg_name (i := 2) nd rfl (Or.inl rfl))
        (pss_one (ps_set (i := 1) nd rfl (Or.inl rfl) (pe_op op_mul (pv 1) (pe_op op_add (pe_ix ix_tup (pv 2) pe_int (fun _ _ => rfl)) (pe_ix ix_tup (pv 2) pe_int (fun _ _ => rfl)))))))
      (pss_one (ps_ret (pv 1))))), ?_⟩
    refine ⟨_, rfl, a, rfl, ⟨_, SqL.of hf⟩, for_list (K := K) (a := a) (xs := xs) (fun i σ H' => H' = H ∧ ∃ x, σ = [some (.ref a), some (.int (many (L.take i))), x]) ⟨rfl, _, rfl⟩ (fun i σ H' _ p => p.1 ▸ SqL.of hf) ?_ ?_⟩
    · rintro i y σ H' hi ⟨rfl, x2, rfl⟩
      obtain ⟨l, hl, ⟨t, rfl, ht⟩⟩ := hL.get hi
      obtain ⟨b0, b1, b2, b3⟩ := hb l (mem_at hl)
      refine ⟨_, rfl, _, rfl, t, _, _, _, rfl, rfl, SqT.of ht, (show atI [V.int l.1, V.int l.2] ((0 : Nat) : Int) = _ from atI_nat rfl), _, rfl, t, _, _, _, rfl, rfl, SqT.of ht, (show atI [V.int l.1, V.int l.2] ((1 : Nat) : Int) = _ from atI_nat rfl), _, _, rfl, rfl, _, _, rfl, rfl, mul_r (by omega) (by omega), rfl, some (.ref t), ?_⟩
      show _ = [some (V.ref a), some (V.int (many (L.take (i + 1)))), some (V.ref t)]
      rw [show many (L.take (i + 1)) = many (L.take i) * (l.1 + l.2) from fold_take _ _ hl]
      rfl
    · rintro σ H' ⟨rfl, x2, rfl⟩
      refine ⟨_, rfl, ?_⟩
      rw [lx, List.take_length]
      exact q
end
end KB
set_option Elab.async false
set_option linter.all false
set_option maxRecDepth 100000
set_option maxHeartbeats 4000000
namespace KB
open PySem PySem.Spec PyProof.Rows L2 XV
theorem small5000 {n : Nat} (h : n ≤ 5000) : n < sizeLine := by
  rw [sizeLine_eq]
  omega
/-! ### points -/
def IsPt (H : Hp) (x : V) (p : List Int) : Prop := ∃ a, x = .ref a ∧ H a = some (.lst (p.map V.int))
inductive Pts (H : Hp) : List V → List (List Int) → Prop
  | nil : Pts H [] []
  | cons {x : V} {xs : List V} {p : List Int} {P : List (List Int)} : IsPt H x p → Pts H xs P → Pts H (x :: xs) (p :: P)
theorem Pts.keep {H H' : Hp} (s : Same H H') : ∀ {xs : List V} {P : List (List Int)}, Pts H xs P → Pts H' xs P
  | _, _, .nil => .nil
  | _, _, .cons h r => .cons (by
      obtain ⟨a, e, t⟩ := h
      exact ⟨a, e, s _ _ t⟩) (Pts.keep s r)
theorem Pts.len {H : Hp} : ∀ {xs : List V} {P : List (List Int)}, Pts H xs P → xs.length = P.length
  | _, _, .nil => rfl
  | _, _, .cons _ r => congrArg (· + 1) (Pts.len r)
theorem Pts.get {H : Hp} : ∀ {xs : List V} {P : List (List Int)} {i : Nat} {x : V}, Pts H xs P → xs[i]? = some x → ∃ p, P[i]? = some p ∧ IsPt H x p
  | _, _, i, x, .nil, h => by simp at h
  | _, _, 0, x, .cons a r, h => by
    cases h
    exact ⟨_, rfl, a⟩
  | _, _, i + 1, x, .cons a r, h => by
    obtain ⟨l, e, z⟩ := Pts.get (i := i) r (by simpa using h)
    exact ⟨l, by simpa using e, z⟩
theorem Pts.snoc {H : Hp} {y : V} {m : List Int} (hy : IsPt H y m) : ∀ {xs : List V} {P : List (List Int)}, Pts H xs P → Pts H (xs ++ [y]) (P ++ [m])
  | _, _, .nil => .cons hy .nil
  | _, _, .cons h r => .cons h (Pts.snoc hy r)
theorem Pts.updL {H : Hp} {D : Addr} {o : HO} : ∀ {xs : List V} {P : List (List Int)}, (∀ x ∈ xs, x ≠ .ref D) → Pts H xs P → Pts (upd H D o) xs P
  | _, _, _, .nil => .nil
  | _, _, n, .cons h r => .cons (by
      obtain ⟨a, e, t⟩ := h
      refine ⟨a, e, ?_⟩
      rw [upd_ne (fun z => n _ List.mem_cons_self (by rw [e, z]))]
      exact t) (Pts.updL (fun x hx => n x (List.mem_cons_of_mem _ hx)) r)
def stepB (P : List (List Int)) (s : Int) : List (List Int) := P.flatMap fun p => (List.range s.toNat).map fun k => p ++ [((k : Nat) : Int)]
def box (S : List Int) : List (List Int) := S.foldl stepB [[]]
theorem stepB_len (s : Int) : ∀ P : List (List Int), (stepB P s).length = P.length * s.toNat
  | [] => by simp [stepB]
  | p :: P => by
    have ih := stepB_len s P
    unfold stepB at ih ⊢
    rw [List.flatMap_cons, List.length_append, ih, List.length_map, List.length_range, List.length_cons, Nat.succ_mul]
    omega
theorem box_len {S : List Int} (hs : ∀ s ∈ S, 0 ≤ s ∧ s ≤ 15) : ∀ i, i ≤ S.length → (box (S.take i)).length ≤ 15 ^ i := by
  intro i
  induction i with
  | zero =>
    intro _
    exact Nat.le_refl 1
  | succ i ih =>
    intro hi
    have e : S[i]? = some S[i] := List.getElem?_eq_getElem hi
    have h1 := ih (by omega)
    have h2 := hs _ (mem_at e)
    rw [show box (S.take (i + 1)) = stepB (box (S.take i)) S[i] from fold_take _ _ e, stepB_len, Nat.pow_succ]
    exact Nat.mul_le_mul h1 (by omega)
theorem mem_step {P : List (List Int)} {s : Int} {q : List Int} : q ∈ stepB P s ↔ ∃ p ∈ P, ∃ k : Nat, k < s.toNat ∧ q = p ++ [((k : Nat) : Int)] := by
  unfold stepB
  rw [List.mem_flatMap]
  constructor
  · rintro ⟨p, hp, h⟩
    obtain ⟨k, hk, rfl⟩ := List.mem_map.mp h
    exact ⟨p, hp, k, List.mem_range.mp hk, rfl⟩
  · rintro ⟨p, hp, k, hk, rfl⟩
    exact ⟨p, hp, List.mem_map.mpr ⟨k, List.mem_range.mpr hk, rfl⟩⟩
theorem box_fit {S : List Int} : ∀ n, n ≤ S.length → ∀ p ∈ box (S.take n), p.length = n ∧ ∀ (i : Nat) (x s : Int), p[i]? = some x → S[i]? = some s → 0 ≤ x ∧ x < s := by
  intro n
  induction n with
  | zero =>
    intro _ p hp
    obtain rfl : p = [] := List.mem_singleton.mp hp
    exact ⟨rfl, fun i x s h => by simp at h⟩
  | succ n ih =>
    intro hn p hp
    have e : S[n]? = some S[n] := List.getElem?_eq_getElem hn
    rw [show box (S.take (n + 1)) = stepB (box (S.take n)) S[n] from fold_take _ _ e] at hp
    obtain ⟨p0, hp0, k, hk, rfl⟩ := mem_step.mp hp
    obtain ⟨l0, h0⟩ := ih (by omega) p0 hp0
    refine ⟨by rw [List.length_append, l0, List.length_singleton], fun i x s h1 h2 => ?_⟩
    by_cases c : i < n
    · rw [List.getElem?_append_left (by omega)] at h1
      exact h0 i x s h1 h2
    · have li := (List.getElem?_eq_some_iff.mp h1).1
      rw [List.length_append, l0, List.length_singleton] at li
      obtain rfl : i = n := by omega
      rw [List.getElem?_append_right (by omega), l0, Nat.sub_self] at h1
      cases h1
      cases e.symm.trans h2
      omega
theorem box_all {S p : List Int} (hl : p.length = S.length) (h : ∀ (i : Nat) (x s : Int), p[i]? = some x → S[i]? = some s → 0 ≤ x ∧ x < s) : p ∈ box S := by
  have key : ∀ n, n ≤ S.length → p.take n ∈ box (S.take n) := by
    intro n
    induction n with
    | zero =>
      intro _
      exact List.mem_singleton.mpr rfl
    | succ n ih =>
      intro hn
      have e : S[n]? = some S[n] := List.getElem?_eq_getElem hn
      have e2 : p[n]? = some p[n] := List.getElem?_eq_getElem (by omega)
      obtain ⟨b0, b1⟩ := h n _ _ e2 e
      rw [show box (S.take (n + 1)) = stepB (box (S.take n)) S[n] from fold_take _ _ e]
      refine mem_step.mpr ⟨_, ih (by omega), (p[n]).toNat, by omega, ?_⟩
      rw [List.take_add_one, e2, Int.toNat_of_nonneg b0]
      rfl
  have z := key S.length (Nat.le_refl _)
  rw [List.take_length, ← hl, List.take_length] at z
  exact z
abbrev nBox : List Str := ["_law_sizes", "_law_found", "_law_size", "_law_more", "_law_point_here", "_law_count"]
abbrev sBox : Stmt := top 53
abbrev sClasses : Stmt := top 54
theorem scBox : FnScope nBox ["_law_sizes"] (defScope sBox) := ⟨rfl, rfl, rfl, by decide +kernel, rfl, by decide +kernel, by decide +kernel⟩
theorem scClasses : FnScope ["_law_limits_here", "_law_limit"] ["_law_limits_here"] (defScope sClasses) := ⟨rfl, rfl, rfl, by decide +kernel, rfl, by decide +kernel, by decide +kernel⟩
def sizes (L : List Lim) : List Int := L.map fun l => l.1 + l.2
def spBox : Sp := fun vs H Q _ => ∃ (a : Addr) (S : List Int), vs = [.ref a] ∧ H a = some (.lst (S.map V.int)) ∧ S.length ≤ 3 ∧ (∀ s ∈ S, 0 ≤ s ∧ s ≤ 15) ∧ ∀ (H' : Hp) (r : Addr) (xs : List V), Same H H' → H' r = some (.lst xs) → Pts H' xs (box S) → Q (.ref r) H'
def spClasses : Sp := fun vs H Q _ => ∃ (a : Addr) (L : List Lim), vs = [.ref a] ∧ LL H a L ∧ L.length ≤ 3 ∧ Bnd 6 9 L ∧ ∀ (H' : Hp) (r : Addr) (xs : List V), Same H H' → H' r = some (.lst xs) → Pts H' xs (box (sizes L)) → Q (.ref r) H'
section
variable {P : Program} {w : World} {K : PySem.W.Frag} {mg : Str → Option Value} {base : Heap} {f : Addr} {fd : FuncData} {C : Addr}
theorem ok_box (F : FnP K "_law_box" sBox f fd) (z_range : mg "range" = none) : FnOk P w K mg base CX0 1 f fd ["_law_sizes"] spBox := by
  have nd := scBox.nd
  refine F.ok scBox (fun vs H Q E h => ?_) (fun cdv A outer s H vs Q E hr h => ?_)
  · obtain ⟨a, S, rfl, _⟩ := h
    rfl
  · obtain ⟨sa, S, rfl, hs, h3, hb, q⟩ := h
    have sz := sizeLine_eq
    refine ⟨_, PSs.nox (pss_cons (ps_set (i := 1) nd rfl (Or.inl rfl) (pe_lst (pa_cons (pe_lst pa_nil) pa_nil)))
      (pss_cons (ps_for PassesOwn.never rfl (pi_list (pv 0)) (pg_name (i := 2) nd rfl (Or.inl rfl))
        (pss_cons (ps_set (i := 3) nd rfl (Or.inl rfl) (pe_lst pa_nil))
        (pss_cons (ps_for PassesOwn.never rfl (pi_list (pv 1)) (pg_name (i := 4) nd rfl (Or.inl rfl))
          (pss_one (ps_for PassesOwn.never rfl (pi_range1 (by rfl) z_range (pa_cons (pv 2) pa_nil)) (pg_name (i := 5) nd rfl (Or.inl rfl))
            (pss_one (ps_expr (pe_bm PySem.F.plainAttrs_list PySem.F.slot_list_append PySem.F.type_list_append mt_append (pv 3) (pa_cons (pe_op op_cat (pv 4) (pe_lst (pa_cons (pv 5) pa_nil))) pa_nil)))))))
        (pss_one (ps_set (i := 1) nd rfl (Or.inl rfl) (pv 3))))))
      (pss_one (ps_ret (pv 1))))), ?_⟩
    refine ⟨(by show 0 ≤ sizeLine; decide), fun e0 ne0 => ⟨(by show 1 ≤ sizeLine; decide), fun f0 nf0 => ?_⟩⟩
    have s1 := same_new (o := .lst []) ne0
    have s2 := same_new (o := .lst [.ref e0]) nf0
    have sA := s1.trans s2
    have he0 := s2 _ _ (upd_same (H := H) (a := e0) (o := .lst []))
    refine ⟨_, rfl, sa, rfl, ⟨_, SqL.of (sA _ _ hs)⟩, for_list (K := K) (a := sa) (xs := S.map V.int) (fun i σ H' => (∃ fa xs x2 x3 x4 x5, σ = [some (.ref sa), some (.ref fa), x2, x3, x4, x5] ∧ H' fa = some (.lst xs) ∧ Pts H' xs (box (S.take i))) ∧ Same H H')
      ⟨⟨f0, [.ref e0], _, _, _, _, rfl, upd_same, .cons ⟨e0, rfl, he0⟩ .nil⟩, sA⟩ (fun i σ H' _ p => SqL.of (p.2 _ _ hs)) ?_ ?_⟩
    · rintro i y σ H' hi ⟨⟨fa, xs, x2, x3, x4, x5, rfl, hfa, hP⟩, sm⟩
      rw [List.getElem?_map] at hi
      obtain ⟨s0, es, rfl⟩ := Option.map_eq_some_iff.mp hi
      have hs9 := hb s0 (mem_at es)
      have li : i < 3 := by
        have := (List.getElem?_eq_some_iff.mp es).1
        omega
      have lN : (box (S.take i)).length ≤ 225 := by
        have h1 := box_len hb i (by have := (List.getElem?_eq_some_iff.mp es).1; omega)
        have h2 : 15 ^ i ≤ 15 ^ 2 := Nat.pow_le_pow_right (by decide) (by omega)
        omega
      have lx := hP.len
      refine ⟨(by show 0 ≤ sizeLine; decide), fun D nD => ?_⟩
      have sD := same_new (o := .lst []) nD
      refine ⟨_, rfl, fa, rfl, ⟨_, SqL.of (sD _ _ hfa)⟩, for_list (K := K) (a := fa) (xs := xs) (fun j σ H2 => (∃ acc x4 x5, σ = [some (.ref sa), some (.ref fa), some (.int s0), some (.ref D), x4, x5] ∧ H2 D = some (.lst acc) ∧ (∀ x ∈ acc, x ≠ .ref D) ∧ Pts H2 acc (stepB ((box (S.take i)).take j) s0)) ∧ Same H' H2)
        ⟨⟨[], _, _, rfl, upd_same, (fun x hx => by cases hx), .nil⟩, sD⟩ (fun j σ H2 _ p => SqL.of (p.2 _ _ hfa)) ?_ ?_⟩
      · rintro j y2 σ H2 hj ⟨⟨acc, x4, x5, rfl, hD, hn, hA⟩, sm2⟩
        obtain ⟨p, ep, ⟨pa, rfl, hpa⟩⟩ := hP.get hj
        have lj : j < 225 := by
          have := (List.getElem?_eq_some_iff.mp ep).1
          omega
        refine ⟨_, rfl, s0, rfl, by omega, by omega, for_range (lo := 0) (n := s0.toNat) (fun k σ H3 => (∃ acc x5, σ = [some (.ref sa), some (.ref fa), some (.int s0), some (.ref D), some (.ref pa), x5] ∧ H3 D = some (.lst acc) ∧ (∀ x ∈ acc, x ≠ .ref D) ∧ Pts H3 acc (stepB ((box (S.take i)).take j) s0 ++ (List.range k).map fun k => p ++ [((k : Nat) : Int)])) ∧ Same H' H3)
          ⟨⟨acc, x5, rfl, hD, hn, by rw [List.range_zero, List.map_nil, List.append_nil]; exact hA⟩, sm2⟩ ?_ ?_⟩
        · rintro k σ H3 hk ⟨⟨acc, x5, rfl, hD, hn, hA⟩, sm3⟩
          rw [Int.zero_add]
          have hpa3 := sm3 _ _ hpa
          have la := hA.len
          rw [List.length_append, stepB_len, List.length_take, List.length_map, List.length_range] at la
          have lb : min j (box (S.take i)).length * s0.toNat ≤ 224 * 15 := Nat.mul_le_mul (by omega) (by omega)
          refine ⟨_, rfl, .inl ⟨rfl, _, SqL.of hD⟩, _, rfl, _, rfl, (by show 1 ≤ sizeLine; decide), fun u nu => ?_⟩
          have su := same_new (o := .lst [.int (k : Int)]) nu
          refine ⟨pa, u, _, _, rfl, rfl, su _ _ hpa3, upd_same, ?_, fun r nr => ?_⟩
          · have z := hpa3
            rw [List.length_map, List.length_singleton]
            have z2 := (box_fit i (by have := (List.getElem?_eq_some_iff.mp es).1; omega) p (mem_at ep)).1
            omega
          have sr := same_new (o := .lst (p.map V.int ++ [.int (k : Int)])) nr
          have sB := su.trans sr
          have hD5 := sB _ _ hD
          have nrD : r ≠ D := fun z => by
            rw [z, su _ _ hD] at nr
            cases nr
          refine ⟨D, _, _, rfl, rfl, hD5, small5000 (by omega), ⟨acc ++ [.ref r], _, rfl, upd_same, ?_, ?_⟩, fun b o e => ?_⟩
          · intro x hx
            rcases List.mem_append.mp hx with h | h
            · exact hn x h
            · rcases List.mem_singleton.mp h with rfl
              exact fun z => nrD (V.ref.inj z)
          · rw [List.range_succ, List.map_append, ← List.append_assoc]
            refine Pts.updL ?_ (Pts.snoc ⟨r, rfl, ?_⟩ (hA.keep sB))
            · intro x hx
              rcases List.mem_append.mp hx with h | h
              · exact hn x h
              · rcases List.mem_singleton.mp h with rfl
                exact fun z => nrD (V.ref.inj z)
            · rw [upd_same, List.map_append]
              rfl
          · rw [upd_ne (ne_of_none (H := H') e nD)]
            exact sB _ _ (sm3 _ _ e)
        · rintro σ H3 ⟨⟨acc, x5, rfl, hD, hn, hA⟩, sm3⟩
          refine ⟨⟨acc, _, _, rfl, hD, hn, ?_⟩, sm3⟩
          rw [List.take_add_one, ep]
          show Pts H3 acc (List.flatMap _ (_ ++ [p]))
          rw [List.flatMap_append, List.flatMap_singleton]
          exact hA
      · rintro σ H2 ⟨⟨acc, x4, x5, rfl, hD, hn, hA⟩, sm2⟩
        refine ⟨_, rfl, ⟨D, acc, _, _, _, _, rfl, hD, ?_⟩, sm.trans sm2⟩
        rw [show box (S.take (i + 1)) = stepB (box (S.take i)) s0 from fold_take _ _ es]
        rw [lx, List.take_length] at hA
        exact hA
    · rintro σ H' ⟨⟨fa, xs, x2, x3, x4, x5, rfl, hfa, hP⟩, sm⟩
      rw [List.length_map, List.take_length] at hP
      exact ⟨_, rfl, q H' fa xs sm hfa hP⟩
theorem ok_classes (F : FnP K "_law_classes" sClasses f fd) (o_box : Ok P w K mg base "_law_box" 1 ["_law_sizes"] spBox) : FnOk P w K mg base CX0 2 f fd ["_law_limits_here"] spClasses := by
  have nd := scClasses.nd
  refine F.ok scClasses (fun vs H Q E h => ?_) (fun cdv A outer s H vs Q E hr h => ?_)
  · obtain ⟨a, L, rfl, _⟩ := h
    rfl
  · obtain ⟨a, L, rfl, ⟨xs, ha, hL⟩, h3, hb, q⟩ := h
    have lx := hL.len
    refine ⟨_, PSs.nox (pss_one (ps_ret (pe_callO o_box hr (by rfl) (pa_cons (pe_lc (own := [("_law_limit", 1)]) (g := gName 1) (by rfl) nd (pi_list (pv 0)) (blkOk_by (N := ["_law_limits_here", "_law_limit"]) (sc := defScope sClasses) (own := [("_law_limit", 1)]) (by decide +kernel)) (fun _ _ _ _ _ => pg_name (i := 1) nd rfl (Or.inl rfl)) (fun _ _ _ _ _ => pts_nil)
        (fun _ _ _ _ _ => pe_op op_add (pe_ix (ix_tupK (K := K) rfl) (pv 1) pe_int (fun _ _ => rfl)) (pe_ix (ix_tupK (K := K) rfl) (pv 1) pe_int (fun _ _ => rfl)))) pa_nil)))), ?_⟩
    refine ⟨_, rfl, a, rfl, ⟨_, SqL.of ha⟩, fun D nD => lc_list (K := K) (a := a) (xs := xs) (fun k H' => Same H H' ∧ H' D = some (.lst (((sizes L).take k).map V.int))) ⟨same_new nD, upd_same⟩ (fun k H' _ p => SqL.of (p.1 _ _ ha)) ?_ ?_⟩
    · rintro k y H' hk ⟨sm, hD⟩
      obtain ⟨l, hl, ⟨t, rfl, ht⟩⟩ := hL.get hk
      have li : k < 3 := by
        have := (List.getElem?_eq_some_iff.mp hl).1
        omega
      have ht' := sm _ _ ht
      have i0 : atI [V.int l.1, V.int l.2] ((0 : Nat) : Int) = some (V.int l.1) := atI_nat rfl
      have i1 : atI [V.int l.1, V.int l.2] ((1 : Nat) : Int) = some (V.int l.2) := atI_nat rfl
      refine ⟨rfl, ?_⟩
      refine ⟨_, rfl, t, _, _, _, rfl, rfl, SqT.of ht', i0, _, rfl, t, _, _, _, rfl, rfl, SqT.of ht', i1, _, _, rfl, rfl, _, hD, ?_, fun b o e => ?_, ?_⟩
      · rw [List.length_map]
        exact small1000 (Nat.le_trans (List.length_take_le _ _) (by omega))
      · rw [upd_ne (ne_of_none (H := H) e nD)]
        exact sm _ _ e
      · rw [upd_same, List.take_add_one, show (sizes L)[k]? = some (l.1 + l.2) by unfold sizes; rw [List.getElem?_map, hl]; rfl, List.map_append]
        rfl
    · rintro H' ⟨sm, hD⟩
      rw [take_all (n := xs.length) (by unfold sizes; rw [List.length_map]; omega)] at hD
      refine ⟨D, sizes L, rfl, hD, by unfold sizes; rw [List.length_map]; exact h3, fun s hs => ?_, fun H2 r ys s2 h h2 => q H2 r ys (sm.trans s2) h h2⟩
      obtain ⟨l, hl, rfl⟩ := List.mem_map.mp hs
      have := hb l hl
      omega
end
end KB
set_option Elab.async false
set_option linter.all false
set_option maxRecDepth 100000
set_option maxHeartbeats 4000000
namespace KB
open PySem PySem.Spec PyProof.Rows L2 XV
abbrev sTimes : Stmt := top 22
theorem scTimes : FnScope ["form", "times", "number"] ["form", "times"] (defScope sTimes) := ⟨rfl, rfl, rfl, by decide +kernel, rfl, by decide +kernel, by decide +kernel⟩
/-- a count of at most k binary digits -/
def Sz (k : Nat) (x : Int) : Prop := 0 ≤ x ∧ x < 2 ^ k
theorem Sz.log {k : Nat} {x : Int} (h : Sz k x) : x.natAbs.log2 ≤ k := by
  obtain ⟨h0, h1⟩ := h
  by_cases z : x.natAbs = 0
  · rw [z]
    exact Nat.zero_le _
  · have l : x.natAbs < 2 ^ k := by
      have e : ((x.natAbs : Nat) : Int) = x := Int.natAbs_of_nonneg h0
      have e2 : ((x.natAbs : Nat) : Int) < ((2 ^ k : Nat) : Int) := by
        rw [e, Int.natCast_pow]
        exact h1
      exact Int.ofNat_lt.mp e2
    exact Nat.le_of_lt ((Nat.log2_lt z).mpr l)
theorem Sz.mulW {k l : Nat} {x y : Int} (a : Sz k x) (b : Sz l y) (h : k + l < 1000000) : CMulW x y := by
  have h1 := a.log
  have h2 := b.log
  show x.natAbs.log2 + y.natAbs.log2 < 1000000
  omega
theorem Sz.mul {k l : Nat} {x y : Int} (a : Sz k x) (b : Sz l y) : Sz (k + l) (x * y) := by
  refine ⟨Int.mul_nonneg a.1 b.1, ?_⟩
  rw [Int.pow_add]
  have p : (0 : Int) < 2 ^ k := Int.lt_of_le_of_lt a.1 a.2
  have p2 : (0 : Int) < 2 ^ l := Int.lt_of_le_of_lt b.1 b.2
  by_cases z : y = 0
  · rw [z, Int.mul_zero]
    exact Int.mul_pos p p2
  · have y0 : 0 < y := by
      have := b.1
      omega
    exact Int.lt_of_lt_of_le (Int.mul_lt_mul_of_pos_right a.2 y0) (Int.mul_le_mul_of_nonneg_left (Int.le_of_lt b.2) (Int.le_of_lt p))
def dot (xs ys : List Int) : Int := (List.zipWith (· * ·) xs ys).sum
theorem zw_get {xs ys : List Int} {i : Nat} {x y : Int} (hx : xs[i]? = some x) (hy : ys[i]? = some y) : (List.zipWith (· * ·) xs ys)[i]? = some (x * y) := by
  rw [List.getElem?_zipWith, hx, hy]
theorem cut_rest (c : Int) (xs : List Int) : cutV ((c :: xs).map V.int) (some 1) none = xs.map V.int := by
  unfold cutV
  rw [HT.sIx_none, show HT.sIx ((c :: xs).map V.int).length 0 (some 1) = min 1 ((c :: xs).map V.int).length from HT.sIx_nat _ _ 1]
  rw [List.map_cons, List.length_cons, show min 1 ((xs.map V.int).length + 1) = 1 by omega]
  simp only [List.drop_succ_cons, List.drop_zero]
  exact List.take_of_length_le (by simp)
end KB
set_option Elab.async false
set_option linter.all false
set_option maxRecDepth 100000
set_option maxHeartbeats 4000000
namespace KB
open PySem PySem.Spec PyProof.Rows L2 XV
abbrev sPlain : Stmt := top 24
theorem scPlain : FnScope ["many", "constant"] ["many", "constant"] (defScope sPlain) := ⟨rfl, rfl, rfl, by decide +kernel, rfl, by decide +kernel, by decide +kernel⟩
def spTimes : Sp := fun vs H Q _ => ∃ (fa : Addr) (t : Int) (ns : List Int), vs = [.ref fa, .int t] ∧ H fa = some (.tup (ns.map V.int)) ∧ ns.length ≤ 100 ∧ (∀ x ∈ ns, Sz 1000 x) ∧ Sz 1000 t ∧
  ∀ (H' : Hp) (p : Addr), Same H H' → H p = none → H' p = some (.tup ((ns.map (· * t)).map V.int)) → Q (.ref p) H'
def spPlain : Sp := fun vs H Q _ => ∃ (m : Nat) (c : Int), vs = [.int m, .int c] ∧ m ≤ 100 ∧ ∀ (H' : Hp) (p : Addr), Same H H' → H p = none → H' p = some (.tup ((c :: List.replicate m 0).map V.int)) → Q (.ref p) H'
theorem rep_flat (m : Nat) : (List.replicate m [V.int 0]).flatten = (List.replicate m (0 : Int)).map V.int := by
  induction m with
  | zero => rfl
  | succ m ih =>
    rw [List.replicate_succ, List.flatten_cons, ih, List.replicate_succ, List.map_cons]
    rfl
theorem was_new {H H' : Hp} {p : Addr} (s : Same H H') (n : H' p = none) : H p = none := by
  cases e : H p with
  | none => rfl
  | some o =>
    rw [s _ _ e] at n
    cases n
section
variable {P : Program} {w : World} {K : PySem.W.Frag} {mg : Str → Option Value} {base : Heap} {f : Addr} {fd : FuncData}
theorem ok_times (F : FnP K "form_times" sTimes f fd) (z_tuple : mg "tuple" = none) : FnOk P w K mg base CX0 1 f fd ["form", "times"] spTimes := by
  have nd := scTimes.nd
  refine F.ok scTimes (fun vs H Q E h => ?_) (fun cdv A outer s H vs Q E hr h => ?_)
  · obtain ⟨fa, t, ns, rfl, _⟩ := h
    rfl
  · obtain ⟨fa, t, ns, rfl, hf, hn, bx, bt, q⟩ := h
    refine ⟨_, PSs.nox (pss_one (ps_ret (pe_callTy call_tuple_of (by rfl) z_tuple (by decide +kernel) (pa_cons
      (pe_lc (own := [("number", 2)]) (g := gName 2) (by rfl) nd (pi_tup (pv 0)) (blkOk_by (N := ["form", "times", "number"]) (sc := defScope sTimes) (own := [("number", 2)]) (by decide +kernel)) (fun _ _ _ _ _ => pg_name (i := 2) nd rfl (Or.inl rfl)) (fun _ _ _ _ _ => pts_nil) (fun _ _ _ _ _ => pe_op op_mulW (pv 2) (pv 1))) pa_nil)))), ?_⟩
    refine ⟨_, rfl, fa, rfl, ⟨_, SqT.of hf⟩, fun D nD => lc_tup (K := K) (a := fa) (xs := ns.map V.int) (fun k H' => Same H H' ∧ H' D = some (.lst (((ns.map (· * t)).take k).map V.int))) ⟨same_new nD, upd_same⟩ (fun k H' _ p => SqT.ext (SqT.of hf) p.1) ?_ ?_⟩
    · rintro k y H' hk ⟨sm, hD⟩
      rw [List.getElem?_map] at hk
      obtain ⟨z, ez, rfl⟩ := Option.map_eq_some_iff.mp hk
      have li : k < ns.length := (List.getElem?_eq_some_iff.mp ez).1
      refine ⟨rfl, ?_⟩
      refine ⟨_, rfl, _, rfl, _, _, rfl, rfl, (bx _ (List.mem_of_getElem? ez)).mulW bt (by decide), _, hD, ?_, fun b o e => ?_, ?_⟩
      · rw [List.length_map]
        exact small1000 (Nat.le_trans (List.length_take_le _ _) (by omega))
      · rw [upd_ne (ne_of_none (H := H) e nD)]
        exact sm _ _ e
      · rw [upd_same, List.take_add_one, List.getElem?_map, ez, List.map_append]
        rfl
    · rintro H' ⟨sm, hD⟩
      have el : (ns.map (· * t)).take (ns.map V.int).length = ns.map (· * t) := List.take_of_length_le (by simp)
      rw [el] at hD
      exact ⟨D, _, rfl, .inl ⟨SqL.of hD, fun l nl => q _ l (sm.trans (same_new nl)) (was_new sm nl) upd_same⟩⟩
theorem ok_plain (F : FnP K "plain_form" sPlain f fd) (z_tuple : mg "tuple" = none) : FnOk P w K mg base CX0 1 f fd ["many", "constant"] spPlain := by
  refine F.ok scPlain (fun vs H Q E h => ?_) (fun cdv A outer s H vs Q E hr h => ?_)
  · obtain ⟨m, c, rfl, _⟩ := h
    rfl
  · obtain ⟨m, c, rfl, hm, q⟩ := h
    refine ⟨_, PSs.nox (pss_one (ps_ret (pe_callTy call_tuple_of (by rfl) z_tuple (by decide +kernel) (pa_cons (pe_op op_cat (pe_lst (pa_cons (pv 1) pa_nil)) (pe_op op_rep (pe_lst (pa_cons pe_int pa_nil)) (pv 0))) pa_nil)))), ?_⟩
    have le1 : m ≤ sizeLine := Nat.le_of_lt (small1000 (by omega))
    refine ⟨_, rfl, (by show 1 ≤ sizeLine; decide), fun l nl => ⟨(by show 1 ≤ sizeLine; decide), fun i ni => ⟨_, rfl, i, (m : Int), _, rfl, rfl, upd_same, by omega, by omega, (by show 1 * m ≤ sizeLine; omega), fun r nr => ?_⟩⟩⟩
    have e1 : (List.replicate ((m : Int)).toNat [V.int 0]).flatten = (List.replicate m (0 : Int)).map V.int := rep_flat m
    rw [e1]
    have s1 := same_new (o := .lst [.int c]) nl
    have s2 := same_new (o := .lst [.int 0]) ni
    have s3 := same_new (o := .lst ((List.replicate m (0 : Int)).map V.int)) nr
    have le2 : 1 + m ≤ sizeLine := Nat.le_of_lt (small1000 (by omega))
    refine ⟨l, r, [.int c], (List.replicate m (0 : Int)).map V.int, rfl, rfl, s3 _ _ (s2 _ _ upd_same), upd_same, (by simp; omega), fun t nt => ?_⟩
    have s4 := same_new (o := .lst ((c :: List.replicate m (0 : Int)).map V.int)) nt
    refine ⟨t, (c :: List.replicate m (0 : Int)).map V.int, rfl, .inl ⟨SqL.of upd_same, fun x nx => q _ x ?_ ?_ upd_same⟩⟩
    · exact (((s1.trans s2).trans s3).trans s4).trans (same_new nx)
    · exact was_new (((s1.trans s2).trans s3).trans s4) nx
end
end KB
set_option Elab.async false
set_option linter.all false
set_option maxRecDepth 100000
set_option maxHeartbeats 4000000
namespace KB
open PySem PySem.Spec PyProof.Rows L2 XV
abbrev sSum : Stmt := top 23
theorem scSum : FnScope ["many", "forms", "place", "form"] ["many", "forms"] (defScope sSum) := ⟨rfl, rfl, rfl, by decide +kernel, rfl, by decide +kernel, by decide +kernel⟩
abbrev scO : Scope := { kind := .function, names := [(Str.ofString ".0", .local), (Str.ofString "place", .cell), (Str.ofString "sum", .globalImplicit), (Str.ofString "forms", .cell)], isGenerator := false, isCoroutine := false }
abbrev scI : Scope := { kind := .function, names := [(Str.ofString ".0", .local), (Str.ofString "form", .local), (Str.ofString "place", .free)], isGenerator := false, isCoroutine := false }
theorem blk_in : BlkOk ["many", "forms", "place", "form"] scO scI [("form", 3)] := blkOk_by (by decide +kernel)
def col (ps : List (Addr × List Int)) (j : Nat) : Int := (ps.map fun p => p.2.getD j 0).sum
def spSum : Sp := fun vs H Q _ => ∃ (m : Nat) (la : Addr) (ps : List (Addr × List Int)), vs = [.int m, .ref la] ∧ H la = some (.lst (ps.map fun p => V.ref p.1)) ∧ m ≤ 100 ∧ ps.length ≤ 100 ∧ (∀ p ∈ ps, H p.1 = some (.tup (p.2.map V.int)) ∧ p.2.length = m + 1) ∧
  ∀ (H' : Hp) (r : Addr), Same H H' → H r = none → H' r = some (.tup (((List.range (m + 1)).map (col ps)).map V.int)) → Q (.ref r) H'
section
variable {P : Program} {w : World} {K : PySem.W.Frag} {mg : Str → Option Value} {base : Heap} {f : Addr} {fd : FuncData}
theorem ok_sum (F : FnP K "sum_of_forms" sSum f fd) (z_tuple : mg "tuple" = none) (z_sum : mg "sum" = none) (z_range : mg "range" = none) : FnOk P w K mg base CX0 1 f fd ["many", "forms"] spSum := by
  have nd := scSum.nd
  refine F.ok scSum (fun vs H Q E h => ?_) (fun cdv A outer s H vs Q E hr h => ?_)
  · obtain ⟨m, la, ps, rfl, _⟩ := h
    rfl
  · obtain ⟨m, la, ps, rfl, hl, hm, hn, hp, q⟩ := h
    refine ⟨_, PSs.nox (pss_one (ps_ret (pe_callTy call_tuple_of (by rfl) z_tuple (by decide +kernel) (pa_cons
      (pe_lc (own := [("place", 2)]) (g := gName 2) (by rfl) nd (pi_range1 (by rfl) z_range (pa_cons (pe_op op_add (pv 0) pe_int) pa_nil)) (blkOk_by (N := ["many", "forms", "place", "form"]) (sc := defScope sSum) (own := [("place", 2)]) (by decide +kernel)) (fun _ _ _ _ _ => pg_name (i := 2) nd rfl (Or.inr rfl)) (fun _ _ _ _ _ => pts_nil)
        (fun _ _ _ _ _ => pe_callB (cr_sumK (K := K) rfl rfl) (by rfl) z_sum (by decide +kernel) (pa_cons
          (pe_lc (own := [("form", 3)]) (g := gName 3) (by rfl) nd (pi_listK (K := K) rfl (pv 1)) blk_in (fun _ _ _ _ _ => pg_name (i := 3) nd rfl (Or.inl rfl)) (fun _ _ _ _ _ => pts_nil)
            (fun _ _ _ _ _ => pe_ix (ix_tupK (K := K) rfl) (pv 3) (pv 2) (fun _ _ => rfl))) pa_nil))) pa_nil)))), ?_⟩
    refine ⟨_, rfl, _, _, rfl, rfl, (m : Int) + 1, rfl, by omega, by omega, fun D nD => ?_⟩
    have eN : ((m : Int) + 1).toNat = m + 1 := by omega
    rw [eN]
    refine lc_range (lo := 0) (n := m + 1) (fun k H' => Same H H' ∧ H' D = some (.lst (((List.range k).map (col ps)).map V.int))) ⟨same_new nD, upd_same⟩ ?_ ?_
    · rintro j H' hj ⟨sm, hD⟩
      rw [Int.zero_add]
      refine ⟨rfl, ?_⟩
      refine ⟨_, rfl, la, rfl, ⟨_, SqL.of (sm _ _ hl)⟩, fun D2 nD2 => lc_list (K := K) (a := la) (xs := ps.map fun p => V.ref p.1) (fun k H2 => Same H' H2 ∧ H2 D2 = some (.lst (((ps.map fun p => p.2.getD j 0).take k).map V.int))) ⟨same_new nD2, upd_same⟩ (fun k H2 _ p => SqL.of (p.1 _ _ (sm _ _ hl))) ?_ ?_⟩
      · rintro k y H2 hk ⟨s2, hD2⟩
        rw [List.getElem?_map] at hk
        obtain ⟨p, ep, rfl⟩ := Option.map_eq_some_iff.mp hk
        obtain ⟨h1, h2⟩ := hp p (List.mem_of_getElem? ep)
        have lk : k < ps.length := (List.getElem?_eq_some_iff.mp ep).1
        have gj : (p.2.map V.int)[j]? = some (.int (p.2.getD j 0)) := by
          have lj : j < p.2.length := by omega
          rw [List.getElem?_map, List.getD_eq_getElem?_getD, List.getElem?_eq_getElem lj]
          rfl
        refine ⟨rfl, ?_⟩
        refine ⟨_, rfl, _, rfl, p.1, _, _, _, rfl, rfl, SqT.of (s2 _ _ (sm _ _ h1)), atI_nat gj, _, hD2, ?_, fun b o e => ?_, ?_⟩
        · rw [List.length_map]
          exact small1000 (Nat.le_trans (List.length_take_le _ _) (by omega))
        · rw [upd_ne (ne_of_none (H := H') e nD2)]
          exact s2 _ _ e
        · rw [upd_same, List.take_add_one, List.getElem?_map, ep, List.map_append]
          rfl
      · rintro H2 ⟨s2, hD2⟩
        have el : (ps.map fun p => p.2.getD j 0).take (ps.map fun p => V.ref p.1).length = ps.map fun p => p.2.getD j 0 := List.take_of_length_le (by simp)
        rw [el] at hD2
        refine ⟨D2, _, rfl, SqL.of hD2, _, s2 _ _ hD, ?_, fun b o e => ?_, ?_⟩
        · rw [List.length_map, List.length_map, List.length_range]
          exact small1000 (by omega)
        · rw [upd_ne (ne_of_none (H := H) e nD)]
          exact s2 _ _ (sm _ _ e)
        · rw [upd_same, List.range_succ, List.map_append, List.map_append]
          rfl
    · rintro H' ⟨sm, hD⟩
      exact ⟨D, _, rfl, .inl ⟨SqL.of hD, fun l nl => q _ l (sm.trans (same_new nl)) (was_new sm nl) upd_same⟩⟩
end
end KB
set_option Elab.async false
set_option linter.all false
set_option maxRecDepth 100000
set_option maxHeartbeats 4000000
namespace KB
open PySem PySem.Spec PyProof.Rows L2 XV
abbrev sWith : Stmt := top 21
theorem scWith : FnScope ["form", "many", "forms", "parts", "number", "part"] ["form", "many", "forms"] (defScope sWith) := ⟨rfl, rfl, rfl, by decide +kernel, rfl, by decide +kernel, by decide +kernel⟩
/-- the part at place j -/
def withV (c : Int) (xs : List Int) (ns : List (List Int)) (j : Nat) : Int := (if j = 0 then c else 0) + (List.zipWith (fun x n => n.getD j 0 * x) xs ns).sum
theorem getD_times (n : List Int) (x : Int) (j : Nat) : (n.map (· * x)).getD j 0 = n.getD j 0 * x := by
  rw [List.getD_eq_getElem?_getD, List.getD_eq_getElem?_getD, List.getElem?_map]
  cases n[j]? with
  | none => simp
  | some y => rfl
theorem getD_plain (c : Int) (m j : Nat) : (c :: List.replicate m (0 : Int)).getD j 0 = if j = 0 then c else 0 := by
  cases j with
  | zero => rfl
  | succ j =>
    rw [List.getD_cons_succ, if_neg (Nat.succ_ne_zero j), List.getD_eq_getElem?_getD]
    by_cases h : j < m
    · rw [List.getElem?_replicate, if_pos h]
      rfl
    · rw [List.getElem?_replicate, if_neg h]
      rfl
def ns (xs : List Int) (ps : List (Addr × List Int)) : List (List Int) := List.zipWith (fun x p => p.2.map (· * x)) xs ps
theorem col_with (u : Addr) (c : Int) (m : Nat) (as : List Addr) (xs : List Int) (ps : List (Addr × List Int)) (h : as.length = (ns xs ps).length) (j : Nat) :
    col ((u, c :: List.replicate m 0) :: as.zip (ns xs ps)) j = withV c xs (ps.map fun p => p.2) j := by
  unfold col withV
  rw [List.map_cons, List.sum_cons, getD_plain]
  have e1 : (as.zip (ns xs ps)).map (fun p => p.2.getD j 0) = (ns xs ps).map fun n => n.getD j 0 := by
    have e : ((as.zip (ns xs ps)).map Prod.snd).map (fun n : List Int => n.getD j 0) = (as.zip (ns xs ps)).map fun p => p.2.getD j 0 := List.map_map
    rw [← e, List.map_snd_zip (by omega)]
  rw [e1]
  unfold ns
  rw [List.map_zipWith, List.zipWith_map_right]
  simp only [getD_times]
def spWith : Sp := fun vs H Q _ => ∃ (fa la : Addr) (m : Nat) (c : Int) (xs : List Int) (ps : List (Addr × List Int)), vs = [.ref fa, .int m, .ref la] ∧ H fa = some (.tup ((c :: xs).map V.int)) ∧ H la = some (.lst (ps.map fun p => V.ref p.1)) ∧ xs.length = ps.length ∧
  xs.length ≤ 90 ∧ m ≤ 90 ∧ (∀ x ∈ xs, Sz 1000 x) ∧ (∀ p ∈ ps, H p.1 = some (.tup (p.2.map V.int)) ∧ p.2.length = m + 1 ∧ ∀ x ∈ p.2, Sz 1000 x) ∧
  ∀ (H' : Hp) (r : Addr), Same H H' → H r = none → H' r = some (.tup (((List.range (m + 1)).map (withV c xs (ps.map fun p => p.2))).map V.int)) → Q (.ref r) H'
theorem far2' {H : Hp} {t D : Addr} {o u : HO} (n : H t = some u) (h : H D = some o) (x : u ≠ o) : t ≠ D := fun e => by
  rw [e, h] at n
  exact x (Option.some.inj n).symm
section
variable {P : Program} {w : World} {K : PySem.W.Frag} {mg : Str → Option Value} {base : Heap} {f : Addr} {fd : FuncData}
theorem ok_with (F : FnP K "form_with" sWith f fd) (o_times : Ok P w K mg base "form_times" 1 ["form", "times"] spTimes) (o_plain : Ok P w K mg base "plain_form" 1 ["many", "constant"] spPlain) (o_sum : Ok P w K mg base "sum_of_forms" 1 ["many", "forms"] spSum)
    (z_zip : mg "zip" = none) : FnOk P w K mg base CX0 2 f fd ["form", "many", "forms"] spWith := by
  have nd := scWith.nd
  refine F.ok scWith (fun vs H Q E h => ?_) (fun cdv A outer s H vs Q E hr h => ?_)
  · obtain ⟨fa, la, m, c, xs, ps, rfl, _⟩ := h
    rfl
  · obtain ⟨fa, la, m, c, xs, ps, rfl, hf, hl, hn, h90, hm, bx, hp, q⟩ := h
    have hr1 : Room 1 (A.deeper (envOfC "form_with" (defScope sWith) s.heap.objs.size f cdv)) := hr
    refine ⟨_, PSs.nox (pss_cons (
      (ps_setLc (i := 3) (own := [("number", 4), ("part", 5)]) (g := gTup K 2 (gCons (gName 4) (gCons (gName 5) gNil))) (by rfl) nd rfl rfl (sw_true rfl rfl rfl (by decide +kernel)) (pi_zipM (by rfl) z_zip (pa_cons (pe_slice sl_tup (pv 0) (po_some pe_int) po_none) (pa_cons (pv 2) pa_nil))) (blkOk_by (N := ["form", "many", "forms", "parts", "number", "part"]) (sc := defScope sWith) (own := [("number", 4), ("part", 5)]) (by decide +kernel))
        (fun _ _ _ _ _ => pg_tup rfl (pgs_cons (pg_name (i := 4) nd rfl (Or.inl rfl)) (pgs_cons (pg_name (i := 5) nd rfl (Or.inl rfl)) pgs_nil))) (fun _ _ _ _ _ => pts_nil)
        (fun _ _ _ _ _ => pe_callO o_times hr1 (by rfl) (pa_cons (pv 5) (pa_cons (pv 4) pa_nil)))))
      (pss_one (ps_ret (pe_callO o_sum hr1 (by rfl) (pa_cons (pv 1) (pa_cons (pe_op op_cat (pe_lst (pa_cons (pe_callO o_plain hr1 (by rfl) (pa_cons (pv 1) (pa_cons (pe_ix ix_tup (pv 0) pe_int (fun _ _ => rfl)) pa_nil))) pa_nil)) (pv 3)) pa_nil)))))), ?_⟩
    refine ⟨_, rfl, _, rfl, fa, _, rfl, SqT.of hf, (fun z => absurd z.1 (by
      rw [show HT.sIx ((c :: xs).map V.int).length 0 (some 1) = min 1 ((c :: xs).map V.int).length from HT.sIx_nat _ _ 1, List.map_cons, List.length_cons]
      omega)), fun sl nsl => ⟨_, rfl, sl, la, _, _, rfl, ⟨SqT.of upd_same, SqL.of (same_new nsl _ _ hl)⟩, fun D nD => ?_⟩⟩
    rw [cut_rest] at nD ⊢
    have s0 := same_new (o := .tup (xs.map V.int)) nsl
    refine lc_zipM (K := K) (a := sl) (b := la) (xs := xs.map V.int) (ys := ps.map fun p => V.ref p.1) (by simp [hn]) (fun k H' => Same (upd H sl (.tup (xs.map V.int))) H' ∧ ∃ as : List Addr, as.length = k ∧ H' D = some (.lst (as.map V.ref)) ∧
      ∀ (i : Nat) (a : Addr) (x : Int) (p : Addr × List Int), as[i]? = some a → xs[i]? = some x → ps[i]? = some p → H' a = some (.tup ((p.2.map (· * x)).map V.int))) ⟨same_new nD, [], rfl, upd_same, fun i a x p z => by simp at z⟩ (fun i H' p => ⟨SqT.of (p.1 _ _ upd_same), SqL.of (p.1 _ _ (s0 _ _ hl))⟩) ?_ ?_
    · rintro i x y T H' hx hy ⟨sm, as, la_, hD, ha⟩ nT
      rw [List.getElem?_map] at hx hy
      obtain ⟨x0, ex, rfl⟩ := Option.map_eq_some_iff.mp hx
      obtain ⟨p0, ep, rfl⟩ := Option.map_eq_some_iff.mp hy
      obtain ⟨h1, h2, h3⟩ := hp p0 (List.mem_of_getElem? ep)
      have sT := same_new (o := .tup [.int x0, .ref p0.1]) nT
      have li : i < xs.length := (List.getElem?_eq_some_iff.mp ex).1
      refine ⟨T, _, rfl, SqT.of upd_same, rfl, _, _, rfl, _, _, rfl, rfl, rfl, ?_⟩
      refine ⟨_, rfl, _, rfl, p0.1, x0, p0.2, rfl, sT _ _ (sm _ _ (s0 _ _ h1)), by omega, h3, bx _ (List.mem_of_getElem? ex), fun H2 r s2 nr hr2 => ?_⟩
      have hD2 := s2 _ _ (sT _ _ hD)
      refine ⟨_, hD2, ?_, fun b o e => ?_, as ++ [r], by simp [la_], ?_, ?_⟩
      · rw [List.length_map, la_]
        exact small1000 (by omega)
      · rw [upd_ne (ne_of_none e nD)]
        exact s2 _ _ (sT _ _ (sm _ _ e))
      · rw [upd_same, List.map_append]
        rfl
      · intro i' a x p e1 e2 e3
        by_cases c1 : i' < as.length
        · rw [List.getElem?_append_left c1] at e1
          have z := s2 _ _ (sT _ _ (ha i' a x p e1 e2 e3))
          rw [upd_ne (far2' z hD2 (by intro w; cases w))]
          exact z
        · rw [List.getElem?_append_right (by omega)] at e1
          have i0 : i' - as.length = 0 := by
            have := (List.getElem?_eq_some_iff.mp e1).1
            simp at this
            exact this
          have e1' : a = r := by
            rw [i0] at e1
            exact (Option.some.inj e1).symm
          have ei : i' = i := by omega
          subst ei e1'
          have ex2 : x = x0 := Option.some.inj (e2.symm.trans ex)
          have ep2 : p = p0 := Option.some.inj (e3.symm.trans ep)
          subst ex2 ep2
          rw [upd_ne (far2' hr2 hD2 (by intro w; cases w))]
          exact hr2
    · rintro H' ⟨sm, as, la_, hD, ha⟩
      rw [List.length_map] at la_
      have s1 := s0.trans sm
      have ln : as.length = (ns xs ps).length := by
        unfold ns
        rw [List.length_zipWith, la_, hn]
        omega
      refine ⟨_, rfl, _, rfl, _, rfl, fa, _, _, _, rfl, rfl, SqT.of (s1 _ _ hf), (show atI ((c :: xs).map V.int) ((0 : Nat) : Int) = some (V.int c) from atI_nat rfl), m, c, rfl, by omega, fun H2 u s2 nu hu => ⟨(by show 1 ≤ sizeLine; decide), fun l nl => ?_⟩⟩
      have sl2 := same_new (o := .lst [.ref u]) nl
      refine ⟨_, rfl, l, D, [.ref u], as.map V.ref, rfl, rfl, upd_same, sl2 _ _ (s2 _ _ hD), (by rw [List.length_map]; exact Nat.le_of_lt (small1000 (by show 1 + as.length ≤ 1000; omega))), fun t nt => ?_⟩
      have st := same_new (o := .lst ([.ref u] ++ as.map V.ref)) nt
      have s5 := (s1.trans s2).trans (sl2.trans st)
      have s25 := s2.trans (sl2.trans st)
      have e0 : ([.ref u] ++ as.map V.ref : List V) = (((u, c :: List.replicate m (0 : Int)) :: as.zip (ns xs ps)).map fun p => V.ref p.1) := by
        have e : ((as.zip (ns xs ps)).map Prod.fst).map V.ref = (as.zip (ns xs ps)).map fun p => V.ref p.1 := List.map_map
        rw [List.map_cons, ← e, List.map_fst_zip (by omega)]
        rfl
      refine ⟨m, t, (u, c :: List.replicate m (0 : Int)) :: as.zip (ns xs ps), rfl, ?_, by omega, ?_, ?_, fun H3 r s3 nr hr3 => ?_⟩
      · rw [upd_same, e0]
      · rw [List.length_cons, List.length_zip]
        omega
      · intro p hp'
        rcases List.mem_cons.mp hp' with rfl | hp'
        · exact ⟨(sl2.trans st) _ _ hu, by simp⟩
        · obtain ⟨i, hi⟩ := List.mem_iff_getElem?.mp hp'
          obtain ⟨e1, e2⟩ := List.getElem?_zip_eq_some.mp hi
          obtain ⟨x, p0, ex, ep, en⟩ := List.getElem?_zipWith_eq_some.mp e2
          obtain ⟨_, h2, _⟩ := hp p0 (List.mem_of_getElem? ep)
          have z := s25 _ _ (ha i p.1 x p0 e1 ex ep)
          rw [← en]
          exact ⟨z, by rw [List.length_map]; exact h2⟩
      · refine q H3 r (s5.trans s3) (was_new s5 nr) ?_
        rw [hr3]
        have ef : (fun j => col ((u, c :: List.replicate m (0 : Int)) :: as.zip (ns xs ps)) j) = withV c xs (ps.map fun p => p.2) := funext fun j => col_with u c m as xs ps ln j
        rw [← ef]
end
end KB
set_option Elab.async false
set_option linter.all false
set_option maxRecDepth 100000
set_option maxHeartbeats 4000000
namespace KB
open PySem PySem.Spec PyProof.Rows L2 XV
abbrev sBelow : Stmt := top 13
abbrev sReqMany : Stmt := top 14
abbrev sInserted : Stmt := top 17
abbrev sHasForm : Stmt := top 18
abbrev sReqForm : Stmt := top 19
abbrev sReqForms : Stmt := top 20
abbrev sUnk : Stmt := top 25
theorem scBelow : FnScope ["bound", "value"] ["bound", "value"] (defScope sBelow) := ⟨rfl, rfl, rfl, by decide +kernel, rfl, by decide +kernel, by decide +kernel⟩
theorem scReqMany : FnScope ["many"] ["many"] (defScope sReqMany) := ⟨rfl, rfl, rfl, by decide +kernel, rfl, by decide +kernel, by decide +kernel⟩
theorem scInserted : FnScope ["form", "many", "forms"] ["form", "many", "forms"] (defScope sInserted) := ⟨rfl, rfl, rfl, by decide +kernel, rfl, by decide +kernel, by decide +kernel⟩
theorem scHasForm : FnScope ["many", "item", "number"] ["many", "item"] (defScope sHasForm) := ⟨rfl, rfl, rfl, by decide +kernel, rfl, by decide +kernel, by decide +kernel⟩
theorem scReqForm : FnScope ["form", "many"] ["form"] (defScope sReqForm) := ⟨rfl, rfl, rfl, by decide +kernel, rfl, by decide +kernel, by decide +kernel⟩
theorem scReqForms : FnScope ["forms", "many", "how_many", "form"] ["forms", "many", "how_many"] (defScope sReqForms) := ⟨rfl, rfl, rfl, by decide +kernel, rfl, by decide +kernel, by decide +kernel⟩
theorem scUnk : FnScope ["many", "at", "constant", "number", "place"] ["many", "at", "constant", "number"] (defScope sUnk) := ⟨rfl, rfl, rfl, by decide +kernel, rfl, by decide +kernel, by decide +kernel⟩
/-- a form with the numbers ns stands at a -/
def Fm (H : Hp) (a : Addr) (ns : List Int) : Prop := H a = some (.tup (ns.map V.int)) ∧ (∀ x ∈ ns, 0 ≤ x) ∧ 1 ≤ ns.length ∧ ns.length ≤ 4
theorem Fm.keep {H H' : Hp} (s : Same H H') {a : Addr} {ns : List Int} (h : Fm H a ns) : Fm H' a ns := ⟨s _ _ h.1, h.2⟩
def spBelow : Sp := fun vs H Q _ => ∃ b i : Int, vs = [.int b, .int i] ∧ 0 ≤ i ∧ i < b ∧ Q (.bl true) H
def spReqMany : Sp := fun vs H Q _ => ∃ m : Nat, vs = [.int m] ∧ m ≤ 3 ∧ Q .non H
def spHasForm : Sp := fun vs H Q _ => ∃ (m : Nat) (a : Addr) (ns : List Int), vs = [.int m, .ref a] ∧ Fm H a ns ∧ ∀ H', Same H H' → Q (.bl (decide (ns.length = m + 1))) H'
def spReqForm : Sp := fun vs H Q _ => ∃ (a : Addr) (ns : List Int), vs = [.ref a] ∧ Fm H a ns ∧ ∀ H', Same H H' → Q .non H'
/-- a list of forms for m unknowns -/
def Fms (H : Hp) (la : Addr) (m : Nat) (ps : List (Addr × List Int)) : Prop := H la = some (.lst (ps.map fun p => V.ref p.1)) ∧ ps.length ≤ 3 ∧ m ≤ 3 ∧ ∀ p ∈ ps, Fm H p.1 p.2 ∧ p.2.length = m + 1
theorem Fms.keep {H H' : Hp} (s : Same H H') {la : Addr} {m : Nat} {ps : List (Addr × List Int)} (h : Fms H la m ps) : Fms H' la m ps := ⟨s _ _ h.1, h.2.1, h.2.2.1, fun p hp => ⟨(h.2.2.2 p hp).1.keep s, (h.2.2.2 p hp).2⟩⟩
def spReqForms : Sp := fun vs H Q _ => ∃ (la : Addr) (m : Nat) (ps : List (Addr × List Int)), vs = [.ref la, .int m, .int (ps.length : Int)] ∧ Fms H la m ps ∧ ∀ H', Same H H' → Q .non H'
def spInserted : Sp := fun vs H Q _ => ∃ (fa la : Addr) (m : Nat) (c : Int) (xs : List Int) (ps : List (Addr × List Int)), vs = [.ref fa, .int m, .ref la] ∧ Fm H fa (c :: xs) ∧ Fms H la m ps ∧ xs.length = ps.length ∧
  (∀ x ∈ xs, Sz 1000 x) ∧ (∀ p ∈ ps, ∀ x ∈ p.2, Sz 1000 x) ∧
  ∀ (H' : Hp) (r : Addr), Same H H' → H r = none → H' r = some (.tup (((List.range (m + 1)).map (withV c xs (ps.map fun p => p.2))).map V.int)) → Q (.ref r) H'
def unkF (m i : Nat) (c n : Int) : List Int := c :: (List.range m).map fun j => if j = i then n else 0
def spUnk : Sp := fun vs H Q _ => ∃ (m i : Nat) (c n : Int), vs = [.int m, .int i, .int c, .int n] ∧ m ≤ 3 ∧ ∀ (H' : Hp) (p : Addr), Same H H' → H p = none → H' p = some (.tup ((unkF m i c n).map V.int)) → Q (.ref p) H'
theorem nat_dec (x y : Nat) : decide (V.int (x : Int) = V.int (y : Int)) = decide (x = y) := by
  by_cases e : x = y
  · rw [e, decide_eq_true rfl, decide_eq_true rfl]
  · rw [decide_eq_false e, decide_eq_false]
    intro z
    have := V.int.inj z
    omega
section
variable {P : Program} {w : World} {K : PySem.W.Frag} {mg : Str → Option Value} {base : Heap} {f : Addr} {fd : FuncData}
theorem ok_below (F : FnP K "is_count_below" sBelow f fd) (o_is_count : Ok P w K mg base "is_count" 2 ["value"] spCount) : FnOk P w K mg base CX0 3 f fd ["bound", "value"] spBelow := by
  refine F.ok scBelow (fun vs H Q E h => ?_) (fun cdv A outer s H vs Q E hr h => ?_)
  · obtain ⟨b, v, rfl, _⟩ := h
    rfl
  · obtain ⟨b, i, rfl, h0, h1, q⟩ := h
    refine ⟨_, PSs.nox (pss_one (ps_ret (pe_and (pe_callO o_is_count (hr.mono (by decide)) (by rfl) (pa_cons (pv 1) pa_nil)) (pe_one (pe_cmpR op_lt (pv 1) (pv 0) (nomark _)))))), ?_⟩
    refine ⟨_, rfl, i, rfl, h0, true, rfl, iteT ⟨_, rfl, _, rfl, _, _, rfl, rfl, ?_⟩⟩
    show Q (.bl (decide (i < b))) H
    rw [decide_eq_true h1]
    exact q
theorem ok_reqMany (F : FnP K "require_many" sReqMany f fd) (o_below : Ok P w K mg base "is_count_below" 3 ["bound", "value"] spBelow) {tM : Tok} (h_MU : mg "MOST_UNKNOWNS" = some (.int 3 tM)) : FnOk P w K mg base CX0 4 f fd ["many"] spReqMany := by
  refine F.ok scReqMany (fun vs H Q E h => ?_) (fun cdv A outer s H vs Q E hr h => ?_)
  · obtain ⟨m, rfl, _⟩ := h
    rfl
  · obtain ⟨m, rfl, hm, q⟩ := h
    refine ⟨_, PSs.nox (pss_one (ps_if (pt_not (pt_val (pe_callO o_below hr (by rfl) (pa_cons (pe_op op_add (pe_glob (v := .int 3) (by rfl) h_MU ⟨_, rfl⟩) pe_int) (pa_cons (pv 0) pa_nil))))) (pss_one ps_never) pss_nil)), ?_⟩
    exact ⟨_, _, rfl, rfl, _, rfl, 4, m, rfl, by omega, by omega, true, rfl, iteF q⟩
theorem ok_hasForm (F : FnP K "has_form" sHasForm f fd) (o_is_count : Ok P w K mg base "is_count" 2 ["value"] spCount) (z_isinstance : mg "isinstance" = none) (z_tuple : mg "tuple" = none) (z_len : mg "len" = none) (z_all : mg "all" = none) :
    FnOk P w K mg base CX0 3 f fd ["many", "item"] spHasForm := by
  have nd := scHasForm.nd
  refine F.ok scHasForm (fun vs H Q E h => ?_) (fun cdv A outer s H vs Q E hr h => ?_)
  · obtain ⟨m, v, b, rfl, _⟩ := h
    rfl
  · obtain ⟨m, a, ns, rfl, ⟨hf, h0, l1, l4⟩, q⟩ := h
    have hr2 : Room 2 (A.deeper (envOfC "has_form" (defScope sHasForm) s.heap.objs.size f cdv)) := hr
    refine ⟨_, PSs.nox (pss_one (ps_ret (pe_and (pe_callB call_isi (by rfl) z_isinstance (by decide +kernel) (pa_cons (pv 1) (pa_cons (pe_bltn (v := .ty "tuple") (by rfl) z_tuple (by decide +kernel) rfl) pa_nil))) (pe_and (pe_cmpR op_eq (pe_callB call_len (by rfl) z_len boot_len (pa_cons (pv 1) pa_nil)) (pe_op op_add (pv 0) pe_int) (nomark _)) (pe_one (pe_callB (cr_all rfl) (by rfl) z_all (by decide +kernel) (pa_cons
      (pe_lc (own := [("number", 2)]) (g := gName 2) (by rfl) nd (pi_tup (pv 1)) (blkOk_by (N := ["many", "item", "number"]) (sc := defScope sHasForm) (own := [("number", 2)]) (by decide +kernel)) (fun _ _ _ _ _ => pg_name (i := 2) nd rfl (Or.inl rfl)) (fun _ _ _ _ _ => pts_nil) (fun _ _ _ _ _ => pe_callO o_is_count hr2 (by rfl) (pa_cons (pv 2) pa_nil))) pa_nil))))))), ?_⟩
    refine ⟨_, rfl, _, _, _, _, true, rfl, .ty "tuple", .base (.tup hf), kit_ty (by decide +kernel), true, rfl, iteT ⟨.ref a, rfl, _, (ns.map V.int).length, rfl, .inr ⟨_, SqT.of hf, rfl⟩, _, rfl, _, _, rfl, rfl, rfl, decide (ns.length = m + 1), ?_, ?_⟩⟩
    · rw [List.length_map]
      exact congrArg V.bl (nat_dec ns.length (m + 1))
    by_cases c : ns.length = m + 1
    · rw [decide_eq_true c] at q ⊢
      refine iteT ⟨_, rfl, a, rfl, ⟨_, SqT.of hf⟩, fun D nD => lc_tup (K := K) (a := a) (xs := ns.map V.int) (fun k H' => Same H H' ∧ H' D = some (.lst ((List.replicate k true).map V.bl))) ⟨same_new nD, upd_same⟩ (fun k H' _ p => SqT.ext (SqT.of hf) p.1) ?_ ?_⟩
      · rintro k y H' hk ⟨sm, hD⟩
        have li : k < 4 := by
          have := (List.getElem?_eq_some_iff.mp hk).1
          rw [List.length_map] at this
          omega
        obtain ⟨x, hx, rfl⟩ := List.mem_map.mp (mem_at hk)
        refine ⟨rfl, ?_⟩
        refine ⟨_, rfl, x, rfl, h0 x hx, _, hD, ?_, fun b o e => ?_, ?_⟩
        · rw [List.length_map, List.length_replicate]
          exact small1000 (by omega)
        · rw [upd_ne (ne_of_none (H := H) e nD)]
          exact sm _ _ e
        · rw [upd_same, List.replicate_succ', List.map_append]
          rfl
      · rintro H' ⟨sm, hD⟩
        refine ⟨D, _, rfl, SqL.of hD, ?_⟩
        rw [rep_all]
        exact q H' sm
    · rw [decide_eq_false c] at q ⊢
      exact iteF (q H (Same.refl H))
theorem ok_reqForm (F : FnP K "require_form" sReqForm f fd) (o_form : Ok P w K mg base "has_form" 3 ["many", "item"] spHasForm) (z_any : mg "any" = none) (z_range : mg "range" = none) {tM : Tok} (h_MU : mg "MOST_UNKNOWNS" = some (.int 3 tM)) : FnOk P w K mg base CX0 4 f fd ["form"] spReqForm := by
  have nd := scReqForm.nd
  refine F.ok scReqForm (fun vs H Q E h => ?_) (fun cdv A outer s H vs Q E hr h => ?_)
  · obtain ⟨a, xs, rfl, _⟩ := h
    rfl
  · obtain ⟨a, ns, rfl, hF, q⟩ := h
    have r3 : Room 3 (A.deeper (envOfC "require_form" (defScope sReqForm) s.heap.objs.size f cdv)) := hr
    refine ⟨_, PSs.nox (pss_one (ps_if (pt_not (pt_val (pe_callB (cr_any rfl) (by rfl) z_any (by decide +kernel) (pa_cons
      (pe_lc (own := [("many", 1)]) (g := gName 1) (by rfl) nd (pi_range1 (by rfl) z_range (pa_cons (pe_op op_add (pe_glob (v := .int 3) (by rfl) h_MU ⟨_, rfl⟩) pe_int) pa_nil)) (blkOk_by (N := ["form", "many"]) (sc := defScope sReqForm) (own := [("many", 1)]) (by decide +kernel)) (fun _ _ _ _ _ => pg_name (i := 1) nd rfl (Or.inl rfl)) (fun _ _ _ _ _ => pts_nil)
        (fun _ _ _ _ _ => pe_callO o_form r3 (by rfl) (pa_cons (pv 1) (pa_cons (pv 0) pa_nil)))) pa_nil)))) (pss_one (ps_never)) pss_nil)), ?_⟩
    refine ⟨_, _, rfl, rfl, 4, rfl, by decide, by decide, fun D nD => lc_range (lo := 0) (n := 4) (fun k H' => Same H H' ∧ H' D = some (.lst (((List.range k).map fun j => decide (ns.length = j + 1)).map V.bl))) ⟨same_new nD, upd_same⟩ ?_ ?_⟩
    · rintro j H' hj ⟨sm, hD⟩
      rw [Int.zero_add]
      refine ⟨rfl, ?_⟩
      refine ⟨_, rfl, _, rfl, j, a, ns, rfl, hF.keep sm, fun H2 s2 => ⟨_, s2 _ _ hD, ?_, fun b o e => ?_, ?_⟩⟩
      · rw [List.length_map, List.length_map, List.length_range]
        exact small1000 (by omega)
      · rw [upd_ne (ne_of_none (H := H) e nD)]
        exact s2 _ _ (sm _ _ e)
      · rw [upd_same, List.range_succ, List.map_append, List.map_append]
        rfl
    · rintro H' ⟨sm, hD⟩
      refine ⟨D, _, rfl, SqL.of hD, true, ?_, iteF (q H' sm)⟩
      obtain ⟨_, _, l1, l4⟩ := hF
      have e : ((List.range 4).map fun j => decide (ns.length = j + 1)).any id = true := by
        rw [List.any_map, List.any_eq_true]
        exact ⟨ns.length - 1, List.mem_range.mpr (by omega), decide_eq_true (by omega)⟩
      exact congrArg V.bl e
theorem ok_reqForms (F : FnP K "require_forms" sReqForms f fd) (o_form : Ok P w K mg base "has_form" 3 ["many", "item"] spHasForm) (z_isinstance : mg "isinstance" = none) (z_list : mg "list" = none) (z_len : mg "len" = none) (z_all : mg "all" = none) : FnOk P w K mg base CX0 4 f fd ["forms", "many", "how_many"] spReqForms := by
  have nd := scReqForms.nd
  refine F.ok scReqForms (fun vs H Q E h => ?_) (fun cdv A outer s H vs Q E hr h => ?_)
  · obtain ⟨la, m, ps, rfl, _⟩ := h
    rfl
  · obtain ⟨la, m, ps, rfl, hF, q⟩ := h
    obtain ⟨hl, l3, m3, hp⟩ := id hF
    have r3 : Room 3 (A.deeper (envOfC "require_forms" (defScope sReqForms) s.heap.objs.size f cdv)) := hr
    refine ⟨_, PSs.nox (pss_cons (ps_if (PW.pt (pw_or (pt_not (pt_val (pe_callB call_isi (by rfl) z_isinstance (by decide +kernel) (pa_cons (pv 0) (pa_cons (pe_bltn (v := .ty "list") (by rfl) z_list (by decide +kernel) rfl) pa_nil))))) (pw_or1 (pt_cmpR op_ne (pe_callB call_len (by rfl) z_len boot_len (pa_cons (pv 0) pa_nil)) (pv 2) (nomark _))))) (pss_one ps_never) pss_nil)
      (pss_one (ps_if (pt_not (pt_val (pe_callB (cr_all rfl) (by rfl) z_all (by decide +kernel) (pa_cons
      (pe_lc (own := [("form", 3)]) (g := gName 3) (by rfl) nd (pi_list (pv 0)) (blkOk_by (N := ["forms", "many", "how_many", "form"]) (sc := defScope sReqForms) (own := [("form", 3)]) (by decide +kernel)) (fun _ _ _ _ _ => pg_name (i := 3) nd rfl (Or.inl rfl)) (fun _ _ _ _ _ => pts_nil) (fun _ _ _ _ _ => pe_callO o_form r3 (by rfl) (pa_cons (pv 1) (pa_cons (pv 3) pa_nil)))) pa_nil)))) (pss_one ps_never) pss_nil))), ?_⟩
    refine ⟨_, rfl, _, _, _, _, true, rfl, .ty "list", .base (.lst hl), kit_ty (by decide +kernel), true, rfl, iteF ⟨.ref la, rfl, _, ps.length, rfl, .inl ⟨_, SqL.of hl, by rw [List.length_map]⟩, _, rfl, rfl, false, ?_, iteF ?_⟩⟩
    · refine congrArg V.bl ?_
      simp
    refine ⟨_, rfl, la, rfl, ⟨_, SqL.of hl⟩, fun D nD => lc_list (K := K) (a := la) (xs := ps.map fun p => V.ref p.1) (fun k H' => Same H H' ∧ H' D = some (.lst ((List.replicate k true).map V.bl))) ⟨same_new nD, upd_same⟩ (fun k H' _ p => SqL.of (p.1 _ _ hl)) ?_ ?_⟩
    · rintro k y H' hk ⟨sm, hD⟩
      have li : k < 3 := by
        have := (List.getElem?_eq_some_iff.mp hk).1
        rw [List.length_map] at this
        omega
      obtain ⟨p, hp2, rfl⟩ := List.mem_map.mp (mem_at hk)
      obtain ⟨h1, h2⟩ := hp p hp2
      refine ⟨rfl, ?_⟩
      refine ⟨_, rfl, _, rfl, m, p.1, p.2, rfl, h1.keep sm, fun H2 s2 => ?_⟩
      rw [decide_eq_true h2]
      refine ⟨_, s2 _ _ hD, ?_, fun b o e => ?_, ?_⟩
      · rw [List.length_map, List.length_replicate]
        exact small1000 (by omega)
      · rw [upd_ne (ne_of_none (H := H) e nD)]
        exact s2 _ _ (sm _ _ e)
      · rw [upd_same, List.replicate_succ', List.map_append]
        rfl
    · rintro H' ⟨sm, hD⟩
      refine ⟨D, _, rfl, SqL.of hD, true, ?_, iteF (q H' sm)⟩
      rw [rep_all]
theorem ok_inserted (F : FnP K "inserted" sInserted f fd) (o_reqForm : Ok P w K mg base "require_form" 4 ["form"] spReqForm) (o_reqMany : Ok P w K mg base "require_many" 4 ["many"] spReqMany) (o_reqForms : Ok P w K mg base "require_forms" 4 ["forms", "many", "how_many"] spReqForms) (o_with : Ok P w K mg base "form_with" 2 ["form", "many", "forms"] spWith) (z_len : mg "len" = none) :
    FnOk P w K mg base CX0 5 f fd ["form", "many", "forms"] spInserted := by
  have nd := scInserted.nd
  refine F.ok scInserted (fun vs H Q E h => ?_) (fun cdv A outer s H vs Q E hr h => ?_)
  · obtain ⟨fa, la, m, c, xs, ps, rfl, _⟩ := h
    rfl
  · obtain ⟨fa, la, m, c, xs, ps, rfl, hF, hL, hl, sx, sp, q⟩ := h
    have r2 : Room 2 (A.deeper (envOfC "inserted" (defScope sInserted) s.heap.objs.size f cdv)) := hr.mono (by decide)
    refine ⟨_, PSs.nox (pss_cons (ps_expr (pe_callO o_reqForm hr (by rfl) (pa_cons (pv 0) pa_nil)))
      (pss_cons (ps_expr (pe_callO o_reqMany hr (by rfl) (pa_cons (pv 1) pa_nil)))
      (pss_cons (ps_expr (pe_callO o_reqForms hr (by rfl) (pa_cons (pv 2) (pa_cons (pv 1) (pa_cons (pe_op op_sub (pe_callB call_len (by rfl) z_len boot_len (pa_cons (pv 0) pa_nil)) pe_int) pa_nil)))))
      (pss_one (ps_ret (pe_callO o_with r2 (by rfl) (pa_cons (pv 0) (pa_cons (pv 1) (pa_cons (pv 2) pa_nil))))))))), ?_⟩
    refine ⟨_, rfl, fa, _, rfl, hF, fun H1 s1 => ⟨_, rfl, m, rfl, hL.2.2.1, ?_⟩⟩
    have hF1 := hF.keep s1
    refine ⟨_, rfl, _, rfl, .ref fa, rfl, _, ((c :: xs).map V.int).length, rfl, .inr ⟨_, SqT.of hF1.1, rfl⟩, _, _, rfl, rfl, la, m, ps, ?_, hL.keep s1, fun H2 s2 => ?_⟩
    · rw [List.length_map, List.length_cons, hl]
      have e : ((ps.length + 1 : Nat) : Int) - 1 = (ps.length : Int) := by omega
      show [V.ref la, V.int m, V.int (((ps.length + 1 : Nat) : Int) - 1)] = _
      rw [e]
    have hF2 := hF1.keep s2
    have hL2 := (hL.keep s1).keep s2
    refine ⟨_, rfl, _, rfl, _, rfl, fa, la, m, c, xs, ps, rfl, hF2.1, hL2.1, hl, by have := hL.2.1; omega, by have := hL.2.2.1; omega, sx, fun p hp => ⟨(hL2.2.2.2 p hp).1.1, (hL2.2.2.2 p hp).2, sp p hp⟩, fun H3 r s3 nr hr3 => ?_⟩
    exact q H3 r ((s1.trans s2).trans s3) (was_new (s1.trans s2) nr) hr3
theorem ok_unk (F : FnP K "form_of_unknown" sUnk f fd) (z_tuple : mg "tuple" = none) (z_range : mg "range" = none) : FnOk P w K mg base CX0 1 f fd ["many", "at", "constant", "number"] spUnk := by
  have nd := scUnk.nd
  refine F.ok scUnk (fun vs H Q E h => ?_) (fun cdv A outer s H vs Q E hr h => ?_)
  · obtain ⟨m, i, c, n, rfl, _⟩ := h
    rfl
  · obtain ⟨m, i, c, n, rfl, hm, q⟩ := h
    refine ⟨_, PSs.nox (pss_one (ps_ret (pe_callTy call_tuple_of (by rfl) z_tuple (by decide +kernel) (pa_cons (pe_op op_cat (pe_lst (pa_cons (pv 2) pa_nil))
      (pe_lc (own := [("place", 4)]) (g := gName 4) (by rfl) nd (pi_range1 (by rfl) z_range (pa_cons (pv 0) pa_nil)) (blkOk_by (N := ["many", "at", "constant", "number", "place"]) (sc := defScope sUnk) (own := [("place", 4)]) (by decide +kernel)) (fun _ _ _ _ _ => pg_name (i := 4) nd rfl (Or.inl rfl)) (fun _ _ _ _ _ => pts_nil)
        (fun _ _ _ _ _ => pe_ifExp (pt_cmpR op_eq (pv 4) (pv 1) (nomark _)) (pv 3) pe_int))) pa_nil)))), ?_⟩
    refine ⟨_, rfl, (by show 1 ≤ sizeLine; decide), fun l nl => ?_⟩
    have sl := same_new (o := .lst [.int c]) nl
    refine ⟨_, rfl, _, rfl, by omega, by omega, fun D nD => ?_⟩
    rw [show ((m : Nat) : Int).toNat = m from by omega]
    refine lc_range (lo := 0) (n := m) (fun k H' => Same (upd H l (.lst [.int c])) H' ∧ H' D = some (.lst (((List.range k).map fun j => if j = i then n else (0 : Int)).map V.int))) ⟨same_new nD, upd_same⟩ ?_ ?_
    · rintro j H' hj ⟨sm, hD⟩
      rw [Int.zero_add]
      refine ⟨rfl, ?_⟩
      have fin : ∀ v : Int, v = (if j = i then n else 0) → ∃ acc, H' D = some (.lst acc) ∧ acc.length < sizeLine ∧ (Same (upd H l (.lst [.int c])) (upd H' D (.lst (acc ++ [.int v]))) ∧ (upd H' D (.lst (acc ++ [.int v]))) D = some (.lst (((List.range (j + 1)).map fun j => if j = i then n else (0 : Int)).map V.int))) := by
        rintro v rfl
        refine ⟨_, hD, ?_, fun b o e => ?_, ?_⟩
        · rw [List.length_map, List.length_map, List.length_range]
          exact small1000 (by omega)
        · rw [upd_ne (ne_of_none (H := upd H l (.lst [.int c])) e nD)]
          exact sm _ _ e
        · rw [upd_same, List.range_succ, List.map_append, List.map_append]
          rfl
      refine ⟨_, rfl, _, rfl, rfl, _, rfl, ?_⟩
      rw [nat_dec j i]
      by_cases e : j = i
      · rw [decide_eq_true e]
        exact iteT ⟨_, rfl, fin n (if_pos e).symm⟩
      · rw [decide_eq_false e]
        exact iteF (fin 0 (if_neg e).symm)
    · rintro H' ⟨sm, hD⟩
      have hl := sm _ _ (upd_same (H := H) (a := l) (o := .lst [.int c]))
      refine ⟨l, D, _, _, rfl, rfl, hl, hD, ?_, fun t nt => ?_⟩
      · rw [List.length_map, List.length_map, List.length_range]
        exact Nat.le_of_lt (small1000 (by show 1 + m ≤ 1000; omega))
      · have S := (sl.trans sm).trans (same_new (o := .lst ([.int c] ++ ((List.range m).map fun j => if j = i then n else (0 : Int)).map V.int)) nt)
        exact ⟨t, _, rfl, .inl ⟨SqL.of upd_same, fun u nu => q _ u (S.trans (same_new nu)) (was_new S nu) upd_same⟩⟩
end
end KB
set_option Elab.async false
set_option linter.all false
set_option maxRecDepth 100000
set_option maxHeartbeats 400000
/-! next of a zip of two or three lists, whatever became of the tuple that it handed out last. -/
namespace XV
open PySem
open PySem.Sem (wp)
theorem ad {a b : Nat} (h : a ≠ b) : @Ne Addr a b := h
/-- a zip's cell: what it keeps of the tuple that it handed out last, whether it was seen to be held -/
abbrev ZS (h : Heap) (q a b : Addr) (f0 : Value) (f1 : Bool) : Prop := h.get? q = some { cls := .type "zip", dict := none, data := .fields #[f0, .bool f1, .bool false, .ref a, .ref b], slots := #[] }
def OwnV (f0 : Value) : Prop := f0 = .none ∨ ∃ a : Nat, f0 = rawInt a
section
variable {prog : Program} {w : World} {A : Around} {E : Value → Shared → Prop} {s : Shared}
theorem alive_any {a : Addr} {Q : Option Obj → Shared → Prop} (h : Q (s.heap.get? a) s) : wpAny (model prog w) A (loadIfAlive a) Q E s := fun _ _ _ => h
theorem own_free {q a b : Addr} {f0 : Value} {f1 : Bool} {Q : Bool → Shared → Prop} (hz : ZS s.heap q a b f0 f1) (hf : OwnV f0) (h1 : Q true s)
    (h2 : ∀ h, ZS h q a b f0 true → Heap.SameBut q s.heap h → Q false { s with heap := h }) : wpAny (model prog w) A (Builtin.SmallTypes.ownedTupleIsFree (.ref q)) Q E s := by
  unfold Builtin.SmallTypes.ownedTupleIsFree
  refine wpAny_bind (wpAny_field (x := f0) hz rfl rfl ?_)
  rcases hf with rfl | ⟨t, rfl⟩
  · exact wpAny_pure h1
  · show wpAny _ _ (loadIfAlive _ >>= _) _ _ _
    refine wpAny_bind (alive_any ?_)
    cases s.heap.get? ((t : Int).toNat) with
    | none => exact wpAny_pure h1
    | some o =>
      refine wpAny_bind (wpAny_field (x := .bool f1) hz rfl rfl ?_)
      cases f1 with
      | true => exact wpAny_pure (h2 s.heap hz (Heap.SameBut.refl _ _))
      | false => exact wpAny_bind (wpAny_setField_rec hz (by simp) fun h hh hs => wpAny_pure (h2 h hh hs))
theorem zip2_item {N l1 l2 i : Nat} {f0 : Value} {f1 : Bool} {q1 q2 x1 x2 : Value} {us1 us2 : Array Value} {Q : Value → Shared → Prop} (b1 : l1 < N) (b2 : l2 < N)
    (hz : ZS s.heap (N + 4) (N + 2) (N + 3) f0 f1) (hf : OwnV f0) (hI : s.heap.get? (N + 2) = some { cls := .type "tuple", data := .seq #[.ref (N + 0), .ref (N + 1)] }) (hO : s.heap.get? (N + 3) = some { cls := .type "tuple", data := .seq #[q1, q2] })
    (t1 : s.heap.IsListIter (N + 0) l1 i) (L1 : s.heap.IsList l1 us1) (t2 : s.heap.IsListIter (N + 1) l2 i) (L2 : s.heap.IsList l2 us2) (e1 : us1[i]? = some x1) (e2 : us2[i]? = some x2)
    (hQ : ∀ h, (∃ g0 g1, OwnV g0 ∧ ZS h (N + 4) (N + 2) (N + 3) g0 g1) → (∃ q1 q2, h.get? (N + 3) = some { cls := .type "tuple", data := .seq #[q1, q2] }) → h.IsListIter (N + 0) l1 (i + 1) → h.IsListIter (N + 1) l2 (i + 1) → h.get? s.heap.objs.size = some { cls := .type "tuple", data := .seq #[x1, x2] } → h.objs.size = s.heap.objs.size + 1 →
      (∀ c o, c ≠ (N + 4) → c ≠ (N + 3) → c ≠ (N + 0) → c ≠ (N + 1) → s.heap.get? c = some o → h.get? c = some o) → Q (.ref s.heap.objs.size) { s with heap := h }) :
    wpAny (model prog w) A (Builtin.«zip.__next__» ⟨[.ref (N + 4)], []⟩) (fun fin s' => ∃ v, fin = .done (.ret v) ∧ Q v s') E s := by
  obtain ⟨hp, g, d, tk, os⟩ := s
  have zlt : (N + 4) < hp.objs.size := Heap.lt_size hz
  show wpAny _ _ (field (.ref (N + 4)) 2 >>= _) _ _ _
  refine wpAny_bind (wpAny_field hz rfl (x := .bool false) rfl ?_)
  show wpAny _ _ (field (.ref (N + 4)) 3 >>= _) _ _ _
  refine wpAny_bind (wpAny_field hz rfl (x := .ref (N + 2)) rfl (wpAny_bind (wpAny_seqItems hI rfl ?_)))
  show wpAny _ _ (Builtin.SmallTypes.ownedTupleIsFree (.ref (N + 4)) >>= _) _ _ _
  refine wpAny_bind (own_free hz hf ?_ fun g0 hz0 hs0 => ?_)
  · rw [if_pos rfl]
    refine wpAny_bind (wpAny_rule (wpAny_bind (wpAny_field hz rfl (x := .ref (N + 3)) rfl ?_)))
    refine wpAny_bind (wpAny_setField_rec hz (by simp) fun g0 hz0 hs0 => ?_)
    replace hz0 : ZS g0 (N + 4) (N + 2) (N + 3) .ellipsis f1 := hz0
    replace hs0 : Heap.SameBut (N + 4) hp g0 := hs0
    simp only [List.forIn_cons, List.forIn_nil, List.zipIdx_cons, List.zipIdx_nil]
    refine wpAny_bind (wpAny_bind (wpAny_bind (wpAny_onRaise ?_)))
    show wpAny _ _ (Builtin.SmallTypes.nextOf (.ref (N + 0)) >>= _) _ _ (Shared.mk g0 g d tk os)
    refine wpAny_bind (wpAny_nextOf_list_item (t1.at fun o e => (hs0.2 (N + 0) (ad (by omega))).trans (e)) (L1.at fun o e => (hs0.2 l1 (ad (by omega))).trans (e)) e1 fun p1 r1 hp1 => wpAny_pure ?_)
    replace hp1 : Heap.SameBut (N + 0) g0 p1 := hp1
    have hU1 : p1.get? (N + 3) = some { cls := .type "tuple", data := .seq #[q1, q2] } := (hp1.2 (N + 3) (ad (by omega))).trans ((hs0.2 (N + 3) (ad (by omega))).trans (hO))
    refine wpAny_bind (wpAny_seqItems (s := ⟨p1, g, d, tk, os⟩) hU1 rfl ?_)
    refine wpAny_bind (wpAny_updateSeq (s := ⟨p1, g, d, tk, os⟩) (f := fun a => a.setIfInBounds 0 x1) hU1 rfl ?_)
    have hT1 : (p1.update (N + 3) (Obj.mapSeq fun a => a.setIfInBounds 0 x1)).get? (N + 3) = some { cls := .type "tuple", data := .seq #[x1, q2] } := by
      rw [Heap.get?_update_self _ hU1 rfl]
      simp [Obj.mapSeq]
    have hs1 : Heap.SameBut (N + 3) p1 (p1.update (N + 3) (Obj.mapSeq fun a => a.setIfInBounds 0 x1)) := Heap.SameBut.update ..
    generalize p1.update (N + 3) (Obj.mapSeq fun a => a.setIfInBounds 0 x1) = g1 at hT1 hs1
    refine wpAny_bind (wpAny_letGo (wpAny_pure ?_))
    refine wpAny_bind (wpAny_bind (wpAny_onRaise ?_))
    show wpAny _ _ (Builtin.SmallTypes.nextOf (.ref (N + 1)) >>= _) _ _ (Shared.mk g1 g d tk os)
    refine wpAny_bind (wpAny_nextOf_list_item (t2.at fun o e => (hs1.2 (N + 1) (ad (by omega))).trans ((hp1.2 (N + 1) (ad (by omega))).trans ((hs0.2 (N + 1) (ad (by omega))).trans (e)))) (L2.at fun o e => (hs1.2 l2 (ad (by omega))).trans ((hp1.2 l2 (ad (by omega))).trans ((hs0.2 l2 (ad (by omega))).trans (e)))) e2 fun p2 r2 hp2 => wpAny_pure ?_)
    replace hp2 : Heap.SameBut (N + 1) g1 p2 := hp2
    have hU2 : p2.get? (N + 3) = some { cls := .type "tuple", data := .seq #[x1, q2] } := (hp2.2 (N + 3) (ad (by omega))).trans (hT1)
    refine wpAny_bind (wpAny_seqItems (s := ⟨p2, g, d, tk, os⟩) hU2 rfl ?_)
    refine wpAny_bind (wpAny_updateSeq (s := ⟨p2, g, d, tk, os⟩) (f := fun a => a.setIfInBounds 1 x2) hU2 rfl ?_)
    have hT2 : (p2.update (N + 3) (Obj.mapSeq fun a => a.setIfInBounds 1 x2)).get? (N + 3) = some { cls := .type "tuple", data := .seq #[x1, x2] } := by
      rw [Heap.get?_update_self _ hU2 rfl]
      simp [Obj.mapSeq]
    have hs2 : Heap.SameBut (N + 3) p2 (p2.update (N + 3) (Obj.mapSeq fun a => a.setIfInBounds 1 x2)) := Heap.SameBut.update ..
    generalize p2.update (N + 3) (Obj.mapSeq fun a => a.setIfInBounds 1 x2) = g2 at hT2 hs2
    refine wpAny_bind (wpAny_letGo (wpAny_pure ?_))
    have hsz : g2.objs.size = hp.objs.size := by rw [hs2.1, hp2.1, hs1.1, hp1.1, hs0.1]
    have hzz : ZS g2 (N + 4) (N + 2) (N + 3) .ellipsis f1 := (hs2.2 (N + 4) (ad (by omega))).trans ((hp2.2 (N + 4) (ad (by omega))).trans ((hs1.2 (N + 4) (ad (by omega))).trans ((hp1.2 (N + 4) (ad (by omega))).trans (hz0))))
    refine wpAny_bind (wpAny_pure ?_)
    refine wpAny_pure ?_
    show wpAny _ _ (seqItems? (.ref (N + 3)) >>= _) _ _ (Shared.mk g2 g d tk os)
    refine wpAny_bind (wpAny_seqItems (s := ⟨g2, g, d, tk, os⟩) hT2 rfl ?_)
    refine wpAny_bind (wpAny_newTuple ?_)
    show wpAny _ _ (Builtin.SmallTypes.ownedTupleHandOut (.ref (N + 4)) (.ref g2.objs.size) >>= _) _ _ (Shared.mk (g2.push { cls := .type "tuple", data := .seq #[x1, x2] }) g d tk os)
    unfold Builtin.SmallTypes.ownedTupleHandOut
    refine wpAny_bind (wpAny_bind (wpAny_setField_rec (Heap.get?_push_of_some _ hzz) (by simp) fun m1 hm1 hn1 => ?_))
    replace hm1 : ZS m1 (N + 4) (N + 2) (N + 3) (rawInt g2.objs.size) f1 := hm1
    refine wpAny_setField_rec hm1 (by simp) fun m2 hm2 hn2 => wpAny_pure ⟨_, rfl, ?_⟩
    replace hm2 : ZS m2 (N + 4) (N + 2) (N + 3) (rawInt g2.objs.size) false := hm2
    replace hn1 : Heap.SameBut (N + 4) (g2.push { cls := .type "tuple", data := .seq #[x1, x2] }) m1 := hn1
    replace hn2 : Heap.SameBut (N + 4) m1 m2 := hn2
    have up : ∀ c o, c ≠ (N + 4) → g2.get? c = some o → m2.get? c = some o := fun c o c1 e => (hn2.2 c c1).trans ((hn1.2 c c1).trans (Heap.get?_push_of_some _ e))
    show Q (.ref g2.objs.size) ⟨m2, g, d, tk, os⟩
    have hnew : m2.get? g2.objs.size = some { cls := .type "tuple", data := .seq #[x1, x2] } := (hn2.2 _ (by rw [hsz]; exact Nat.ne_of_gt zlt)).trans ((hn1.2 _ (by rw [hsz]; exact Nat.ne_of_gt zlt)).trans (Heap.get?_push_size _ rfl))
    have hms : m2.objs.size = g2.objs.size + 1 := by rw [hn2.1, hn1.1, Heap.size_push]
    rw [hsz] at hnew hms ⊢
    refine hQ m2 ⟨_, _, .inr ⟨_, rfl⟩, hm2⟩ ⟨_, _, up _ _ (ad (by omega)) hT2⟩ (r1.at fun o e => up _ _ (ad (by omega)) ((hs2.2 (N + 0) (ad (by omega))).trans ((hp2.2 (N + 0) (ad (by omega))).trans ((hs1.2 (N + 0) (ad (by omega))).trans (e))))) (r2.at fun o e => up _ _ (ad (by omega)) ((hs2.2 (N + 1) (ad (by omega))).trans (e))) hnew hms fun c o cz cO c1 c2 e => up c o cz ((hs2.2 c cO).trans ((hp2.2 c c2).trans ((hs1.2 c cO).trans ((hp1.2 c c1).trans ((hs0.2 c cz).trans (e))))))
  · rw [if_neg (by decide)]
    replace hz0 : ZS g0 (N + 4) (N + 2) (N + 3) f0 true := hz0
    replace hs0 : Heap.SameBut (N + 4) hp g0 := hs0
    simp only [← Array.forIn_toList, List.forIn_cons, List.forIn_nil]
    refine wpAny_bind (wpAny_bind (wpAny_bind (wpAny_holding ?_)))
    show wpAny _ _ (Builtin.SmallTypes.nextOf (.ref (N + 0)) >>= _) _ _ (Shared.mk g0 g d tk os)
    refine wpAny_bind (wpAny_nextOf_list_item (t1.at fun o e => (hs0.2 (N + 0) (ad (by omega))).trans (e)) (L1.at fun o e => (hs0.2 l1 (ad (by omega))).trans (e)) e1 fun p1 r1 hp1 => wpAny_pure (wpAny_pure ?_))
    replace hp1 : Heap.SameBut (N + 0) g0 p1 := hp1
    refine wpAny_bind (wpAny_bind (wpAny_holding ?_))
    show wpAny _ _ (Builtin.SmallTypes.nextOf (.ref (N + 1)) >>= _) _ _ (Shared.mk p1 g d tk os)
    refine wpAny_bind (wpAny_nextOf_list_item (t2.at fun o e => (hp1.2 (N + 1) (ad (by omega))).trans ((hs0.2 (N + 1) (ad (by omega))).trans (e))) (L2.at fun o e => (hp1.2 l2 (ad (by omega))).trans ((hs0.2 l2 (ad (by omega))).trans (e))) e2 fun p2 r2 hp2 => wpAny_pure (wpAny_pure ?_))
    replace hp2 : Heap.SameBut (N + 1) p1 p2 := hp2
    have hsz : p2.objs.size = hp.objs.size := by rw [hp2.1, hp1.1, hs0.1]
    refine wpAny_bind (wpAny_pure ?_)
    refine wpAny_pure ?_
    show wpAny _ _ (newTuple [x1, x2] >>= _) _ _ (Shared.mk p2 g d tk os)
    refine wpAny_bind (wpAny_newTuple ?_)
    refine wpAny_pure ⟨_, rfl, ?_⟩
    show Q (.ref p2.objs.size) ⟨p2.push { cls := .type "tuple", data := .seq #[x1, x2] }, g, d, tk, os⟩
    have hnew : (p2.push { cls := .type "tuple", data := .seq #[x1, x2] }).get? p2.objs.size = some { cls := .type "tuple", data := .seq #[x1, x2] } := Heap.get?_push_size _ rfl
    have hms : (p2.push { cls := .type "tuple", data := .seq #[x1, x2] }).objs.size = p2.objs.size + 1 := Heap.size_push ..
    have up : ∀ c o, p2.get? c = some o → (p2.push { cls := .type "tuple", data := .seq #[x1, x2] }).get? c = some o := fun c o e => Heap.get?_push_of_some _ e
    rw [hsz] at hnew hms ⊢
    refine hQ _ ⟨_, _, hf, up _ _ ((hp2.2 (N + 4) (ad (by omega))).trans ((hp1.2 (N + 4) (ad (by omega))).trans (hz0)))⟩ ⟨_, _, up _ _ ((hp2.2 (N + 3) (ad (by omega))).trans ((hp1.2 (N + 3) (ad (by omega))).trans ((hs0.2 (N + 3) (ad (by omega))).trans (hO))))⟩ (r1.at fun o e => up _ _ ((hp2.2 (N + 0) (ad (by omega))).trans (e))) (r2.at fun o e => up _ _ (e)) hnew hms fun c o cz cO c1 c2 e => up c o ((hp2.2 c c2).trans ((hp1.2 c c1).trans ((hs0.2 c cz).trans (e))))
theorem zip2_end {N l1 l2 i : Nat} {f0 : Value} {f1 : Bool} {us1 : Array Value} {Q : Fin → Shared → Prop} (b1 : l1 < N) (hh : A.handled = none)
    (hz : ZS s.heap (N + 4) (N + 2) (N + 3) f0 f1) (hf : OwnV f0) (hI : s.heap.get? (N + 2) = some { cls := .type "tuple", data := .seq #[.ref (N + 0), .ref (N + 1)] }) (t1 : s.heap.IsListIter (N + 0) l1 i) (L1 : s.heap.IsList l1 us1) (e1 : us1[i]? = none)
    (hE : ∀ h x, (∀ c o, c ≠ (N + 4) → c ≠ (N + 3) → c ≠ (N + 0) → c ≠ (N + 1) → s.heap.get? c = some o → h.get? c = some o) → (∃ o, h.get? x = some o ∧ o.cls = .type "StopIteration") → E (.ref x) { s with heap := h }) :
    wpAny (model prog w) A (Builtin.«zip.__next__» ⟨[.ref (N + 4)], []⟩) Q E s := by
  obtain ⟨hp, g, d, tk, os⟩ := s
  show wpAny _ _ (field (.ref (N + 4)) 2 >>= _) _ _ _
  refine wpAny_bind (wpAny_field hz rfl (x := .bool false) rfl ?_)
  show wpAny _ _ (field (.ref (N + 4)) 3 >>= _) _ _ _
  refine wpAny_bind (wpAny_field hz rfl (x := .ref (N + 2)) rfl (wpAny_bind (wpAny_seqItems hI rfl ?_)))
  show wpAny _ _ (Builtin.SmallTypes.ownedTupleIsFree (.ref (N + 4)) >>= _) _ _ _
  refine wpAny_bind (own_free hz hf ?_ fun g0 hz0 hs0 => ?_)
  · rw [if_pos rfl]
    refine wpAny_bind (wpAny_rule (wpAny_bind (wpAny_field hz rfl (x := .ref (N + 3)) rfl ?_)))
    refine wpAny_bind (wpAny_setField_rec hz (by simp) fun g0 hz0 hs0 => ?_)
    replace hz0 : ZS g0 (N + 4) (N + 2) (N + 3) .ellipsis f1 := hz0
    replace hs0 : Heap.SameBut (N + 4) hp g0 := hs0
    simp only [List.forIn_cons, List.forIn_nil, List.zipIdx_cons, List.zipIdx_nil]
    refine wpAny_bind (wpAny_bind (wpAny_bind (wpAny_onRaise ?_)))
    show wpAny _ _ (Builtin.SmallTypes.nextOf (.ref (N + 0)) >>= _) _ _ (Shared.mk g0 g d tk os)
    refine wpAny_bind (wpAny_nextOf_list_end hh (t1.at fun o e => (hs0.2 (N + 0) (ad (by omega))).trans (e)) (L1.at fun o e => (hs0.2 l1 (ad (by omega))).trans (e)) e1 fun p x hp1 hx => ?_)
    replace hp1 : Heap.ExtBut (N + 0) g0 p := hp1
    obtain ⟨ox, hox, hcx⟩ := hx
    replace hox : p.get? x = some ox := hox
    have hzp : ZS p (N + 4) (N + 2) (N + 3) .ellipsis f1 := hp1 _ _ (ad (by omega)) hz0
    have xz : x ≠ (N + 4) := fun y => by
      rw [y, hzp] at hox
      cases hox
      simp at hcx
    refine wpAny_setField_rec (s := ⟨p, g, d, tk, os⟩) hzp (by simp) fun m _ hm => ?_
    replace hm : Heap.SameBut (N + 4) p m := hm
    exact hE m x (fun c o cz cO c1 c2 e => (hm.2 c cz).trans (hp1 c o c1 ((hs0.2 c cz).trans e))) ⟨ox, (hm.2 x xz).trans hox, hcx⟩
  · rw [if_neg (by decide)]
    replace hs0 : Heap.SameBut (N + 4) hp g0 := hs0
    simp only [← Array.forIn_toList, List.forIn_cons, List.forIn_nil]
    refine wpAny_bind (wpAny_bind (wpAny_bind (wpAny_holding ?_)))
    show wpAny _ _ (Builtin.SmallTypes.nextOf (.ref (N + 0)) >>= _) _ _ (Shared.mk g0 g d tk os)
    refine wpAny_bind (wpAny_nextOf_list_end hh (t1.at fun o e => (hs0.2 (N + 0) (ad (by omega))).trans (e)) (L1.at fun o e => (hs0.2 l1 (ad (by omega))).trans (e)) e1 fun p x hp1 hx => ?_)
    exact hE p x (fun c o cz cO c1 c2 e => hp1 c o c1 ((hs0.2 c cz).trans e)) hx
theorem zip3_item {N l1 l2 l3 i : Nat} {f0 : Value} {f1 : Bool} {q1 q2 q3 x1 x2 x3 : Value} {us1 us2 us3 : Array Value} {Q : Value → Shared → Prop} (b1 : l1 < N) (b2 : l2 < N) (b3 : l3 < N)
    (hz : ZS s.heap (N + 5) (N + 3) (N + 4) f0 f1) (hf : OwnV f0) (hI : s.heap.get? (N + 3) = some { cls := .type "tuple", data := .seq #[.ref (N + 0), .ref (N + 1), .ref (N + 2)] }) (hO : s.heap.get? (N + 4) = some { cls := .type "tuple", data := .seq #[q1, q2, q3] })
    (t1 : s.heap.IsListIter (N + 0) l1 i) (L1 : s.heap.IsList l1 us1) (t2 : s.heap.IsListIter (N + 1) l2 i) (L2 : s.heap.IsList l2 us2) (t3 : s.heap.IsListIter (N + 2) l3 i) (L3 : s.heap.IsList l3 us3) (e1 : us1[i]? = some x1) (e2 : us2[i]? = some x2) (e3 : us3[i]? = some x3)
    (hQ : ∀ h, (∃ g0 g1, OwnV g0 ∧ ZS h (N + 5) (N + 3) (N + 4) g0 g1) → (∃ q1 q2 q3, h.get? (N + 4) = some { cls := .type "tuple", data := .seq #[q1, q2, q3] }) → h.IsListIter (N + 0) l1 (i + 1) → h.IsListIter (N + 1) l2 (i + 1) → h.IsListIter (N + 2) l3 (i + 1) → h.get? s.heap.objs.size = some { cls := .type "tuple", data := .seq #[x1, x2, x3] } → h.objs.size = s.heap.objs.size + 1 →
      (∀ c o, c ≠ (N + 5) → c ≠ (N + 4) → c ≠ (N + 0) → c ≠ (N + 1) → c ≠ (N + 2) → s.heap.get? c = some o → h.get? c = some o) → Q (.ref s.heap.objs.size) { s with heap := h }) :
    wpAny (model prog w) A (Builtin.«zip.__next__» ⟨[.ref (N + 5)], []⟩) (fun fin s' => ∃ v, fin = .done (.ret v) ∧ Q v s') E s := by
  obtain ⟨hp, g, d, tk, os⟩ := s
  have zlt : (N + 5) < hp.objs.size := Heap.lt_size hz
  show wpAny _ _ (field (.ref (N + 5)) 2 >>= _) _ _ _
  refine wpAny_bind (wpAny_field hz rfl (x := .bool false) rfl ?_)
  show wpAny _ _ (field (.ref (N + 5)) 3 >>= _) _ _ _
  refine wpAny_bind (wpAny_field hz rfl (x := .ref (N + 3)) rfl (wpAny_bind (wpAny_seqItems hI rfl ?_)))
  show wpAny _ _ (Builtin.SmallTypes.ownedTupleIsFree (.ref (N + 5)) >>= _) _ _ _
  refine wpAny_bind (own_free hz hf ?_ fun g0 hz0 hs0 => ?_)
  · rw [if_pos rfl]
    refine wpAny_bind (wpAny_rule (wpAny_bind (wpAny_field hz rfl (x := .ref (N + 4)) rfl ?_)))
    refine wpAny_bind (wpAny_setField_rec hz (by simp) fun g0 hz0 hs0 => ?_)
    replace hz0 : ZS g0 (N + 5) (N + 3) (N + 4) .ellipsis f1 := hz0
    replace hs0 : Heap.SameBut (N + 5) hp g0 := hs0
    simp only [List.forIn_cons, List.forIn_nil, List.zipIdx_cons, List.zipIdx_nil]
    refine wpAny_bind (wpAny_bind (wpAny_bind (wpAny_onRaise ?_)))
    show wpAny _ _ (Builtin.SmallTypes.nextOf (.ref (N + 0)) >>= _) _ _ (Shared.mk g0 g d tk os)
    refine wpAny_bind (wpAny_nextOf_list_item (t1.at fun o e => (hs0.2 (N + 0) (ad (by omega))).trans (e)) (L1.at fun o e => (hs0.2 l1 (ad (by omega))).trans (e)) e1 fun p1 r1 hp1 => wpAny_pure ?_)
    replace hp1 : Heap.SameBut (N + 0) g0 p1 := hp1
    have hU1 : p1.get? (N + 4) = some { cls := .type "tuple", data := .seq #[q1, q2, q3] } := (hp1.2 (N + 4) (ad (by omega))).trans ((hs0.2 (N + 4) (ad (by omega))).trans (hO))
    refine wpAny_bind (wpAny_seqItems (s := ⟨p1, g, d, tk, os⟩) hU1 rfl ?_)
    refine wpAny_bind (wpAny_updateSeq (s := ⟨p1, g, d, tk, os⟩) (f := fun a => a.setIfInBounds 0 x1) hU1 rfl ?_)
    have hT1 : (p1.update (N + 4) (Obj.mapSeq fun a => a.setIfInBounds 0 x1)).get? (N + 4) = some { cls := .type "tuple", data := .seq #[x1, q2, q3] } := by
      rw [Heap.get?_update_self _ hU1 rfl]
      simp [Obj.mapSeq]
    have hs1 : Heap.SameBut (N + 4) p1 (p1.update (N + 4) (Obj.mapSeq fun a => a.setIfInBounds 0 x1)) := Heap.SameBut.update ..
    generalize p1.update (N + 4) (Obj.mapSeq fun a => a.setIfInBounds 0 x1) = g1 at hT1 hs1
    refine wpAny_bind (wpAny_letGo (wpAny_pure ?_))
    refine wpAny_bind (wpAny_bind (wpAny_onRaise ?_))
    show wpAny _ _ (Builtin.SmallTypes.nextOf (.ref (N + 1)) >>= _) _ _ (Shared.mk g1 g d tk os)
    refine wpAny_bind (wpAny_nextOf_list_item (t2.at fun o e => (hs1.2 (N + 1) (ad (by omega))).trans ((hp1.2 (N + 1) (ad (by omega))).trans ((hs0.2 (N + 1) (ad (by omega))).trans (e)))) (L2.at fun o e => (hs1.2 l2 (ad (by omega))).trans ((hp1.2 l2 (ad (by omega))).trans ((hs0.2 l2 (ad (by omega))).trans (e)))) e2 fun p2 r2 hp2 => wpAny_pure ?_)
    replace hp2 : Heap.SameBut (N + 1) g1 p2 := hp2
    have hU2 : p2.get? (N + 4) = some { cls := .type "tuple", data := .seq #[x1, q2, q3] } := (hp2.2 (N + 4) (ad (by omega))).trans (hT1)
    refine wpAny_bind (wpAny_seqItems (s := ⟨p2, g, d, tk, os⟩) hU2 rfl ?_)
    refine wpAny_bind (wpAny_updateSeq (s := ⟨p2, g, d, tk, os⟩) (f := fun a => a.setIfInBounds 1 x2) hU2 rfl ?_)
    have hT2 : (p2.update (N + 4) (Obj.mapSeq fun a => a.setIfInBounds 1 x2)).get? (N + 4) = some { cls := .type "tuple", data := .seq #[x1, x2, q3] } := by
      rw [Heap.get?_update_self _ hU2 rfl]
      simp [Obj.mapSeq]
    have hs2 : Heap.SameBut (N + 4) p2 (p2.update (N + 4) (Obj.mapSeq fun a => a.setIfInBounds 1 x2)) := Heap.SameBut.update ..
    generalize p2.update (N + 4) (Obj.mapSeq fun a => a.setIfInBounds 1 x2) = g2 at hT2 hs2
    refine wpAny_bind (wpAny_letGo (wpAny_pure ?_))
    refine wpAny_bind (wpAny_bind (wpAny_onRaise ?_))
    show wpAny _ _ (Builtin.SmallTypes.nextOf (.ref (N + 2)) >>= _) _ _ (Shared.mk g2 g d tk os)
    refine wpAny_bind (wpAny_nextOf_list_item (t3.at fun o e => (hs2.2 (N + 2) (ad (by omega))).trans ((hp2.2 (N + 2) (ad (by omega))).trans ((hs1.2 (N + 2) (ad (by omega))).trans ((hp1.2 (N + 2) (ad (by omega))).trans ((hs0.2 (N + 2) (ad (by omega))).trans (e)))))) (L3.at fun o e => (hs2.2 l3 (ad (by omega))).trans ((hp2.2 l3 (ad (by omega))).trans ((hs1.2 l3 (ad (by omega))).trans ((hp1.2 l3 (ad (by omega))).trans ((hs0.2 l3 (ad (by omega))).trans (e)))))) e3 fun p3 r3 hp3 => wpAny_pure ?_)
    replace hp3 : Heap.SameBut (N + 2) g2 p3 := hp3
    have hU3 : p3.get? (N + 4) = some { cls := .type "tuple", data := .seq #[x1, x2, q3] } := (hp3.2 (N + 4) (ad (by omega))).trans (hT2)
    refine wpAny_bind (wpAny_seqItems (s := ⟨p3, g, d, tk, os⟩) hU3 rfl ?_)
    refine wpAny_bind (wpAny_updateSeq (s := ⟨p3, g, d, tk, os⟩) (f := fun a => a.setIfInBounds 2 x3) hU3 rfl ?_)
    have hT3 : (p3.update (N + 4) (Obj.mapSeq fun a => a.setIfInBounds 2 x3)).get? (N + 4) = some { cls := .type "tuple", data := .seq #[x1, x2, x3] } := by
      rw [Heap.get?_update_self _ hU3 rfl]
      simp [Obj.mapSeq]
    have hs3 : Heap.SameBut (N + 4) p3 (p3.update (N + 4) (Obj.mapSeq fun a => a.setIfInBounds 2 x3)) := Heap.SameBut.update ..
    generalize p3.update (N + 4) (Obj.mapSeq fun a => a.setIfInBounds 2 x3) = g3 at hT3 hs3
    refine wpAny_bind (wpAny_letGo (wpAny_pure ?_))
    have hsz : g3.objs.size = hp.objs.size := by rw [hs3.1, hp3.1, hs2.1, hp2.1, hs1.1, hp1.1, hs0.1]
    have hzz : ZS g3 (N + 5) (N + 3) (N + 4) .ellipsis f1 := (hs3.2 (N + 5) (ad (by omega))).trans ((hp3.2 (N + 5) (ad (by omega))).trans ((hs2.2 (N + 5) (ad (by omega))).trans ((hp2.2 (N + 5) (ad (by omega))).trans ((hs1.2 (N + 5) (ad (by omega))).trans ((hp1.2 (N + 5) (ad (by omega))).trans (hz0))))))
    refine wpAny_bind (wpAny_pure ?_)
    refine wpAny_pure ?_
    show wpAny _ _ (seqItems? (.ref (N + 4)) >>= _) _ _ (Shared.mk g3 g d tk os)
    refine wpAny_bind (wpAny_seqItems (s := ⟨g3, g, d, tk, os⟩) hT3 rfl ?_)
    refine wpAny_bind (wpAny_newTuple ?_)
    show wpAny _ _ (Builtin.SmallTypes.ownedTupleHandOut (.ref (N + 5)) (.ref g3.objs.size) >>= _) _ _ (Shared.mk (g3.push { cls := .type "tuple", data := .seq #[x1, x2, x3] }) g d tk os)
    unfold Builtin.SmallTypes.ownedTupleHandOut
    refine wpAny_bind (wpAny_bind (wpAny_setField_rec (Heap.get?_push_of_some _ hzz) (by simp) fun m1 hm1 hn1 => ?_))
    replace hm1 : ZS m1 (N + 5) (N + 3) (N + 4) (rawInt g3.objs.size) f1 := hm1
    refine wpAny_setField_rec hm1 (by simp) fun m2 hm2 hn2 => wpAny_pure ⟨_, rfl, ?_⟩
    replace hm2 : ZS m2 (N + 5) (N + 3) (N + 4) (rawInt g3.objs.size) false := hm2
    replace hn1 : Heap.SameBut (N + 5) (g3.push { cls := .type "tuple", data := .seq #[x1, x2, x3] }) m1 := hn1
    replace hn2 : Heap.SameBut (N + 5) m1 m2 := hn2
    have up : ∀ c o, c ≠ (N + 5) → g3.get? c = some o → m2.get? c = some o := fun c o c1 e => (hn2.2 c c1).trans ((hn1.2 c c1).trans (Heap.get?_push_of_some _ e))
    show Q (.ref g3.objs.size) ⟨m2, g, d, tk, os⟩
    have hnew : m2.get? g3.objs.size = some { cls := .type "tuple", data := .seq #[x1, x2, x3] } := (hn2.2 _ (by rw [hsz]; exact Nat.ne_of_gt zlt)).trans ((hn1.2 _ (by rw [hsz]; exact Nat.ne_of_gt zlt)).trans (Heap.get?_push_size _ rfl))
    have hms : m2.objs.size = g3.objs.size + 1 := by rw [hn2.1, hn1.1, Heap.size_push]
    rw [hsz] at hnew hms ⊢
    refine hQ m2 ⟨_, _, .inr ⟨_, rfl⟩, hm2⟩ ⟨_, _, _, up _ _ (ad (by omega)) hT3⟩ (r1.at fun o e => up _ _ (ad (by omega)) ((hs3.2 (N + 0) (ad (by omega))).trans ((hp3.2 (N + 0) (ad (by omega))).trans ((hs2.2 (N + 0) (ad (by omega))).trans ((hp2.2 (N + 0) (ad (by omega))).trans ((hs1.2 (N + 0) (ad (by omega))).trans (e))))))) (r2.at fun o e => up _ _ (ad (by omega)) ((hs3.2 (N + 1) (ad (by omega))).trans ((hp3.2 (N + 1) (ad (by omega))).trans ((hs2.2 (N + 1) (ad (by omega))).trans (e))))) (r3.at fun o e => up _ _ (ad (by omega)) ((hs3.2 (N + 2) (ad (by omega))).trans (e))) hnew hms fun c o cz cO c1 c2 c3 e => up c o cz ((hs3.2 c cO).trans ((hp3.2 c c3).trans ((hs2.2 c cO).trans ((hp2.2 c c2).trans ((hs1.2 c cO).trans ((hp1.2 c c1).trans ((hs0.2 c cz).trans (e))))))))
  · rw [if_neg (by decide)]
    replace hz0 : ZS g0 (N + 5) (N + 3) (N + 4) f0 true := hz0
    replace hs0 : Heap.SameBut (N + 5) hp g0 := hs0
    simp only [← Array.forIn_toList, List.forIn_cons, List.forIn_nil]
    refine wpAny_bind (wpAny_bind (wpAny_bind (wpAny_holding ?_)))
    show wpAny _ _ (Builtin.SmallTypes.nextOf (.ref (N + 0)) >>= _) _ _ (Shared.mk g0 g d tk os)
    refine wpAny_bind (wpAny_nextOf_list_item (t1.at fun o e => (hs0.2 (N + 0) (ad (by omega))).trans (e)) (L1.at fun o e => (hs0.2 l1 (ad (by omega))).trans (e)) e1 fun p1 r1 hp1 => wpAny_pure (wpAny_pure ?_))
    replace hp1 : Heap.SameBut (N + 0) g0 p1 := hp1
    refine wpAny_bind (wpAny_bind (wpAny_holding ?_))
    show wpAny _ _ (Builtin.SmallTypes.nextOf (.ref (N + 1)) >>= _) _ _ (Shared.mk p1 g d tk os)
    refine wpAny_bind (wpAny_nextOf_list_item (t2.at fun o e => (hp1.2 (N + 1) (ad (by omega))).trans ((hs0.2 (N + 1) (ad (by omega))).trans (e))) (L2.at fun o e => (hp1.2 l2 (ad (by omega))).trans ((hs0.2 l2 (ad (by omega))).trans (e))) e2 fun p2 r2 hp2 => wpAny_pure (wpAny_pure ?_))
    replace hp2 : Heap.SameBut (N + 1) p1 p2 := hp2
    refine wpAny_bind (wpAny_bind (wpAny_holding ?_))
    show wpAny _ _ (Builtin.SmallTypes.nextOf (.ref (N + 2)) >>= _) _ _ (Shared.mk p2 g d tk os)
    refine wpAny_bind (wpAny_nextOf_list_item (t3.at fun o e => (hp2.2 (N + 2) (ad (by omega))).trans ((hp1.2 (N + 2) (ad (by omega))).trans ((hs0.2 (N + 2) (ad (by omega))).trans (e)))) (L3.at fun o e => (hp2.2 l3 (ad (by omega))).trans ((hp1.2 l3 (ad (by omega))).trans ((hs0.2 l3 (ad (by omega))).trans (e)))) e3 fun p3 r3 hp3 => wpAny_pure (wpAny_pure ?_))
    replace hp3 : Heap.SameBut (N + 2) p2 p3 := hp3
    have hsz : p3.objs.size = hp.objs.size := by rw [hp3.1, hp2.1, hp1.1, hs0.1]
    refine wpAny_bind (wpAny_pure ?_)
    refine wpAny_pure ?_
    show wpAny _ _ (newTuple [x1, x2, x3] >>= _) _ _ (Shared.mk p3 g d tk os)
    refine wpAny_bind (wpAny_newTuple ?_)
    refine wpAny_pure ⟨_, rfl, ?_⟩
    show Q (.ref p3.objs.size) ⟨p3.push { cls := .type "tuple", data := .seq #[x1, x2, x3] }, g, d, tk, os⟩
    have hnew : (p3.push { cls := .type "tuple", data := .seq #[x1, x2, x3] }).get? p3.objs.size = some { cls := .type "tuple", data := .seq #[x1, x2, x3] } := Heap.get?_push_size _ rfl
    have hms : (p3.push { cls := .type "tuple", data := .seq #[x1, x2, x3] }).objs.size = p3.objs.size + 1 := Heap.size_push ..
    have up : ∀ c o, p3.get? c = some o → (p3.push { cls := .type "tuple", data := .seq #[x1, x2, x3] }).get? c = some o := fun c o e => Heap.get?_push_of_some _ e
    rw [hsz] at hnew hms ⊢
    refine hQ _ ⟨_, _, hf, up _ _ ((hp3.2 (N + 5) (ad (by omega))).trans ((hp2.2 (N + 5) (ad (by omega))).trans ((hp1.2 (N + 5) (ad (by omega))).trans (hz0))))⟩ ⟨_, _, _, up _ _ ((hp3.2 (N + 4) (ad (by omega))).trans ((hp2.2 (N + 4) (ad (by omega))).trans ((hp1.2 (N + 4) (ad (by omega))).trans ((hs0.2 (N + 4) (ad (by omega))).trans (hO)))))⟩ (r1.at fun o e => up _ _ ((hp3.2 (N + 0) (ad (by omega))).trans ((hp2.2 (N + 0) (ad (by omega))).trans (e)))) (r2.at fun o e => up _ _ ((hp3.2 (N + 1) (ad (by omega))).trans (e))) (r3.at fun o e => up _ _ (e)) hnew hms fun c o cz cO c1 c2 c3 e => up c o ((hp3.2 c c3).trans ((hp2.2 c c2).trans ((hp1.2 c c1).trans ((hs0.2 c cz).trans (e)))))
theorem zip3_end {N l1 l2 l3 i : Nat} {f0 : Value} {f1 : Bool} {us1 : Array Value} {Q : Fin → Shared → Prop} (b1 : l1 < N) (hh : A.handled = none)
    (hz : ZS s.heap (N + 5) (N + 3) (N + 4) f0 f1) (hf : OwnV f0) (hI : s.heap.get? (N + 3) = some { cls := .type "tuple", data := .seq #[.ref (N + 0), .ref (N + 1), .ref (N + 2)] }) (t1 : s.heap.IsListIter (N + 0) l1 i) (L1 : s.heap.IsList l1 us1) (e1 : us1[i]? = none)
    (hE : ∀ h x, (∀ c o, c ≠ (N + 5) → c ≠ (N + 4) → c ≠ (N + 0) → c ≠ (N + 1) → c ≠ (N + 2) → s.heap.get? c = some o → h.get? c = some o) → (∃ o, h.get? x = some o ∧ o.cls = .type "StopIteration") → E (.ref x) { s with heap := h }) :
    wpAny (model prog w) A (Builtin.«zip.__next__» ⟨[.ref (N + 5)], []⟩) Q E s := by
  obtain ⟨hp, g, d, tk, os⟩ := s
  show wpAny _ _ (field (.ref (N + 5)) 2 >>= _) _ _ _
  refine wpAny_bind (wpAny_field hz rfl (x := .bool false) rfl ?_)
  show wpAny _ _ (field (.ref (N + 5)) 3 >>= _) _ _ _
  refine wpAny_bind (wpAny_field hz rfl (x := .ref (N + 3)) rfl (wpAny_bind (wpAny_seqItems hI rfl ?_)))
  show wpAny _ _ (Builtin.SmallTypes.ownedTupleIsFree (.ref (N + 5)) >>= _) _ _ _
  refine wpAny_bind (own_free hz hf ?_ fun g0 hz0 hs0 => ?_)
  · rw [if_pos rfl]
    refine wpAny_bind (wpAny_rule (wpAny_bind (wpAny_field hz rfl (x := .ref (N + 4)) rfl ?_)))
    refine wpAny_bind (wpAny_setField_rec hz (by simp) fun g0 hz0 hs0 => ?_)
    replace hz0 : ZS g0 (N + 5) (N + 3) (N + 4) .ellipsis f1 := hz0
    replace hs0 : Heap.SameBut (N + 5) hp g0 := hs0
    simp only [List.forIn_cons, List.forIn_nil, List.zipIdx_cons, List.zipIdx_nil]
    refine wpAny_bind (wpAny_bind (wpAny_bind (wpAny_onRaise ?_)))
    show wpAny _ _ (Builtin.SmallTypes.nextOf (.ref (N + 0)) >>= _) _ _ (Shared.mk g0 g d tk os)
    refine wpAny_bind (wpAny_nextOf_list_end hh (t1.at fun o e => (hs0.2 (N + 0) (ad (by omega))).trans (e)) (L1.at fun o e => (hs0.2 l1 (ad (by omega))).trans (e)) e1 fun p x hp1 hx => ?_)
    replace hp1 : Heap.ExtBut (N + 0) g0 p := hp1
    obtain ⟨ox, hox, hcx⟩ := hx
    replace hox : p.get? x = some ox := hox
    have hzp : ZS p (N + 5) (N + 3) (N + 4) .ellipsis f1 := hp1 _ _ (ad (by omega)) hz0
    have xz : x ≠ (N + 5) := fun y => by
      rw [y, hzp] at hox
      cases hox
      simp at hcx
    refine wpAny_setField_rec (s := ⟨p, g, d, tk, os⟩) hzp (by simp) fun m _ hm => ?_
    replace hm : Heap.SameBut (N + 5) p m := hm
    exact hE m x (fun c o cz cO c1 c2 c3 e => (hm.2 c cz).trans (hp1 c o c1 ((hs0.2 c cz).trans e))) ⟨ox, (hm.2 x xz).trans hox, hcx⟩
  · rw [if_neg (by decide)]
    replace hs0 : Heap.SameBut (N + 5) hp g0 := hs0
    simp only [← Array.forIn_toList, List.forIn_cons, List.forIn_nil]
    refine wpAny_bind (wpAny_bind (wpAny_bind (wpAny_holding ?_)))
    show wpAny _ _ (Builtin.SmallTypes.nextOf (.ref (N + 0)) >>= _) _ _ (Shared.mk g0 g d tk os)
    refine wpAny_bind (wpAny_nextOf_list_end hh (t1.at fun o e => (hs0.2 (N + 0) (ad (by omega))).trans (e)) (L1.at fun o e => (hs0.2 l1 (ad (by omega))).trans (e)) e1 fun p x hp1 hx => ?_)
    exact hE p x (fun c o cz cO c1 c2 c3 e => hp1 c o c1 ((hs0.2 c cz).trans e)) hx
end
end XV
set_option Elab.async false
set_option linter.all false
set_option maxRecDepth 100000
set_option maxHeartbeats 400000
/-! next of an enumerate over any iterator whose own next is told. -/
namespace XV
open PySem
open PySem.Sem (wp)
section
variable {prog : Program} {w : World} {A : Around} {E : Value → Shared → Prop} {s : Shared}
theorem enum_over {e q : Addr} {c : Int} {old x : Value} {NX : Heap → Prop} {Q : Value → Shared → Prop} (he : IsEnum s.heap e q c old)
    (hn : ∀ Q' : Value → Shared → Prop, (∀ h, NX h → Q' x { s with heap := h }) → wpAny (model prog w) A (Builtin.SmallTypes.nextOf (.ref q)) Q' E s) (hk : ∀ h, NX h → IsEnum h e q c old)
    (hQ : ∀ h1 h2, NX h1 → IsEnumOut h2 e q (c + 1) x h1.objs.size → h2.get? h1.objs.size = some { cls := .type "tuple", data := .seq #[.int c s.toks, x] } → h2.objs.size = h1.objs.size + 1 →
      (∀ b o, b ≠ e → h1.get? b = some o → h2.get? b = some o) → Q (.ref h1.objs.size) { s with heap := h2, toks := s.toks + 1 }) :
    wpAny (model prog w) A (Builtin.«enumerate.__next__» ⟨[.ref e], []⟩) (fun fin s' => ∃ v, fin = .done (.ret v) ∧ Q v s') E s := by
  obtain ⟨hp, gs, dr, tk, os⟩ := s
  show wpAny _ _ (field (.ref e) 2 >>= _) _ _ _
  refine wpAny_bind (wpAny_field he rfl (x := .ref q) rfl (wpAny_bind (hn _ fun h1 n1 => ?_)))
  have u1 := hk h1 n1
  show wpAny _ _ (field (.ref e) 3 >>= _) _ _ (Shared.mk h1 gs dr tk os)
  refine wpAny_bind (wpAny_field u1 rfl (x := rawInt c) rfl ?_)
  show wpAny _ _ (field (.ref e) 4 >>= _) _ _ (Shared.mk h1 gs dr tk os)
  refine wpAny_bind (wpAny_field u1 rfl (x := .none) rfl ?_)
  show wpAny _ _ (mkInt c >>= _) _ _ (Shared.mk h1 gs dr tk os)
  refine wpAny_bind (wpAny_mkInt ?_)
  show wpAny _ _ (setField (.ref e) 3 (rawInt (c + 1)) >>= _) _ _ (Shared.mk h1 gs dr (tk + 1) os)
  refine wpAny_bind (wpAny_setField_rec u1 (by simp) fun h2 u2 s2 => ?_)
  replace s2 : Heap.SameBut e h1 h2 := s2
  replace u2 : IsEnum h2 e q (c + 1) old := u2
  show wpAny _ _ (setField (.ref e) 4 .none >>= _) _ _ (Shared.mk h2 gs dr (tk + 1) os)
  refine wpAny_bind (wpAny_setField_rec u2 (by simp) fun h3 u3 s3 => ?_)
  replace s3 : Heap.SameBut e h2 h3 := s3
  replace u3 : IsEnum h3 e q (c + 1) old := u3
  show wpAny _ _ (newTuple [.int c tk, x] >>= _) _ _ (Shared.mk h3 gs dr (tk + 1) os)
  refine wpAny_bind (wpAny_newTuple ?_)
  have sz : h3.objs.size = h1.objs.size := by rw [s3.1, s2.1]
  have el : e < h1.objs.size := Heap.lt_size u1
  have u4 : IsEnum (h3.push { cls := .type "tuple", data := .seq #[.int c tk, x] }) e q (c + 1) old := Heap.get?_push_of_some _ u3
  have t4 : (h3.push { cls := .type "tuple", data := .seq #[.int c tk, x] }).get? h1.objs.size = some { cls := .type "tuple", data := .seq #[.int c tk, x] } := by
    rw [← sz]
    exact Heap.get?_push_size _ rfl
  have z4 : (h3.push { cls := .type "tuple", data := .seq #[.int c tk, x] }).objs.size = h1.objs.size + 1 := by rw [Heap.size_push, sz]
  have k4 : ∀ b o, b ≠ e → h1.get? b = some o → (h3.push { cls := .type "tuple", data := .seq #[.int c tk, x] }).get? b = some o := fun b o n y => Heap.get?_push_of_some _ ((s3.2 b n).trans ((s2.2 b n).trans y))
  show wpAny _ _ (Builtin.SmallTypes.ownedTupleIsFree (.ref e) >>= _) _ _ (Shared.mk (h3.push { cls := .type "tuple", data := .seq #[.int c tk, x] }) gs dr (tk + 1) os)
  rw [sz]
  generalize h3.push { cls := .type "tuple", data := .seq #[.int c tk, x] } = h4 at u4 t4 z4 k4
  refine wpAny_bind ?_
  unfold Builtin.SmallTypes.ownedTupleIsFree
  refine wpAny_bind (wpAny_field u4 rfl (x := .none) rfl (wpAny_pure ?_))
  rw [if_pos rfl]
  refine wpAny_bind (wpAny_rule (wpAny_bind (wpAny_field u4 rfl (x := old) rfl ?_)))
  refine wpAny_bind (wpAny_setField_rec u4 (by simp) fun h5 u5 s5 => ?_)
  replace s5 : Heap.SameBut e h4 h5 := s5
  replace u5 : IsEnum h5 e q (c + 1) x := u5
  show wpAny _ _ (Builtin.SmallTypes.ownedTupleHandOut (.ref e) (.ref h1.objs.size) >>= _) _ _ (Shared.mk h5 gs dr (tk + 1) os)
  refine wpAny_bind ?_
  unfold Builtin.SmallTypes.ownedTupleHandOut
  refine wpAny_bind (wpAny_setField_rec u5 (by simp) fun h6 u6 s6 => ?_)
  replace s6 : Heap.SameBut e h5 h6 := s6
  replace u6 : IsEnumOut h6 e q (c + 1) x h1.objs.size := u6
  refine wpAny_setField_rec u6 (by simp) fun h7 u7 s7 => ?_
  replace s7 : Heap.SameBut e h6 h7 := s7
  replace u7 : IsEnumOut h7 e q (c + 1) x h1.objs.size := u7
  have up : ∀ b, b ≠ e → h7.get? b = h4.get? b := fun b n => (s7.2 b n).trans ((s6.2 b n).trans (s5.2 b n))
  exact wpAny_bind (wpAny_letGo (wpAny_pure ⟨_, rfl, hQ h1 h7 n1 u7 ((up _ (Nat.ne_of_gt el)).trans t4) (by rw [s7.1, s6.1, s5.1, z4]) fun b o n y => (up b n).trans (k4 b o n y)⟩))
theorem pyNext_enum_over {e q : Addr} {c : Int} {old x : Value} {NX : Heap → Prop} {Q : Option Value → Shared → Prop} (he : IsEnum s.heap e q c old)
    (hn : ∀ (E' : Value → Shared → Prop) (Q' : Value → Shared → Prop), (∀ h, NX h → Q' x { s with heap := h }) → wpAny (model prog w) A.in1 (Builtin.SmallTypes.nextOf (.ref q)) Q' E' s) (hk : ∀ h, NX h → IsEnum h e q c old)
    (hQ : ∀ h1 h2, NX h1 → IsEnumOut h2 e q (c + 1) x h1.objs.size → h2.get? h1.objs.size = some { cls := .type "tuple", data := .seq #[.int c s.toks, x] } → h2.objs.size = h1.objs.size + 1 →
      (∀ b o, b ≠ e → h1.get? b = some o → h2.get? b = some o) → Q (some (.ref h1.objs.size)) { s with heap := h2, toks := s.toks + 1 }) :
    wpAny (model prog w) A (pyNext (.ref e)) Q E s := by
  have ty : s.TypeIs (.ref e) "enumerate" := ⟨_, he, rfl⟩
  unfold pyNext
  exact wpAny_bind (wpAny_attempt (wpAny_callSpecial?_slot (name := Str.ofString "__next__") ty F.slot_enumerate_next (wpAny_call_entry F.slot_enumerate_next ty F.entry_enumerate_next
    (enum_over he (hn _) hk fun h1 h2 n1 a b c d => wpAny_pure (hQ h1 h2 n1 a b c d)) (F.args_enumerate_next_1 _))))
theorem pyNext_enum_stop {e q : Addr} {c : Int} {old : Value} {Q : Option Value → Shared → Prop} {ST : Heap → Prop} (he : IsEnum s.heap e q c old)
    (hn : ∀ (E' : Value → Shared → Prop) (Q' : Value → Shared → Prop), (∀ h x, ST h → (∃ o, h.get? x = some o ∧ o.cls = .type "StopIteration") → E' (.ref x) { s with heap := h }) → wpAny (model prog w) A.in1 (Builtin.SmallTypes.nextOf (.ref q)) Q' E' s)
    (hQ : ∀ h, ST h → Q none { s with heap := h }) : wpAny (model prog w) A (pyNext (.ref e)) Q E s := by
  have ty : s.TypeIs (.ref e) "enumerate" := ⟨_, he, rfl⟩
  unfold pyNext
  refine wpAny_bind (wpAny_attempt (wpAny_callSpecial?_slot (name := Str.ofString "__next__") ty F.slot_enumerate_next (wpAny_call_entry F.slot_enumerate_next ty F.entry_enumerate_next ?_ (F.args_enumerate_next_1 _))))
  show wpAny _ _ (field (.ref e) 2 >>= _) _ _ _
  refine wpAny_bind (wpAny_field he rfl (x := .ref q) rfl (wpAny_bind (hn _ _ fun h x st y => ?_)))
  obtain ⟨o, ho, hc⟩ := y
  exact wpAny_bind (wpAny_isInstance (T := "StopIteration") (b := true) ⟨o, ho, hc⟩ isSubtype_stop (wpAny_pure (hQ h st)))
end
end XV
set_option Elab.async false
set_option linter.all false
set_option maxRecDepth 100000
set_option maxHeartbeats 800000
/-! for i, p in enumerate(zip(a, b)), a and b lists. -/
namespace XV
open PySem
open PySem.Sem (wp)
open AutoSeq1 (wpAny_loadPart')
theorem meets_enum_zip (q a b : Addr) : Meets (Builtin.«enumerate.__new__» ⟨[.type "enumerate", .ref q], []⟩) (fun _ R s => IsZip s.heap q a b .none ∧ R (.ok (.ret (.ref s.heap.objs.size)))
    { s with heap := s.heap.push { cls := .type "enumerate", data := .fields #[.none, .bool false, .ref q, rawInt 0, .none, .none] } }) :=
  .of_wp fun prog w A R s y => by
    obtain ⟨hp, gs, dr, tk, os⟩ := s
    obtain ⟨hl, y⟩ := y
    have hsub := sub_enumerate
    wp_walk using wpAny_loadPart' hl
    refine wpAny_stack_any fun sk => wpAny_pure ?_
    split
    · rename_i k _ _ _ _ _
      cases (k == Value.type "enumerate")
      · wp_walk using wpAny_loadPart' hl, wpAny_pyIter_zip hl
        exact ⟨_, rfl, y⟩
      · wp_walk using wpAny_loadPart' hl, wpAny_pyIter_zip hl
        exact ⟨_, rfl, y⟩
    · wp_walk using wpAny_loadPart' hl, wpAny_pyIter_zip hl
      exact ⟨_, rfl, y⟩
section
variable {prog : Program} {w : World} {A : Around} {E : Value → Shared → Prop} {s : Shared}
theorem call_enum_zip {q a b : Addr} {Q : Value → Shared → Prop} (hz : IsZip s.heap q a b .none) (k : ∀ h, IsEnum h s.heap.objs.size q 0 .none → (∀ c o, s.heap.get? c = some o → h.get? c = some o) → Q (.ref s.heap.objs.size) { s with heap := h }) :
    wpAny (model prog w) A (call (.type "enumerate") [.ref q]) Q E s := by
  refine callType_new F.called_enumerate (by decide) (F.typeCall_enumerate_1 _) (F.newCall_enumerate_1 _) (fun obj => F.args_object_init_2 obj _) F.entry_enumerate_new (meets_enum_zip q a b) ⟨hz, ?_⟩
  have he : IsEnum (s.heap.push { cls := .type "enumerate", data := .fields #[.none, .bool false, .ref q, rawInt 0, .none, .none] }) s.heap.objs.size q 0 .none := Heap.get?_push_size _ rfl
  exact ⟨⟨_, he, rfl⟩, k _ he fun c o e => Heap.get?_push_of_some _ e⟩
end
end XV
set_option Elab.async false
set_option linter.all false
set_option maxRecDepth 100000
set_option maxHeartbeats 800000
namespace XV
open PySem PySem.Spec PyProof.Rows L2
section
variable {prog : Program} {w : World} {A : Around} {E : Value → Shared → Prop} {s : Shared}
theorem nextOf_zip2 {N l1 l2 i : Nat} {f0 : Value} {f1 : Bool} {q1 q2 x1 x2 : Value} {us1 us2 : Array Value} {Q : Value → Shared → Prop} (b1 : l1 < N) (b2 : l2 < N)
    (hz : ZS s.heap (N + 4) (N + 2) (N + 3) f0 f1) (hf : OwnV f0) (hI : s.heap.get? (N + 2) = some { cls := .type "tuple", data := .seq #[.ref (N + 0), .ref (N + 1)] }) (hO : s.heap.get? (N + 3) = some { cls := .type "tuple", data := .seq #[q1, q2] })
    (t1 : s.heap.IsListIter (N + 0) l1 i) (L1 : s.heap.IsList l1 us1) (t2 : s.heap.IsListIter (N + 1) l2 i) (L2 : s.heap.IsList l2 us2) (e1 : us1[i]? = some x1) (e2 : us2[i]? = some x2)
    (hQ : ∀ h, (∃ g0 g1, OwnV g0 ∧ ZS h (N + 4) (N + 2) (N + 3) g0 g1) → (∃ q1 q2, h.get? (N + 3) = some { cls := .type "tuple", data := .seq #[q1, q2] }) → h.IsListIter (N + 0) l1 (i + 1) → h.IsListIter (N + 1) l2 (i + 1) →
      h.get? s.heap.objs.size = some { cls := .type "tuple", data := .seq #[x1, x2] } → h.objs.size = s.heap.objs.size + 1 →
      (∀ c o, c ≠ (N + 4) → c ≠ (N + 3) → c ≠ (N + 0) → c ≠ (N + 1) → s.heap.get? c = some o → h.get? c = some o) → Q (.ref s.heap.objs.size) { s with heap := h }) :
    wpAny (model prog w) A (Builtin.SmallTypes.nextOf (.ref (N + 4))) Q E s := by
  have ty : s.TypeIs (.ref (N + 4)) "zip" := ⟨_, hz, rfl⟩
  unfold Builtin.SmallTypes.nextOf
  exact wpAny_bind (wpAny_callSpecial?_slot (name := Str.ofString "__next__") ty F.slot_zip_next (wpAny_call_entry F.slot_zip_next ty F.entry_zip_next
    (zip2_item b1 b2 hz hf hI hO t1 L1 t2 L2 e1 e2 fun h a b c d e f k => wpAny_pure (hQ h a b c d e f k)) (F.args_zip_next_1 _)))
theorem nextOf_zip2_end {N l1 l2 i : Nat} {f0 : Value} {f1 : Bool} {us1 : Array Value} {Q : Value → Shared → Prop} (b1 : l1 < N) (hh : A.handled = none)
    (hz : ZS s.heap (N + 4) (N + 2) (N + 3) f0 f1) (hf : OwnV f0) (hI : s.heap.get? (N + 2) = some { cls := .type "tuple", data := .seq #[.ref (N + 0), .ref (N + 1)] }) (t1 : s.heap.IsListIter (N + 0) l1 i) (L1 : s.heap.IsList l1 us1) (e1 : us1[i]? = none)
    (hE : ∀ h x, (∀ c o, c ≠ (N + 4) → c ≠ (N + 3) → c ≠ (N + 0) → c ≠ (N + 1) → s.heap.get? c = some o → h.get? c = some o) → (∃ o, h.get? x = some o ∧ o.cls = .type "StopIteration") → E (.ref x) { s with heap := h }) :
    wpAny (model prog w) A (Builtin.SmallTypes.nextOf (.ref (N + 4))) Q E s := by
  have ty : s.TypeIs (.ref (N + 4)) "zip" := ⟨_, hz, rfl⟩
  unfold Builtin.SmallTypes.nextOf
  exact wpAny_bind (wpAny_callSpecial?_slot (name := Str.ofString "__next__") ty F.slot_zip_next (wpAny_call_entry F.slot_zip_next ty F.entry_zip_next
    (zip2_end (l1 := l1) (l2 := l2) b1 hh hz hf hI t1 L1 e1 hE) (F.args_zip_next_1 _)))
end
/-- the lists at a and b: each turn tells the index and a pair of its own -/
def Itez (K : PySem.W.Frag) (a b : Addr) : It where
  go := fun i H => ∃ (xs ys : List V) (x y : V), SqL K H a xs ∧ SqL K H b ys ∧ xs[i]? = some x ∧ ys[i]? = some y
  yld := fun i H v H' => ∃ T U x y, v = .ref U ∧ H T = none ∧ H U = none ∧ U ≠ T ∧ H' = upd (upd H T (.tup [x, y])) U (.tup [.int (i : Nat), .ref T]) ∧ (∀ xs, SqL K H a xs → xs[i]? = some x) ∧ ∀ ys, SqL K H b ys → ys[i]? = some y
  stop := fun i H => ∃ xs : List V, SqL K H a xs ∧ xs.length ≤ i
def AtE (a b N i : Nat) (h : Heap) : Prop :=
  (∃ old, IsEnum h (N + 5) (N + 4) ((i : Nat) : Int) old) ∧ (∃ f0 f1, OwnV f0 ∧ ZS h (N + 4) (N + 2) (N + 3) f0 f1) ∧ h.get? (N + 2) = some { cls := .type "tuple", data := .seq #[.ref (N + 0), .ref (N + 1)] } ∧
  (∃ p q, h.get? (N + 3) = some { cls := .type "tuple", data := .seq #[p, q] }) ∧ h.IsListIter (N + 0) a i ∧ h.IsListIter (N + 1) b i
abbrev fpE (N : Nat) : List Addr := [N + 5, N + 4, N + 2, N + 3, N + 0, N + 1]
theorem fpE_mem {N : Nat} {c : Addr} (h : c ∈ fpE N) : c = N + 5 ∨ c = N + 4 ∨ c = N + 2 ∨ c = N + 3 ∨ c = N + 0 ∨ c = N + 1 := by simpa using h
theorem turnE {P : Program} {w : World} {K : PySem.W.Frag} {es : List Expr} {kk : Nat} {tp : Pos} {a b N : Nat} (la : a < N) (lb : b < N) :
    Turn P w K (.Tuple es kk tp) (Itez K a b) (fpE N) (N + 5) (AtE a b N) where
  mem := List.mem_cons_self
  obj := fun i h ⟨⟨_, s1⟩, ⟨_, _, _, s2⟩, s3, ⟨_, _, s4⟩, ⟨o1, e1, _, d1⟩, ⟨o2, e2, _, d2⟩⟩ c hc => by
    rcases fpE_mem hc with rfl | rfl | rfl | rfl | rfl | rfl
    · exact ⟨_, s1, fun _ x => nomatch x⟩
    · exact ⟨_, s2, fun _ x => nomatch x⟩
    · exact ⟨_, s3, fun _ x => nomatch x⟩
    · exact ⟨_, s4, fun _ x => nomatch x⟩
    · exact ⟨o1, e1, fun _ x => by rw [d1] at x; cases x⟩
    · exact ⟨o2, e2, fun _ x => by rw [d2] at x; cases x⟩
  keep := fun i h h' ⟨⟨o, s1⟩, ⟨f0, f1, ow, s2⟩, s3, ⟨p, q, s4⟩, s5, s6⟩ kp =>
    ⟨⟨o, kp _ (by simp) _ s1⟩, ⟨f0, f1, ow, kp _ (by simp) _ s2⟩, kp _ (by simp) _ s3, ⟨p, q, kp _ (by simp) _ s4⟩, s5.at (fun o e => kp _ (by simp) o e), s6.at (fun o e => kp _ (by simp) o e)⟩
  item := by
    intro X eP ew eK calm i pins s σ H E I fp st gg
    subst eP ew eK
    obtain ⟨⟨old, s1⟩, ⟨f0, f1, ow, s2⟩, s3, ⟨p0, q0, s4⟩, s5, s6⟩ := st
    obtain ⟨xs, ys, x, y, tx, ly, ex, ey⟩ := gg
    obtain ⟨us, ru, pu, _⟩ := I.list tx
    obtain ⟨vs, rv, pw, _⟩ := I.list ly
    obtain ⟨u, eu, rux⟩ := ru.get ex
    obtain ⟨v, ev, rvy⟩ := rv.get ey
    have lt : ∀ c ∈ fpE N, c < s.heap.objs.size := fun c hc => by
      rcases fpE_mem hc with rfl | rfl | rfl | rfl | rfl | rfl
      · exact Heap.lt_size s1
      · exact Heap.lt_size s2
      · exact Heap.lt_size s3
      · exact Heap.lt_size s4
      · obtain ⟨_, q, _⟩ := s5
        exact Heap.lt_size q
      · obtain ⟨_, q, _⟩ := s6
        exact Heap.lt_size q
    refine pyNext_enum_over (c := (i : Int)) (x := .ref s.heap.objs.size) (NX := fun h => (∃ g0 g1, OwnV g0 ∧ ZS h (N + 4) (N + 2) (N + 3) g0 g1) ∧ (∃ q1 q2, h.get? (N + 3) = some { cls := .type "tuple", data := .seq #[q1, q2] }) ∧
      h.IsListIter (N + 0) a (i + 1) ∧ h.IsListIter (N + 1) b (i + 1) ∧ h.get? s.heap.objs.size = some { cls := .type "tuple", data := .seq #[u, v] } ∧ h.objs.size = s.heap.objs.size + 1 ∧
      (∀ c o, c ≠ (N + 4) → c ≠ (N + 3) → c ≠ (N + 0) → c ≠ (N + 1) → s.heap.get? c = some o → h.get? c = some o)) s1
      (fun E' Q' k => nextOf_zip2 la lb s2 ow s3 s4 s5 pu.isList s6 pw.isList (by simpa using eu) (by simpa using ev) fun h a b c d e f kp => k h ⟨a, b, c, d, e, f, kp⟩)
      (fun h n => n.2.2.2.2.2.2 _ _ (ad (by omega)) (ad (by omega)) (ad (by omega)) (ad (by omega)) s1) fun h1 h2 n1 o2 t2 z2 k2 => ?_
    obtain ⟨n1, n2, n3, n4, n5, n6, n7⟩ := n1
    refine ⟨_, rfl, wpAny_letOwnedTupleGo_enum (s := { s with heap := h2, toks := s.toks + 1 }) o2 fun g he sb => ?_⟩
    have el : (N + 5 : Nat) < h1.objs.size := by
      have z : (N + 5 : Nat) < s.heap.objs.size := lt (N + 5) (by simp)
      omega
    have new1 : ObjOk X.prog X.w (upd H s.heap.objs.size (.tup [x, y])) h1 s.heap.objs.size (.tup [x, y]) := ⟨(by show 2 ≤ sizeLine; decide), [u, v], .cons rux (.cons rvy .nil), ⟨_, n5, rfl, _, rfl⟩⟩
    have J1 := I.turnedNew (t' := s.toks) (h' := h1) (ch := [N + 4, N + 3, N + 0, N + 1]) (fun c o out q => n7 c o (fun e => out (by simp [e])) (fun e => out (by simp [e])) (fun e => out (by simp [e])) (fun e => out (by simp [e])) q) (fun c hc => fp c (by
      simp only [List.mem_cons, List.not_mem_nil, or_false] at hc
      rcases hc with rfl | rfl | rfl | rfl <;> simp)) (Nat.le_refl _) new1
    have fT : (N + 5 : Nat) ≠ s.heap.objs.size := Nat.ne_of_lt (lt (N + 5) (by simp))
    have fE : FpOk X pins (upd H s.heap.objs.size (.tup [x, y])) (N + 5) := ⟨by rw [upd_ne fT]; exact (fp _ (by simp)).1, (fp _ (by simp)).2⟩
    have t3 : g.get? h1.objs.size = some { cls := .type "tuple", data := .seq #[.int (i : Int) s.toks, .ref s.heap.objs.size] } := (sb.2 _ (Nat.ne_of_gt el)).trans t2
    have new2 : ObjOk X.prog X.w (upd (upd H s.heap.objs.size (.tup [x, y])) h1.objs.size (.tup [.int (i : Nat), .ref s.heap.objs.size])) g h1.objs.size (.tup [.int (i : Nat), .ref s.heap.objs.size]) :=
      ⟨(by show 2 ≤ sizeLine; decide), [.int (i : Int) s.toks, .ref s.heap.objs.size], .cons ⟨_, rfl⟩ (.cons rfl .nil), ⟨_, t3, rfl, _, rfl⟩⟩
    have J2 := J1.turnedNew (t' := s.toks + 1) (h' := g) (ch := [N + 5]) (fun c o out q => (sb.2 c (fun e => out (by simp [e]))).trans (k2 c o (fun e => out (by simp [e])) q)) (fun c hc => by
      rcases List.mem_singleton.mp hc with rfl
      exact fE) (Nat.le_refl _) new2
    have up : ∀ c o, c ≠ (N + 5 : Nat) → h1.get? c = some o → g.get? c = some o := fun c o n q => (sb.2 c n).trans (k2 c o n q)
    refine ⟨.ref h1.objs.size, _, J2, rfl, ⟨s.heap.objs.size, h1.objs.size, x, y, rfl, I.hok.fresh (Nat.le_refl _), I.hok.fresh (by omega), (by rw [n6]; exact Nat.succ_ne_self _), rfl, fun l hl => (I.list_inj hl tx) ▸ ex, fun l hl => (I.list_inj hl ly) ▸ ey⟩, ⟨⟨.ref s.heap.objs.size, ?_⟩, ?_, ?_, ?_, ?_, ?_⟩, fun c hc => ?_⟩
    · rw [show ((i + 1 : Nat) : Int) = (i : Int) + 1 by omega]
      exact he
    · obtain ⟨g0, g1, og, zg⟩ := n1
      exact ⟨g0, g1, og, up _ _ (ad (by omega)) zg⟩
    · exact up _ _ (ad (by omega)) (n7 _ _ (ad (by omega)) (ad (by omega)) (ad (by omega)) (ad (by omega)) s3)
    · obtain ⟨q1, q2, e⟩ := n2
      exact ⟨q1, q2, up _ _ (ad (by omega)) e⟩
    · exact n3.at fun o e => up _ _ (ad (by omega)) e
    · exact n4.at fun o e => up _ _ (ad (by omega)) e
    · have l := lt c hc
      rw [upd_ne (Nat.ne_of_lt (show c < h1.objs.size by rw [n6]; exact Nat.lt_succ_of_lt l)), upd_ne (Nat.ne_of_lt l)]
      exact (fp c hc).1
  done := by
    intro X eP ew eK calm i pins s σ H E I fp st gg
    subst eP ew eK
    obtain ⟨⟨old, s1⟩, ⟨f0, f1, ow, s2⟩, s3, ⟨p0, q0, s4⟩, s5, s6⟩ := st
    obtain ⟨xs, tx, stop⟩ := gg
    obtain ⟨us, ru, pu, _⟩ := I.list tx
    have n1 := ru.length
    have hh : X.A.in1.handled = none := I.ok.hd calm
    refine pyNext_enum_stop (ST := fun h => ∀ c o, c ≠ (N + 4) → c ≠ (N + 3) → c ≠ (N + 0) → c ≠ (N + 1) → s.heap.get? c = some o → h.get? c = some o) s1
      (fun E' Q' k => nextOf_zip2_end (l2 := b) la hh s2 ow s3 s5 pu.isList (by simp; omega) fun h x kp y => k h x kp y) fun h kp => ⟨rfl, ?_⟩
    exact I.turnedL (t' := s.toks) (ch := fpE N) (fun c o out q => kp c o (fun e => out (by simp [e])) (fun e => out (by simp [e])) (fun e => out (by simp [e])) (fun e => out (by simp [e])) q) fp
  self := fun A i s Q E st q => by
    obtain ⟨⟨_, s1⟩, _⟩ := st
    exact wpAny_pyIter_enum s1 q
/-- .. in enumerate(zip(e, e2)) -/
def iEZ (K : PySem.W.Frag) (ta : TA) : TI := fun σ H R => ta σ H fun vs H1 => ∃ a b xs ys, vs = [.ref a, .ref b] ∧ (SqL K H1 a xs ∧ SqL K H1 b ys) ∧ R (Itez K a b) H1
theorem pi_enumZ {X : Cx} {e e2 : Expr} {ta : TA} {p pz pos pos2 tp : Pos} {es : List Expr} {kk : Nat} (gE : Gl X "enumerate") (z_enum : X.mg "enumerate" = none) (gZ : Gl X "zip") (z_zip : X.mg "zip" = none) (ha : PA X [e, e2] ta)
    (hs : starEach [e, e2] X.env = (false, eval e X.env) :: starEach [e2] X.env := by rfl) (np : (backTo pos2 (starEach [e2] X.env)).any (·.1) = false := by rfl)
    (hs2 : starEach [.Call (.Name "zip" pz) [e, e2] [] pos2] X.env = (false, eval (.Call (.Name "zip" pz) [e, e2] [] pos2) X.env) :: starEach [] X.env := by rfl) :
    PI X (.Tuple es kk tp) (.Call (.Name "enumerate" p) [.Call (.Name "zip" pz) [e, e2] [] pos2] [] pos) (iEZ X.K ta) := by
  refine ⟨fun pins s σ H R I h => Call_ (ld_blt I gE z_enum PyProof.Rows.boot_enumerate (PyProof.Rows.callWith_type1 ?_ hs2 rfl))⟩
  rw [hs2]
  show wpAny _ _ (spliced ((false, eval (.Call (.Name "zip" pz) [e, e2] [] pos2) X.env) :: backTo pos (starEach [] X.env))) _ _ s
  refine Calls.spliced_cons (Call_ (ld_blt I gZ z_zip PyProof.Rows.boot_zip (PyProof.Rows.callWith_type1 (thn (ha.run pos2 pins s σ H _ I h) fun us s1 ⟨vs, H1, J, rv, q⟩ => ?_) hs np)))
  obtain ⟨a, b, xs, ys, rfl, ⟨tx, ly⟩, q⟩ := q
  obtain ⟨u1, u2, rfl, r1, r2⟩ := vals2 rv
  cases r1
  cases r2
  obtain ⟨ps, _, pu, _⟩ := J.list tx
  obtain ⟨qs, _, pw, _⟩ := J.list ly
  refine zip_begins2 (begins_list a ps.toArray) (begins_list b qs.toArray) pu.isList pw.isList fun h' z1 t1 t2 g1 g2 sz kp => Calls.spliced_nil (call_enum_zip z1 fun h2 he kp2 => wpAny_pyIter_enum he ?_)
  have J2 : Inv X pins σ H1 { s1 with heap := h2 } := J.kept (t' := s1.toks) fun c o e => kp2 c o (kp c o e)
  have eE : h'.objs.size = s1.heap.objs.size + 5 := sz
  refine ⟨h'.objs.size, fpE s1.heap.objs.size, AtE a b s1.heap.objs.size, Itez X.K a b, H1, rfl, J2, ?_, ⟨⟨.none, ?_⟩, ⟨.none, false, .inl rfl, kp2 _ _ z1⟩, kp2 _ _ t1, ⟨_, _, kp2 _ _ t2⟩, ⟨_, kp2 _ _ g1, rfl, rfl⟩, ⟨_, kp2 _ _ g2, rfl, rfl⟩⟩, fun c hc => ?_, q⟩
  · rw [eE]
    exact turnE pu.lt pw.lt
  · rw [← eE]
    exact he
  · have le : s1.heap.objs.size ≤ c := by
      rcases fpE_mem hc with rfl | rfl | rfl | rfl | rfl | rfl
      · exact Nat.le_add_right _ 5
      · exact Nat.le_add_right _ 4
      · exact Nat.le_add_right _ 2
      · exact Nat.le_add_right _ 3
      · exact Nat.le_refl _
      · exact Nat.le_add_right _ 1
    exact J.fpOk le (J.hok.fresh le)
end XV
set_option Elab.async false
set_option linter.all false
set_option maxRecDepth 100000
set_option maxHeartbeats 800000
/-! list(zip(a, b, c)) of three lists. -/
namespace XV
open PySem PySem.Spec PyProof.Rows L2
section
variable {prog : Program} {w : World} {A : Around} {E : Value → Shared → Prop} {s : Shared}
theorem pyNext_zip3 {N l1 l2 l3 i : Nat} {f0 : Value} {f1 : Bool} {q1 q2 q3 x1 x2 x3 : Value} {us1 us2 us3 : Array Value} {Q : Option Value → Shared → Prop} (b1 : l1 < N) (b2 : l2 < N) (b3 : l3 < N)
    (hz : ZS s.heap (N + 5) (N + 3) (N + 4) f0 f1) (hf : OwnV f0) (hI : s.heap.get? (N + 3) = some { cls := .type "tuple", data := .seq #[.ref (N + 0), .ref (N + 1), .ref (N + 2)] }) (hO : s.heap.get? (N + 4) = some { cls := .type "tuple", data := .seq #[q1, q2, q3] })
    (t1 : s.heap.IsListIter (N + 0) l1 i) (L1 : s.heap.IsList l1 us1) (t2 : s.heap.IsListIter (N + 1) l2 i) (L2 : s.heap.IsList l2 us2) (t3 : s.heap.IsListIter (N + 2) l3 i) (L3 : s.heap.IsList l3 us3) (e1 : us1[i]? = some x1) (e2 : us2[i]? = some x2) (e3 : us3[i]? = some x3)
    (hQ : ∀ h, (∃ g0 g1, OwnV g0 ∧ ZS h (N + 5) (N + 3) (N + 4) g0 g1) → (∃ q1 q2 q3, h.get? (N + 4) = some { cls := .type "tuple", data := .seq #[q1, q2, q3] }) → h.IsListIter (N + 0) l1 (i + 1) → h.IsListIter (N + 1) l2 (i + 1) → h.IsListIter (N + 2) l3 (i + 1) →
      h.get? s.heap.objs.size = some { cls := .type "tuple", data := .seq #[x1, x2, x3] } → h.objs.size = s.heap.objs.size + 1 →
      (∀ c o, c ≠ (N + 5) → c ≠ (N + 4) → c ≠ (N + 0) → c ≠ (N + 1) → c ≠ (N + 2) → s.heap.get? c = some o → h.get? c = some o) → Q (some (.ref s.heap.objs.size)) { s with heap := h }) :
    wpAny (model prog w) A (pyNext (.ref (N + 5))) Q E s := by
  have ty : s.TypeIs (.ref (N + 5)) "zip" := ⟨_, hz, rfl⟩
  unfold pyNext
  exact wpAny_bind (wpAny_attempt (wpAny_callSpecial?_slot (name := Str.ofString "__next__") ty F.slot_zip_next (wpAny_call_entry F.slot_zip_next ty F.entry_zip_next
    (zip3_item b1 b2 b3 hz hf hI hO t1 L1 t2 L2 t3 L3 e1 e2 e3 fun h a b c d e f g k => wpAny_pure (hQ h a b c d e f g k)) (F.args_zip_next_1 _))))
theorem pyNext_zip3_end {N l1 l2 l3 i : Nat} {f0 : Value} {f1 : Bool} {us1 : Array Value} {Q : Option Value → Shared → Prop} (b1 : l1 < N) (hh : A.handled = none)
    (hz : ZS s.heap (N + 5) (N + 3) (N + 4) f0 f1) (hf : OwnV f0) (hI : s.heap.get? (N + 3) = some { cls := .type "tuple", data := .seq #[.ref (N + 0), .ref (N + 1), .ref (N + 2)] }) (t1 : s.heap.IsListIter (N + 0) l1 i) (L1 : s.heap.IsList l1 us1) (e1 : us1[i]? = none)
    (hQ : ∀ h, (∀ c o, c ≠ (N + 5) → c ≠ (N + 4) → c ≠ (N + 0) → c ≠ (N + 1) → c ≠ (N + 2) → s.heap.get? c = some o → h.get? c = some o) → Q none { s with heap := h }) :
    wpAny (model prog w) A (pyNext (.ref (N + 5))) Q E s := by
  have ty : s.TypeIs (.ref (N + 5)) "zip" := ⟨_, hz, rfl⟩
  unfold pyNext
  refine wpAny_bind (wpAny_attempt (wpAny_callSpecial?_slot (name := Str.ofString "__next__") ty F.slot_zip_next (wpAny_call_entry F.slot_zip_next ty F.entry_zip_next
    (zip3_end (l1 := l1) (l2 := l2) (l3 := l3) b1 hh hz hf hI t1 L1 e1 fun h x kp y => ?_) (F.args_zip_next_1 _))))
  obtain ⟨o, ho, hc⟩ := y
  exact wpAny_bind (wpAny_isInstance (T := "StopIteration") (b := true) ⟨o, ho, hc⟩ isSubtype_stop (wpAny_pure (hQ h kp)))
end
def AtZ (a b c N i : Nat) (h : Heap) : Prop :=
  (∃ f0 f1, OwnV f0 ∧ ZS h (N + 5) (N + 3) (N + 4) f0 f1) ∧ h.get? (N + 3) = some { cls := .type "tuple", data := .seq #[.ref (N + 0), .ref (N + 1), .ref (N + 2)] } ∧
  (∃ p q r, h.get? (N + 4) = some { cls := .type "tuple", data := .seq #[p, q, r] }) ∧ h.IsListIter (N + 0) a i ∧ h.IsListIter (N + 1) b i ∧ h.IsListIter (N + 2) c i
abbrev fpZ (N : Nat) : List Addr := [N + 5, N + 3, N + 4, N + 0, N + 1, N + 2]
theorem fpZ_mem {N : Nat} {c : Addr} (h : c ∈ fpZ N) : c = N + 5 ∨ c = N + 3 ∨ c = N + 4 ∨ c = N + 0 ∨ c = N + 1 ∨ c = N + 2 := by simpa using h
theorem AtZ.keep {a b c N i : Nat} {h h' : Heap} (st : AtZ a b c N i h) (kp : ∀ c ∈ fpZ N, ∀ o, h.get? c = some o → h'.get? c = some o) : AtZ a b c N i h' := by
  obtain ⟨⟨f0, f1, ow, s2⟩, s3, ⟨p, q, r, s4⟩, s5, s6, s7⟩ := st
  exact ⟨⟨f0, f1, ow, kp _ (by simp) _ s2⟩, kp _ (by simp) _ s3, ⟨p, q, r, kp _ (by simp) _ s4⟩, s5.at (fun o e => kp _ (by simp) o e), s6.at (fun o e => kp _ (by simp) o e), s7.at (fun o e => kp _ (by simp) o e)⟩
theorem AtZ.lt {a b c N i : Nat} {h : Heap} (st : AtZ a b c N i h) : ∀ d ∈ fpZ N, d < h.objs.size := fun d hd => by
  obtain ⟨⟨f0, f1, ow, s2⟩, s3, ⟨p, q, r, s4⟩, ⟨_, s5, _⟩, ⟨_, s6, _⟩, ⟨_, s7, _⟩⟩ := st
  rcases fpZ_mem hd with rfl | rfl | rfl | rfl | rfl | rfl
  · exact Heap.lt_size s2
  · exact Heap.lt_size s3
  · exact Heap.lt_size s4
  · exact Heap.lt_size s5
  · exact Heap.lt_size s6
  · exact Heap.lt_size s7
/-- the triples made so far -/
def Trp (H : Hp) (Ts : List Addr) (xs ys us : List V) : Prop := ∀ (j : Nat) (T : Addr) (x y u : V), Ts[j]? = some T → xs[j]? = some x → ys[j]? = some y → us[j]? = some u → H T = some (.tup [x, y, u])
theorem drainZ {X : Cx} {pins : List (Addr × Obj)} {σ : L2.St} {H0 : Hp} {a b c N S : Nat} {xs ys us : List V} {B : Around} {R : Result → Shared → Prop} (la : a < N) (lb : b < N) (lc : c < N) (hh : B.handled = none) (n1 : xs.length = ys.length) (n2 : xs.length = us.length) (nz : xs.length < sizeLine)
    (ha : H0 a = some (.lst xs)) (hb : H0 b = some (.lst ys)) (hc : H0 c = some (.lst us)) (h0 : H0 S = none)
    (hend : ∀ (s : Shared) (H : Hp) (Ts : List Addr), Inv X pins σ H s → Same H0 H → Ts.length = xs.length → H S = some (.lst (Ts.map V.ref)) → Trp H Ts xs ys us → R (.ok (.ret .none)) s) :
    ∀ (m i : Nat) (s : Shared) (H : Hp) (Ts : List Addr), i + m = xs.length → Inv X pins σ H s → (∀ d ∈ fpZ N, FpOk X pins H d) → AtZ a b c N i s.heap → Same H0 H → Ts.length = i → H S = some (.lst (Ts.map V.ref)) → Trp H Ts xs ys us →
      codeAny (model X.prog X.w) B (.builtin "list.extend.loop" ⟨[.ref S, .ref (N + 5), .none], []⟩) R s := by
  intro m
  induction m with
  | zero =>
    intro i s H Ts hi I fp st sm lT hS tr
    refine codeAny_builtin F.entry_extend_loop ?_
    rw [Around.under_plainId F.plain_extend_loop]
    show wpAny _ B.in1 (pyNext (.ref (N + 5)) >>= _) _ _ s
    obtain ⟨⟨f0, f1, ow, s2⟩, s3, ⟨p, q, r, s4⟩, s5, s6, s7⟩ := st
    obtain ⟨ps, ru, pu, _⟩ := I.list (SqL.of (sm _ _ ha))
    have e := ru.length
    refine wpAny_bind (pyNext_zip3_end (l2 := b) (l3 := c) la hh s2 ow s3 s5 pu.isList (by simp; omega) fun h kp => wpAny_pure ?_)
    refine hend _ H Ts (I.turnedL (t' := s.toks) (ch := fpZ N) (fun d o out q => kp d o (fun e => out (by simp [e])) (fun e => out (by simp [e])) (fun e => out (by simp [e])) (fun e => out (by simp [e])) (fun e => out (by simp [e])) q) fp) sm (by omega) hS tr
  | succ m ih =>
    intro i s H Ts hi I fp st sm lT hS tr
    have lt := st.lt
    refine codeAny_builtin F.entry_extend_loop ?_
    rw [Around.under_plainId F.plain_extend_loop]
    show wpAny _ B.in1 (pyNext (.ref (N + 5)) >>= _) _ _ s
    obtain ⟨⟨f0, f1, ow, s2⟩, s3, ⟨p, q, r, s4⟩, s5, s6, s7⟩ := st
    obtain ⟨ps, ru, pu, _⟩ := I.list (SqL.of (sm _ _ ha))
    obtain ⟨qs, rv, pv, _⟩ := I.list (SqL.of (sm _ _ hb))
    obtain ⟨rs, rw_, pw, _⟩ := I.list (SqL.of (sm _ _ hc))
    have ex : xs[i]? = some xs[i] := List.getElem?_eq_getElem (by omega)
    have ey : ys[i]? = some ys[i] := List.getElem?_eq_getElem (by omega)
    have ez : us[i]? = some us[i] := List.getElem?_eq_getElem (by omega)
    generalize xs[i] = x at ex
    generalize ys[i] = y at ey
    generalize us[i] = z at ez
    obtain ⟨u1, eu, r1⟩ := ru.get ex
    obtain ⟨u2, ev, r2⟩ := rv.get ey
    obtain ⟨u3, ew, r3⟩ := rw_.get ez
    refine wpAny_bind (pyNext_zip3 la lb lc s2 ow s3 s4 s5 pu.isList s6 pv.isList s7 pw.isList (by simpa using eu) (by simpa using ev) (by simpa using ew) fun h k1 k2 k3 k4 k5 k6 k7 k8 => ?_)
    have new1 : ObjOk X.prog X.w (upd H s.heap.objs.size (.tup [x, y, z])) h s.heap.objs.size (.tup [x, y, z]) := ⟨(by show 3 ≤ sizeLine; decide), [u1, u2, u3], .cons r1 (.cons r2 (.cons r3 .nil)), ⟨_, k6, rfl, _, rfl⟩⟩
    have J1 := I.turnedNew (t' := s.toks) (h' := h) (ch := [N + 5, N + 4, N + 0, N + 1, N + 2]) (fun d o out q => k8 d o (fun e => out (by simp [e])) (fun e => out (by simp [e])) (fun e => out (by simp [e])) (fun e => out (by simp [e])) (fun e => out (by simp [e])) q) (fun d hd => fp d (by
      simp only [List.mem_cons, List.not_mem_nil, or_false] at hd
      rcases hd with rfl | rfl | rfl | rfl | rfl <;> simp)) (Nat.le_refl _) new1
    have nT : H s.heap.objs.size = none := I.hok.fresh (Nat.le_refl _)
    have sT := same_new (o := .tup [x, y, z]) nT
    have hS1 := sT _ _ hS
    obtain ⟨hz', its, n, ri, e⟩ := J1.hok S _ hS1
    have el := ri.length
    rw [List.length_map] at el hz'
    show wpAny _ B.in1 (updateSeq S (·.push (.ref s.heap.objs.size)) >>= _) _ _ _
    refine wpAny_bind ?_
    have e' : h.get? S = some { cls := .type "list", data := .seq its.toArray n } := e
    refine wpAny_updateSeq (s := { s with heap := h }) (f := (·.push (.ref s.heap.objs.size))) e' rfl (wpAny_pure ⟨plainId_quiet F.plain_extend_loop _, ?_⟩) (by rw [List.size_toArray]; omega) (by show (its.toArray.push _).size ≤ sizeLine + 1; rw [Array.size_push, List.size_toArray]; omega)
    have kS : ∀ d o, d ≠ S → h.get? d = some o → (h.update S (Obj.mapSeq (·.push (.ref s.heap.objs.size)))).get? d = some o := fun d o nd q => (Heap.get?_update_other _ _ (Ne.symm nd)).trans q
    have gS := Heap.get?_update_self (Obj.mapSeq (·.push (Value.ref s.heap.objs.size))) e' rfl
    have J2 : Inv X pins σ (upd (upd H s.heap.objs.size (.tup [x, y, z])) S (.lst (Ts.map V.ref ++ [.ref s.heap.objs.size]))) { s with heap := h.update S (Obj.mapSeq (·.push (.ref s.heap.objs.size))), toks := s.toks } :=
      J1.write (x := S) (e := S) (o := .lst (Ts.map V.ref ++ [.ref s.heap.objs.size])) (t' := s.toks) (by rw [hS1]; trivial) (.inl rfl) kS ⟨_, gS⟩ ⟨by rw [List.length_append, List.length_map]; show Ts.length + 1 ≤ sizeLine; omega, its ++ [.ref s.heap.objs.size], n + 1, ri.append (.cons (show RelV (V.ref s.heap.objs.size) (Value.ref s.heap.objs.size) from rfl) .nil), by rw [gS]; simp [Obj.mapSeq]⟩
    have ne : ∀ d ∈ fpZ N, d ≠ S := fun d hd => (ne_of_none hS (fp d hd).1).symm
    refine ih (i + 1) _ _ (Ts ++ [s.heap.objs.size]) (by omega) J2 (fun d hd => ?_) ?_ (fun d o q => ?_) (by rw [List.length_append, lT]; rfl) (by rw [upd_same, List.map_append]; rfl) ?_
    · refine ⟨?_, (fp d hd).2⟩
      rw [upd_ne (ne d hd), upd_ne (Nat.ne_of_lt (lt d hd))]
      exact (fp d hd).1
    · have kk : ∀ d ∈ fpZ N, ∀ o, h.get? d = some o → (h.update S (Obj.mapSeq (·.push (.ref s.heap.objs.size)))).get? d = some o := fun d hd o q => kS d o (ne d hd) q
      refine AtZ.keep ?_ kk
      exact ⟨k1, k8 _ _ (ad (by omega)) (ad (by omega)) (ad (by omega)) (ad (by omega)) (ad (by omega)) s3, k2, k3, k4, k5⟩
    · rw [upd_ne (ne_of_none q h0)]
      exact sT _ _ (sm _ _ q)
    · intro j T x' y' z' eT e1 e2 e3
      by_cases cj : j < Ts.length
      · rw [List.getElem?_append_left cj] at eT
        have g := sT _ _ (tr j T x' y' z' eT e1 e2 e3)
        have nS : T ≠ S := fun q => by
          rw [q, hS1] at g
          cases g
        rw [upd_ne nS]
        exact g
      · have lj := (List.getElem?_eq_some_iff.mp eT).1
        rw [List.length_append, List.length_singleton] at lj
        obtain rfl : j = i := by omega
        rw [List.getElem?_append_right (by omega), lT, Nat.sub_self] at eT
        cases eT
        cases ex.symm.trans e1
        cases ey.symm.trans e2
        cases ez.symm.trans e3
        rw [upd_ne (fun q => by rw [q, hS] at nT; cases nT)]
        exact upd_same
end XV
set_option Elab.async false
set_option linter.all false
set_option maxRecDepth 100000
set_option maxHeartbeats 800000
namespace XV
open PySem PySem.Spec PyProof.Rows L2
theorem zip_no_len : typeLookup (.type "zip") "__len__" = pure none := by
  rw [typeLookup_type, builtinLookup_eq_fast]
  kernel_rfl
theorem zip_no_hint : typeLookup (.type "zip") "__length_hint__" = pure none := by
  rw [typeLookup_type, builtinLookup_eq_fast]
  kernel_rfl
/-- list(zip(e, e2, e3)) -/
def tLZ (ta : TA) : TE := fun σ H Q => ta σ H fun vs H1 => ∃ a b c xs ys us, vs = [.ref a, .ref b, .ref c] ∧ H1 a = some (.lst xs) ∧ H1 b = some (.lst ys) ∧ H1 c = some (.lst us) ∧ xs.length = ys.length ∧ xs.length = us.length ∧ xs.length < 1000 ∧
  ∀ (H' : Hp) (p : Addr) (Ts : List Addr), Same H1 H' → H1 p = none → H' p = some (.lst (Ts.map V.ref)) → Ts.length = xs.length → Trp H' Ts xs ys us → Q (.ref p) H'
theorem vals3 {a b c : V} {us : List Value} (r : Vals [a, b, c] us) : ∃ u v w, us = [u, v, w] ∧ RelV a u ∧ RelV b v ∧ RelV c w := by
  cases r with
  | cons r1 r =>
    cases r with
    | cons r2 r =>
      cases r with
      | cons r3 r =>
        cases r
        exact ⟨_, _, _, rfl, r1, r2, r3⟩
theorem pe_listZ3 {X : Cx} {e e2 e3 : Expr} {ta : TA} {p pz pos pos2 : Pos} (calm : X.calm = true) (gL : Gl X "list") (z_list : X.mg "list" = none) (gZ : Gl X "zip") (z_zip : X.mg "zip" = none) (ha : PA X [e, e2, e3] ta)
    (hs : starEach [e, e2, e3] X.env = (false, eval e X.env) :: starEach [e2, e3] X.env := by rfl) (np : (backTo pos2 (starEach [e2, e3] X.env)).any (·.1) = false := by rfl)
    (hs2 : starEach [.Call (.Name "zip" pz) [e, e2, e3] [] pos2] X.env = (false, eval (.Call (.Name "zip" pz) [e, e2, e3] [] pos2) X.env) :: starEach [] X.env := by rfl) :
    PE X (.Call (.Name "list" p) [.Call (.Name "zip" pz) [e, e2, e3] [] pos2] [] pos) (tLZ ta) := by
  refine ⟨fun pins s σ H Q I h => Call_ (ld_blt I gL z_list PyProof.Rows.boot_list (PyProof.Rows.callWith_type1 ?_ hs2 rfl))⟩
  rw [hs2]
  show wpAny _ _ (spliced ((false, eval (.Call (.Name "zip" pz) [e, e2, e3] [] pos2) X.env) :: backTo pos (starEach [] X.env))) _ _ s
  refine Calls.spliced_cons (Call_ (ld_blt I gZ z_zip PyProof.Rows.boot_zip (PyProof.Rows.callWith_type1 (thn (ha.run pos2 pins s σ H _ I h) fun us s1 ⟨vs, H1, J, rv, q⟩ => ?_) hs np)))
  obtain ⟨a, b, c, xs, ys, us, rfl, hA, hB, hC, n1, n2, nz, q⟩ := q
  obtain ⟨u1, u2, u3, rfl, r1, r2, r3⟩ := vals3 rv
  cases r1
  cases r2
  cases r3
  obtain ⟨ps, _, pu, _⟩ := J.list (SqL.of (K := X.K) hA)
  obtain ⟨qs, _, pv, _⟩ := J.list (SqL.of (K := X.K) hB)
  obtain ⟨rs, _, pw, _⟩ := J.list (SqL.of (K := X.K) hC)
  refine zip_begins3 (begins_list a ps.toArray) (begins_list b qs.toArray) (begins_list c rs.toArray) pu.isList pv.isList pw.isList fun h' z1 t1 t2 g1 g2 g3 sz kp => Calls.spliced_nil ?_
  have N := s1.heap.objs.size
  have st : AtZ a b c s1.heap.objs.size 0 h' := ⟨⟨.none, false, .inl rfl, z1⟩, t1, ⟨_, _, _, t2⟩, ⟨_, g1, rfl, rfl⟩, ⟨_, g2, rfl, rfl⟩, ⟨_, g3, rfl, rfl⟩⟩
  have J2 : Inv X pins σ H1 { s1 with heap := h' } := J.kept (t' := s1.toks) kp
  have hh : X.A.in1.handled = none := J.ok.hd calm
  have sm_ : 1000 ≤ sizeLine := by decide
  refine callType_codes (Q₁ := fun ob s2 => ob = .ref h'.objs.size ∧ s2 = { s1 with heap := h'.push { cls := .type "list", data := .seq #[] } }) F.called_list (F.typeCall_list_1 _) F.entry_list_init (code_list_new _ ⟨rfl, rfl⟩) fun ob s2 k2 => ?_
  obtain ⟨rfl, rfl⟩ := k2
  have zS : h'.objs.size ≠ s1.heap.objs.size + 5 := Nat.ne_of_gt (Heap.lt_size z1)
  have hS : (h'.push { cls := .type "list", data := .seq #[] }).get? h'.objs.size = some { cls := .type "list", data := .seq #[] } := Heap.get?_push_size _ rfl
  refine ⟨⟨_, hS, rfl⟩, F.args_list_init_2 _ _, ?_⟩
  show wpAny _ X.A.in1.in1 (Builtin.List.listItems (.ref h'.objs.size) >>= fun old => Builtin.List.listUpdate (.ref h'.objs.size) (fun _ => #[]) >>= fun _ => letGo old.toList.reverse >>= fun _ => Builtin.List.listExtendWith (.ref h'.objs.size) (.ref (s1.heap.objs.size + 5)) .none) _ _ _
  refine wpAny_bind ?_
  unfold Builtin.List.listItems
  refine wpAny_bind (wpAny_seqItems hS rfl (wpAny_pure ?_))
  refine wpAny_bind ?_
  show wpAny _ X.A.in1.in1 (updateSeq h'.objs.size fun _ => #[]) _ _ _
  refine wpAny_updateSeq hS rfl (wpAny_bind (wpAny_letGo ?_))
  have hS2 := Heap.get?_update_self (Obj.mapSeq (fun _ => (#[] : Array Value))) hS rfl
  have up : ∀ (h : Heap) (f : Obj → Obj), (∀ d o, h'.get? d = some o → h.get? d = some o) → ∀ d o, h'.get? d = some o → (h.update h'.objs.size f).get? d = some o := fun h f q d o e =>
    (Heap.get?_update_other _ _ (Ne.symm (Nat.ne_of_lt (Heap.lt_size e)))).trans (q d o e)
  have k1 : ∀ d o, h'.get? d = some o → (h'.push { cls := .type "list", data := .seq #[] }).get? d = some o := fun d o e => Heap.get?_push_of_some _ e
  have k2 := up _ (Obj.mapSeq (fun _ => (#[] : Array Value))) k1
  have ty : ∀ {h : Heap} {tk : Nat}, (∀ d o, h'.get? d = some o → h.get? d = some o) → Shared.TypeIs { s1 with heap := h } (.ref (s1.heap.objs.size + 5)) "zip" := fun q => ⟨_, q _ _ z1, rfl⟩
  unfold Builtin.List.listExtendWith
  refine wpAny_bind (wpAny_typeOf (ty (tk := 0) k2) ?_)
  have h1 : Builtin.List.listSameRef (.ref h'.objs.size) (.ref (s1.heap.objs.size + 5)) = false := by simp [Builtin.List.listSameRef, zS]
  have h2 : (Value.type "zip" == Value.type "list") = false := by decide
  have h3 : (Value.type "zip" == Value.type "tuple") = false := by decide
  simp only [h1, h2, h3, Bool.or_false, Bool.false_eq_true, if_false]
  refine wpAny_bind (wpAny_pyIter_zip (k2 _ _ z1) (wpAny_bind (wpAny_holding ?_)))
  unfold Builtin.List.listLengthHint
  refine wpAny_bind (wpAny_specialOf (ty (tk := 0) k2) zip_no_len ?_)
  show wpAny _ X.A.in1.in1 (specialOf (Value.ref (s1.heap.objs.size + 5)) (Str.ofString "__length_hint__") >>= _) _ _ _
  refine wpAny_bind (wpAny_specialOf (ty (tk := 0) k2) zip_no_hint (wpAny_pure ?_))
  show wpAny _ X.A.in1.in1 (rule "list.extend.makes-room" >>= fun _ => Builtin.List.listTouch (.ref h'.objs.size) >>= fun _ => again (.builtin "list.extend.loop" ⟨[.ref h'.objs.size, .ref (s1.heap.objs.size + 5), .none], []⟩)) _ _ _
  refine wpAny_bind (wpAny_rule (wpAny_bind ?_))
  show wpAny _ X.A.in1.in1 (updateSeq h'.objs.size (·.push .none) >>= fun _ => updateSeq h'.objs.size (·.pop)) _ _ _
  refine wpAny_bind (wpAny_updateSeq hS2 rfl ?_)
  have hS3 := Heap.get?_update_self (Obj.mapSeq (·.push Value.none)) hS2 rfl
  refine wpAny_updateSeq (hz := by seq_fits) hS3 rfl ?_
  have hS4 := Heap.get?_update_self (Obj.mapSeq (·.pop)) hS3 rfl
  have k4 := up _ (Obj.mapSeq (·.pop)) (up _ (Obj.mapSeq (·.push Value.none)) k2)
  refine wpAny_pure ⟨plainId_quiet F.plain_extend_loop _, ?_⟩
  have nS : H1 h'.objs.size = none := J2.hok.fresh (Nat.le_refl _)
  have J3 := J2.laid (t' := s1.toks) (o := .lst []) k4 (Nat.le_refl _) ⟨Nat.zero_le _, [], _, .nil, hS4⟩
  have ltz : ∀ d ∈ fpZ s1.heap.objs.size, d < h'.objs.size := st.lt
  refine drainZ (H0 := H1) pu.lt pv.lt pw.lt hh n1 n2 (by omega) hA hB hC nS (fun s H Ts I sm lT hL tr => ⟨rfl, .ref h'.objs.size, H, I, rfl, q H _ Ts sm nS hL lT tr⟩) xs.length 0 _ _ [] (Nat.zero_add _) J3 (fun d hd => ?_) (st.keep fun d _ o e => k4 d o e) (same_new nS) rfl upd_same (fun j T x y u e => by simp at e)
  · have le : s1.heap.objs.size ≤ d := by
      rcases fpZ_mem hd with rfl | rfl | rfl | rfl | rfl | rfl
      · exact Nat.le_add_right _ 5
      · exact Nat.le_add_right _ 3
      · exact Nat.le_add_right _ 4
      · exact Nat.le_refl _
      · exact Nat.le_add_right _ 1
      · exact Nat.le_add_right _ 2
    have f := J.fpOk le (J.hok.fresh le)
    refine ⟨?_, f.2⟩
    rw [upd_ne (Nat.ne_of_lt (ltz d hd))]
    exact f.1
end XV
set_option Elab.async false
set_option linter.all false
set_option maxRecDepth 100000
set_option maxHeartbeats 800000
/-! comprehensions: two clauses (a list, a range within), enumerate(list), enumerate(zip(a, b)). -/
namespace XV
open PySem PySem.Spec PyProof.Rows L2
theorem lc2_LR {K : PySem.W.Frag} {a : Addr} {xs : List V} {g g1 : TG} {tt tt1 : TT} {wi1 : TI} {te : TE} {vs vs1 : List Nat} {σ : L2.St} {H1 : Hp} {D : Addr} {Qd : Hp → Prop} (Pv : Nat → Hp → Prop) (h0 : Pv 0 (upd H1 D (.lst []))) (hl : ∀ i H, i ≤ xs.length → Pv i H → SqL K H a xs)
    (hs : ∀ i x H, xs[i]? = some x → Pv i H → g x (wipe σ vs) H fun σ2 H2 => wipe σ2 vs = wipe σ vs ∧ tt σ2 H2 fun b H3 => if b = true then wi1 σ2 H3 fun J1 H4 => ∃ W1 : Nat → Nat → Hp → Prop, (∃ m, W1 0 m H4) ∧ ∀ j k H, W1 j k H →
      (J1.stop j H ∧ Pv (i + 1) H) ∨ (J1.go j H ∧ ∃ N1 : Hp → Prop, (∀ H', N1 H' → ∃ k', k' < k ∧ W1 (j + 1) k' H') ∧ ∀ x H', J1.yld j H x H' → g1 x (wipe σ2 vs1) H' fun σ3 H5 => wipe σ3 vs1 = wipe σ2 vs1 ∧ tt1 σ3 H5 fun b H6 =>
        if b = true then te σ3 H6 fun y H7 => ∃ acc, H7 D = some (.lst acc) ∧ acc.length < sizeLine ∧ N1 (upd H7 D (.lst (acc ++ [y]))) else N1 H6) else Pv (i + 1) H3)
    (hd : ∀ H, Pv xs.length H → Qd H) :
    ∃ W : Nat → Nat → Hp → Prop, (∃ m, W 0 m (upd H1 D (.lst []))) ∧ ∀ i m H, W i m H →
      ((Itl K a).stop i H ∧ Qd H) ∨ ((Itl K a).go i H ∧ ∃ N : Hp → Prop, (∀ H', N H' → ∃ m', m' < m ∧ W (i + 1) m' H') ∧ ∀ x H', (Itl K a).yld i H x H' → g x (wipe σ vs) H' fun σ2 H2 => wipe σ2 vs = wipe σ vs ∧ tt σ2 H2 fun b H3 =>
        if b = true then wi1 σ2 H3 fun J1 H4 => ∃ W1 : Nat → Nat → Hp → Prop, (∃ m, W1 0 m H4) ∧ ∀ j k H, W1 j k H →
          (J1.stop j H ∧ N H) ∨ (J1.go j H ∧ ∃ N1 : Hp → Prop, (∀ H', N1 H' → ∃ k', k' < k ∧ W1 (j + 1) k' H') ∧ ∀ x H', J1.yld j H x H' → g1 x (wipe σ2 vs1) H' fun σ3 H5 => wipe σ3 vs1 = wipe σ2 vs1 ∧ tt1 σ3 H5 fun b H6 =>
            if b = true then te σ3 H6 fun y H7 => ∃ acc, H7 D = some (.lst acc) ∧ acc.length < sizeLine ∧ N1 (upd H7 D (.lst (acc ++ [y]))) else N1 H6) else N H3) := by
  refine ⟨fun i m H => m + i = xs.length ∧ Pv i H, ⟨xs.length, rfl, h0⟩, ?_⟩
  rintro i m H ⟨em, pv⟩
  have q := hl i H (by omega) pv
  cases m with
  | zero =>
    obtain rfl : i = xs.length := by omega
    exact .inl ⟨⟨xs, q, Nat.le_refl _⟩, hd H pv⟩
  | succ m =>
    have li : i < xs.length := by omega
    refine .inr ⟨⟨xs, _, q, List.getElem?_eq_getElem li⟩, Pv (i + 1), fun H' p' => ⟨m, Nat.lt_succ_self m, by omega, p'⟩, ?_⟩
    rintro x H' ⟨rfl, y⟩
    exact hs i x _ (y xs q) pv
theorem in_rng {n : Nat} {g1 : TG} {tt1 : TT} {te : TE} {vs1 : List Nat} {σ2 : L2.St} {H4 : Hp} {D : Addr} {N : Hp → Prop} (Pv : Nat → Hp → Prop) (h0 : Pv 0 H4)
    (hs : ∀ j H, j < n → Pv j H → g1 (.int (0 + (j : Nat))) (wipe σ2 vs1) H fun σ3 H5 => wipe σ3 vs1 = wipe σ2 vs1 ∧ tt1 σ3 H5 fun b H6 =>
      if b = true then te σ3 H6 fun y H7 => ∃ acc, H7 D = some (.lst acc) ∧ acc.length < sizeLine ∧ Pv (j + 1) (upd H7 D (.lst (acc ++ [y]))) else Pv (j + 1) H6) (hd : ∀ H, Pv n H → N H) :
    ∃ W1 : Nat → Nat → Hp → Prop, (∃ m, W1 0 m H4) ∧ ∀ j k H, W1 j k H → ((Itr 0 n).stop j H ∧ N H) ∨ ((Itr 0 n).go j H ∧ ∃ N1 : Hp → Prop, (∀ H', N1 H' → ∃ k', k' < k ∧ W1 (j + 1) k' H') ∧ ∀ x H', (Itr 0 n).yld j H x H' → g1 x (wipe σ2 vs1) H' fun σ3 H5 => wipe σ3 vs1 = wipe σ2 vs1 ∧ tt1 σ3 H5 fun b H6 =>
      if b = true then te σ3 H6 fun y H7 => ∃ acc, H7 D = some (.lst acc) ∧ acc.length < sizeLine ∧ N1 (upd H7 D (.lst (acc ++ [y]))) else N1 H6) := by
  refine ⟨fun j k H => k + j = n ∧ Pv j H, ⟨n, rfl, h0⟩, ?_⟩
  rintro j k H ⟨em, pv⟩
  cases k with
  | zero =>
    obtain rfl : j = n := by omega
    exact .inl ⟨Nat.le_refl _, hd H pv⟩
  | succ k =>
    have lj : j < n := by omega
    refine .inr ⟨lj, Pv (j + 1), fun H' p' => ⟨k, Nat.lt_succ_self k, by omega, p'⟩, ?_⟩
    rintro x H' ⟨rfl, rfl⟩
    exact hs j _ lj pv
/-- [.. for i, x in enumerate(xs)] -/
theorem lc_enum {K : PySem.W.Frag} {a : Addr} {xs : List V} {g : TG} {tt : TT} {te : TE} {vs : List Nat} {σ : L2.St} {H1 : Hp} {D : Addr} {Qd : Hp → Prop} (Pv : Nat → Hp → Prop) (h0 : Pv 0 (upd H1 D (.lst []))) (hl : ∀ i H, Pv i H → SqL K H a xs)
    (hs : ∀ (i : Nat) (x : V) (T : Addr) (H : Hp), xs[i]? = some x → Pv i H → H T = none → g (.ref T) (wipe σ vs) (upd H T (.tup [.int (i : Nat), x])) fun σ2 H2 => wipe σ2 vs = wipe σ vs ∧ tt σ2 H2 fun c H3 =>
      if c = true then te σ2 H3 fun r H4 => ∃ acc, H4 D = some (.lst acc) ∧ acc.length < sizeLine ∧ Pv (i + 1) (upd H4 D (.lst (acc ++ [r]))) else Pv (i + 1) H3) (hd : ∀ H, Pv xs.length H → Qd H) :
    ∃ W : Nat → Nat → Hp → Prop, (∃ m, W 0 m (upd H1 D (.lst []))) ∧ ∀ i m H, W i m H →
      ((Ite K a).stop i H ∧ Qd H) ∨ ((Ite K a).go i H ∧ ∃ N : Hp → Prop, (∀ H', N H' → ∃ m', m' < m ∧ W (i + 1) m' H') ∧ ∀ x H', (Ite K a).yld i H x H' → g x (wipe σ vs) H' fun σ2 H2 => wipe σ2 vs = wipe σ vs ∧ tt σ2 H2 fun c H3 =>
        if c = true then te σ2 H3 fun r H4 => ∃ acc, H4 D = some (.lst acc) ∧ acc.length < sizeLine ∧ N (upd H4 D (.lst (acc ++ [r]))) else N H3) := by
  refine ⟨fun i m H => m + i = xs.length ∧ Pv i H, ⟨xs.length, rfl, h0⟩, ?_⟩
  rintro i m H ⟨em, pv⟩
  have q := hl i H pv
  cases m with
  | zero =>
    obtain rfl : i = xs.length := by omega
    exact .inl ⟨⟨xs, q, Nat.le_refl _⟩, hd H pv⟩
  | succ m =>
    have li : i < xs.length := by omega
    have g1 := List.getElem?_eq_getElem li
    refine .inr ⟨⟨xs, _, q, g1⟩, Pv (i + 1), fun H' p' => ⟨m, Nat.lt_succ_self m, by omega, p'⟩, ?_⟩
    rintro v H' ⟨T, x, rfl, nT, rfl, f1⟩
    exact hs i x T H (f1 xs q) pv nT
/-- [.. for i, (x, y) in enumerate(zip(xs, ys))] of lists of one length -/
theorem lc_enumZ {K : PySem.W.Frag} {a b : Addr} {xs ys : List V} {g : TG} {tt : TT} {te : TE} {vs : List Nat} {σ : L2.St} {H1 : Hp} {D : Addr} {Qd : Hp → Prop} (eq : xs.length = ys.length) (Pv : Nat → Hp → Prop) (h0 : Pv 0 (upd H1 D (.lst []))) (hl : ∀ i H, Pv i H → SqL K H a xs ∧ SqL K H b ys)
    (hs : ∀ (i : Nat) (x y : V) (T U : Addr) (H : Hp), xs[i]? = some x → ys[i]? = some y → Pv i H → H T = none → H U = none → U ≠ T → g (.ref U) (wipe σ vs) (upd (upd H T (.tup [x, y])) U (.tup [.int (i : Nat), .ref T])) fun σ2 H2 => wipe σ2 vs = wipe σ vs ∧ tt σ2 H2 fun c H3 =>
      if c = true then te σ2 H3 fun r H4 => ∃ acc, H4 D = some (.lst acc) ∧ acc.length < sizeLine ∧ Pv (i + 1) (upd H4 D (.lst (acc ++ [r]))) else Pv (i + 1) H3) (hd : ∀ H, Pv xs.length H → Qd H) :
    ∃ W : Nat → Nat → Hp → Prop, (∃ m, W 0 m (upd H1 D (.lst []))) ∧ ∀ i m H, W i m H →
      ((Itez K a b).stop i H ∧ Qd H) ∨ ((Itez K a b).go i H ∧ ∃ N : Hp → Prop, (∀ H', N H' → ∃ m', m' < m ∧ W (i + 1) m' H') ∧ ∀ x H', (Itez K a b).yld i H x H' → g x (wipe σ vs) H' fun σ2 H2 => wipe σ2 vs = wipe σ vs ∧ tt σ2 H2 fun c H3 =>
        if c = true then te σ2 H3 fun r H4 => ∃ acc, H4 D = some (.lst acc) ∧ acc.length < sizeLine ∧ N (upd H4 D (.lst (acc ++ [r]))) else N H3) := by
  refine ⟨fun i m H => m + i = xs.length ∧ Pv i H, ⟨xs.length, rfl, h0⟩, ?_⟩
  rintro i m H ⟨em, pv⟩
  obtain ⟨q1, q2⟩ := hl i H pv
  cases m with
  | zero =>
    obtain rfl : i = xs.length := by omega
    exact .inl ⟨⟨xs, q1, Nat.le_refl _⟩, hd H pv⟩
  | succ m =>
    have l1 : i < xs.length := by omega
    have l2 : i < ys.length := by omega
    refine .inr ⟨⟨xs, ys, _, _, q1, q2, List.getElem?_eq_getElem l1, List.getElem?_eq_getElem l2⟩, Pv (i + 1), fun H' p' => ⟨m, Nat.lt_succ_self m, by omega, p'⟩, ?_⟩
    rintro v H' ⟨T, U, x, y, rfl, nT, nU, ne, rfl, f1, f2⟩
    exact hs i x y T U H (f1 xs q1) (f2 ys q2) pv nT nU ne
end XV
set_option Elab.async false
set_option linter.all false
set_option maxRecDepth 100000
set_option maxHeartbeats 4000000
namespace KB
open PySem PySem.Spec PyProof.Rows L2 XV
/-! ### lists of forms -/
def IsFt (H : Hp) (x : V) (p : List Int) : Prop := ∃ a, x = .ref a ∧ H a = some (.tup (p.map V.int))
inductive Fts (H : Hp) : List V → List (List Int) → Prop
  | nil : Fts H [] []
  | cons {x : V} {xs : List V} {p : List Int} {P : List (List Int)} : IsFt H x p → Fts H xs P → Fts H (x :: xs) (p :: P)
theorem Fts.keep {H H' : Hp} (s : Same H H') : ∀ {xs : List V} {P : List (List Int)}, Fts H xs P → Fts H' xs P
  | _, _, .nil => .nil
  | _, _, .cons h r => .cons (by
      obtain ⟨a, e, t⟩ := h
      exact ⟨a, e, s _ _ t⟩) (Fts.keep s r)
theorem Fts.len {H : Hp} : ∀ {xs : List V} {P : List (List Int)}, Fts H xs P → xs.length = P.length
  | _, _, .nil => rfl
  | _, _, .cons _ r => congrArg (· + 1) (Fts.len r)
theorem Fts.get {H : Hp} : ∀ {xs : List V} {P : List (List Int)} {i : Nat} {x : V}, Fts H xs P → xs[i]? = some x → ∃ p, P[i]? = some p ∧ IsFt H x p
  | _, _, i, x, .nil, h => by simp at h
  | _, _, 0, x, .cons a r, h => by
    cases h
    exact ⟨_, rfl, a⟩
  | _, _, i + 1, x, .cons a r, h => by
    obtain ⟨l, e, z⟩ := Fts.get (i := i) r (by simpa using h)
    exact ⟨l, by simpa using e, z⟩
theorem Fts.snoc {H : Hp} {y : V} {m : List Int} (hy : IsFt H y m) : ∀ {xs : List V} {P : List (List Int)}, Fts H xs P → Fts H (xs ++ [y]) (P ++ [m])
  | _, _, .nil => .cons hy .nil
  | _, _, .cons h r => .cons h (Fts.snoc hy r)
theorem Fts.updL {H : Hp} {D : Addr} {ys : List V} {o : HO} (hD : H D = some (.lst ys)) : ∀ {xs : List V} {P : List (List Int)}, Fts H xs P → Fts (upd H D o) xs P
  | _, _, .nil => .nil
  | _, _, .cons h r => .cons (by
      obtain ⟨a, e, t⟩ := h
      refine ⟨a, e, ?_⟩
      rw [upd_ne (ne_of t hD (by intro z; cases z))]
      exact t) (Fts.updL hD r)
theorem Fts.pairs {H : Hp} : ∀ {xs : List V} {P : List (List Int)}, Fts H xs P → ∃ ps : List (Addr × List Int), xs = (ps.map fun p => V.ref p.1) ∧ (ps.map fun p => p.2) = P ∧ ∀ p ∈ ps, H p.1 = some (.tup (p.2.map V.int))
  | _, _, .nil => ⟨[], rfl, rfl, fun p hp => by cases hp⟩
  | _, _, .cons h r => by
    obtain ⟨a, rfl, t⟩ := h
    obtain ⟨ps, e1, e2, e3⟩ := Fts.pairs r
    refine ⟨(a, _) :: ps, by rw [e1]; rfl, by rw [← e2]; rfl, fun p hp => ?_⟩
    rcases List.mem_cons.mp hp with rfl | hp
    · exact t
    · exact e3 p hp
/-- a list of forms at r -/
def FL (H : Hp) (r : Addr) (P : List (List Int)) : Prop := ∃ xs, H r = some (.lst xs) ∧ Fts H xs P
theorem FL.keep {H H' : Hp} (s : Same H H') {r : Addr} {P : List (List Int)} (h : FL H r P) : FL H' r P := by
  obtain ⟨xs, e, t⟩ := h
  exact ⟨xs, s _ _ e, t.keep s⟩
/-! ### what is computed -/
def turn1 (l : Lim) (c : Int) : Int := (c - cls1 l c) / l.2
def step1 (l : Lim) (c : Int) : Int := if l.1 ≤ c then l.2 else 0
def placeL (L : List Lim) (p : List Int) : List Int := List.zipWith turn1 L p
def limD0 (L : List Lim) (i : Nat) : Lim := L.getD i (0, 1)
theorem limD0_at {L : List Lim} {i : Nat} {l : Lim} (h : L[i]? = some l) : limD0 L i = l := by
  unfold limD0
  rw [List.getD_eq_getElem?_getD, h]
  rfl
theorem cnt_at {p : List Int} {i : Nat} {c : Int} (h : p[i]? = some c) : p.getD i 0 = c := by
  rw [List.getD_eq_getElem?_getD, h]
  rfl
def formAt (L : List Lim) (p : List Int) (i : Nat) : List Int := unkF L.length i (cls1 (limD0 L i) (p.getD i 0)) (step1 (limD0 L i) (p.getD i 0))
def formsL (L : List Lim) (p : List Int) : List (List Int) := (List.range L.length).map (formAt L p)
abbrev sClassesP : Stmt := top 29
abbrev sPlace : Stmt := top 31
abbrev sClassForms : Stmt := top 32
abbrev sPoints : Stmt := top 38
abbrev sFormsOf : Stmt := top 39
abbrev sTurns : Stmt := top 42
abbrev sStep : Stmt := top 43
abbrev sReqFiner : Stmt := top 47
abbrev nPts : List Str := ["limits", "points", "threshold", "period", "point", "count"]
theorem scClassesP : FnScope ["grid"] ["grid"] (defScope sClassesP) := ⟨rfl, rfl, rfl, by decide +kernel, rfl, by decide +kernel, by decide +kernel⟩
theorem scPlace : FnScope ["grid", "point", "limit", "count"] ["grid", "point"] (defScope sPlace) := ⟨rfl, rfl, rfl, by decide +kernel, rfl, by decide +kernel, by decide +kernel⟩
theorem scClassForms : FnScope ["grid", "point"] ["grid", "point"] (defScope sClassForms) := ⟨rfl, rfl, rfl, by decide +kernel, rfl, by decide +kernel, by decide +kernel⟩
theorem scPoints : FnScope nPts ["limits"] (defScope sPoints) := ⟨rfl, rfl, rfl, by decide +kernel, rfl, by decide +kernel, by decide +kernel⟩
theorem scFormsOf : FnScope ["limits", "point", "at", "limit", "count"] ["limits", "point"] (defScope sFormsOf) := ⟨rfl, rfl, rfl, by decide +kernel, rfl, by decide +kernel, by decide +kernel⟩
theorem scTurns : FnScope ["limit", "count"] ["limit", "count"] (defScope sTurns) := ⟨rfl, rfl, rfl, by decide +kernel, rfl, by decide +kernel, by decide +kernel⟩
theorem scStep : FnScope ["limit", "count", "threshold", "period"] ["limit", "count"] (defScope sStep) := ⟨rfl, rfl, rfl, by decide +kernel, rfl, by decide +kernel, by decide +kernel⟩
theorem scReqFiner : FnScope ["finer", "grid", "argument"] ["finer", "grid", "argument"] (defScope sReqFiner) := ⟨rfl, rfl, rfl, by decide +kernel, rfl, by decide +kernel, by decide +kernel⟩
/-- the values are objects that were not there in H -/
def Nw (H : Hp) (xs : List V) : Prop := ∀ x ∈ xs, ∀ a, x = .ref a → H a = none
def spPoints : Sp := fun vs H Q _ => ∃ (a : Addr) (L : List Lim), vs = [.ref a] ∧ LL H a L ∧ L.length ≤ 3 ∧ Bnd 6 9 L ∧ ∀ (H' : Hp) (r : Addr) (xs : List V), Same H H' → H r = none → H' r = some (.lst xs) → Pts H' xs (box (sizes L)) → Nw H xs → Q (.ref r) H'
def spClassesP (C : Addr) : Sp := fun vs H Q _ => ∃ (x : Addr) (L : List Lim), vs = [.ref x] ∧ Gr C H x L ∧ L.length ≤ 3 ∧ Bnd 6 9 L ∧ ∀ (H' : Hp) (r : Addr) (xs : List V), Same H H' → H r = none → H' r = some (.lst xs) → Pts H' xs (box (sizes L)) → Nw H xs → Q (.ref r) H'
def spTurns : Sp := fun vs H Q _ => ∃ (v : V) (l : Lim) (c : Int), vs = [v, .int c] ∧ IsLim H v l ∧ 1 ≤ l.2 ∧ l.2 < 1000 ∧ Q (.int (turn1 l c)) H
def spStep : Sp := fun vs H Q _ => ∃ (v : V) (l : Lim) (c : Int), vs = [v, .int c] ∧ IsLim H v l ∧ Q (.int (step1 l c)) H
def spPlace (C : Addr) : Sp := fun vs H Q _ => ∃ (x a : Addr) (L : List Lim) (p : List Int), vs = [.ref x, .ref a] ∧ Gr C H x L ∧ Lok L ∧ H a = some (.lst (p.map V.int)) ∧ L.length = p.length ∧ (∀ y ∈ p, 0 ≤ y) ∧
  ∀ (H' : Hp) (r : Addr), Same H H' → H' r = some (.lst ((placeL L p).map V.int)) → Q (.ref r) H'
def spFormsOf : Sp := fun vs H Q _ => ∃ (l a : Addr) (L : List Lim) (p : List Int), vs = [.ref l, .ref a] ∧ LL H l L ∧ Lok L ∧ H a = some (.lst (p.map V.int)) ∧ L.length = p.length ∧ ∀ (H' : Hp) (r : Addr), Same H H' → H r = none → FL H' r (formsL L p) → Q (.ref r) H'
def spClassForms (C : Addr) : Sp := fun vs H Q _ => ∃ (x a : Addr) (L : List Lim) (p : List Int), vs = [.ref x, .ref a] ∧ Gr C H x L ∧ Lok L ∧ H a = some (.lst (p.map V.int)) ∧ L.length = p.length ∧ (∀ y ∈ p, 0 ≤ y) ∧ ∀ (H' : Hp) (r : Addr), Same H H' → H r = none → FL H' r (formsL L p) → Q (.ref r) H'
def spReqFiner (C : Addr) : Sp := fun vs H Q _ => ∃ (x y : Addr) (v : V) (L M : List Lim), vs = [.ref x, .ref y, v] ∧ Gr C H x M ∧ Gr C H y L ∧ M.length = L.length ∧ Lok M ∧ Lok L ∧ refB M L = true ∧ ∀ H', Same H H' → Q .non H'
section
variable {P : Program} {w : World} {K : PySem.W.Frag} {mg : Str → Option Value} {base : Heap} {f : Addr} {fd : FuncData} {C : Addr}
theorem ok_turns (F : FnP K "turns_of" sTurns f fd) (o_cls : Ok P w K mg base "class_count" 1 ["limit", "count"] spClsCount) : FnOk P w K mg base CX0 2 f fd ["limit", "count"] spTurns := by
  refine F.ok scTurns (fun vs H Q E h => ?_) (fun cdv A outer s H vs Q E hr h => ?_)
  · obtain ⟨v, l, c, rfl, _⟩ := h
    rfl
  · obtain ⟨v, l, c, rfl, hv, h1, h2, q⟩ := h
    obtain ⟨t, rfl, ht⟩ := id hv
    refine ⟨_, PSs.nox (pss_one (ps_ret (pe_op op_fdiv (pe_op op_sub (pv 1) (pe_callO o_cls hr (by rfl) (pa_cons (pv 0) (pa_cons (pv 1) pa_nil)))) (pe_ix ix_tup (pv 0) pe_int (fun _ _ => rfl))))), ?_⟩
    exact ⟨_, rfl, _, rfl, _, rfl, _, l, c, rfl, hv, h1, _, _, rfl, rfl, _, rfl, t, _, _, _, rfl, rfl, SqT.of ht, (show atI [V.int l.1, V.int l.2] ((1 : Nat) : Int) = _ from atI_nat rfl), _, _, rfl, rfl, ⟨by show 0 < l.2; omega, by show l.2 < 1073741824; omega⟩, q⟩
theorem ok_step (F : FnP K "step_of" sStep f fd) : FnOk P w K mg base CX0 1 f fd ["limit", "count"] spStep := by
  have nd := scStep.nd
  refine F.ok scStep (fun vs H Q E h => ?_) (fun cdv A outer s H vs Q E hr h => ?_)
  · obtain ⟨v, l, c, rfl, _⟩ := h
    rfl
  · obtain ⟨v, l, c, rfl, ⟨t, rfl, ht⟩, q⟩ := h
    refine ⟨_, PSs.nox (pss_cons (ps_asg (pv 0) (pg_tup rfl (pgs_cons (pg_name (i := 2) nd rfl (Or.inl rfl)) (pgs_cons (pg_name (i := 3) nd rfl (Or.inl rfl)) pgs_nil))))
      (pss_one (ps_ret (pe_ifExp (pt_cmpR op_ge (pv 1) (pv 2) (nomark _)) (pv 3) pe_int)))), ?_⟩
    refine ⟨_, rfl, t, _, rfl, SqT.of ht, rfl, _, _, rfl, _, _, rfl, rfl, ?_⟩
    refine ⟨_, rfl, _, rfl, _, _, rfl, rfl, _, rfl, ite2 (fun z => ?_) (fun z => ?_)⟩
    · have z : l.1 ≤ c := of_decide_eq_true z
      refine ⟨_, rfl, ?_⟩
      rw [show step1 l c = l.2 from if_pos z] at q
      exact q
    · have z : ¬ l.1 ≤ c := fun y => z (decide_eq_true y)
      rw [show step1 l c = 0 from if_neg z] at q
      exact q
theorem ok_points (F : FnP K "points_of" sPoints f fd) (z_range : mg "range" = none) : FnOk P w K mg base CX0 1 f fd ["limits"] spPoints := by
  have nd := scPoints.nd
  refine F.ok scPoints (fun vs H Q E h => ?_) (fun cdv A outer s H vs Q E hr h => ?_)
  · obtain ⟨a, L, rfl, _⟩ := h
    rfl
  · obtain ⟨sa, L, rfl, ⟨ls, ha, hL⟩, h3, hb, q⟩ := h
    have lls := hL.len
    have hbS : ∀ s ∈ sizes L, 0 ≤ s ∧ s ≤ 15 := fun s hs => by
      obtain ⟨l, hl, rfl⟩ := List.mem_map.mp hs
      have := hb l hl
      omega
    have lS : (sizes L).length = L.length := List.length_map ..
    refine ⟨_, PSs.nox (pss_cons (ps_set (i := 1) nd rfl (Or.inl rfl) (pe_lst (pa_cons (pe_lst pa_nil) pa_nil)))
      (pss_cons (ps_for PassesOwn.never rfl (pi_list (pv 0)) (pg_tup rfl (pgs_cons (pg_name (i := 2) nd rfl (Or.inr rfl)) (pgs_cons (pg_name (i := 3) nd rfl (Or.inr rfl)) pgs_nil)))
        (pss_one (ps_setLc2 (i := 1) (own := [("point", 4), ("count", 5)]) (vs1 := [5]) (g := gName 4) (g1 := gName 5) (by rfl) nd rfl rfl (sw_true rfl rfl rfl (by decide +kernel)) (pi_list (pv 1)) (blkOk_by (N := nPts) (sc := defScope sPoints) (own := [("point", 4), ("count", 5)]) (by decide +kernel)) (by decide)
          (fun _ _ _ _ _ => pg_name (i := 4) nd rfl (Or.inl rfl)) (fun _ _ _ _ _ => pts_nil) (fun _ _ _ _ _ => pi_range1 (by rfl) z_range (pa_cons (pe_op op_add (pv 2) (pv 3)) pa_nil)) (fun _ _ _ _ _ => pg_name (i := 5) nd rfl (Or.inl rfl)) (fun _ _ _ _ _ => pts_nil)
          (fun _ _ _ _ _ => pe_op op_cat (pv 4) (pe_lst (pa_cons (pv 5) pa_nil))))))
      (pss_one (ps_ret (pv 1))))), ?_⟩
    refine ⟨(by show 0 ≤ sizeLine; decide), fun e0 ne0 => ⟨(by show 1 ≤ sizeLine; decide), fun f0 nf0 => ?_⟩⟩
    have s1 := same_new (o := .lst []) ne0
    have s2 := same_new (o := .lst [.ref e0]) nf0
    have sA := s1.trans s2
    have he0 := s2 _ _ (upd_same (H := H) (a := e0) (o := .lst []))
    refine ⟨_, rfl, sa, rfl, ⟨_, SqL.of (sA _ _ ha)⟩, for_list (K := K) (a := sa) (xs := ls) (fun i σ H' => (∃ fa xs x2 x3 x4 x5, σ = [some (.ref sa), some (.ref fa), x2, x3, x4, x5] ∧ H' fa = some (.lst xs) ∧ H fa = none ∧ Nw H xs ∧ Pts H' xs (box ((sizes L).take i))) ∧ Same H H')
      ⟨⟨f0, [.ref e0], _, _, _, _, rfl, upd_same, was_new s1 nf0, (fun x hx a e => by
        rcases List.mem_singleton.mp hx with rfl
        cases e
        exact ne0), .cons ⟨e0, rfl, he0⟩ .nil⟩, sA⟩ (fun i σ H' _ p => SqL.of (p.2 _ _ ha)) ?_ ?_⟩
    · rintro i y σ H' hi ⟨⟨fa, xs, x2, x3, x4, x5, rfl, hfa, nfa, nx, hP⟩, sm⟩
      obtain ⟨l, el, ⟨t, rfl, ht⟩⟩ := hL.get hi
      have li := (List.getElem?_eq_some_iff.mp el).1
      have es : (sizes L)[i]? = some (l.1 + l.2) := by
        unfold sizes
        rw [List.getElem?_map, el]
        rfl
      have bl := hb l (mem_at el)
      have lN : (box ((sizes L).take i)).length ≤ 225 := by
        have h1 := box_len hbS i (by omega)
        have h2 : 15 ^ i ≤ 15 ^ 2 := Nat.pow_le_pow_right (by decide) (by omega)
        omega
      have lx := hP.len
      have ht' := sm _ _ ht
      refine ⟨t, _, rfl, SqT.of ht', rfl, _, _, rfl, _, _, rfl, rfl, ?_⟩
      refine ⟨_, rfl, fa, rfl, ⟨_, SqL.of hfa⟩, fun D nD => ?_⟩
      have nDH : H D = none := was_new sm nD
      refine lc2_LR (K := K) (a := fa) (xs := xs) (fun j H2 => (∃ acc, H2 D = some (.lst acc) ∧ Nw H acc ∧ (∀ x ∈ acc, x ≠ .ref D) ∧ Pts H2 acc (stepB ((box ((sizes L).take i)).take j) (l.1 + l.2))) ∧ Same H' H2)
        ⟨⟨[], upd_same, (fun x hx => by cases hx), (fun x hx => by cases hx), .nil⟩, same_new nD⟩ (fun j H2 _ p => SqL.of (p.2 _ _ hfa)) ?_ ?_
      · rintro j y2 H2 hj ⟨⟨acc, hD, nA, hn, hA⟩, sm2⟩
        obtain ⟨p, ep, ⟨pa, rfl, hpa⟩⟩ := hP.get hj
        have lj : j < 225 := by
          have := (List.getElem?_eq_some_iff.mp ep).1
          omega
        refine ⟨rfl, ?_⟩
        refine ⟨_, rfl, _, rfl, _, _, rfl, rfl, l.1 + l.2, rfl, by omega, by omega, in_rng (n := (l.1 + l.2).toNat) (fun k H3 => (∃ acc, H3 D = some (.lst acc) ∧ Nw H acc ∧ (∀ x ∈ acc, x ≠ .ref D) ∧ Pts H3 acc (stepB ((box ((sizes L).take i)).take j) (l.1 + l.2) ++ (List.range k).map fun k => p ++ [((k : Nat) : Int)])) ∧ Same H' H3)
          ⟨⟨acc, hD, nA, hn, by rw [List.range_zero, List.map_nil, List.append_nil]; exact hA⟩, sm2⟩ ?_ ?_⟩
        · rintro k H3 hk ⟨⟨acc, hD, nA, hn, hA⟩, sm3⟩
          rw [Int.zero_add]
          have hpa3 := sm3 _ _ hpa
          have la := hA.len
          rw [List.length_append, stepB_len, List.length_take, List.length_map, List.length_range] at la
          have lb : min j (box ((sizes L).take i)).length * (l.1 + l.2).toNat ≤ 224 * 15 := Nat.mul_le_mul (by omega) (by omega)
          refine ⟨rfl, ?_⟩
          refine ⟨_, rfl, _, rfl, (by show 1 ≤ sizeLine; decide), fun u nu => ?_⟩
          have su := same_new (o := .lst [.int (k : Int)]) nu
          refine ⟨pa, u, _, _, rfl, rfl, su _ _ hpa3, upd_same, ?_, fun r nr => ?_⟩
          · rw [List.length_map, List.length_singleton]
            have z2 := (box_fit (S := sizes L) i (by omega) p (mem_at ep)).1
            have := small5000 (n := p.length + 1) (by omega)
            omega
          have sr := same_new (o := .lst (p.map V.int ++ [.int (k : Int)])) nr
          have sB := su.trans sr
          have hD5 := sB _ _ hD
          have nrD : r ≠ D := fun z => by
            rw [z, su _ _ hD] at nr
            cases nr
          have nrH : H r = none := was_new ((sm.trans sm3).trans su) nr
          refine ⟨_, hD5, small5000 (by omega), ⟨acc ++ [.ref r], upd_same, ?_, ?_, ?_⟩, fun b o e => ?_⟩
          · intro x hx a e
            rcases List.mem_append.mp hx with h | h
            · exact nA x h a e
            · rcases List.mem_singleton.mp h with rfl
              cases e
              exact nrH
          · intro x hx
            rcases List.mem_append.mp hx with h | h
            · exact hn x h
            · rcases List.mem_singleton.mp h with rfl
              exact fun z => nrD (V.ref.inj z)
          · rw [List.range_succ, List.map_append, ← List.append_assoc]
            refine Pts.updL ?_ (Pts.snoc ⟨r, rfl, ?_⟩ (hA.keep sB))
            · intro x hx
              rcases List.mem_append.mp hx with h | h
              · exact hn x h
              · rcases List.mem_singleton.mp h with rfl
                exact fun z => nrD (V.ref.inj z)
            · rw [upd_same, List.map_append]
              rfl
          · rw [upd_ne (ne_of_none (H := H') e nD)]
            exact sB _ _ (sm3 _ _ e)
        · rintro H3 ⟨⟨acc, hD, nA, hn, hA⟩, sm3⟩
          refine ⟨⟨acc, hD, nA, hn, ?_⟩, sm3⟩
          rw [List.take_add_one, ep]
          show Pts H3 acc (List.flatMap _ (_ ++ [p]))
          rw [List.flatMap_append, List.flatMap_singleton]
          exact hA
      · rintro H2 ⟨⟨acc, hD, nA, hn, hA⟩, sm2⟩
        refine ⟨⟨D, acc, _, _, _, _, rfl, hD, nDH, nA, ?_⟩, sm.trans sm2⟩
        rw [show box ((sizes L).take (i + 1)) = stepB (box ((sizes L).take i)) (l.1 + l.2) from fold_take _ _ es]
        rw [lx, List.take_length] at hA
        exact hA
    · rintro σ H' ⟨⟨fa, xs, x2, x3, x4, x5, rfl, hfa, nfa, nx, hP⟩, sm⟩
      rw [lls, ← lS, List.take_length] at hP
      exact ⟨_, rfl, q H' fa xs sm nfa hfa hP nx⟩
end
end KB
set_option Elab.async false
set_option linter.all false
set_option maxRecDepth 100000
set_option maxHeartbeats 4000000
namespace KB
open PySem PySem.Spec PyProof.Rows L2 XV
theorem call_lenK {X : Cx} {K : PySem.W.Frag} (e : X.K = K) : CallR X (.builtin "len") (fun xs H Q => ∃ x n, xs = [x] ∧ LenV K x H n ∧ Q (.int n) H) := by
  subst e
  exact call_len
section
variable {P : Program} {w : World} {K : PySem.W.Frag} {mg : Str → Option Value} {base : Heap} {f : Addr} {fd : FuncData} {C : Addr}
theorem ok_classesP (F : FnP K "classes" sClassesP f fd) (T : GT K mg C) (o_grid : Ok P w K mg base "require_grid" 1 ["grid"] (spReqGrid C)) (o_limits : OkMt P w K mg base C "limits" (spLimits C)) (o_points : Ok P w K mg base "points_of" 1 ["limits"] spPoints) : FnOk P w K mg base CX0 2 f fd ["grid"] (spClassesP C) := by
  refine F.ok scClassesP (fun vs H Q E h => ?_) (fun cdv A outer s H vs Q E hr h => ?_)
  · obtain ⟨x, L, rfl, _⟩ := h
    rfl
  · obtain ⟨x, L, rfl, hx, h3, hb, q⟩ := h
    refine ⟨_, PSs.nox (pss_cons (ps_expr (pe_callO o_grid hr (by rfl) (pa_cons (pv 0) pa_nil))) (pss_one (ps_ret (pe_callO o_points hr (by rfl) (pa_cons (pe_limits o_limits T (pv 0) hr) pa_nil))))), ?_⟩
    refine ⟨_, rfl, x, L, rfl, hx, _, rfl, x, L, rfl, hx, fun H1 p s1 np hL => ⟨p, L, rfl, hL, h3, hb, fun H2 r xs s2 nr hr2 hP nw => ?_⟩⟩
    exact q H2 r xs (s1.trans s2) (was_new s1 nr) hr2 hP fun y hy a e => was_new s1 (nw y hy a e)
theorem ok_place (F : FnP K "place_in_class" sPlace f fd) (T : GT K mg C) (o_reqPt : Ok P w K mg base "require_grid_point" 4 ["grid", "point"] (spReqPt C)) (o_turns : Ok P w K mg base "turns_of" 2 ["limit", "count"] spTurns) (o_limits : OkMt P w K mg base C "limits" (spLimits C)) (z_zip : mg "zip" = none) :
    FnOk P w K mg base CX0 5 f fd ["grid", "point"] (spPlace C) := by
  have nd := scPlace.nd
  refine F.ok scPlace (fun vs H Q E h => ?_) (fun cdv A outer s H vs Q E hr h => ?_)
  · obtain ⟨x, a, L, p, rfl, _⟩ := h
    rfl
  · obtain ⟨x, a, L, p, rfl, hx, ⟨h3, hb⟩, ha, hl, h0, q⟩ := h
    have r1 : Room 1 (A.deeper (envOfC "place_in_class" (defScope sPlace) s.heap.objs.size f cdv)) := hr.mono (by decide)
    have r2 : Room 2 (A.deeper (envOfC "place_in_class" (defScope sPlace) s.heap.objs.size f cdv)) := hr.mono (by decide)
    refine ⟨_, PSs.nox (pss_cons (ps_expr (pe_callO o_reqPt hr (by rfl) (pa_cons (pv 0) (pa_cons (pv 1) pa_nil))))
      (pss_one (ps_ret (pe_lc (own := [("limit", 2), ("count", 3)]) (g := gTup K 2 (gCons (gName 2) (gCons (gName 3) gNil))) (by rfl) nd (pi_zip (by rfl) z_zip (pa_cons (pe_limits o_limits T (pv 0) r1) (pa_cons (pv 1) pa_nil))) (blkOk_by (N := ["grid", "point", "limit", "count"]) (sc := defScope sPlace) (own := [("limit", 2), ("count", 3)]) (by decide +kernel))
        (fun _ _ _ _ _ => pg_tup rfl (pgs_cons (pg_name (i := 2) nd rfl (Or.inl rfl)) (pgs_cons (pg_name (i := 3) nd rfl (Or.inl rfl)) pgs_nil))) (fun _ _ _ _ _ => pts_nil)
        (fun _ _ _ _ _ => pe_callO o_turns r2 (by rfl) (pa_cons (pv 2) (pa_cons (pv 3) pa_nil))))))), ?_⟩
    refine ⟨_, rfl, _, rfl, x, a, L, p, rfl, hx, ha, hl, by omega, h0, fun H1 s1 => ?_⟩
    refine ⟨_, rfl, x, L, rfl, hx.keep s1, fun H2 m s2 nm ⟨xs, hm, hL⟩ => ⟨_, rfl, m, a, xs, p.map V.int, rfl, SqL.of hm, SqL.of (s2 _ _ (s1 _ _ ha)), fun D nD => ?_⟩⟩
    have lx := hL.len
    refine lc_zipL (K := K) (a := m) (b := a) (xs := xs) (ys := p.map V.int) (by rw [List.length_map]; omega) (fun k H' => Same H2 H' ∧ H' D = some (.lst (((placeL L p).take k).map V.int))) ⟨same_new nD, upd_same⟩ (fun i H' z => ⟨SqL.of (z.1 _ _ hm), SqL.of (z.1 _ _ (s2 _ _ (s1 _ _ ha)))⟩) ?_ ?_
    · rintro i x0 y0 U H' hx0 hy0 ⟨sm, hD⟩ nU
      obtain ⟨l, hl2, il⟩ := hL.get hx0
      rw [List.getElem?_map] at hy0
      obtain ⟨c, ec, rfl⟩ := Option.map_eq_some_iff.mp hy0
      have sU := same_new (o := .tup [x0, .int c]) nU
      have li : i < 3 := by
        have := (List.getElem?_eq_some_iff.mp ec).1
        omega
      refine ⟨U, _, rfl, SqT.of upd_same, rfl, _, _, rfl, _, _, rfl, rfl, rfl, ?_⟩
      refine ⟨_, rfl, _, rfl, _, l, c, rfl, (il.keep sm).keep sU, (hb l (mem_at hl2)).2.2.1, (hb l (mem_at hl2)).2.2.2, _, sU _ _ hD, ?_, fun b o e => ?_, ?_⟩
      · rw [List.length_map]
        exact small1000 (Nat.le_trans (List.length_take_le _ _) (by omega))
      · rw [upd_ne (ne_of_none e nD)]
        exact sU _ _ (sm _ _ e)
      · rw [upd_same, List.take_add_one, show (placeL L p)[i]? = _ from zip_get hl2 ec, List.map_append]
        rfl
    · rintro H' ⟨sm, hD⟩
      rw [take_all (n := xs.length) (by rw [show (placeL L p).length = L.length from zip_len hl]; omega)] at hD
      exact q H' D ((s1.trans s2).trans sm) hD
theorem ok_formsOf (F : FnP K "forms_of" sFormsOf f fd) (o_unk : Ok P w K mg base "form_of_unknown" 1 ["many", "at", "constant", "number"] spUnk) (o_cls : Ok P w K mg base "class_count" 1 ["limit", "count"] spClsCount) (o_step : Ok P w K mg base "step_of" 1 ["limit", "count"] spStep) (z_zip : mg "zip" = none) (z_enum : mg "enumerate" = none) (z_len : mg "len" = none) :
    FnOk P w K mg base CX0 2 f fd ["limits", "point"] spFormsOf := by
  have nd := scFormsOf.nd
  refine F.ok scFormsOf (fun vs H Q E h => ?_) (fun cdv A outer s H vs Q E hr h => ?_)
  · obtain ⟨l, a, L, p, rfl, _⟩ := h
    rfl
  · obtain ⟨m, a, L, p, rfl, ⟨xs, hm, hL⟩, ⟨h3, hb⟩, ha, hl, q⟩ := h
    have lx := hL.len
    have r1 : Room 1 (A.deeper (envOfC "forms_of" (defScope sFormsOf) s.heap.objs.size f cdv)) := hr
    refine ⟨_, PSs.nox (pss_one (ps_ret (pe_lc (own := [("at", 2), ("limit", 3), ("count", 4)]) (g := gTup K 2 (gCons (gName 2) (gCons (gTup K 2 (gCons (gName 3) (gCons (gName 4) gNil))) gNil))) (by rfl) nd (pi_enumZ (by rfl) z_enum (by rfl) z_zip (pa_cons (pv 0) (pa_cons (pv 1) pa_nil))) (blkOk_by (N := ["limits", "point", "at", "limit", "count"]) (sc := defScope sFormsOf) (own := [("at", 2), ("limit", 3), ("count", 4)]) (by decide +kernel))
        (fun _ _ _ _ _ => pg_tup rfl (pgs_cons (pg_name (i := 2) nd rfl (Or.inl rfl)) (pgs_cons (pg_tup rfl (pgs_cons (pg_name (i := 3) nd rfl (Or.inl rfl)) (pgs_cons (pg_name (i := 4) nd rfl (Or.inl rfl)) pgs_nil))) pgs_nil))) (fun _ _ _ _ _ => pts_nil)
        (fun _ _ _ _ _ => pe_callO o_unk r1 (by rfl) (pa_cons (pe_callB (call_lenK (K := K) rfl) (by rfl) z_len boot_len (pa_cons (pv 0) pa_nil)) (pa_cons (pv 2) (pa_cons (pe_callO o_cls r1 (by rfl) (pa_cons (pv 3) (pa_cons (pv 4) pa_nil))) (pa_cons (pe_callO o_step r1 (by rfl) (pa_cons (pv 3) (pa_cons (pv 4) pa_nil))) pa_nil)))))))), ?_⟩
    refine ⟨_, rfl, _, rfl, m, a, xs, p.map V.int, rfl, ⟨SqL.of hm, SqL.of ha⟩, fun D nD => ?_⟩
    refine lc_enumZ (K := K) (a := m) (b := a) (xs := xs) (ys := p.map V.int) (by rw [List.length_map]; omega) (fun k H' => Same H H' ∧ ∃ acc, H' D = some (.lst acc) ∧ Fts H' acc ((List.range k).map (formAt L p))) ⟨same_new nD, [], upd_same, .nil⟩ (fun i H' z => ⟨SqL.of (z.1 _ _ hm), SqL.of (z.1 _ _ ha)⟩) ?_ ?_
    · rintro i x0 y0 U V' H' hx0 hy0 ⟨sm, acc, hD, hA⟩ nU nV ne
      obtain ⟨l, hl2, il⟩ := hL.get hx0
      rw [List.getElem?_map] at hy0
      obtain ⟨c, ec, rfl⟩ := Option.map_eq_some_iff.mp hy0
      have sU := same_new (o := .tup [x0, .int c]) nU
      have nV2 : (upd H' U (.tup [x0, .int c])) V' = none := by
        rw [upd_ne ne]
        exact nV
      have sV := same_new (o := .tup [.int (i : Nat), .ref U]) nV2
      have sUV := sU.trans sV
      have li : i < 3 := by
        have := (List.getElem?_eq_some_iff.mp ec).1
        omega
      have hU := sV _ _ (upd_same (H := H') (a := U) (o := .tup [x0, .int c]))
      have iv := (il.keep sm).keep sUV
      refine ⟨V', _, rfl, SqT.of upd_same, rfl, _, _, rfl, _, _, rfl, ⟨U, _, rfl, SqT.of hU, rfl, _, _, rfl, _, _, rfl, rfl, rfl, rfl, ?_⟩⟩
      refine ⟨.ref m, rfl, _, L.length, rfl, .inl ⟨_, SqL.of (sUV _ _ (sm _ _ hm)), lx.symm⟩, _, rfl, _, rfl, _, rfl, _, l, c, rfl, iv, (hb l (mem_at hl2)).2.2.1, _, rfl, _, rfl, _, l, c, rfl, iv, L.length, i, _, _, rfl, h3, fun H5 r s5 nr hr5 => ?_⟩
      have hD5 := s5 _ _ (sUV _ _ hD)
      refine ⟨acc, hD5, ?_, fun b o e => ?_, acc ++ [.ref r], upd_same, ?_⟩
      · have := hA.len
        rw [List.length_map, List.length_range] at this
        exact small1000 (by omega)
      · rw [upd_ne (ne_of_none e nD)]
        exact s5 _ _ (sUV _ _ (sm _ _ e))
      · rw [List.range_succ, List.map_append]
        refine Fts.updL hD5 (((hA.keep sUV).keep s5).snoc ⟨r, rfl, ?_⟩)
        show H5 r = some (.tup ((formAt L p i).map V.int))
        unfold formAt
        rw [limD0_at hl2, cnt_at ec]
        exact hr5
    · rintro H' ⟨sm, acc, hD, hA⟩
      rw [lx] at hA
      exact q H' D sm nD ⟨acc, hD, hA⟩
theorem ok_classForms (F : FnP K "class_forms" sClassForms f fd) (T : GT K mg C) (o_reqPt : Ok P w K mg base "require_grid_point" 4 ["grid", "point"] (spReqPt C)) (o_forms : Ok P w K mg base "forms_of" 2 ["limits", "point"] spFormsOf) (o_limits : OkMt P w K mg base C "limits" (spLimits C)) : FnOk P w K mg base CX0 5 f fd ["grid", "point"] (spClassForms C) := by
  refine F.ok scClassForms (fun vs H Q E h => ?_) (fun cdv A outer s H vs Q E hr h => ?_)
  · obtain ⟨x, a, L, p, rfl, _⟩ := h
    rfl
  · obtain ⟨x, a, L, p, rfl, hx, hok, ha, hl, h0, q⟩ := h
    have h3 := hok.1
    refine ⟨_, PSs.nox (pss_cons (ps_expr (pe_callO o_reqPt hr (by rfl) (pa_cons (pv 0) (pa_cons (pv 1) pa_nil)))) (pss_one (ps_ret (pe_callO o_forms (hr.mono (by decide)) (by rfl) (pa_cons (pe_limits o_limits T (pv 0) (hr.mono (by decide))) (pa_cons (pv 1) pa_nil)))))), ?_⟩
    refine ⟨_, rfl, _, rfl, x, a, L, p, rfl, hx, ha, hl, by omega, h0, fun H1 s1 => ?_⟩
    refine ⟨_, rfl, x, L, rfl, hx.keep s1, fun H2 m s2 nm hL => ⟨_, rfl, m, a, L, p, rfl, hL, hok, s2 _ _ (s1 _ _ ha), hl, fun H3 r s3 nr hF => ?_⟩⟩
    exact q H3 r ((s1.trans s2).trans s3) (was_new (s1.trans s2) nr) hF
theorem ok_reqFiner (F : FnP K "require_finer" sReqFiner f fd) (T : GT K mg C) (o_refines : Ok P w K mg base "refines" 3 ["one", "other"] (spRefines C)) (o_many : OkMt P w K mg base C "many" (spMany C)) : FnOk P w K mg base CX0 4 f fd ["finer", "grid", "argument"] (spReqFiner C) := by
  refine F.ok scReqFiner (fun vs H Q E h => ?_) (fun cdv A outer s H vs Q E hr h => ?_)
  · obtain ⟨x, y, v, L, M, rfl, _⟩ := h
    rfl
  · obtain ⟨x, y, v, L, M, rfl, hx, hy, hl, hM, hL, hR, q⟩ := h
    refine ⟨_, PSs.nox (pss_one (ps_if (PW.pt (pw_or (pt_cmpR op_ne (pe_many o_many T (pv 0) (hr.mono (by decide))) (pe_many o_many T (pv 1) (hr.mono (by decide))) (nomark _)) (pw_or1 (pt_not (pt_val (pe_callO o_refines hr (by rfl) (pa_cons (pv 0) (pa_cons (pv 1) pa_nil)))))))) (pss_one ps_never) pss_nil)), ?_⟩
    refine ⟨_, rfl, x, M, rfl, hx, _, rfl, y, L, rfl, hy, rfl, false, ?_, iteF ⟨_, rfl, _, rfl, x, y, M, L, rfl, hx, hy, hl, hM, hL, fun H1 s1 => ⟨true, ?_, iteF (q H1 s1)⟩⟩⟩
    · rw [hl]
      refine congrArg V.bl ?_
      simp
    · rw [hR]
end
end KB
set_option Elab.async false
set_option linter.all false
set_option maxRecDepth 100000
set_option maxHeartbeats 4000000
namespace KB
open PySem PySem.Spec PyProof.Rows L2 XV
theorem lay_ints : ∀ l : List Int, PyData.canLayAll0 (l.map PyData.int) = true
  | [] => by simp [PyData.canLayAll0]
  | x :: l => by simp [PyData.canLayAll0, PyData.canLay0, lay_ints l]
theorem depth_ints : ∀ l : List Int, PyData.depthAll (l.map PyData.int) = 0
  | [] => by simp [PyData.depthAll]
  | x :: l => by simp [PyData.depthAll, PyData.depth, depth_ints l]
theorem shaped_lst (l : List Int) : SeqAt.shaped (.list (l.map PyData.int)) = true := by simp [SeqAt.shaped, PyData.canLay0, lay_ints, PyData.depth, depth_ints]
theorem dp_ints {K : PySem.W.Frag} {H : Hp} : ∀ l : List Int, DpAll K H (l.map V.int) (l.map PyData.int)
  | [] => .nil
  | x :: l => .cons (.int x) (dp_ints l)
theorem eqv_intsA : ∀ p q : List Int, PyData.eqvAll (p.map PyData.int) (q.map PyData.int) = decide (p = q)
  | [], [] => by simp [PyData.eqvAll]
  | [], m :: M => by simp [PyData.eqvAll]
  | l :: L, [] => by simp [PyData.eqvAll]
  | l :: L, m :: M => by
    have ih := eqv_intsA L M
    simp only [List.map_cons, PyData.eqvAll, PyData.eqv, ih, List.cons.injEq]
    by_cases h1 : l = m <;> by_cases h2 : L = M <;> simp [h1, h2]
theorem eqv_ints (p q : List Int) : PyData.eqv (.list (p.map PyData.int)) (.list (q.map PyData.int)) = decide (p = q) := by
  simp only [PyData.eqv]
  exact eqv_intsA p q
theorem cls1_same {l m : Lim} {x t : Int} (h1 : m.1 ≤ l.1) (hx : l.1 ≤ x) (hd : l.2 % m.2 = 0) (ht : 0 ≤ t) (hl : 0 ≤ l.2) : cls1 m (x + t * l.2) = cls1 m x := by
  have hp : 0 ≤ t * l.2 := Int.mul_nonneg ht hl
  unfold cls1
  rw [if_neg (by omega), if_neg (by omega)]
  obtain ⟨q, hq⟩ := Int.dvd_of_emod_eq_zero hd
  have e : x + t * l.2 - m.1 = (x - m.1) + m.2 * (t * q) := by
    have : t * l.2 = m.2 * (t * q) := by rw [hq, ← Int.mul_assoc, Int.mul_comm t m.2, Int.mul_assoc]
    omega
  rw [e, Int.add_mul_emod_self_left]
end KB
set_option Elab.async false
set_option linter.all false
set_option maxRecDepth 100000
set_option maxHeartbeats 4000000
namespace KB
open PySem PySem.Spec PyProof.Rows L2 XV
theorem op_eqDK {X : Cx} {K : PySem.W.Frag} (e : X.K = K) (hu : X.A.units + 64 < cLine) : OpR X (compareOp .Eq) (rEqD K) := by
  subst e
  exact op_eqD hu
abbrev sWithin : Stmt := top 34
abbrev sLed : Stmt := top 35
abbrev nLed : List Str := ["finer", "point", "grid", "rows", "at", "count", "limit", "wide"]
theorem scWithin : FnScope ["grid", "point", "finer", "wanted", "small"] ["grid", "point", "finer"] (defScope sWithin) := ⟨rfl, rfl, rfl, by decide +kernel, rfl, by decide +kernel, by decide +kernel⟩
theorem scLed : FnScope nLed ["finer", "point", "grid"] (defScope sLed) := ⟨rfl, rfl, rfl, by decide +kernel, rfl, by decide +kernel, by decide +kernel⟩
def inC (L : List Lim) (c : List Int) (s : List Int) : Bool := decide (clsL L s = c)
def withinL (L M : List Lim) (c : List Int) : List (List Int) := (box (sizes M)).filter (inC L c)
def spWithin (C : Addr) : Sp := fun vs H Q _ => ∃ (x a y : Addr) (L M : List Lim) (p : List Int), vs = [.ref x, .ref a, .ref y] ∧ Gr C H x L ∧ Gr C H y M ∧ H a = some (.lst (p.map V.int)) ∧ L.length = p.length ∧ M.length = L.length ∧ Lok L ∧ Bnd 6 9 M ∧ (∀ y ∈ p, 0 ≤ y) ∧ refB M L = true ∧
  ∀ (H' : Hp) (r : Addr) (xs : List V), Same H H' → H r = none → H' r = some (.lst xs) → Pts H' xs (withinL L M (clsL L p)) → Nw H xs → Q (.ref r) H'
def ledAt (L M : List Lim) (low : List Int) (i : Nat) : List Int := unkF L.length i (turn1 (limD0 L i) (low.getD i 0)) (step1 (limD0 M i) (low.getD i 0) / (limD0 L i).2)
def ledL (L M : List Lim) (low : List Int) : List (List Int) := (List.range L.length).map (ledAt L M low)
def spLed (C : Addr) : Sp := fun vs H Q _ => ∃ (y a x : Addr) (L M : List Lim) (p : List Int), vs = [.ref y, .ref a, .ref x] ∧ Gr C H x L ∧ Gr C H y M ∧ H a = some (.lst (p.map V.int)) ∧ L.length = p.length ∧ M.length = L.length ∧ Lok L ∧ Bnd 6 9 M ∧ (∀ y ∈ p, 0 ≤ y) ∧ refB M L = true ∧
  ∀ (H' : Hp) (r : Addr), Same H H' → H r = none → FL H' r (ledL L M (clsL M p)) → Q (.ref r) H'
theorem bnd_ok {L : List Lim} {t p : Int} (h : Bnd t p L) (h3 : L.length ≤ 3) (ht : t < 1000) (hp : p < 1000) : Lok L := ⟨h3, fun l hl => by
  have := h l hl
  omega⟩
theorem cls1_nn {l : Lim} {c : Int} (h0 : 0 ≤ l.1) (h1 : 1 ≤ l.2) (hc : 0 ≤ c) : 0 ≤ cls1 l c := by
  unfold cls1
  split
  · exact hc
  · have := Int.emod_nonneg (c - l.1) (show l.2 ≠ 0 by omega)
    omega
theorem clsL_nn {L : List Lim} (h : ∀ l ∈ L, 0 ≤ l.1 ∧ 1 ≤ l.2) : ∀ {p : List Int}, (∀ y ∈ p, 0 ≤ y) → ∀ y ∈ clsL L p, 0 ≤ y := fun {p} hp y hy => by
  obtain ⟨i, hi⟩ := List.mem_iff_getElem?.mp hy
  obtain ⟨l, c, e1, e2, rfl⟩ := List.getElem?_zipWith_eq_some.mp hi
  have := h l (mem_at e1)
  exact cls1_nn this.1 this.2 (hp c (mem_at e2))
section
variable {P : Program} {w : World} {K : PySem.W.Frag} {mg : Str → Option Value} {base : Heap} {f : Addr} {fd : FuncData} {C : Addr}
theorem ok_within (F : FnP K "within" sWithin f fd) (o_reqPt : Ok P w K mg base "require_grid_point" 4 ["grid", "point"] (spReqPt C)) (o_grid : Ok P w K mg base "require_grid" 1 ["grid"] (spReqGrid C)) (o_finer : Ok P w K mg base "require_finer" 4 ["finer", "grid", "argument"] (spReqFiner C))
    (o_cls : Ok P w K mg base "class_of" 5 ["grid", "point"] (spClassOf C)) (o_classes : Ok P w K mg base "classes" 2 ["grid"] (spClassesP C)) : FnOk P w K mg base CX0 6 f fd ["grid", "point", "finer"] (spWithin C) := by
  have nd := scWithin.nd
  refine F.ok scWithin (fun vs H Q E h => ?_) (fun cdv A outer s H vs Q E hr h => ?_)
  · obtain ⟨x, a, y, L, M, p, rfl, _⟩ := h
    rfl
  · obtain ⟨x, a, y, L, M, p, rfl, hx, hy, ha, hl, hlM, hok, hbM, h0, hR, q⟩ := h
    have hu := hr.units
    have r5 : Room 5 (A.deeper (envOfC "within" (defScope sWithin) s.heap.objs.size f cdv)) := hr
    have r4 := r5.mono (by decide : 4 ≤ 5)
    have r2 := r5.mono (by decide : 2 ≤ 5)
    have r1 := r5.mono (by decide : 1 ≤ 5)
    have h3 := hok.1
    have hokM : Lok M := bnd_ok hbM (by omega) (by decide) (by decide)
    refine ⟨_, PSs.nox (pss_cons (ps_expr (pe_callO o_reqPt r4 (by rfl) (pa_cons (pv 0) (pa_cons (pv 1) pa_nil))))
      (pss_cons (ps_expr (pe_callO o_grid r1 (by rfl) (pa_cons (pv 2) pa_nil)))
      (pss_cons (ps_expr (pe_callO o_finer r4 (by rfl) (pa_cons (pv 2) (pa_cons (pv 0) (pa_cons (pv 2) pa_nil)))))
      (pss_cons (ps_set (i := 3) nd rfl (Or.inr rfl) (pe_callO o_cls r5 (by rfl) (pa_cons (pv 0) (pa_cons (pv 1) pa_nil))))
      (pss_one (ps_ret (pe_lc (own := [("small", 4)]) (g := gName 4) (by rfl) nd (pi_list (pe_callO o_classes r2 (by rfl) (pa_cons (pv 2) pa_nil))) (blkOk_by (N := ["grid", "point", "finer", "wanted", "small"]) (sc := defScope sWithin) (own := [("small", 4)]) (by decide +kernel)) (fun _ _ _ _ _ => pg_name (i := 4) nd rfl (Or.inl rfl))
        (fun _ _ _ _ _ => pts_one (pt_cmpR (op_eqDK (K := K) rfl hu) (pe_callO o_cls r5 (by rfl) (pa_cons (pv 0) (pa_cons (pv 4) pa_nil))) (pv 3) (nomark _))) (fun _ _ _ _ _ => pv 4)))))))), ?_⟩
    refine ⟨_, rfl, _, rfl, x, a, L, p, rfl, hx, ha, hl, by omega, h0, fun H1 s1 => ?_⟩
    refine ⟨_, rfl, y, M, rfl, hy.keep s1, _, rfl, _, rfl, _, rfl, y, x, _, L, M, rfl, hy.keep s1, hx.keep s1, hlM, hokM, hok, hR, fun H2 s2 => ?_⟩
    have s12 := s1.trans s2
    refine ⟨_, rfl, _, rfl, x, a, L, p, rfl, hx.keep s12, hok, s12 _ _ ha, hl, h0, fun H3 c s3 hc => ?_⟩
    have s13 := s12.trans s3
    refine ⟨_, rfl, y, M, rfl, hy.keep s13, by omega, hbM, fun H4 r xs s4 nr hr4 hP nw => ⟨r, rfl, ⟨_, SqL.of hr4⟩, fun D nD => ?_⟩⟩
    have s14 := s13.trans s4
    have lx := hP.len
    have nDH : H D = none := was_new s14 nD
    have hnP : ∀ s ∈ box (sizes M), s.length = L.length ∧ ∀ v ∈ s, 0 ≤ v := fun s hs => by
      obtain ⟨e1, e2⟩ := box_fit (S := sizes M) (sizes M).length (Nat.le_refl _) s (by rw [List.take_length]; exact hs)
      have lS : (sizes M).length = M.length := List.length_map ..
      refine ⟨by omega, fun v hv => ?_⟩
      obtain ⟨i, hi⟩ := List.mem_iff_getElem?.mp hv
      have li := (List.getElem?_eq_some_iff.mp hi).1
      exact (e2 i v _ hi (List.getElem?_eq_getElem (by omega))).1
    have lB : (box (sizes M)).length ≤ 3375 := by
      have hb : ∀ s ∈ sizes M, 0 ≤ s ∧ s ≤ 15 := fun s hs => by
        obtain ⟨l, hl, rfl⟩ := List.mem_map.mp hs
        have := hbM l hl
        omega
      have lS : (sizes M).length = M.length := List.length_map ..
      have h1 := box_len hb (sizes M).length (Nat.le_refl _)
      rw [List.take_length] at h1
      have h2 : 15 ^ (sizes M).length ≤ 15 ^ 3 := Nat.pow_le_pow_right (by decide) (by omega)
      omega
    refine lc_list (K := K) (a := r) (xs := xs) (fun k H' => Same H4 H' ∧ ∃ acc, H' D = some (.lst acc) ∧ Nw H acc ∧ (∀ x ∈ acc, x ≠ .ref D) ∧ Pts H' acc (((box (sizes M)).take k).filter (inC L (clsL L p)))) ⟨same_new nD, [], upd_same, (fun x hx => by cases hx), (fun x hx => by cases hx), .nil⟩ (fun k H' _ z => SqL.of (z.1 _ _ hr4)) ?_ ?_
    · rintro k y0 H' hk ⟨sm, acc, hD, nA, hn, hA⟩
      obtain ⟨s, es, ⟨sa, rfl, hsa⟩⟩ := hP.get hk
      obtain ⟨ls, hs0⟩ := hnP s (mem_at es)
      have S := s14.trans sm
      refine ⟨rfl, ?_⟩
      refine ⟨_, rfl, _, rfl, x, sa, L, s, rfl, hx.keep S, hok, sm _ _ hsa, ls.symm, hs0, fun H5 r5 s5 h5 => ?_⟩
      have hc5 := ((s4.trans sm).trans s5) _ _ hc
      refine ⟨_, rfl, _, _, .lst (SqL.of h5) (dp_ints _), .lst (SqL.of hc5) (dp_ints _), shaped_lst _, shaped_lst _, ?_⟩
      rw [eqv_ints]
      have et : ((box (sizes M)).take (k + 1)).filter (inC L (clsL L p)) = ((box (sizes M)).take k).filter (inC L (clsL L p)) ++ (if clsL L s = clsL L p then [s] else []) := by
        rw [List.take_add_one, es, List.filter_append]
        congr 1
        show List.filter (inC L (clsL L p)) [s] = _
        rw [List.filter_cons]
        unfold inC
        by_cases c : clsL L s = clsL L p
        · rw [decide_eq_true c, if_pos rfl, if_pos c]
          rfl
        · rw [decide_eq_false c, if_neg (by decide), if_neg c]
          rfl
      refine ⟨_, rfl, ?_⟩
      by_cases e : clsL L s = clsL L p
      · rw [decide_eq_true e]
        rw [if_pos e] at et
        have hD5 := s5 _ _ hD
        have naD : sa ≠ D := fun z => by
          have h1 := sm _ _ hsa
          rw [z, hD] at h1
          rw [z] at hsa
          rw [hsa] at nD
          cases nD
        refine iteT ⟨_, rfl, acc, hD5, ?_, fun b o e => ?_, acc ++ [.ref sa], upd_same, ?_, ?_, ?_⟩
        · have h1 := hA.len
          have h2 := List.length_filter_le (inC L (clsL L p)) ((box (sizes M)).take k)
          rw [List.length_take] at h2
          exact small5000 (by omega)
        · rw [upd_ne (ne_of_none (H := H4) e nD)]
          exact s5 _ _ (sm _ _ e)
        · intro z hz a' ez
          rcases List.mem_append.mp hz with h | h
          · exact nA z h a' ez
          · rcases List.mem_singleton.mp h with rfl
            cases ez
            exact was_new s13 (nw _ (mem_at hk) _ rfl)
        · intro z hz
          rcases List.mem_append.mp hz with h | h
          · exact hn z h
          · rcases List.mem_singleton.mp h with rfl
            exact fun z => naD (V.ref.inj z)
        · rw [et]
          refine Pts.updL ?_ (Pts.snoc ⟨sa, rfl, s5 _ _ (sm _ _ hsa)⟩ (hA.keep s5))
          intro z hz
          rcases List.mem_append.mp hz with h | h
          · exact hn z h
          · rcases List.mem_singleton.mp h with rfl
            exact fun z => naD (V.ref.inj z)
      · rw [decide_eq_false e]
        rw [if_neg e, List.append_nil] at et
        refine iteF ⟨sm.trans s5, acc, s5 _ _ hD, nA, hn, ?_⟩
        rw [et]
        exact hA.keep s5
    · rintro H' ⟨sm, acc, hD, nA, hn, hA⟩
      rw [lx, List.take_length] at hA
      exact q H' D acc (s14.trans sm) nDH hD hA nA
theorem ok_led (F : FnP K "led_forms" sLed f fd) (T : GT K mg C) (o_reqPt : Ok P w K mg base "require_grid_point" 4 ["grid", "point"] (spReqPt C)) (o_grid : Ok P w K mg base "require_grid" 1 ["grid"] (spReqGrid C)) (o_finer : Ok P w K mg base "require_finer" 4 ["finer", "grid", "argument"] (spReqFiner C))
    (o_cls : Ok P w K mg base "class_of" 5 ["grid", "point"] (spClassOf C)) (o_limits : OkMt P w K mg base C "limits" (spLimits C)) (o_many : OkMt P w K mg base C "many" (spMany C)) (o_unk : Ok P w K mg base "form_of_unknown" 1 ["many", "at", "constant", "number"] spUnk) (o_turns : Ok P w K mg base "turns_of" 2 ["limit", "count"] spTurns)
    (o_step : Ok P w K mg base "step_of" 1 ["limit", "count"] spStep) (z_zip : mg "zip" = none) (z_list : mg "list" = none) (z_enum : mg "enumerate" = none) : FnOk P w K mg base CX0 6 f fd ["finer", "point", "grid"] (spLed C) := by
  have nd := scLed.nd
  refine F.ok scLed (fun vs H Q E h => ?_) (fun cdv A outer s H vs Q E hr h => ?_)
  · obtain ⟨y, a, x, L, M, p, rfl, _⟩ := h
    rfl
  · obtain ⟨y, a, x, L, M, p, rfl, hx, hy, ha, hl, hlM, hok, hbM, h0, hR, q⟩ := h
    have r5 : Room 5 (A.deeper (envOfC "led_forms" (defScope sLed) s.heap.objs.size f cdv)) := hr
    have r4 := r5.mono (by decide : 4 ≤ 5)
    have r2 := r5.mono (by decide : 2 ≤ 5)
    have r1 := r5.mono (by decide : 1 ≤ 5)
    have h3 := hok.1
    have hokM : Lok M := bnd_ok hbM (by omega) (by decide) (by decide)
    refine ⟨_, PSs.nox (pss_cons (ps_expr (pe_callO o_reqPt r4 (by rfl) (pa_cons (pv 0) (pa_cons (pv 1) pa_nil))))
      (pss_cons (ps_expr (pe_callO o_grid r1 (by rfl) (pa_cons (pv 2) pa_nil)))
      (pss_cons (ps_expr (pe_callO o_finer r4 (by rfl) (pa_cons (pv 0) (pa_cons (pv 2) (pa_cons (pv 2) pa_nil)))))
      (pss_cons (ps_set (i := 3) nd rfl (Or.inl rfl) (pe_listZ3 (by rfl) (by rfl) z_list (by rfl) z_zip (pa_cons (pe_callO o_cls r5 (by rfl) (pa_cons (pv 0) (pa_cons (pv 1) pa_nil))) (pa_cons (pe_limits o_limits T (pv 0) r1) (pa_cons (pe_limits o_limits T (pv 2) r1) pa_nil)))))
      (pss_one (ps_ret (pe_lc (own := [("at", 4), ("count", 5), ("limit", 6), ("wide", 7)]) (g := gTup K 2 (gCons (gName 4) (gCons (gTup K 3 (gCons (gName 5) (gCons (gName 6) (gCons (gName 7) gNil)))) gNil))) (by rfl) nd (pi_enum (by rfl) z_enum (pa_cons (pv 3) pa_nil)) (blkOk_by (N := nLed) (sc := defScope sLed) (own := [("at", 4), ("count", 5), ("limit", 6), ("wide", 7)]) (by decide +kernel))
        (fun _ _ _ _ _ => pg_tup rfl (pgs_cons (pg_name (i := 4) nd rfl (Or.inl rfl)) (pgs_cons (pg_tup rfl (pgs_cons (pg_name (i := 5) nd rfl (Or.inl rfl)) (pgs_cons (pg_name (i := 6) nd rfl (Or.inl rfl)) (pgs_cons (pg_name (i := 7) nd rfl (Or.inl rfl)) pgs_nil)))) pgs_nil))) (fun _ _ _ _ _ => pts_nil)
        (fun _ _ _ _ _ => pe_callO o_unk r1 (by rfl) (pa_cons (pe_many o_many T (pv 2) r1) (pa_cons (pv 4) (pa_cons (pe_callO o_turns r2 (by rfl) (pa_cons (pv 7) (pa_cons (pv 5) pa_nil))) (pa_cons (pe_op op_fdiv (pe_callO o_step r1 (by rfl) (pa_cons (pv 6) (pa_cons (pv 5) pa_nil))) (pe_ix (ix_tupK (K := K) rfl) (pv 7) pe_int (fun _ _ => rfl))) pa_nil)))))))))))), ?_⟩
    refine ⟨_, rfl, _, rfl, y, a, M, p, rfl, hy, ha, by omega, by omega, h0, fun H1 s1 => ?_⟩
    refine ⟨_, rfl, x, L, rfl, hx.keep s1, _, rfl, _, rfl, _, rfl, y, x, _, L, M, rfl, hy.keep s1, hx.keep s1, hlM, hokM, hok, hR, fun H2 s2 => ?_⟩
    have s12 := s1.trans s2
    refine ⟨_, rfl, _, rfl, y, a, M, p, rfl, hy.keep s12, hokM, s12 _ _ ha, by omega, h0, fun H3 c s3 hc => ?_⟩
    have s13 := s12.trans s3
    refine ⟨_, rfl, y, M, rfl, hy.keep s13, fun H4 m s4 nm ⟨ms, hm, hM⟩ => ⟨_, rfl, x, L, rfl, hx.keep (s13.trans s4), fun H5 n s5 nn ⟨ns, hn, hL⟩ => ?_⟩⟩
    have s45 := s4.trans s5
    have lc : (clsL M p).length = M.length := zip_len (by omega)
    have lM := hM.len
    have lL := hL.len
    refine ⟨c, m, n, _, ms, ns, rfl, s45 _ _ hc, s5 _ _ hm, hn, by rw [List.length_map]; omega, by rw [List.length_map]; omega, by rw [List.length_map]; omega, fun H6 r Ts s6 nr hr6 lT tr => ?_⟩
    have s16 := (s13.trans s45).trans s6
    refine ⟨_, rfl, r, _, rfl, SqL.of hr6, fun D nD => ?_⟩
    rw [List.length_map] at lT
    refine lc_enum (K := K) (a := r) (xs := Ts.map V.ref) (fun k H' => Same H6 H' ∧ ∃ acc, H' D = some (.lst acc) ∧ Fts H' acc ((List.range k).map (ledAt L M (clsL M p)))) ⟨same_new nD, [], upd_same, .nil⟩ (fun i H' z => SqL.of (z.1 _ _ hr6)) ?_ ?_
    · rintro i x0 U H' hx0 ⟨sm, acc, hD, hA⟩ nU
      rw [List.getElem?_map] at hx0
      obtain ⟨t, et, rfl⟩ := Option.map_eq_some_iff.mp hx0
      have li : i < L.length := by
        have := (List.getElem?_eq_some_iff.mp et).1
        omega
      have ec : (clsL M p)[i]? = some (clsL M p)[i] := List.getElem?_eq_getElem (by omega)
      have em : M[i]? = some M[i] := List.getElem?_eq_getElem (by omega)
      have el : L[i]? = some L[i] := List.getElem?_eq_getElem li
      generalize (clsL M p)[i] = cc at ec
      generalize M[i] = mm at em
      generalize L[i] = ll at el
      obtain ⟨vm, evm, ivm⟩ := hM.at em
      obtain ⟨vl, evl, ivl⟩ := hL.at el
      have ht := tr i t (.int cc) vm vl et (by rw [List.getElem?_map, ec]; rfl) evm evl
      have sU := same_new (o := .tup [.int (i : Nat), .ref t]) nU
      have S := sm.trans sU
      have ht' := S _ _ ht
      have ivm' : IsLim (upd H' U (.tup [.int (i : Nat), .ref t])) vm mm := ivm.keep ((s5.trans s6).trans S)
      have ivl' : IsLim (upd H' U (.tup [.int (i : Nat), .ref t])) vl ll := ivl.keep (s6.trans S)
      have bl := hok.2 ll (mem_at el)
      refine ⟨U, _, rfl, SqT.of upd_same, rfl, _, _, rfl, _, _, rfl, ⟨t, _, rfl, SqT.of ht', rfl, _, _, rfl, _, _, rfl, _, _, rfl, rfl, rfl, rfl, ?_⟩⟩
      obtain ⟨tl, rfl, htl⟩ := id ivl'
      refine ⟨_, rfl, x, L, rfl, hx.keep (s16.trans S), _, rfl, _, rfl, _, rfl, _, ll, cc, rfl, ivl', bl.2.2.1, bl.2.2.2, _, rfl, _, rfl, _, mm, cc, rfl, ivm', _, rfl, tl, _, _, _, rfl, rfl, SqT.of htl, (show atI [V.int ll.1, V.int ll.2] ((1 : Nat) : Int) = _ from atI_nat rfl), _, _, rfl, rfl, ⟨by show 0 < ll.2; omega, by show ll.2 < 1073741824; omega⟩, L.length, i, _, _, rfl, h3, fun H8 v s8 nv hv8 => ?_⟩
      have hD8 := s8 _ _ (sU _ _ hD)
      refine ⟨acc, hD8, ?_, fun b o e => ?_, acc ++ [.ref v], upd_same, ?_⟩
      · have := hA.len
        rw [List.length_map, List.length_range] at this
        exact small1000 (by omega)
      · rw [upd_ne (ne_of_none e nD)]
        exact s8 _ _ (S _ _ e)
      · rw [List.range_succ, List.map_append]
        refine Fts.updL hD8 (((hA.keep sU).keep s8).snoc ⟨v, rfl, ?_⟩)
        show H8 v = some (.tup ((ledAt L M (clsL M p) i).map V.int))
        unfold ledAt
        rw [limD0_at el, limD0_at em, cnt_at ec]
        exact hv8
    · rintro H' ⟨sm, acc, hD, hA⟩
      rw [List.length_map, show Ts.length = L.length by omega] at hA
      exact q H' D (s16.trans sm) (was_new s16 nD) ⟨acc, hD, hA⟩
end
end KB
set_option Elab.async false
set_option linter.all false
set_option maxRecDepth 100000
set_option maxHeartbeats 4000000
namespace KB
open PySem PySem.Spec PyProof.Rows L2 XV
theorem call_isiK {X : Cx} {K : PySem.W.Frag} (e : X.K = K) : CallR X (.builtin "isinstance") (rIsi K) := by
  subst e
  exact call_isi
theorem sz_small {x m : Int} {k : Nat} (h0 : 0 ≤ x) (h1 : x < m) (h : m ≤ 2 ^ k) : Sz k x := ⟨h0, Int.lt_of_lt_of_le h1 h⟩
abbrev sPoint : Stmt := top 57
abbrev sValue : Stmt := top 58
abbrev sIsPt : Stmt := top 59
abbrev sArePts : Stmt := top 60
abbrev sFiner : Stmt := top 62
abbrev nIsPt : List Str := ["_law_many_here", "_law_value_here", "_law_count"]
abbrev nFiner : List Str := ["_law_generator_here", "_law_limits_here", "_law_found", "_law_threshold", "_law_period"]
theorem scPoint : FnScope ["_law_generator_here", "_law_many_here", "_law_bound", "_law_at"] ["_law_generator_here", "_law_many_here", "_law_bound"] (defScope sPoint) := ⟨rfl, rfl, rfl, by decide +kernel, rfl, by decide +kernel, by decide +kernel⟩
theorem scValue : FnScope ["_law_form", "_law_point_here", "_law_at"] ["_law_form", "_law_point_here"] (defScope sValue) := ⟨rfl, rfl, rfl, by decide +kernel, rfl, by decide +kernel, by decide +kernel⟩
theorem scIsPt : FnScope nIsPt ["_law_many_here", "_law_value_here"] (defScope sIsPt) := ⟨rfl, rfl, rfl, by decide +kernel, rfl, by decide +kernel, by decide +kernel⟩
theorem scArePts : FnScope ["_law_many_here", "_law_values", "_law_value_here"] ["_law_many_here", "_law_values"] (defScope sArePts) := ⟨rfl, rfl, rfl, by decide +kernel, rfl, by decide +kernel, by decide +kernel⟩
theorem scFiner : FnScope nFiner ["_law_generator_here", "_law_limits_here"] (defScope sFiner) := ⟨rfl, rfl, rfl, by decide +kernel, rfl, by decide +kernel, by decide +kernel⟩
def spPoint : Sp := fun vs H Q _ => ∃ (g : Addr) (n m : Nat) (b : Int), vs = [.ref g, .int m, .int b] ∧ Dr H g n ∧ n ≤ 500000 ∧ m ≤ 3 ∧ 0 < b ∧ b < 10 ^ 100 ∧ ∀ (H' : Hp) (r : Addr) (p : List Int), p.length = m → (∀ x ∈ p, 0 ≤ x ∧ x < b) → But H H' g → Dr H' g (n + 20 * m) → H r = none → H' r = some (.lst (p.map V.int)) → Q (.ref r) H'
def spValue : Sp := fun vs H Q _ => ∃ (fa pa : Addr) (c : Int) (xs ys : List Int), vs = [.ref fa, .ref pa] ∧ H fa = some (.tup ((c :: xs).map V.int)) ∧ H pa = some (.lst (ys.map V.int)) ∧ xs.length = ys.length ∧ xs.length ≤ 100 ∧
  (∀ x ∈ xs, Sz 1000 x) ∧ (∀ y ∈ ys, Sz 1000 y) ∧ ∀ H', Same H H' → Q (.int (c + dot xs ys)) H'
def spIsPt : Sp := fun vs H Q _ => ∃ (a : Addr) (p : List Int), vs = [.int (p.length : Int), .ref a] ∧ H a = some (.lst (p.map V.int)) ∧ p.length ≤ 3 ∧ (∀ x ∈ p, 0 ≤ x) ∧ ∀ H', Same H H' → Q (.bl true) H'
def spArePts : Sp := fun vs H Q _ => ∃ (a : Addr) (m : Nat) (xs : List V) (P : List (List Int)), vs = [.int m, .ref a] ∧ H a = some (.lst xs) ∧ Pts H xs P ∧ m ≤ 3 ∧ (∀ p ∈ P, p.length = m ∧ ∀ x ∈ p, 0 ≤ x) ∧ ∀ H', Same H H' → Q (.bl true) H'
def spFiner : Sp := fun vs H Q _ => ∃ (g a : Addr) (n : Nat) (L : List Lim), vs = [.ref g, .ref a] ∧ Dr H g n ∧ n ≤ 500000 ∧ LL H a L ∧ L.length ≤ 3 ∧ Bnd 3 3 L ∧ ∀ (H' : Hp) (r : Addr) (M : List Lim), M.length = L.length → Bnd 6 9 M → refB M L = true → But H H' g → Dr H' g (n + 40 * L.length) → H r = none → LL H' r M → Q (.ref r) H'
section
variable {P : Program} {w : World} {K : PySem.W.Frag} {mg : Str → Option Value} {base : Heap} {f : Addr} {fd : FuncData} {C : Addr}
theorem ok_pointL (F : FnP K "_law_point" sPoint f fd) (oRand : Ok P w K mg base "_law_random" 2 ["_law_generator_here", "_law_bound"] spRand) (z_range : mg "range" = none) : FnOk P w K mg base CX0 3 f fd ["_law_generator_here", "_law_many_here", "_law_bound"] spPoint := by
  have nd := scPoint.nd
  refine F.ok scPoint (fun vs H Q E h => ?_) (fun cdv A outer s H vs Q E hr h => ?_)
  · obtain ⟨g, n, m, b, rfl, _⟩ := h
    rfl
  · obtain ⟨g, n, m, b, rfl, dr, hn, hm, b0, b1, q⟩ := h
    have r2 : Room 2 (A.deeper (envOfC "_law_point" (defScope sPoint) s.heap.objs.size f cdv)) := hr
    refine ⟨_, PSs.nox (pss_one (ps_ret (pe_lc (own := [("_law_at", 3)]) (g := gName 3) (by rfl) nd (pi_range1 (by rfl) z_range (pa_cons (pv 1) pa_nil)) (blkOk_by (N := ["_law_generator_here", "_law_many_here", "_law_bound", "_law_at"]) (sc := defScope sPoint) (own := [("_law_at", 3)]) (by decide +kernel)) (fun _ _ _ _ _ => pg_name (i := 3) nd rfl (Or.inl rfl)) (fun _ _ _ _ _ => pts_nil)
        (fun _ _ _ _ _ => pe_callO oRand r2 (by rfl) (pa_cons (pv 0) (pa_cons (pv 2) pa_nil)))))), ?_⟩
    refine ⟨_, rfl, _, rfl, by omega, by omega, fun D nD => ?_⟩
    rw [show ((m : Nat) : Int).toNat = m from by omega]
    have gD := dr_ne dr nD
    refine lc_range (lo := 0) (n := m) (fun k H' => But H H' g ∧ Dr H' g (n + 20 * k) ∧ ∃ p : List Int, p.length = k ∧ (∀ x ∈ p, 0 ≤ x ∧ x < b) ∧ H' D = some (.lst (p.map V.int))) ⟨Same.but (same_new nD), dr_new dr nD, [], rfl, (fun l hl => by cases hl), upd_same⟩ ?_ ?_
    · rintro j H' hj ⟨c1, d1, p, hl, hb, hD⟩
      refine ⟨rfl, ?_⟩
      refine ⟨_, rfl, _, rfl, g, _, b, rfl, d1, by omega, b0, b1, fun H2 x x0 x1 c2 d2 => ?_⟩
      have hD2 := c2 _ _ (Ne.symm gD) hD
      refine ⟨_, hD2, ?_, fun b' o nb e => ?_, ?_, p ++ [x], by simp [hl], ?_, ?_⟩
      · rw [List.length_map]
        exact small1000 (by omega)
      · rw [upd_ne (ne_of_none (H := H) e nD)]
        exact c2 _ _ nb (c1 _ _ nb e)
      · exact dr_upd (d2.mono (by omega)) gD
      · intro y hy
        rcases List.mem_append.mp hy with h | h
        · exact hb y h
        · rcases List.mem_singleton.mp h with rfl
          exact ⟨x0, x1⟩
      · rw [upd_same, List.map_append]
        rfl
    · rintro H' ⟨c1, d1, p, hl, hb, hD⟩
      exact q H' D p hl hb c1 d1 nD hD
theorem ok_value (F : FnP K "_law_value" sValue f fd) (z_sum : mg "sum" = none) (z_range : mg "range" = none) (z_len : mg "len" = none) : FnOk P w K mg base CX0 1 f fd ["_law_form", "_law_point_here"] spValue := by
  have nd := scValue.nd
  refine F.ok scValue (fun vs H Q E h => ?_) (fun cdv A outer s H vs Q E hr h => ?_)
  · obtain ⟨fa, pa, c, xs, ys, rfl, _⟩ := h
    rfl
  · obtain ⟨fa, pa, c, xs, ys, rfl, hf, hp, hl, h100, bx, hy, q⟩ := h
    refine ⟨_, PSs.nox (pss_one (ps_ret (pe_op op_add (pe_ix ix_tup (pv 0) pe_int (fun _ _ => rfl)) (pe_callB (cr_sum rfl) (by rfl) z_sum (by decide +kernel) (pa_cons
      (pe_lc (own := [("_law_at", 2)]) (g := gName 2) (by rfl) nd (pi_range1 (by rfl) z_range (pa_cons (pe_callB call_len (by rfl) z_len boot_len (pa_cons (pv 1) pa_nil)) pa_nil)) (blkOk_by (N := ["_law_form", "_law_point_here", "_law_at"]) (sc := defScope sValue) (own := [("_law_at", 2)]) (by decide +kernel))
        (fun _ _ _ _ _ => pg_name (i := 2) nd rfl (Or.inl rfl)) (fun _ _ _ _ _ => pts_nil)
        (fun _ _ _ _ _ => pe_op op_mulW (pe_ix (ix_tupK (K := K) rfl) (pv 0) (pe_op op_add (pv 2) pe_int) (fun _ _ => rfl)) (pe_ix (ix_listK (K := K) rfl) (pv 1) (pv 2) (fun _ _ => rfl)))) pa_nil))))), ?_⟩
    refine ⟨_, rfl, fa, _, _, _, rfl, rfl, SqT.of hf, (show atI ((c :: xs).map V.int) ((0 : Nat) : Int) = some (V.int c) from atI_nat rfl), _, rfl, _, ys.length, rfl, .inl ⟨_, SqL.of hp, by rw [List.length_map]⟩, (ys.length : Int), rfl, by omega, by omega, fun D nD => ?_⟩
    have eN : ((ys.length : Nat) : Int).toNat = ys.length := by omega
    rw [eN]
    refine lc_range (lo := 0) (n := ys.length) (fun k H' => Same H H' ∧ H' D = some (.lst (((List.zipWith (· * ·) xs ys).take k).map V.int))) ⟨same_new nD, upd_same⟩ ?_ ?_
    · rintro j H' hj ⟨sm, hD⟩
      rw [Int.zero_add]
      have hx : xs[j]? = some xs[j] := List.getElem?_eq_getElem (by omega)
      have hy2 : ys[j]? = some ys[j] := List.getElem?_eq_getElem hj
      have g1 : ((c :: xs).map V.int)[j + 1]? = some (.int xs[j]) := by
        rw [List.map_cons, List.getElem?_cons_succ, List.getElem?_map, hx]
        rfl
      have g2 : (ys.map V.int)[j]? = some (.int ys[j]) := by
        rw [List.getElem?_map, hy2]
        rfl
      refine ⟨rfl, ?_⟩
      refine ⟨_, rfl, _, rfl, _, _, rfl, rfl, fa, _, _, _, rfl, rfl, SqT.of (sm _ _ hf), (show atI ((c :: xs).map V.int) (((j + 1 : Nat)) : Int) = _ from atI_nat g1), _, rfl, _, rfl, pa, _, _, _, rfl, rfl, SqL.of (sm _ _ hp), atI_nat g2, _, _, rfl, rfl,
        (bx _ (List.mem_of_getElem? hx)).mulW (hy _ (List.mem_of_getElem? hy2)) (by decide), _, hD, ?_, fun b o e => ?_, ?_⟩
      · rw [List.length_map]
        exact small1000 (Nat.le_trans (List.length_take_le _ _) (by omega))
      · rw [upd_ne (ne_of_none e nD)]
        exact sm _ _ e
      · rw [upd_same, List.take_add_one, zw_get hx hy2, List.map_append]
        rfl
    · rintro H' ⟨sm, hD⟩
      have el : (List.zipWith (· * ·) xs ys).take ys.length = List.zipWith (· * ·) xs ys := List.take_of_length_le (by simp; exact Nat.min_le_right _ _)
      rw [el] at hD
      exact ⟨D, _, rfl, SqL.of hD, _, _, rfl, rfl, q H' sm⟩
theorem ok_isPt (F : FnP K "_law_is_point" sIsPt f fd) (z_isinstance : mg "isinstance" = none) (z_list : mg "list" = none) (z_len : mg "len" = none) (z_int : mg "int" = none) (z_bool : mg "bool" = none) : FnOk P w K mg base CX0 1 f fd ["_law_many_here", "_law_value_here"] spIsPt := by
  have nd := scIsPt.nd
  refine F.ok scIsPt (fun vs H Q E h => ?_) (fun cdv A outer s H vs Q E hr h => ?_)
  · obtain ⟨a, p, rfl, _⟩ := h
    rfl
  · obtain ⟨a, p, rfl, ha, h3, h0, q⟩ := h
    have hu := hr.units
    refine ⟨_, PSs.nox (pss_cons (ps_if (PW.pt (pw_or (pt_not (pt_val (pe_callB call_isi (by rfl) z_isinstance (by decide +kernel) (pa_cons (pv 1) (pa_cons (pe_bltn (v := .ty "list") (by rfl) z_list (by decide +kernel) rfl) pa_nil))))) (pw_or1 (pt_cmpR op_ne (pe_callB call_len (by rfl) z_len boot_len (pa_cons (pv 1) pa_nil)) (pv 0) (nomark _))))) (pss_one (ps_ret pe_bl)) pss_nil)
      (pss_one (ps_ret (pe_cmpR (op_eqD hu) (pe_lc (own := [("_law_count", 2)]) (g := gName 2) (by rfl) nd (pi_list (pv 1)) (blkOk_by (N := nIsPt) (sc := defScope sIsPt) (own := [("_law_count", 2)]) (by decide +kernel)) (fun _ _ _ _ _ => pg_name (i := 2) nd rfl (Or.inl rfl))
        (fun _ _ _ _ _ => pts_one (PW.pt (pw_or (pt_not (pt_val (pe_callB (call_isiK (K := K) rfl) (by rfl) z_isinstance (by decide +kernel) (pa_cons (pv 2) (pa_cons (pe_bltn (v := .ty "int") (by rfl) z_int (by decide +kernel) rfl) pa_nil))))) (pw_or (pt_val (pe_callB (call_isiK (K := K) rfl) (by rfl) z_isinstance (by decide +kernel) (pa_cons (pv 2) (pa_cons (pe_bltn (v := .ty "bool") (by rfl) z_bool (by decide +kernel) rfl) pa_nil)))) (pw_or1 (pt_cmpR op_lt (pv 2) pe_int (nomark _)))))))
        (fun _ _ _ _ _ => pv 2)) (pe_lst pa_nil) (nomark _))))), ?_⟩
    refine ⟨_, rfl, _, _, _, _, true, rfl, .ty "list", .base (.lst ha), kit_ty (by decide +kernel), true, rfl, iteF ⟨.ref a, rfl, _, p.length, rfl, .inl ⟨_, SqL.of ha, by rw [List.length_map]⟩, _, rfl, rfl, false, ?_, iteF ?_⟩⟩
    · refine congrArg V.bl ?_
      simp
    refine ⟨_, rfl, a, rfl, ⟨_, SqL.of ha⟩, fun D nD => lc_list (K := K) (a := a) (xs := p.map V.int) (fun k H' => Same H H' ∧ H' D = some (.lst [])) ⟨same_new nD, upd_same⟩ (fun k H' _ z => SqL.of (z.1 _ _ ha)) ?_ ?_⟩
    · rintro k y H' hk ⟨sm, hD⟩
      obtain ⟨x, hx, rfl⟩ := List.mem_map.mp (mem_at hk)
      refine ⟨rfl, ?_⟩
      refine ⟨_, rfl, _, _, _, _, true, rfl, .ty "int", .base (.int x), kit_ty (by decide +kernel), true, rfl, iteF ⟨_, rfl, _, _, _, _, false, rfl, .ty "bool", .base (.int x), kit_ty (by decide +kernel), false, rfl, iteF ⟨_, rfl, _, _, rfl, rfl, false, ?_, iteF ⟨sm, hD⟩⟩⟩⟩
      exact congrArg V.bl (decide_eq_false (by have := h0 x hx; omega))
    · rintro H' ⟨sm, hD⟩
      refine ⟨(by show 0 ≤ sizeLine; decide), fun u nu => ?_⟩
      have su := same_new (o := .lst []) nu
      refine ⟨_, _, .lst (SqL.of (su _ _ hD)) (dp_ints []), .lst (SqL.of upd_same) (dp_ints []), shaped_lst [], shaped_lst [], ?_⟩
      rw [eqv_ints]
      exact q _ (sm.trans su)
theorem ok_arePts (F : FnP K "_law_are_points" sArePts f fd) (o_isPt : Ok P w K mg base "_law_is_point" 1 ["_law_many_here", "_law_value_here"] spIsPt) (z_isinstance : mg "isinstance" = none) (z_list : mg "list" = none) : FnOk P w K mg base CX0 2 f fd ["_law_many_here", "_law_values"] spArePts := by
  have nd := scArePts.nd
  refine F.ok scArePts (fun vs H Q E h => ?_) (fun cdv A outer s H vs Q E hr h => ?_)
  · obtain ⟨a, m, xs, P, rfl, _⟩ := h
    rfl
  · obtain ⟨a, m, xs, P', rfl, ha, hP, hm, hb, q⟩ := h
    have hu := hr.units
    have r1 : Room 1 (A.deeper (envOfC "_law_are_points" (defScope sArePts) s.heap.objs.size f cdv)) := hr
    refine ⟨_, PSs.nox (pss_one (ps_ret (pe_and (pe_callB call_isi (by rfl) z_isinstance (by decide +kernel) (pa_cons (pv 1) (pa_cons (pe_bltn (v := .ty "list") (by rfl) z_list (by decide +kernel) rfl) pa_nil))) (pe_one (pe_cmpR (op_eqD hu)
      (pe_lc (own := [("_law_value_here", 2)]) (g := gName 2) (by rfl) nd (pi_list (pv 1)) (blkOk_by (N := ["_law_many_here", "_law_values", "_law_value_here"]) (sc := defScope sArePts) (own := [("_law_value_here", 2)]) (by decide +kernel)) (fun _ _ _ _ _ => pg_name (i := 2) nd rfl (Or.inl rfl))
        (fun _ _ _ _ _ => pts_one (pt_not (pt_val (pe_callO o_isPt r1 (by rfl) (pa_cons (pv 0) (pa_cons (pv 2) pa_nil)))))) (fun _ _ _ _ _ => pv 2)) (pe_lst pa_nil) (nomark _)))))), ?_⟩
    refine ⟨_, rfl, _, _, _, _, true, rfl, .ty "list", .base (.lst ha), kit_ty (by decide +kernel), true, rfl, iteT ⟨_, rfl, a, rfl, ⟨_, SqL.of ha⟩, fun D nD => lc_list (K := K) (a := a) (xs := xs) (fun k H' => Same H H' ∧ H' D = some (.lst [])) ⟨same_new nD, upd_same⟩ (fun k H' _ z => SqL.of (z.1 _ _ ha)) ?_ ?_⟩⟩
    · rintro k y H' hk ⟨sm, hD⟩
      obtain ⟨p, ep, ⟨pa, rfl, hpa⟩⟩ := hP.get hk
      obtain ⟨e1, e2⟩ := hb p (mem_at ep)
      refine ⟨rfl, ?_⟩
      refine ⟨_, rfl, _, rfl, pa, p, by rw [e1]; rfl, sm _ _ hpa, by omega, e2, fun H2 s2 => ⟨true, rfl, iteF ⟨sm.trans s2, s2 _ _ hD⟩⟩⟩
    · rintro H' ⟨sm, hD⟩
      refine ⟨(by show 0 ≤ sizeLine; decide), fun u nu => ?_⟩
      have su := same_new (o := .lst []) nu
      refine ⟨_, _, .lst (SqL.of (su _ _ hD)) (dp_ints []), .lst (SqL.of upd_same) (dp_ints []), shaped_lst [], shaped_lst [], ?_⟩
      rw [eqv_ints]
      exact q _ (sm.trans su)
theorem ok_finer (F : FnP K "_law_finer" sFiner f fd) (oRand : Ok P w K mg base "_law_random" 2 ["_law_generator_here", "_law_bound"] spRand) : FnOk P w K mg base CX0 3 f fd ["_law_generator_here", "_law_limits_here"] spFiner := by
  have nd := scFiner.nd
  refine F.ok scFiner (fun vs H Q E h => ?_) (fun cdv A outer s H vs Q E hr h => ?_)
  · obtain ⟨g, a, n, L, rfl, _⟩ := h
    rfl
  · obtain ⟨g, a, n, L, rfl, dr, hn, ⟨ls, ha, hL⟩, h3, hb, q⟩ := h
    have lls := hL.len
    refine ⟨_, PSs.nox (pss_cons (ps_set (i := 2) nd rfl (Or.inl rfl) (pe_lst pa_nil))
      (pss_cons (ps_for PassesOwn.never rfl (pi_list (pv 1)) (pg_tup rfl (pgs_cons (pg_name (i := 3) nd rfl (Or.inl rfl)) (pgs_cons (pg_name (i := 4) nd rfl (Or.inl rfl)) pgs_nil)))
        (pss_one (ps_expr (pe_bm PySem.F.plainAttrs_list PySem.F.slot_list_append PySem.F.type_list_append mt_append (pv 2) (pa_cons (pe_tup (pa_cons (pe_op op_add (pv 3) (pe_callO oRand hr (by rfl) (pa_cons (pv 0) (pa_cons pe_int pa_nil)))) (pa_cons (pe_op op_mul (pv 4) (pe_op op_add pe_int (pe_callO oRand hr (by rfl) (pa_cons (pv 0) (pa_cons pe_int pa_nil))))) pa_nil))) pa_nil)))))
      (pss_one (ps_ret (pv 2))))), ?_⟩
    refine ⟨(by show 0 ≤ sizeLine; decide), fun D nD => ?_⟩
    have gD := dr_ne dr nD
    have sD := same_new (o := .lst []) nD
    have ag := dr_neL dr ha hL
    refine ⟨_, rfl, a, rfl, ⟨_, SqL.of (sD _ _ ha)⟩, for_list (K := K) (a := a) (xs := ls) (fun i σ H' => (∃ x3 x4, σ = [some (.ref g), some (.ref a), some (.ref D), x3, x4]) ∧ But H H' g ∧ Dr H' g (n + 40 * i) ∧ ∃ (acc : List V) (M : List Lim), H' D = some (.lst acc) ∧ Lims H' acc M ∧ M.length = i ∧ Bnd 6 9 M ∧ ∀ (j : Nat) (l m : Lim), M[j]? = some m → L[j]? = some l → ref1 m l = true)
      ⟨⟨_, _, rfl⟩, Same.but sD, dr_new dr nD, [], [], upd_same, .nil, rfl, (fun l hl => by cases hl), fun j l m e => by simp at e⟩ (fun i σ H' _ z => SqL.of (z.2.1 _ _ ag ha)) ?_ ?_⟩
    · rintro i y σ H' hi ⟨⟨x3, x4, rfl⟩, b1, d1, acc, M, hD, hA, lM, hbM, hR⟩
      obtain ⟨l, el, ⟨t, rfl, ht⟩⟩ := hL.get hi
      have li := (List.getElem?_eq_some_iff.mp el).1
      have bl := hb l (mem_at el)
      have ht' := b1 _ _ (dr_neT dr ht) ht
      refine ⟨t, _, rfl, SqT.of ht', rfl, _, _, rfl, _, _, rfl, rfl, ?_⟩
      refine ⟨_, rfl, .inl ⟨rfl, _, SqL.of hD⟩, _, rfl, _, rfl, g, _, 4, rfl, d1, by omega, by decide, by decide, fun H2 x x0 x1 b2 d2 => ⟨_, _, rfl, rfl, ?_⟩⟩
      refine ⟨_, rfl, _, rfl, g, _, 3, rfl, d2, by omega, by decide, by decide, fun H3 z z0 z1 b3 d3 => ⟨_, _, rfl, rfl, _, _, rfl, rfl, .inl ⟨by omega, by omega⟩, (by show 2 ≤ sizeLine; decide), fun u nu => ?_⟩⟩
      have b23 := b2.trans b3
      have hD3 := b23 _ _ (Ne.symm gD) hD
      have hA3 := (hA.but d1 b2).but d2 b3
      have s4 := same_new (o := .tup [.int (l.1 + x), .int (l.2 * (1 + z))]) nu
      have hD4 := s4 _ _ hD3
      have lA := hA.len
      have hz : l.2 * (1 + z) ≤ 9 := by
        have h1 : l.2 * (1 + z) ≤ 3 * (1 + z) := Int.mul_le_mul_of_nonneg_right (by omega) (by omega)
        omega
      have hz1 : 1 ≤ l.2 * (1 + z) := by
        have h1 : 1 * 1 ≤ l.2 * (1 + z) := Int.mul_le_mul (by omega) (by omega) (by decide) (by omega)
        omega
      refine ⟨D, _, _, rfl, rfl, hD4, small1000 (by omega), ⟨_, _, rfl⟩, fun b o nb e => ?_, ?_, acc ++ [.ref u], M ++ [(l.1 + x, l.2 * (1 + z))], upd_same, Lims.updL hD4 (Lims.snoc (m := (l.1 + x, l.2 * (1 + z))) ⟨u, rfl, upd_same⟩ (hA3.keep s4)), by rw [List.length_append, lM]; rfl, ?_, ?_⟩
      · rw [upd_ne (ne_of_none (H := H) e nD)]
        exact s4 _ _ (b23 _ _ nb (b1 _ _ nb e))
      · exact dr_upd (dr_new (d3.mono (by omega)) nu) gD
      · intro m hm
        rcases List.mem_append.mp hm with h | h
        · exact hbM m h
        · rcases List.mem_singleton.mp h with rfl
          exact ⟨by show 0 ≤ l.1 + x; omega, by show l.1 + x ≤ 6; omega, hz1, hz⟩
      · intro j l' m e1 e2
        by_cases c : j < M.length
        · rw [List.getElem?_append_left c] at e1
          exact hR j l' m e1 e2
        · have lj := (List.getElem?_eq_some_iff.mp e1).1
          rw [List.length_append, List.length_singleton] at lj
          obtain rfl : j = i := by omega
          rw [List.getElem?_append_right (by omega), lM, Nat.sub_self] at e1
          cases e1
          cases el.symm.trans e2
          unfold ref1
          rw [Bool.and_eq_true, decide_eq_true_eq, decide_eq_true_eq]
          exact ⟨by show l.1 ≤ l.1 + x; omega, by show l.2 * (1 + z) % l.2 = 0; exact Int.mul_emod_right ..⟩
    · rintro σ H' ⟨⟨x3, x4, rfl⟩, b1, d1, acc, M, hD, hA, lM, hbM, hR⟩
      rw [lls] at lM d1
      exact ⟨_, rfl, q H' D M lM hbM (ref_all fun i m l e1 e2 => hR i l m e1 e2) b1 d1 nD ⟨acc, hD, hA⟩⟩
end
end KB
set_option Elab.async false
set_option linter.all false
set_option maxRecDepth 100000
set_option maxHeartbeats 4000000
namespace KB
open PySem PySem.Spec PyProof.Rows L2 XV
/-! ### forms, points as data -/
def ftD (p : List Int) : PyData := .tuple (p.map PyData.int)
def FD (F : List (List Int)) : PyData := .list (F.map ftD)
def ptD (p : List Int) : PyData := .list (p.map PyData.int)
def PD (F : List (List Int)) : PyData := .list (F.map ptD)
theorem lay_F : ∀ F : List (List Int), PyData.canLayAll0 (F.map ftD) = true
  | [] => by simp [PyData.canLayAll0]
  | l :: F => by
    have ih := lay_F F
    simp [PyData.canLayAll0, PyData.canLay0, ftD, ih, lay_ints]
theorem depth_F : ∀ F : List (List Int), PyData.depthAll (F.map ftD) ≤ 1
  | [] => by simp [PyData.depthAll]
  | l :: F => by
    have ih := depth_F F
    simp only [List.map_cons, PyData.depthAll, ftD, PyData.depth, depth_ints]
    omega
theorem lay_P : ∀ F : List (List Int), PyData.canLayAll0 (F.map ptD) = true
  | [] => by simp [PyData.canLayAll0]
  | l :: F => by
    have ih := lay_P F
    simp [PyData.canLayAll0, PyData.canLay0, ptD, ih, lay_ints]
theorem depth_P : ∀ F : List (List Int), PyData.depthAll (F.map ptD) ≤ 1
  | [] => by simp [PyData.depthAll]
  | l :: F => by
    have ih := depth_P F
    simp only [List.map_cons, PyData.depthAll, ptD, PyData.depth, depth_ints]
    omega
theorem shaped_F (F : List (List Int)) : SeqAt.shaped (FD F) = true := by
  have h := depth_F F
  have e : (FD F).depth ≤ 64 := by
    simp only [FD, PyData.depth]
    omega
  have e2 : (FD F).canLay0 = true := by
    simp only [FD, PyData.canLay0]
    exact lay_F F
  unfold SeqAt.shaped
  rw [e2, decide_eq_true e]
  rfl
theorem shaped_P (F : List (List Int)) : SeqAt.shaped (PD F) = true := by
  have h := depth_P F
  have e : (PD F).depth ≤ 64 := by
    simp only [PD, PyData.depth]
    omega
  have e2 : (PD F).canLay0 = true := by
    simp only [PD, PyData.canLay0]
    exact lay_P F
  unfold SeqAt.shaped
  rw [e2, decide_eq_true e]
  rfl
theorem eqv_FA : ∀ F G : List (List Int), PyData.eqvAll (F.map ftD) (G.map ftD) = decide (F = G)
  | [], [] => by simp [PyData.eqvAll]
  | [], m :: M => by simp [PyData.eqvAll]
  | l :: L, [] => by simp [PyData.eqvAll]
  | l :: L, m :: M => by
    have ih := eqv_FA L M
    simp only [List.map_cons, PyData.eqvAll, ftD, PyData.eqv, eqv_intsA, List.cons.injEq]
    rw [show (List.map ftD L) = L.map ftD from rfl, ih]
    by_cases h1 : l = m <;> by_cases h2 : L = M <;> simp [h1, h2]
theorem eqv_PA : ∀ F G : List (List Int), PyData.eqvAll (F.map ptD) (G.map ptD) = decide (F = G)
  | [], [] => by simp [PyData.eqvAll]
  | [], m :: M => by simp [PyData.eqvAll]
  | l :: L, [] => by simp [PyData.eqvAll]
  | l :: L, m :: M => by
    have ih := eqv_PA L M
    simp only [List.map_cons, PyData.eqvAll, ptD, PyData.eqv, eqv_intsA, List.cons.injEq]
    rw [show (List.map ptD L) = L.map ptD from rfl, ih]
    by_cases h1 : l = m <;> by_cases h2 : L = M <;> simp [h1, h2]
theorem eqv_F (F G : List (List Int)) : PyData.eqv (FD F) (FD G) = decide (F = G) := by
  show PyData.eqv (.list _) (.list _) = _
  simp only [PyData.eqv]
  exact eqv_FA F G
theorem eqv_P (F G : List (List Int)) : PyData.eqv (PD F) (PD G) = decide (F = G) := by
  show PyData.eqv (.list _) (.list _) = _
  simp only [PyData.eqv]
  exact eqv_PA F G
theorem Fts.dp {K : PySem.W.Frag} {H : Hp} : ∀ {xs : List V} {F : List (List Int)}, Fts H xs F → DpAll K H xs (F.map ftD)
  | _, _, .nil => .nil
  | _, _, .cons h r => .cons (by
      obtain ⟨a, rfl, t⟩ := h
      exact .tup (SqT.of t) (dp_ints _)) (Fts.dp r)
theorem FL.dp {K : PySem.W.Frag} {H : Hp} {a : Addr} {F : List (List Int)} (h : FL H a F) : Dp K H (.ref a) (FD F) := by
  obtain ⟨xs, e, r⟩ := h
  exact .lst (SqL.of e) r.dp
theorem Pts.dp {K : PySem.W.Frag} {H : Hp} : ∀ {xs : List V} {F : List (List Int)}, Pts H xs F → DpAll K H xs (F.map ptD)
  | _, _, .nil => .nil
  | _, _, .cons h r => .cons (by
      obtain ⟨a, rfl, t⟩ := h
      exact .lst (SqL.of t) (dp_ints _)) (Pts.dp r)
/-! ### what the law makes of the forms -/
theorem unk_zero (m i : Nat) : List.replicate (m + 1) (0 : Int) = unkF m i 0 0 := by
  unfold unkF
  rw [List.replicate_succ]
  congr 1
  apply List.ext_getElem?
  intro j
  rw [List.getElem?_map, List.getElem?_replicate]
  by_cases c : j < m
  · rw [if_pos c, List.getElem?_range c]
    show some 0 = some (if j = i then 0 else 0)
    rw [ite_self]
  · rw [if_neg c, List.getElem?_eq_none (by rw [List.length_range]; omega)]
    rfl
theorem unk_set0 (m i : Nat) (t : Int) : (unkF m i 0 0).set 0 t = unkF m i t 0 := rfl
theorem unk_set {m i : Nat} (t n : Int) (h : i < m) : (unkF m i t 0).set (i + 1) n = unkF m i t n := by
  unfold unkF
  rw [List.set_cons_succ]
  congr 1
  apply List.ext_getElem?
  intro j
  by_cases e : i = j
  · subst e
    rw [List.getElem?_set_self (by rw [List.length_map, List.length_range]; exact h), List.getElem?_map, List.getElem?_range h]
    show some n = some (if i = i then n else 0)
    rw [if_pos rfl]
  · rw [List.getElem?_set_ne e, List.getElem?_map, List.getElem?_map]
    by_cases c : j < m
    · rw [List.getElem?_range c]
      show some (if j = i then (0 : Int) else 0) = some (if j = i then n else 0)
      rw [if_neg (Ne.symm e), if_neg (Ne.symm e)]
    · rw [List.getElem?_eq_none (by rw [List.length_range]; omega)]
      rfl
theorem cls1_ge {l : Lim} {c : Int} (h1 : 1 ≤ l.2) : l.1 ≤ cls1 l c ↔ l.1 ≤ c := by
  unfold cls1
  split
  · exact Iff.rfl
  · have := Int.emod_nonneg (c - l.1) (show l.2 ≠ 0 by omega)
    omega
theorem turn1_low {l : Lim} {c : Int} (h : c < l.1) : turn1 l c = 0 := by
  unfold turn1 cls1
  rw [if_pos h, Int.sub_self, Int.zero_ediv]
theorem unk_len (m i : Nat) (c n : Int) : (unkF m i c n).length = m + 1 := by
  unfold unkF
  rw [List.length_cons, List.length_map, List.length_range]
abbrev sLedDue : Stmt := top 63
abbrev nLedDue : List Str := ["_law_limits_here", "_law_finer_here", "_law_low", "_law_many_here", "_law_found", "_law_least_here", "_law_at", "_law_form"]
theorem scLedDue : FnScope nLedDue ["_law_limits_here", "_law_finer_here", "_law_low"] (defScope sLedDue) := ⟨rfl, rfl, rfl, by decide +kernel, rfl, by decide +kernel, by decide +kernel⟩
def spLedDue : Sp := fun vs H Q _ => ∃ (a b c : Addr) (L M : List Lim) (low : List Int), vs = [.ref a, .ref b, .ref c] ∧ LL H a L ∧ LL H b M ∧ H c = some (.lst (low.map V.int)) ∧ L.length = low.length ∧ M.length = L.length ∧ Lok L ∧ Bnd 6 9 M ∧ refB M L = true ∧
  ∀ (H' : Hp) (r : Addr), Same H H' → H r = none → FL H' r (ledL L M low) → Q (.ref r) H'
section
variable {P : Program} {w : World} {K : PySem.W.Frag} {mg : Str → Option Value} {base : Heap} {f : Addr} {fd : FuncData} {C : Addr}
theorem ok_ledDue (F : FnP K "_law_led_due" sLedDue f fd) (o_class : Ok P w K mg base "_law_class" 2 ["_law_limits_here", "_law_point_here"] spClassL) (z_range : mg "range" = none) (z_len : mg "len" = none) (z_tuple : mg "tuple" = none) : FnOk P w K mg base CX0 3 f fd ["_law_limits_here", "_law_finer_here", "_law_low"] spLedDue := by
  have nd := scLedDue.nd
  refine F.ok scLedDue (fun vs H Q E h => ?_) (fun cdv A outer s H vs Q E hr h => ?_)
  · obtain ⟨a, b, c, L, M, low, rfl, _⟩ := h
    rfl
  · obtain ⟨a, b, c, L, M, low, rfl, hLL, ⟨ms, hb, hM⟩, hc, hl, hlM, hok, hbM, hR, q⟩ := h
    obtain ⟨ls, ha, hL⟩ := id hLL
    have lls := hL.len
    have lms := hM.len
    have h3 := hok.1
    refine ⟨_, PSs.nox (pss_cons (ps_par (i := 3) (j := 4) rfl nd rfl rfl (by decide) rfl rfl (pa_cons (pe_callB call_len (by rfl) z_len boot_len (pa_cons (pv 0) pa_nil)) (pa_cons (pe_lst pa_nil) pa_nil)) (by rfl))
      (pss_cons (ps_set (i := 5) nd rfl (Or.inl rfl) (pe_callO o_class hr (by rfl) (pa_cons (pv 0) (pa_cons (pv 2) pa_nil))))
      (pss_cons (ps_for PassesOwn.never rfl (pi_range1 (by rfl) z_range (pa_cons (pv 3) pa_nil)) (pg_name (i := 6) nd rfl (Or.inl rfl))
        (pss_cons (ps_set (i := 7) nd rfl (Or.inl rfl) (pe_op op_rep (pe_lst (pa_cons pe_int pa_nil)) (pe_op op_add (pv 3) pe_int)))
        (pss_cons (ps_if (pt_cmpR op_ge (pe_ix ix_list (pv 5) (pv 6) (fun _ _ => rfl)) (pe_ix ix_tup (pe_ix ix_list (pv 0) (pv 6) (fun _ _ => rfl)) pe_int (fun _ _ => rfl)) (nomark _))
          (pss_cons (ps_asg (pe_op op_fdiv (pe_op op_sub (pe_ix ix_list (pv 2) (pv 6) (fun _ _ => rfl)) (pe_ix ix_list (pv 5) (pv 6) (fun _ _ => rfl))) (pe_ix ix_tup (pe_ix ix_list (pv 0) (pv 6) (fun _ _ => rfl)) pe_int (fun _ _ => rfl))) (pg_sub (pv 7) pe_int set_list))
          (pss_one (ps_if (pt_cmpR op_ge (pe_ix ix_list (pv 2) (pv 6) (fun _ _ => rfl)) (pe_ix ix_tup (pe_ix ix_list (pv 1) (pv 6) (fun _ _ => rfl)) pe_int (fun _ _ => rfl)) (nomark _))
            (pss_one (ps_asg (pe_op op_fdiv (pe_ix ix_tup (pe_ix ix_list (pv 1) (pv 6) (fun _ _ => rfl)) pe_int (fun _ _ => rfl)) (pe_ix ix_tup (pe_ix ix_list (pv 0) (pv 6) (fun _ _ => rfl)) pe_int (fun _ _ => rfl))) (pg_sub (pv 7) (pe_op op_add (pv 6) pe_int) set_list))) pss_nil))) pss_nil)
        (pss_one (ps_expr (pe_bm PySem.F.plainAttrs_list PySem.F.slot_list_append PySem.F.type_list_append mt_append (pv 4) (pa_cons (pe_callTy call_tuple_of (by rfl) z_tuple (by decide +kernel) (pa_cons (pv 7) pa_nil)) pa_nil)))))))
      (pss_one (ps_ret (pv 4)))))), ?_⟩
    refine ⟨.ref a, rfl, _, L.length, rfl, .inl ⟨_, SqL.of ha, lls.symm⟩, (by show 0 ≤ sizeLine; decide), fun D nD => ⟨_, _, rfl, ?_⟩⟩
    have sD := same_new (o := .lst []) nD
    refine ⟨_, rfl, _, rfl, a, c, L, low, rfl, hLL.keep sD, sD _ _ hc, hl, hok, fun H1 e s1 he => ?_⟩
    have sH := sD.trans s1
    have hD1 := s1 _ _ (upd_same (H := H) (a := D) (o := .lst []))
    refine ⟨_, rfl, (L.length : Int), rfl, by omega, by omega, ?_⟩
    rw [show ((L.length : Nat) : Int).toNat = L.length from by omega]
    refine for_range (lo := 0) (n := L.length) (fun i σ H' => (∃ x6 x7, σ = [some (.ref a), some (.ref b), some (.ref c), some (.int (L.length : Int)), some (.ref D), some (.ref e), x6, x7]) ∧ Same H H' ∧ H' e = some (.lst ((clsL L low).map V.int)) ∧ ∃ acc, H' D = some (.lst acc) ∧ Fts H' acc ((List.range i).map (ledAt L M low)))
      ⟨⟨_, _, rfl⟩, sH, he, [], hD1, .nil⟩ ?_ ?_
    · rintro i σ H' hi ⟨⟨x6, x7, rfl⟩, sm, he', acc, hD, hA⟩
      rw [Int.zero_add]
      have el : L[i]? = some L[i] := List.getElem?_eq_getElem hi
      have em : M[i]? = some M[i] := List.getElem?_eq_getElem (by omega)
      have ec : low[i]? = some low[i] := List.getElem?_eq_getElem (by omega)
      generalize L[i] = l at el
      generalize M[i] = m at em
      generalize low[i] = x at ec
      obtain ⟨vl, evl, ⟨tl, rfl, htl⟩⟩ := hL.at el
      obtain ⟨vm, evm, ⟨tm, rfl, htm⟩⟩ := hM.at em
      have bl := hok.2 l (mem_at el)
      have bm := hbM m (mem_at em)
      have r1 := ref_at hR em el
      unfold ref1 at r1
      rw [Bool.and_eq_true, decide_eq_true_eq, decide_eq_true_eq] at r1
      have gx : (low.map V.int)[i]? = some (.int x) := by
        rw [List.getElem?_map, ec]
        rfl
      have gc : ((clsL L low).map V.int)[i]? = some (.int (cls1 l x)) := by
        rw [List.getElem?_map, show (clsL L low)[i]? = _ from zip_get el ec]
        rfl
      have i0 : ∀ l : Lim, atI [V.int l.1, V.int l.2] ((0 : Nat) : Int) = some (V.int l.1) := fun l => atI_nat rfl
      have i1 : ∀ l : Lim, atI [V.int l.1, V.int l.2] ((1 : Nat) : Int) = some (V.int l.2) := fun l => atI_nat rfl
      refine ⟨(by show 1 ≤ sizeLine; decide), fun p np => ⟨_, rfl, _, _, rfl, rfl, p, _, _, rfl, rfl, upd_same, by omega, by omega, ?_, fun G nG => ?_⟩⟩
      · have e1 : ((L.length : Int) + 1).toNat = L.length + 1 := by omega
        show 1 * ((L.length : Int) + 1).toNat ≤ sizeLine
        rw [e1]
        exact Nat.le_of_lt (small1000 (by omega))
      have e1 : (List.replicate ((L.length : Int) + 1).toNat [V.int 0]).flatten = (unkF L.length i 0 0).map V.int := by
        rw [show ((L.length : Int) + 1).toNat = L.length + 1 by omega, rep_flat, unk_zero L.length i]
      rw [e1]
      have sp := same_new (o := .lst [.int 0]) np
      have sG := same_new (o := .lst ((unkF L.length i 0 0).map V.int)) nG
      have sN := sp.trans sG
      have S := sm.trans sN
      have ha' := S _ _ ha
      have hb' := S _ _ hb
      have hc' := S _ _ hc
      have htl' := S _ _ htl
      have htm' := S _ _ htm
      have hD' := sN _ _ hD
      have hE' := sN _ _ he'
      have hA' := hA.keep sN
      have nG' : H' G = none := was_new sp nG
      have hG' : (upd (upd H' p (.lst [.int 0])) G (.lst ((unkF L.length i 0 0).map V.int))) G = some (.lst ((unkF L.length i 0 0).map V.int)) := upd_same
      have neS : ∀ {o : HO} {d : Addr}, H' d = some o → d ≠ G := fun e => ne_of_none e nG'
      generalize upd (upd H' p (.lst [.int 0])) G (.lst ((unkF L.length i 0 0).map V.int)) = H2 at *
      have lA := hA.len
      rw [List.length_map, List.length_range] at lA
      have eD : e ≠ D := fun y => by
        rw [y, hD] at he'
        have := congrArg List.length (HO.lst.inj (Option.some.inj he'))
        rw [List.length_map, show (clsL L low).length = L.length from zip_len hl] at this
        omega
      have dG : D ≠ G := neS hD
      have fin : ∀ (H3 : Hp) (ns : List Int) (t : Addr), (∀ d o, d ≠ G → H2 d = some o → H3 d = some o) → ns = ledAt L M low i → H3 t = none →
          H3 D = some (.lst acc) ∧ acc.length < sizeLine ∧ Same H (upd (upd H3 t (.tup (ns.map V.int))) D (.lst (acc ++ [.ref t]))) ∧ (upd (upd H3 t (.tup (ns.map V.int))) D (.lst (acc ++ [.ref t]))) e = some (.lst ((clsL L low).map V.int)) ∧
          ∃ acc', (upd (upd H3 t (.tup (ns.map V.int))) D (.lst (acc ++ [.ref t]))) D = some (.lst acc') ∧ Fts (upd (upd H3 t (.tup (ns.map V.int))) D (.lst (acc ++ [.ref t]))) acc' ((List.range (i + 1)).map (ledAt L M low)) := by
        intro H3 ns t kk en nt
        have st := same_new (o := .tup (ns.map V.int)) nt
        have up : ∀ d o, H' d = some o → H3 d = some o := fun d o y => kk d o (neS y) (sN _ _ y)
        have hD3 := up _ _ hD
        refine ⟨hD3, small1000 (by omega), fun d o y => ?_, ?_, acc ++ [.ref t], upd_same, ?_⟩
        · rw [upd_ne (ne_of_none y nD)]
          exact st _ _ (up _ _ (sm _ _ y))
        · rw [upd_ne eD]
          exact st _ _ (up _ _ he')
        · rw [List.range_succ, List.map_append]
          refine Fts.updL (st _ _ hD3) (((hA.keep up).keep st).snoc ⟨t, rfl, ?_⟩)
          rw [upd_same, en]
      have hLA : ledAt L M low i = unkF L.length i (turn1 l x) (step1 m x / l.2) := by
        unfold ledAt
        rw [limD0_at el, limD0_at em, cnt_at ec]
      refine ⟨_, rfl, _, rfl, e, _, _, _, rfl, rfl, SqL.of hE', atI_nat gc, _, rfl, _, rfl, a, _, _, _, rfl, rfl, SqL.of ha', atI_nat evl, tl, _, _, _, rfl, rfl, SqT.of htl', i0 l, _, _, rfl, rfl, _, rfl, ite2 (fun z => ?_) (fun z => ?_)⟩
      · have z : l.1 ≤ x := (cls1_ge bl.2.2.1).mp (of_decide_eq_true z)
        refine ⟨_, rfl, _, rfl, c, _, _, _, rfl, rfl, SqL.of hc', atI_nat gx, _, rfl, _, rfl, e, _, _, _, rfl, rfl, SqL.of hE', atI_nat gc, _, _, rfl, rfl, _, rfl, _, rfl, a, _, _, _, rfl, rfl, SqL.of ha', atI_nat evl, tl, _, _, _, rfl, rfl, SqT.of htl', i1 l, _, _, rfl, rfl, ⟨by show 0 < l.2; omega, by show l.2 < 1073741824; omega⟩, ?_⟩
        have eS : ((unkF L.length i 0 0).map V.int).set 0 (.int ((x - cls1 l x) / l.2)) = (unkF L.length i (turn1 l x) 0).map V.int := rfl
        refine ⟨.ref G, rfl, G, _, ((0 : Nat) : Int), 0, rfl, rfl, hG', Evl.ixN_nat (by rw [List.length_map, unk_len]; omega), ?_⟩
        rw [eS]
        have kG : ∀ d o, d ≠ G → H2 d = some o → (upd H2 G (.lst ((unkF L.length i (turn1 l x) 0).map V.int))) d = some o := fun d o n y => by
          rw [upd_ne n]
          exact y
        have hG3 : (upd H2 G (.lst ((unkF L.length i (turn1 l x) 0).map V.int))) G = some (.lst ((unkF L.length i (turn1 l x) 0).map V.int)) := upd_same
        have hc3 := kG _ _ (neS (sm _ _ hc)) hc'
        have ha3 := kG _ _ (neS (sm _ _ ha)) ha'
        have hb3 := kG _ _ (neS (sm _ _ hb)) hb'
        have htl3 := kG _ _ (neS (sm _ _ htl)) htl'
        have htm3 := kG _ _ (neS (sm _ _ htm)) htm'
        have hD3 := kG _ _ dG hD'
        generalize upd H2 G (.lst ((unkF L.length i (turn1 l x) 0).map V.int)) = H3 at *
        refine ⟨_, rfl, _, rfl, c, _, _, _, rfl, rfl, SqL.of hc3, atI_nat gx, _, rfl, _, rfl, b, _, _, _, rfl, rfl, SqL.of hb3, atI_nat evm, tm, _, _, _, rfl, rfl, SqT.of htm3, i0 m, _, _, rfl, rfl, _, rfl, ite2 (fun y => ?_) (fun y => ?_)⟩
        · have y : m.1 ≤ x := of_decide_eq_true y
          refine ⟨_, rfl, _, rfl, b, _, _, _, rfl, rfl, SqL.of hb3, atI_nat evm, tm, _, _, _, rfl, rfl, SqT.of htm3, i1 m, _, rfl, _, rfl, a, _, _, _, rfl, rfl, SqL.of ha3, atI_nat evl, tl, _, _, _, rfl, rfl, SqT.of htl3, i1 l, _, _, rfl, rfl, ⟨by show 0 < l.2; omega, by show l.2 < 1073741824; omega⟩, ?_⟩
          have eS2 : ((unkF L.length i (turn1 l x) 0).map V.int).set (i + 1) (.int (m.2 / l.2)) = (unkF L.length i (turn1 l x) (m.2 / l.2)).map V.int := by
            rw [← unk_set (turn1 l x) (m.2 / l.2) hi, List.map_set]
          refine ⟨.ref G, rfl, _, rfl, _, _, rfl, rfl, G, _, ((i + 1 : Nat) : Int), i + 1, rfl, rfl, hG3, Evl.ixN_nat (by rw [List.length_map, unk_len]; omega), ?_⟩
          rw [eS2]
          have kG4 : ∀ d o, d ≠ G → H2 d = some o → (upd H3 G (.lst ((unkF L.length i (turn1 l x) (m.2 / l.2)).map V.int))) d = some o := fun d o n y => by
            rw [upd_ne n]
            exact kG d o n y
          have hD4 := kG4 _ _ dG hD'
          refine ⟨_, rfl, .inl ⟨rfl, _, SqL.of hD4⟩, _, rfl, G, _, rfl, .inl ⟨SqL.of upd_same, fun t nt => ?_⟩⟩
          obtain ⟨f1, f2, f3, f4, f5⟩ := fin _ (unkF L.length i (turn1 l x) (m.2 / l.2)) t kG4 (by rw [hLA, show step1 m x = m.2 from if_pos y]) nt
          exact ⟨D, _, _, rfl, rfl, same_new nt _ _ f1, f2, ⟨_, _, rfl⟩, f3, f4, f5⟩
        · have y : ¬ m.1 ≤ x := fun c => y (decide_eq_true c)
          refine ⟨_, rfl, .inl ⟨rfl, _, SqL.of hD3⟩, _, rfl, G, _, rfl, .inl ⟨SqL.of hG3, fun t nt => ?_⟩⟩
          obtain ⟨f1, f2, f3, f4, f5⟩ := fin H3 (unkF L.length i (turn1 l x) 0) t kG (by rw [hLA, show step1 m x = 0 from if_neg y, Int.zero_ediv]) nt
          exact ⟨D, _, _, rfl, rfl, same_new nt _ _ f1, f2, ⟨_, _, rfl⟩, f3, f4, f5⟩
      · have z : ¬ l.1 ≤ x := fun y => z (decide_eq_true ((cls1_ge bl.2.2.1).mpr y))
        refine ⟨_, rfl, .inl ⟨rfl, _, SqL.of hD'⟩, _, rfl, G, _, rfl, .inl ⟨SqL.of hG', fun t nt => ?_⟩⟩
        obtain ⟨f1, f2, f3, f4, f5⟩ := fin H2 (unkF L.length i 0 0) t (fun d o _ y => y) (by rw [hLA, turn1_low (by omega), show step1 m x = 0 from if_neg (by omega), Int.zero_ediv]) nt
        exact ⟨D, _, _, rfl, rfl, same_new nt _ _ f1, f2, ⟨_, _, rfl⟩, f3, f4, f5⟩
    · rintro σ H' ⟨⟨x6, x7, rfl⟩, sm, he', acc, hD, hA⟩
      exact ⟨_, rfl, q H' D sm nD ⟨acc, hD, hA⟩⟩
end
end KB
set_option Elab.async false
set_option linter.all false
set_option maxRecDepth 100000
set_option maxHeartbeats 800000
namespace KB
open PySem PySem.Spec PyProof.Rows L2 XV
theorem cls1_idem {l : Lim} (h : 1 ≤ l.2) (c : Int) : cls1 l (cls1 l c) = cls1 l c := by
  by_cases z : c < l.1
  · have e : cls1 l c = c := if_pos z
    rw [e, e]
  · have e : cls1 l c = l.1 + (c - l.1) % l.2 := if_neg z
    have n := Int.emod_nonneg (c - l.1) (show l.2 ≠ 0 by omega)
    rw [e]
    unfold cls1
    rw [if_neg (by omega)]
    have e2 : l.1 + (c - l.1) % l.2 - l.1 = (c - l.1) % l.2 := by omega
    rw [e2, Int.emod_emod]
theorem clsL_idem {L : List Lim} (h : ∀ l ∈ L, 1 ≤ l.2) {p : List Int} (hl : L.length = p.length) : clsL L (clsL L p) = clsL L p := by
  unfold clsL
  apply List.ext_getElem?
  intro i
  rw [List.getElem?_zipWith, List.getElem?_zipWith]
  by_cases c : i < L.length
  · rw [List.getElem?_eq_getElem c, List.getElem?_eq_getElem (show i < p.length by omega)]
    show some (cls1 L[i] (cls1 L[i] p[i])) = some (cls1 L[i] p[i])
    rw [cls1_idem (h _ (List.getElem_mem c))]
  · rw [List.getElem?_eq_none (by omega)]
theorem sum_none {m : Nat} {f : Nat → Int} (h : ∀ k, k < m → f k = 0) : ((List.range m).map f).sum = 0 := by
  induction m with
  | zero => rfl
  | succ m ih =>
    rw [List.range_succ, List.map_append, List.sum_append, ih fun k hk => h k (by omega)]
    show 0 + (f m + 0) = 0
    rw [h m (by omega)]
    rfl
theorem sum_unit {m i : Nat} {f : Nat → Int} (hi : i < m) (h : ∀ k, k < m → k ≠ i → f k = 0) : ((List.range m).map f).sum = f i := by
  induction m with
  | zero => exact absurd hi (by omega)
  | succ m ih =>
    rw [List.range_succ, List.map_append, List.sum_append]
    show _ + (f m + 0) = f i
    rw [Int.add_zero]
    by_cases e : i = m
    · subst e
      rw [sum_none fun k hk => h k (by omega) (by omega), Int.zero_add]
    · rw [ih (by omega) fun k hk => h k (by omega), h m (by omega) (Ne.symm e), Int.add_zero]
theorem as_range (ys : List Int) : ys = (List.range ys.length).map fun j => ys.getD j 0 := by
  apply List.ext_getElem?
  intro i
  rw [List.getElem?_map]
  by_cases c : i < ys.length
  · rw [List.getElem?_range c]
    show ys[i]? = some (ys.getD i 0)
    rw [List.getD_eq_getElem?_getD, List.getElem?_eq_getElem c]
    rfl
  · rw [List.getElem?_eq_none (by omega), List.getElem?_eq_none (by rw [List.length_range]; omega)]
    rfl
theorem zip_range {α β γ : Type} (F : α → β → γ) (f : Nat → α) (g : Nat → β) (m : Nat) : List.zipWith F ((List.range m).map f) ((List.range m).map g) = (List.range m).map fun k => F (f k) (g k) := by
  apply List.ext_getElem?
  intro i
  rw [List.getElem?_zipWith, List.getElem?_map, List.getElem?_map, List.getElem?_map]
  by_cases c : i < m
  · rw [List.getElem?_range c]
    rfl
  · rw [List.getElem?_eq_none (by rw [List.length_range]; omega)]
    rfl
theorem dot_unit (n : Int) {ys : List Int} {i : Nat} (hi : i < ys.length) : dot ((List.range ys.length).map fun j => if j = i then n else 0) ys = n * ys.getD i 0 := by
  unfold dot
  have e : List.zipWith (· * ·) ((List.range ys.length).map fun j => if j = i then n else 0) ys = (List.range ys.length).map fun k => (if k = i then n else 0) * ys.getD k 0 := by
    conv => lhs; rhs; rw [as_range ys]
    exact zip_range _ _ _ _
  rw [e, sum_unit hi fun k _ ne => by rw [if_neg ne, Int.zero_mul], if_pos rfl]
theorem turn_mul {l : Lim} {c : Int} (h2 : 1 ≤ l.2) (h : l.1 ≤ c) : turn1 l c * l.2 = c - cls1 l c := by
  unfold turn1 cls1
  rw [if_neg (by omega)]
  have e : c - (l.1 + (c - l.1) % l.2) = l.2 * ((c - l.1) / l.2) := by
    have := Int.mul_ediv_add_emod (c - l.1) l.2
    omega
  rw [e, Int.mul_ediv_cancel_left _ (by omega), Int.mul_comm]
section
variable {l m : Lim} {p : Int} (h1 : l.1 ≤ m.1) (hd : m.2 % l.2 = 0) (l2 : 1 ≤ l.2) (m2 : 1 ≤ m.2)
include h1 hd l2 m2
theorem far_p (hp : m.1 ≤ p) : ∃ q, 0 ≤ q ∧ p = cls1 m p + q * m.2 ∧ m.1 ≤ cls1 m p ∧ cls1 l p = cls1 l (cls1 m p) := by
  have e : cls1 m p = m.1 + (p - m.1) % m.2 := if_neg (by omega)
  have n := Int.emod_nonneg (p - m.1) (show m.2 ≠ 0 by omega)
  have q0 : 0 ≤ (p - m.1) / m.2 := Int.ediv_nonneg (by omega) (by omega)
  have ep : p = cls1 m p + (p - m.1) / m.2 * m.2 := by
    rw [e]
    have := Int.mul_ediv_add_emod (p - m.1) m.2
    rw [Int.mul_comm] at this
    omega
  refine ⟨(p - m.1) / m.2, q0, ep, by omega, ?_⟩
  have c := cls1_same (l := m) (m := l) (x := cls1 m p) (t := (p - m.1) / m.2) h1 (by omega) hd q0 (by omega)
  rw [← ep] at c
  exact c
theorem led_A : turn1 l (cls1 m p) + step1 m (cls1 m p) / l.2 * ((p - cls1 m p) / m.2) = turn1 l p := by
  by_cases c : m.1 ≤ p
  · obtain ⟨q, q0, ep, lo, ec⟩ := far_p h1 hd l2 m2 c
    have s1 : step1 m (cls1 m p) = m.2 := if_pos lo
    have d1 : (p - cls1 m p) / m.2 = q := by
      have e : p - cls1 m p = q * m.2 := by omega
      rw [e, Int.mul_ediv_cancel _ (by omega)]
    obtain ⟨k, hk⟩ := Int.dvd_of_emod_eq_zero hd
    have d2 : m.2 / l.2 = k := by rw [hk, Int.mul_ediv_cancel_left _ (by omega)]
    rw [s1, d1, d2]
    unfold turn1
    rw [ec]
    have e : p - cls1 l (cls1 m p) = (cls1 m p - cls1 l (cls1 m p)) + l.2 * (k * q) := by
      have : q * m.2 = l.2 * (k * q) := by rw [hk, Int.mul_comm q, Int.mul_assoc]
      omega
    rw [e, Int.add_mul_ediv_left _ _ (by omega)]
  · have e : cls1 m p = p := if_pos (by omega)
    rw [e, Int.sub_self, Int.zero_ediv, Int.mul_zero, Int.add_zero]
theorem led_B : cls1 l p + turn1 l (cls1 m p) * step1 l p = cls1 m p := by
  by_cases c : m.1 ≤ p
  · obtain ⟨q, q0, ep, lo, ec⟩ := far_p h1 hd l2 m2 c
    rw [show step1 l p = l.2 from if_pos (by omega), turn_mul l2 (by omega), ec]
    omega
  · have e : cls1 m p = p := if_pos (by omega)
    rw [e]
    by_cases c2 : l.1 ≤ p
    · rw [show step1 l p = l.2 from if_pos c2, turn_mul l2 c2]
      omega
    · rw [show step1 l p = 0 from if_neg c2, Int.mul_zero, Int.add_zero]
      exact if_pos (by omega)
theorem led_C : step1 m (cls1 m p) / l.2 * step1 l p = step1 m p := by
  by_cases c : m.1 ≤ p
  · obtain ⟨q, q0, ep, lo, ec⟩ := far_p h1 hd l2 m2 c
    rw [show step1 m (cls1 m p) = m.2 from if_pos lo, show step1 l p = l.2 from if_pos (by omega), show step1 m p = m.2 from if_pos c, Int.ediv_mul_cancel (Int.dvd_of_emod_eq_zero hd)]
  · have e : cls1 m p = p := if_pos (by omega)
    rw [e, show step1 m p = 0 from if_neg c, Int.zero_ediv, Int.zero_mul]
end
theorem unk_getD0 (m i : Nat) (c n : Int) : (unkF m i c n).getD 0 0 = c := rfl
theorem unk_getDs {m i k : Nat} (c n : Int) (h : k < m) : (unkF m i c n).getD (k + 1) 0 = if k = i then n else 0 := by
  unfold unkF
  rw [List.getD_cons_succ, List.getD_eq_getElem?_getD, List.getElem?_map, List.getElem?_range h]
  rfl
/-- the forms of a class with the forms that lead put in are those of the finer grid -/
theorem whole_at {L M : List Lim} {p : List Int} (hR : refB M L = true) (hlM : M.length = L.length) (hl : L.length = p.length) (hL : ∀ l ∈ L, 1 ≤ l.2) (hM : ∀ m ∈ M, 1 ≤ m.2) {i : Nat} (hi : i < L.length) :
    (List.range (L.length + 1)).map (withV (cls1 (limD0 L i) (p.getD i 0)) ((List.range L.length).map fun j => if j = i then step1 (limD0 L i) (p.getD i 0) else 0) (ledL L M (clsL M p))) = formAt M p i := by
  have el : L[i]? = some L[i] := List.getElem?_eq_getElem hi
  have em : M[i]? = some M[i] := List.getElem?_eq_getElem (by omega)
  have ec : p[i]? = some p[i] := List.getElem?_eq_getElem (by omega)
  generalize L[i] = l at el
  generalize M[i] = m at em
  generalize p[i] = x at ec
  have r1 := ref_at hR em el
  unfold ref1 at r1
  rw [Bool.and_eq_true, decide_eq_true_eq, decide_eq_true_eq] at r1
  have l2 := hL l (mem_at el)
  have m2 := hM m (mem_at em)
  have elow : (clsL M p).getD i 0 = cls1 m x := cnt_at (zip_get em ec)
  rw [limD0_at el, cnt_at ec]
  have wv : ∀ j, withV (cls1 l x) ((List.range L.length).map fun j => if j = i then step1 l x else 0) (ledL L M (clsL M p)) j = (if j = 0 then cls1 l x else 0) + (ledAt L M (clsL M p) i).getD j 0 * step1 l x := by
    intro j
    unfold withV ledL
    rw [zip_range, sum_unit hi fun k _ ne => by rw [if_neg ne, Int.mul_zero], if_pos rfl]
  have eA : ledAt L M (clsL M p) i = unkF L.length i (turn1 l (cls1 m x)) (step1 m (cls1 m x) / l.2) := by
    unfold ledAt
    rw [limD0_at el, limD0_at em, elow]
  unfold formAt
  rw [limD0_at em, cnt_at ec, hlM, List.range_succ_eq_map, List.map_cons, wv 0, eA, unk_getD0, if_pos rfl, led_B r1.1 r1.2 l2 m2]
  unfold unkF
  congr 1
  rw [List.map_map]
  refine List.map_congr_left fun k hk => ?_
  have lk := List.mem_range.mp hk
  show withV _ _ _ (k + 1) = _
  rw [wv (k + 1), eA, unk_getDs _ _ lk, if_neg (Nat.succ_ne_zero k), Int.zero_add]
  by_cases e : k = i
  · rw [if_pos e, if_pos e, led_C r1.1 r1.2 l2 m2]
  · rw [if_neg e, if_neg e, Int.zero_mul]
/-- the value of a form that leads, at the place in the finer grid's class -/
theorem value_at {L M : List Lim} {p : List Int} (hR : refB M L = true) (hlM : M.length = L.length) (hl : L.length = p.length) (hL : ∀ l ∈ L, 1 ≤ l.2) (hM : ∀ m ∈ M, 1 ≤ m.2) {i : Nat} (hi : i < L.length) :
    ∃ t n, ledAt L M (clsL M p) i = unkF L.length i t n ∧ t + dot ((List.range L.length).map fun j => if j = i then n else 0) (placeL M p) = (placeL L p).getD i 0 := by
  have el : L[i]? = some L[i] := List.getElem?_eq_getElem hi
  have em : M[i]? = some M[i] := List.getElem?_eq_getElem (by omega)
  have ec : p[i]? = some p[i] := List.getElem?_eq_getElem (by omega)
  generalize L[i] = l at el
  generalize M[i] = m at em
  generalize p[i] = x at ec
  have r1 := ref_at hR em el
  unfold ref1 at r1
  rw [Bool.and_eq_true, decide_eq_true_eq, decide_eq_true_eq] at r1
  have elow : (clsL M p).getD i 0 = cls1 m x := cnt_at (zip_get em ec)
  have lp : (placeL M p).length = L.length := by
    rw [show (placeL M p).length = M.length from zip_len (by omega), hlM]
  refine ⟨turn1 l (cls1 m x), step1 m (cls1 m x) / l.2, ?_, ?_⟩
  · unfold ledAt
    rw [limD0_at el, limD0_at em, elow]
  · rw [← lp, dot_unit _ (by omega)]
    rw [cnt_at (show (placeL M p)[i]? = _ from zip_get em ec), cnt_at (show (placeL L p)[i]? = _ from zip_get el ec)]
    exact led_A r1.1 r1.2 (hL l (mem_at el)) (hM m (mem_at em))
end KB
set_option Elab.async false
set_option linter.all false
set_option maxRecDepth 100000
set_option maxHeartbeats 4000000
namespace KB
open PySem PySem.Spec PyProof.Rows L2 XV
theorem call_list_ofK {X : Cx} {K : PySem.W.Frag} (e : X.K = K) : CallR X (.type "list") (fun xs H Q => ∃ p ys, xs = [.ref p] ∧ (SqL K H p ys ∨ SqT K H p ys) ∧ ∀ l, H l = none → Q (.ref l) (upd H l (.lst ys))) := by
  subst e
  exact call_list_of
theorem turn1_bd {l : Lim} {c : Int} (h0 : 0 ≤ l.1) (h1 : 1 ≤ l.2) (hc : 0 ≤ c) : 0 ≤ turn1 l c ∧ turn1 l c ≤ c := by
  have n := cls1_nn h0 h1 hc
  have u : cls1 l c ≤ c := by
    unfold cls1
    split
    · exact Int.le_refl _
    · have := Int.mul_ediv_add_emod (c - l.1) l.2
      have q := Int.ediv_nonneg (show 0 ≤ c - l.1 by omega) (show 0 ≤ l.2 by omega)
      have q2 := Int.mul_nonneg (show 0 ≤ l.2 by omega) q
      omega
  unfold turn1
  exact ⟨Int.ediv_nonneg (by omega) (by omega), Int.le_trans (Int.ediv_le_self _ (by omega)) (by omega)⟩
theorem cls1_up {l : Lim} {c : Int} (h0 : 0 ≤ l.1) (h1 : 1 ≤ l.2) (hc : 0 ≤ c) : cls1 l c ≤ c := by
  unfold cls1
  split
  · exact Int.le_refl _
  · have := Int.mul_ediv_add_emod (c - l.1) l.2
    have q := Int.ediv_nonneg (show 0 ≤ c - l.1 by omega) (show 0 ≤ l.2 by omega)
    have q2 := Int.mul_nonneg (show 0 ≤ l.2 by omega) q
    omega
theorem unk_mem {m i : Nat} {c n : Int} {B : Int} (hc : 0 ≤ c ∧ c < B) (hn : 0 ≤ n ∧ n < B) : ∀ x ∈ unkF m i c n, 0 ≤ x ∧ x < B := fun x hx => by
  unfold unkF at hx
  rcases List.mem_cons.mp hx with rfl | h
  · exact hc
  · obtain ⟨j, _, rfl⟩ := List.mem_map.mp h
    by_cases e : j = i
    · rw [if_pos e]
      exact hn
    · rw [if_neg e]
      exact ⟨Int.le_refl _, by omega⟩
def B12 : Int := 10 ^ 12
theorem sz12 {x : Int} (h : 0 ≤ x ∧ x < B12) : Sz 1000 x := sz_small h.1 h.2 (by unfold B12; exact Int.le_of_lt (by decide +kernel))
/-- the numbers at hand -/
structure Nums (L M : List Lim) (p : List Int) : Prop where
  hR : refB M L = true
  lM : M.length = L.length
  lp : L.length = p.length
  l3 : L.length ≤ 3
  bL : Bnd 3 3 L
  bM : Bnd 6 9 M
  pp : ∀ y ∈ p, 0 ≤ y ∧ y < B12
theorem Nums.okL {L M : List Lim} {p : List Int} (N : Nums L M p) : Lok L := bnd_ok N.bL N.l3 (by decide) (by decide)
theorem Nums.okM {L M : List Lim} {p : List Int} (N : Nums L M p) : Lok M := bnd_ok N.bM (by have := N.lM; have := N.l3; omega) (by decide) (by decide)
theorem Nums.p0 {L M : List Lim} {p : List Int} (N : Nums L M p) : ∀ y ∈ p, 0 ≤ y := fun y hy => (N.pp y hy).1
theorem Nums.low {L M : List Lim} {p : List Int} (N : Nums L M p) : ∀ y ∈ clsL M p, 0 ≤ y ∧ y < B12 := fun y hy => by
  obtain ⟨i, hi⟩ := List.mem_iff_getElem?.mp hy
  obtain ⟨l, c, e1, e2, rfl⟩ := List.getElem?_zipWith_eq_some.mp hi
  have b := N.bM l (mem_at e1)
  have q := N.pp c (mem_at e2)
  have := cls1_up b.1 b.2.2.1 q.1
  exact ⟨cls1_nn b.1 b.2.2.1 q.1, by omega⟩
theorem Nums.led {L M : List Lim} {p : List Int} (N : Nums L M p) : ∀ F ∈ ledL L M (clsL M p), F.length = L.length + 1 ∧ ∀ x ∈ F, 0 ≤ x ∧ x < B12 := fun F hF => by
  obtain ⟨i, hi, rfl⟩ := List.mem_map.mp hF
  have li := List.mem_range.mp hi
  have lM := N.lM
  have lp := N.lp
  have el : L[i]? = some L[i] := List.getElem?_eq_getElem li
  have em : M[i]? = some M[i] := List.getElem?_eq_getElem (by omega)
  have ll : (clsL M p).length = M.length := zip_len (by omega)
  have ec : (clsL M p)[i]? = some (clsL M p)[i] := List.getElem?_eq_getElem (by omega)
  generalize L[i] = l at el
  generalize M[i] = m at em
  generalize (clsL M p)[i] = x at ec
  have b := N.bL l (mem_at el)
  have b2 := N.bM m (mem_at em)
  have q := N.low x (mem_at ec)
  have t := turn1_bd b.1 b.2.2.1 q.1
  unfold ledAt
  rw [limD0_at el, limD0_at em, cnt_at ec]
  refine ⟨unk_len _ _ _ _, unk_mem ⟨t.1, by omega⟩ ?_⟩
  have s0 : 0 ≤ step1 m x ∧ step1 m x ≤ 9 := by
    unfold step1
    split
    · omega
    · omega
  have h1 := Int.ediv_nonneg s0.1 (show 0 ≤ l.2 by omega)
  have h2 := Int.ediv_le_self l.2 s0.1
  unfold B12
  omega
theorem Nums.place {L M : List Lim} {p : List Int} (N : Nums L M p) : ∀ y ∈ placeL M p, 0 ≤ y ∧ y < B12 := fun y hy => by
  obtain ⟨i, hi⟩ := List.mem_iff_getElem?.mp hy
  obtain ⟨l, c, e1, e2, rfl⟩ := List.getElem?_zipWith_eq_some.mp hi
  have b := N.bM l (mem_at e1)
  have q := N.pp c (mem_at e2)
  have t := turn1_bd b.1 b.2.2.1 q.1
  exact ⟨t.1, by omega⟩
theorem Nums.form {L M : List Lim} {p : List Int} (N : Nums L M p) {i : Nat} (hi : i < L.length) : formAt L p i = cls1 (limD0 L i) (p.getD i 0) :: (List.range L.length).map (fun j => if j = i then step1 (limD0 L i) (p.getD i 0) else 0) ∧ ∀ x ∈ formAt L p i, 0 ≤ x ∧ x < B12 := by
  refine ⟨rfl, ?_⟩
  have lp := N.lp
  have el : L[i]? = some L[i] := List.getElem?_eq_getElem hi
  have ec : p[i]? = some p[i] := List.getElem?_eq_getElem (by omega)
  generalize L[i] = l at el
  generalize p[i] = x at ec
  have b := N.bL l (mem_at el)
  have q := N.pp x (mem_at ec)
  unfold formAt
  rw [limD0_at el, cnt_at ec]
  have h1 := cls1_nn b.1 b.2.2.1 q.1
  have h2 := cls1_up b.1 b.2.2.1 q.1
  refine unk_mem ⟨h1, by omega⟩ ?_
  unfold step1 B12
  split
  · omega
  · omega
theorem val_all {L M : List Lim} {p : List Int} (N : Nums L M p) {k : Nat} (hk : k ≤ L.length) (f : Nat → Int) (hf : ∀ i, i < k → f i = (placeL L p).getD i 0) : (List.range k).map f = (placeL L p).take k := by
  have lp : (placeL L p).length = L.length := zip_len N.lp
  have e : (placeL L p).take k = (List.range k).map fun i => (placeL L p).getD i 0 := by
    apply List.ext_getElem?
    intro i
    rw [List.getElem?_take, List.getElem?_map]
    by_cases c : i < k
    · rw [if_pos c, List.getElem?_range c]
      show _ = some ((placeL L p).getD i 0)
      rw [List.getD_eq_getElem?_getD, List.getElem?_eq_getElem (show i < (placeL L p).length by omega)]
      rfl
    · rw [if_neg c, List.getElem?_eq_none (by rw [List.length_range]; omega)]
      rfl
  rw [e]
  exact List.map_congr_left fun i hi => hf i (List.mem_range.mp hi)
abbrev sPtGood : Stmt := top 64
abbrev nPtGood : List Str := ["_law_limits_here", "_law_finer_here", "_law_grid", "_law_fine", "_law_point_here", "_law_many_here", "_law_low", "_law_given", "_law_led", "_law_place", "_law_at", "_law_whole", "_law_form"]
theorem scPtGood : FnScope nPtGood ["_law_limits_here", "_law_finer_here", "_law_grid", "_law_fine", "_law_point_here"] (defScope sPtGood) := ⟨rfl, rfl, rfl, by decide +kernel, rfl, by decide +kernel, by decide +kernel⟩
def spPtGood (C : Addr) : Sp := fun vs H Q _ => ∃ (a b x y c : Addr) (L M : List Lim) (p : List Int), vs = [.ref a, .ref b, .ref x, .ref y, .ref c] ∧ LL H a L ∧ LL H b M ∧ Gr C H x L ∧ Gr C H y M ∧ H c = some (.lst (p.map V.int)) ∧ Nums L M p ∧ ∀ H', Same H H' → Q (.bl true) H'
section
variable {P : Program} {w : World} {K : PySem.W.Frag} {mg : Str → Option Value} {base : Heap} {f : Addr} {fd : FuncData} {C : Addr}
theorem ok_ptGood (F : FnP K "_law_point_good" sPtGood f fd) (o_class : Ok P w K mg base "_law_class" 2 ["_law_limits_here", "_law_point_here"] spClassL) (o_led : Ok P w K mg base "led_forms" 6 ["finer", "point", "grid"] (spLed C)) (k_led : OkK P w K mg base "led_forms" 6 ["finer", "point", "grid"] (spLed C)) (o_due : Ok P w K mg base "_law_led_due" 3 ["_law_limits_here", "_law_finer_here", "_law_low"] spLedDue)
    (o_value : Ok P w K mg base "_law_value" 1 ["_law_form", "_law_point_here"] spValue) (o_place : Ok P w K mg base "place_in_class" 5 ["grid", "point"] (spPlace C)) (o_ins : Ok P w K mg base "inserted" 5 ["form", "many", "forms"] spInserted) (o_cf : Ok P w K mg base "class_forms" 5 ["grid", "point"] (spClassForms C))
    (z_isinstance : mg "isinstance" = none) (z_list : mg "list" = none) (z_len : mg "len" = none) (z_range : mg "range" = none) : FnOk P w K mg base CX0 7 f fd ["_law_limits_here", "_law_finer_here", "_law_grid", "_law_fine", "_law_point_here"] (spPtGood C) := by
  have nd := scPtGood.nd
  refine F.ok scPtGood (fun vs H Q E h => ?_) (fun cdv A outer s H vs Q E hr h => ?_)
  · obtain ⟨a, b, x, y, c, L, M, p, rfl, _⟩ := h
    rfl
  · obtain ⟨a, b, x, y, c, L, M, p, rfl, hLL, hMM, hx, hy, hc, N, q⟩ := h
    have hu := hr.units
    obtain ⟨ls, ha, hL⟩ := id hLL
    obtain ⟨ms, hb, hM⟩ := id hMM
    have lls := hL.len
    have lms := hM.len
    have okL := N.okL
    have okM := N.okM
    have lM := N.lM
    have lp := N.lp
    have l3 := N.l3
    have r6 : Room 6 (A.deeper (envOfC "_law_point_good" (defScope sPtGood) s.heap.objs.size f cdv)) := hr
    have r5 := r6.mono (by decide : 5 ≤ 6)
    have r3 := r6.mono (by decide : 3 ≤ 6)
    have r2 := r6.mono (by decide : 2 ≤ 6)
    have r1 := r6.mono (by decide : 1 ≤ 6)
    refine ⟨_, PSs.nox (pss_cons (ps_set (i := 5) nd rfl (Or.inr rfl) (pe_callB call_len (by rfl) z_len boot_len (pa_cons (pv 0) pa_nil)))
      (pss_cons (ps_asg (pe_tup (pa_cons (pe_callO o_class r2 (by rfl) (pa_cons (pv 1) (pa_cons (pv 4) pa_nil))) (pa_cons (pe_callTy call_list_of (by rfl) z_list (by decide +kernel) (pa_cons (pv 4) pa_nil)) pa_nil))) (pg_tup rfl (pgs_cons (pg_name (i := 6) nd rfl (Or.inr rfl)) (pgs_cons (pg_name (i := 7) nd rfl (Or.inl rfl)) pgs_nil))))
      (pss_cons (ps_set (i := 8) nd rfl (Or.inr rfl) (pe_callO o_led r6 (by rfl) (pa_cons (pv 3) (pa_cons (pv 7) (pa_cons (pv 2) pa_nil)))))
      (C8.pss_cut (ps_if (PW.pt (pw_or (pt_cmpR (op_neD hu) (pv 7) (pv 4) (nomark _)) (pw_or (pt_not (pt_val (pe_callB call_isi (by rfl) z_isinstance (by decide +kernel) (pa_cons (pv 8) (pa_cons (pe_bltn (v := .ty "list") (by rfl) z_list (by decide +kernel) rfl) pa_nil))))) (pw_or1 (pt_cmpR (op_neD hu) (pv 8) (pe_callO o_due r3 (by rfl) (pa_cons (pv 0) (pa_cons (pv 1) (pa_cons (pv 6) pa_nil)))) (nomark _)))))) (pss_one (ps_ret pe_bl)) pss_nil)
      (C8.pss_cut (ps_if (pt_cmpR (op_neD hu) (pe_callK k_led r6 (by rfl) (pk_cons (pv 2) (pk_cons (pv 6) (pk_cons (pv 3) pk_nil)))) (pv 8) (nomark _)) (pss_one (ps_ret pe_bl)) pss_nil)
      (C8.pss_cut (ps_set (i := 9) nd rfl (Or.inr rfl) (pe_lc (own := [("_law_at", 10)]) (g := gName 10) (by rfl) nd (pi_range1 (by rfl) z_range (pa_cons (pv 5) pa_nil)) (blkOk_by (N := nPtGood) (sc := defScope sPtGood) (own := [("_law_at", 10)]) (by decide +kernel)) (fun _ _ _ _ _ => pg_name (i := 10) nd rfl (Or.inl rfl)) (fun _ _ _ _ _ => pts_nil)
        (fun _ _ _ _ _ => pe_op op_fdiv (pe_op op_sub (pe_ix (ix_listK (K := K) rfl) (pv 4) (pv 10) (fun _ _ => rfl)) (pe_ix (ix_listK (K := K) rfl) (pv 6) (pv 10) (fun _ _ => rfl))) (pe_ix (ix_tupK (K := K) rfl) (pe_ix (ix_listK (K := K) rfl) (pv 1) (pv 10) (fun _ _ => rfl)) pe_int (fun _ _ => rfl)))))
      (C8.pss_cut (ps_if (pt_cmpR (op_neD hu) (pe_lc (own := [("_law_form", 12)]) (g := gName 12) (by rfl) nd (pi_list (pv 8)) (blkOk_by (N := nPtGood) (sc := defScope sPtGood) (own := [("_law_form", 12)]) (by decide +kernel)) (fun _ _ _ _ _ => pg_name (i := 12) nd rfl (Or.inl rfl)) (fun _ _ _ _ _ => pts_nil)
        (fun _ _ _ _ _ => pe_callO o_value r1 (by rfl) (pa_cons (pv 12) (pa_cons (pv 9) pa_nil)))) (pe_callO o_place r5 (by rfl) (pa_cons (pv 2) (pa_cons (pe_callTy call_list_of (by rfl) z_list (by decide +kernel) (pa_cons (pv 4) pa_nil)) pa_nil))) (nomark _)) (pss_one (ps_ret pe_bl)) pss_nil)
      (C8.pss_cut (ps_setLc (i := 11) (own := [("_law_form", 12)]) (g := gName 12) (by rfl) nd rfl rfl (sw_true rfl rfl rfl (by decide +kernel)) (pi_list (pe_callO o_cf r5 (by rfl) (pa_cons (pv 2) (pa_cons (pe_callTy call_list_of (by rfl) z_list (by decide +kernel) (pa_cons (pv 4) pa_nil)) pa_nil)))) (blkOk_by (N := nPtGood) (sc := defScope sPtGood) (own := [("_law_form", 12)]) (by decide +kernel)) (fun _ _ _ _ _ => pg_name (i := 12) nd rfl (Or.inl rfl)) (fun _ _ _ _ _ => pts_nil)
        (fun _ _ _ _ _ => pe_callO o_ins r5 (by rfl) (pa_cons (pv 12) (pa_cons (pv 5) (pa_cons (pe_callTy (call_list_ofK (K := K) rfl) (by rfl) z_list (by decide +kernel) (pa_cons (pv 8) pa_nil)) pa_nil)))))
      (pss_one (ps_ret (pe_cmpR (op_eqD hu) (pv 11) (pe_callO o_cf r5 (by rfl) (pa_cons (pv 3) (pa_cons (pe_callTy call_list_of (by rfl) z_list (by decide +kernel) (pa_cons (pv 4) pa_nil)) pa_nil))) (nomark _)))))))))))), ?_⟩
    refine ⟨.ref a, rfl, _, L.length, rfl, .inl ⟨_, SqL.of ha, lls.symm⟩, ?_⟩
    refine ⟨_, rfl, _, rfl, b, c, M, p, rfl, hMM, hc, by omega, okM, fun H1 lo s1 hlo => ⟨_, rfl, c, _, rfl, .inl (SqL.of (s1 _ _ hc)), fun gi ngi => ⟨(by show 2 ≤ sizeLine; decide), fun pt npt => ?_⟩⟩⟩
    have s2 := same_new (o := .lst (p.map V.int)) ngi
    have s3 := same_new (o := .tup [.ref lo, .ref gi]) npt
    have hgi := s3 _ _ (upd_same (H := H1) (a := gi) (o := .lst (p.map V.int)))
    have S3 := (s1.trans s2).trans s3
    have hlo3 := s3 _ _ (s2 _ _ hlo)
    have hpt : (upd (upd H1 gi (.lst (p.map V.int))) pt (.tup [.ref lo, .ref gi])) pt = some (.tup [.ref lo, .ref gi]) := upd_same
    generalize upd (upd H1 gi (.lst (p.map V.int))) pt (.tup [.ref lo, .ref gi]) = H3 at *
    refine ⟨pt, _, rfl, SqT.of hpt, rfl, _, _, rfl, _, _, rfl, rfl, ?_⟩
    refine ⟨_, rfl, _, rfl, _, rfl, y, gi, x, L, M, p, rfl, hx.keep S3, hy.keep S3, hgi, lp, lM, okL, N.bM, N.p0, N.hR, fun H4 ld s4 nld hld => ?_⟩
    have S4 := S3.trans s4
    have hlo4 := s4 _ _ hlo3
    have hgi4 := s4 _ _ hgi
    -- the form of what is known behind each statement
    refine ⟨fun σ' H' => (∃ x9 x10 x11 x12, σ' = [some (.ref a), some (.ref b), some (.ref x), some (.ref y), some (.ref c), some (.int (L.length : Int)), some (.ref lo), some (.ref gi), some (.ref ld), x9, x10, x11, x12]) ∧ Same H4 H', ?_, ?_⟩
    · refine ⟨_, rfl, _, rfl, _, _, .lst (SqL.of hgi4) (dp_ints _), .lst (SqL.of (S4 _ _ hc)) (dp_ints _), shaped_lst _, shaped_lst _, ?_⟩
      rw [eqv_ints, decide_eq_true rfl]
      obtain ⟨fx, hfx, hft⟩ := id hld
      refine ⟨_, rfl, iteF ⟨_, rfl, _, _, _, _, true, rfl, .ty "list", .base (.lst hfx), kit_ty (by decide +kernel), true, rfl, iteF ⟨_, rfl, _, rfl, _, rfl, _, rfl, a, b, lo, L, M, clsL M p, rfl, hLL.keep S4, hMM.keep S4, hlo4, ?_, lM, okL, N.bM, N.hR, fun H5 r s5 nr hr5 => ?_⟩⟩⟩
      · rw [show (clsL M p).length = M.length from zip_len (by omega), lM]
      · refine ⟨_, _, (hld.keep s5).dp, hr5.dp, shaped_F _, shaped_F _, ?_⟩
        rw [eqv_F, decide_eq_true rfl]
        exact ⟨_, rfl, iteF ⟨⟨_, _, _, _, rfl⟩, s5⟩⟩
    rintro σ1 H5 ⟨⟨x9, x10, x11, x12, rfl⟩, s5⟩
    refine ⟨fun σ' H' => (∃ x9 x10 x11 x12, σ' = [some (.ref a), some (.ref b), some (.ref x), some (.ref y), some (.ref c), some (.int (L.length : Int)), some (.ref lo), some (.ref gi), some (.ref ld), x9, x10, x11, x12]) ∧ Same H4 H', ?_, ?_⟩
    · have S5 := S4.trans s5
      refine ⟨_, rfl, _, rfl, _, rfl, rfl, y, lo, x, L, M, clsL M p, rfl, hx.keep S5, hy.keep S5, s5 _ _ hlo4, ?_, lM, okL, N.bM, fun v hv => (N.low v hv).1, N.hR, fun H6 r s6 nr hr6 => ⟨_, rfl, ?_⟩⟩
      · rw [show (clsL M p).length = M.length from zip_len (by omega), lM]
      rw [clsL_idem (fun m hm => (N.bM m hm).2.2.1) (by omega)] at hr6
      refine ⟨_, _, hr6.dp, ((hld.keep s5).keep s6).dp, shaped_F _, shaped_F _, ?_⟩
      rw [eqv_F, decide_eq_true rfl]
      exact ⟨_, rfl, iteF ⟨⟨_, _, _, _, rfl⟩, s5.trans s6⟩⟩
    clear x9 x10 x11 x12
    rintro σ1 H5 ⟨⟨x9, x10, x11, x12, rfl⟩, s5⟩
    refine ⟨fun σ' H' => (∃ pl x10 x11 x12, σ' = [some (.ref a), some (.ref b), some (.ref x), some (.ref y), some (.ref c), some (.int (L.length : Int)), some (.ref lo), some (.ref gi), some (.ref ld), some (.ref pl), x10, x11, x12] ∧ H' pl = some (.lst ((placeL M p).map V.int))) ∧ Same H4 H', ?_, ?_⟩
    · have S5 := S4.trans s5
      have hlo5 := s5 _ _ hlo4
      refine ⟨_, rfl, (L.length : Int), rfl, by omega, by omega, fun D nD => ?_⟩
      rw [show ((L.length : Nat) : Int).toNat = L.length from by omega]
      have lpl : (placeL M p).length = L.length := by rw [show (placeL M p).length = M.length from zip_len (by omega), lM]
      refine lc_range (lo := 0) (n := L.length) (fun k H' => Same H5 H' ∧ H' D = some (.lst (((placeL M p).take k).map V.int))) ⟨same_new nD, upd_same⟩ ?_ ?_
      · rintro i H' hi ⟨sm, hD⟩
        rw [Int.zero_add]
        have em : M[i]? = some M[i] := List.getElem?_eq_getElem (by omega)
        have ec : p[i]? = some p[i] := List.getElem?_eq_getElem (by omega)
        generalize M[i] = m at em
        generalize p[i] = v at ec
        obtain ⟨vm, evm, ⟨tm, rfl, htm⟩⟩ := hM.at em
        have bm := N.bM m (mem_at em)
        have S := S5.trans sm
        have gx : (p.map V.int)[i]? = some (.int v) := by
          rw [List.getElem?_map, ec]
          rfl
        have gc : ((clsL M p).map V.int)[i]? = some (.int (cls1 m v)) := by
          rw [List.getElem?_map, show (clsL M p)[i]? = _ from zip_get em ec]
          rfl
        have i1 : atI [V.int m.1, V.int m.2] ((1 : Nat) : Int) = some (V.int m.2) := atI_nat rfl
        refine ⟨rfl, ?_⟩
        refine ⟨_, rfl, _, rfl, c, _, _, _, rfl, rfl, SqL.of (S _ _ hc), atI_nat gx, _, rfl, _, rfl, lo, _, _, _, rfl, rfl, SqL.of (sm _ _ hlo5), atI_nat gc, _, _, rfl, rfl, _, rfl, _, rfl, b, _, _, _, rfl, rfl, SqL.of (S _ _ hb), atI_nat evm, tm, _, _, _, rfl, rfl, SqT.of (S _ _ htm), i1, _, _, rfl, rfl, ⟨by show 0 < m.2; omega, by show m.2 < 1073741824; omega⟩, _, hD, ?_, fun b o e => ?_, ?_⟩
        · rw [List.length_map]
          exact small1000 (Nat.le_trans (List.length_take_le _ _) (by omega))
        · rw [upd_ne (ne_of_none e nD)]
          exact sm _ _ e
        · rw [upd_same, List.take_add_one, show (placeL M p)[i]? = _ from zip_get em ec, List.map_append]
          rfl
      · rintro H' ⟨sm, hD⟩
        rw [take_all lpl] at hD
        exact ⟨⟨D, _, _, _, rfl, hD⟩, s5.trans sm⟩
    clear x9 x10 x11 x12
    rintro σ1 H5 ⟨⟨pl, x10, x11, x12, rfl, hpl⟩, s5⟩
    have lpl : (placeL M p).length = L.length := by rw [show (placeL M p).length = M.length from zip_len (by omega), lM]
    have lplL : (placeL L p).length = L.length := zip_len lp
    have lled : (ledL L M (clsL M p)).length = L.length := by
      unfold ledL
      rw [List.length_map, List.length_range]
    refine ⟨fun σ' H' => (∃ x10 x11 x12, σ' = [some (.ref a), some (.ref b), some (.ref x), some (.ref y), some (.ref c), some (.int (L.length : Int)), some (.ref lo), some (.ref gi), some (.ref ld), some (.ref pl), x10, x11, x12]) ∧ Same H4 H', ?_, ?_⟩
    · have S5 := S4.trans s5
      obtain ⟨fx, hfx, hft⟩ := hld.keep s5
      have lfx := hft.len
      refine ⟨_, rfl, ld, rfl, ⟨_, SqL.of hfx⟩, fun D nD => lc_list (K := K) (a := ld) (xs := fx) (fun k H' => Same H5 H' ∧ H' D = some (.lst (((placeL L p).take k).map V.int))) ⟨same_new nD, upd_same⟩ (fun k H' _ z => SqL.of (z.1 _ _ hfx)) ?_ ?_⟩
      · rintro k y0 H' hk ⟨sm, hD⟩
        obtain ⟨F, eF, ⟨ta, rfl, hta⟩⟩ := hft.get hk
        have lk : k < L.length := by
          have := (List.getElem?_eq_some_iff.mp hk).1
          omega
        obtain ⟨t, n, e1, e2⟩ := value_at N.hR lM lp (fun l hl => (N.bL l hl).2.2.1) (fun m hm => (N.bM m hm).2.2.1) lk
        have eF2 : F = unkF L.length k t n := by
          unfold ledL at eF
          rw [List.getElem?_map, List.getElem?_range lk] at eF
          rw [← e1]
          exact (Option.some.inj eF).symm
        subst eF2
        obtain ⟨_, bF⟩ := N.led _ (mem_at eF)
        refine ⟨rfl, ?_⟩
        refine ⟨_, rfl, _, rfl, ta, pl, t, (List.range L.length).map (fun j => if j = k then n else 0), placeL M p, rfl, sm _ _ hta, sm _ _ hpl, by rw [List.length_map, List.length_range, lpl], by rw [List.length_map, List.length_range]; omega, fun v hv => sz12 (bF v (List.mem_cons_of_mem _ hv)), fun v hv => sz12 (N.place v hv), fun H6 s6 => ?_⟩
        rw [e2]
        have ek : (placeL L p)[k]? = some ((placeL L p).getD k 0) := by
          rw [List.getD_eq_getElem?_getD, List.getElem?_eq_getElem (show k < (placeL L p).length by omega)]
          rfl
        refine ⟨_, s6 _ _ hD, ?_, fun b o e => ?_, ?_⟩
        · rw [List.length_map]
          exact small1000 (Nat.le_trans (List.length_take_le _ _) (by omega))
        · rw [upd_ne (ne_of_none (H := H5) e nD)]
          exact s6 _ _ (sm _ _ e)
        · rw [upd_same, List.take_add_one, ek, List.map_append]
          rfl
      · rintro H' ⟨sm, hD⟩
        rw [take_all (n := fx.length) (by omega)] at hD
        have S6 := S5.trans sm
        refine ⟨_, rfl, _, rfl, c, _, rfl, .inl (SqL.of (S6 _ _ hc)), fun u nu => ?_⟩
        have su := same_new (o := .lst (p.map V.int)) nu
        refine ⟨x, u, L, p, rfl, hx.keep (S6.trans su), okL, upd_same, lp, N.p0, fun H7 r s7 h7 => ?_⟩
        refine ⟨_, _, .lst (SqL.of (s7 _ _ (su _ _ hD))) (dp_ints _), .lst (SqL.of h7) (dp_ints _), shaped_lst _, shaped_lst _, ?_⟩
        rw [eqv_ints, decide_eq_true rfl]
        exact ⟨_, rfl, iteF ⟨⟨_, _, _, rfl⟩, ((s5.trans sm).trans su).trans s7⟩⟩
    clear x10 x11 x12 hpl s5 H5
    rintro σ1 H5 ⟨⟨x10, x11, x12, rfl⟩, s5⟩
    refine ⟨fun σ' H' => (∃ x10 wh x12, σ' = [some (.ref a), some (.ref b), some (.ref x), some (.ref y), some (.ref c), some (.int (L.length : Int)), some (.ref lo), some (.ref gi), some (.ref ld), some (.ref pl), x10, some (.ref wh), x12] ∧ FL H' wh (formsL M p)) ∧ Same H4 H', ?_, ?_⟩
    · have S5 := S4.trans s5
      refine ⟨_, rfl, _, rfl, c, _, rfl, .inl (SqL.of (S5 _ _ hc)), fun u nu => ?_⟩
      have su := same_new (o := .lst (p.map V.int)) nu
      refine ⟨x, u, L, p, rfl, hx.keep (S5.trans su), okL, upd_same, lp, N.p0, fun H7 r s7 nr ⟨rx, hrx, hrt⟩ => ⟨r, rfl, ⟨_, SqL.of hrx⟩, fun D nD => ?_⟩⟩
      have S7 := (S5.trans su).trans s7
      have s57 := (s5.trans su).trans s7
      have lrx := hrt.len
      have lfm : (formsL L p).length = L.length := by
        unfold formsL
        rw [List.length_map, List.length_range]
      obtain ⟨fx, hfx, hft⟩ := hld.keep s57
      obtain ⟨ps, eps, eps2, hps⟩ := hft.pairs
      subst eps
      have lps : ps.length = L.length := by
        rw [← lled, ← eps2, List.length_map]
      refine lc_list (K := K) (a := r) (xs := rx) (fun k H' => Same H7 H' ∧ ∃ acc, H' D = some (.lst acc) ∧ Fts H' acc ((List.range k).map (formAt M p))) ⟨same_new nD, [], upd_same, .nil⟩ (fun k H' _ z => SqL.of (z.1 _ _ hrx)) ?_ ?_
      · rintro k y0 H' hk ⟨sm, acc, hD, hA⟩
        obtain ⟨F, eF, ⟨ta, rfl, hta⟩⟩ := hrt.get hk
        have lk : k < L.length := by
          have := (List.getElem?_eq_some_iff.mp hk).1
          omega
        have eF2 : F = formAt L p k := by
          unfold formsL at eF
          rw [List.getElem?_map, List.getElem?_range lk] at eF
          exact (Option.some.inj eF).symm
        subst eF2
        obtain ⟨ef, bf⟩ := N.form lk
        refine ⟨rfl, ?_⟩
        refine ⟨_, rfl, _, rfl, _, rfl, ld, _, rfl, .inl (SqL.of (sm _ _ hfx)), fun v nv => ?_⟩
        have sv := same_new (o := .lst (ps.map fun p => V.ref p.1)) nv
        have Sv := sm.trans sv
        refine ⟨ta, v, L.length, cls1 (limD0 L k) (p.getD k 0), (List.range L.length).map (fun j => if j = k then step1 (limD0 L k) (p.getD k 0) else 0), ps, rfl, ⟨Sv _ _ hta, fun z hz => (bf z hz).1, ?_, ?_⟩, ⟨upd_same, by omega, l3, fun q hq => ?_⟩, by rw [List.length_map, List.length_range, lps], fun z hz => sz12 (bf z (List.mem_cons_of_mem _ hz)), fun q hq z hz => ?_, fun H8 w s8 nw hw => ?_⟩
        · rw [List.length_cons]
          omega
        · rw [List.length_cons, List.length_map, List.length_range]
          omega
        · have mq : q.2 ∈ ledL L M (clsL M p) := by
            rw [← eps2]
            exact List.mem_map.mpr ⟨q, hq, rfl⟩
          obtain ⟨m1, m2⟩ := N.led _ mq
          exact ⟨⟨Sv _ _ (hps q hq), fun z hz => (m2 z hz).1, by omega, by omega⟩, m1⟩
        · have mq : q.2 ∈ ledL L M (clsL M p) := by
            rw [← eps2]
            exact List.mem_map.mpr ⟨q, hq, rfl⟩
          exact sz12 ((N.led _ mq).2 z hz)
        · rw [eps2, whole_at N.hR lM lp (fun l hl => (N.bL l hl).2.2.1) (fun m hm => (N.bM m hm).2.2.1) lk] at hw
          have hD8 := s8 _ _ (sv _ _ hD)
          refine ⟨acc, hD8, ?_, fun b o e => ?_, acc ++ [.ref w], upd_same, ?_⟩
          · have := hA.len
            rw [List.length_map, List.length_range] at this
            exact small1000 (by omega)
          · rw [upd_ne (ne_of_none e nD)]
            exact s8 _ _ (Sv _ _ e)
          · rw [List.range_succ, List.map_append]
            exact Fts.updL hD8 (((hA.keep sv).keep s8).snoc ⟨w, rfl, hw⟩)
      · rintro H' ⟨sm, acc, hD, hA⟩
        rw [show rx.length = M.length by omega] at hA
        exact ⟨⟨_, D, _, rfl, acc, hD, hA⟩, s57.trans sm⟩
    clear x10 x11 x12
    rintro σ1 H6 ⟨⟨x10, wh, x12, rfl, hwh⟩, s6⟩
    have S6 := S4.trans s6
    refine ⟨_, rfl, _, rfl, _, rfl, c, _, rfl, .inl (SqL.of (S6 _ _ hc)), fun u nu => ?_⟩
    have su := same_new (o := .lst (p.map V.int)) nu
    refine ⟨y, u, M, p, rfl, hy.keep (S6.trans su), okM, upd_same, by omega, N.p0, fun H7 r s7 nr h7 => ?_⟩
    refine ⟨_, _, ((hwh.keep su).keep s7).dp, h7.dp, shaped_F _, shaped_F _, ?_⟩
    rw [eqv_F, decide_eq_true rfl]
    exact q H7 ((S6.trans su).trans s7)
end
end KB
set_option Elab.async false
set_option linter.all false
set_option maxRecDepth 100000
set_option maxHeartbeats 800000
namespace KB
open PySem PySem.Spec PyProof.Rows L2 XV
open PySem.W (EachIs)
/-! ### sorted, of lists of whole numbers -/
def rSortPts (K : PySem.W.Frag) : List V → Hp → VK → Prop := fun vs H Q => ∃ (a : Addr) (xs : List V) (F : List (List Int)), vs = [V.ref a] ∧ SqL K H a xs ∧ Pts H xs F ∧
  ∀ (ys : List V) (p : Addr), Pts H ys (F.mergeSort fun p q => decide (p ≤ q)) → H p = none → Q (.ref p) (upd H p (.lst ys))
theorem reads_ints {h : Heap} : ∀ {p : List Int} {us : List Value}, Vals (p.map V.int) us → ReadsAll h us (p.map PyData.int) []
  | [], _, .nil => .nil
  | x :: p, _, .cons r rr => by
    obtain ⟨t, rfl⟩ := r
    exact .cons (.int x t) (reads_ints rr)
theorem each_pts {H : Hp} : ∀ {xs : List V} {us : List Value} {F : List (List Int)}, Pts H xs F → Vals xs us → EachIs (fun v p => ∃ a, v = Value.ref a ∧ H a = some (.lst (p.map V.int))) us F
  | _, _, _, .nil, .nil => .nil
  | _, _, _, .cons h r, .cons q qq => .cons (by
      obtain ⟨a, rfl, t⟩ := h
      exact ⟨a, q, t⟩) (each_pts r qq)
theorem pts_each {H : Hp} : ∀ {us : List Value} {F : List (List Int)}, EachIs (fun v p => ∃ a, v = Value.ref a ∧ H a = some (.lst (p.map V.int))) us F → ∃ ys, Pts H ys F ∧ Vals ys us
  | _, _, .nil => ⟨[], .nil, .nil⟩
  | _, _, .cons h r => by
    obtain ⟨a, rfl, t⟩ := h
    obtain ⟨ys, e1, e2⟩ := pts_each r
    exact ⟨.ref a :: ys, .cons ⟨a, rfl, t⟩ e1, .cons (show RelV (V.ref a) (Value.ref a) from rfl) e2⟩
theorem cr_sortPts {X : Cx} (hu : X.A.units + 64 < cLine) : CallR X (.builtin "sorted") (rSortPts X.K) := by
  intro pins s σ H vs us Q I r h
  obtain ⟨a, xs, F, rfl, hs, hP, q⟩ := h
  obtain ⟨its, rv, hl, hz⟩ := I.list hs
  obtain ⟨u, rfl, ru⟩ := vals1 r
  obtain rfl : u = Value.ref a := ru
  have lF := hP.len
  have e := each_pts hP rv
  have er : EachIs (fun v b => ∃ as, Reads s.heap v (ptD b) as) its F := e.mono fun v p ⟨b, ev, hb⟩ => by
    subst ev
    obtain ⟨_, us', n, rr, eo⟩ := I.hok b _ hb
    exact ⟨_, .list eo rfl rfl (reads_ints (by simpa using rr))⟩
  refine PySem.W.sorted_data (enc := ptD) hl.isList e er (PySem.W.AllAlike.of fun b b' => ?_) (PySem.W.Sortable.others fun b => ⟨(fun z => by cases z), fun xs z => by cases z⟩) (by omega) (fun b _ => ?_) fun out lo eo => ?_
  · show PySem.W.alike (.list (b.map .int)) (.list (b'.map .int)) = true
    simp only [PySem.W.alike]
    exact PySem.W.alike_ints b b'
  · have d : (ptD b).depth = 1 := by
      simp only [ptD, PyData.depth, depth_ints]
    rw [d]
    omega
  · rw [show (PySem.W.dataLe false ptD) = fun p q : List Int => decide (p ≤ q) from PySem.W.dataLe_rows (fun p : List Int => p)] at eo
    obtain ⟨ys, e1, e2⟩ := pts_each eo
    obtain ⟨ep, he'⟩ := PyProof.Rows.sortedAll_at s.heap its out.toArray
    have ly : ys.length ≤ sizeLine := by
      rw [e2.length, lo, ← lF]
      exact hz
    exact ⟨.ref _, upd H (s.heap.objs.size + 1) (.lst ys), I.laid (t' := s.toks) (fun _ _ => PyProof.Rows.sortedAll_old) (Nat.le_succ _) ⟨ly, out, ep, e2, he'⟩, rfl, q _ _ e1 (I.hok.fresh (Nat.le_succ _))⟩
/-! ### the box is in order -/
theorem lt_app : ∀ {p q : List Int} (x y : List Int), p.length = q.length → p < q → p ++ x < q ++ y
  | [], [], _, _, _, h => absurd h (List.lt_irrefl _)
  | a :: p, b :: q, x, y, hl, h => by
    have hl : p.length = q.length := by simpa using hl
    rw [List.cons_append, List.cons_append]
    rw [List.cons_lt_cons_iff] at h ⊢
    rcases h with h | ⟨e, h⟩
    · exact .inl h
    · exact .inr ⟨e, lt_app x y hl h⟩
theorem lt_last : ∀ (p : List Int) {j k : Int}, j < k → p ++ [j] < p ++ [k]
  | [], j, k, h => by
    show [j] < [k]
    rw [List.cons_lt_cons_iff]
    exact .inl h
  | a :: p, j, k, h => by
    rw [List.cons_append, List.cons_append, List.cons_lt_cons_iff]
    exact .inr ⟨rfl, lt_last p h⟩
theorem box_sorted {S : List Int} : ∀ n, n ≤ S.length → (box (S.take n)).Pairwise (· < ·) := by
  intro n
  induction n with
  | zero =>
    intro _
    show ([[]] : List (List Int)).Pairwise _
    exact List.pairwise_singleton _ _
  | succ n ih =>
    intro hn
    have e : S[n]? = some S[n] := List.getElem?_eq_getElem hn
    rw [show box (S.take (n + 1)) = stepB (box (S.take n)) S[n] from fold_take _ _ e]
    unfold stepB
    rw [List.pairwise_flatMap]
    refine ⟨fun p hp => ?_, ?_⟩
    · rw [List.pairwise_map]
      exact List.pairwise_lt_range.imp fun {j k} h => lt_last p (by omega)
    · refine List.Pairwise.imp_of_mem (fun {p q} hp hq h x hx y hy => ?_) (ih (by omega))
      obtain ⟨j, _, rfl⟩ := List.mem_map.mp hx
      obtain ⟨k, _, rfl⟩ := List.mem_map.mp hy
      exact lt_app _ _ (by rw [(box_fit n (by omega) p hp).1, (box_fit n (by omega) q hq).1]) h
theorem box_lt (S : List Int) : (box S).Pairwise (· < ·) := by
  have h := box_sorted (S := S) S.length (Nat.le_refl _)
  rw [List.take_length] at h
  exact h
theorem box_nodup (S : List Int) : (box S).Nodup := (box_lt S).imp fun {p q} h e => by
  rw [e] at h
  exact List.lt_irrefl _ h
theorem cls_in {L : List Lim} (h : ∀ l ∈ L, 0 ≤ l.1 ∧ 1 ≤ l.2) {s : List Int} (hl : L.length = s.length) (h0 : ∀ x ∈ s, 0 ≤ x) : clsL L s ∈ box (sizes L) := by
  refine box_all (by unfold sizes; rw [List.length_map]; exact zip_len hl) fun i x b h1 h2 => ?_
  obtain ⟨l, c, e1, e2, rfl⟩ := List.getElem?_zipWith_eq_some.mp h1
  unfold sizes at h2
  rw [List.getElem?_map, e1] at h2
  cases h2
  obtain ⟨a1, a2⟩ := h l (mem_at e1)
  refine ⟨cls1_nn a1 a2 (h0 c (mem_at e2)), ?_⟩
  show cls1 l c < l.1 + l.2
  unfold cls1
  split
  · omega
  · have := Int.emod_lt_of_pos (c - l.1) (show 0 < l.2 by omega)
    omega
theorem cls_fix {L : List Lim} {c : List Int} (hc : c ∈ box (sizes L)) : c.length = L.length ∧ clsL L c = c ∧ ∀ x ∈ c, 0 ≤ x := by
  have lS : (sizes L).length = L.length := List.length_map ..
  obtain ⟨e1, e2⟩ := box_fit (S := sizes L) (sizes L).length (Nat.le_refl _) c (by rw [List.take_length]; exact hc)
  have fit : ∀ (i : Nat) (l : Lim) (x : Int), L[i]? = some l → c[i]? = some x → 0 ≤ x ∧ x < l.1 + l.2 := fun i l x h1 h2 => e2 i x _ h2 (by unfold sizes; rw [List.getElem?_map, h1]; rfl)
  refine ⟨by omega, ?_, fun x hx => ?_⟩
  · unfold clsL
    apply List.ext_getElem?
    intro i
    rw [List.getElem?_zipWith]
    by_cases z : i < L.length
    · have h1 : L[i]? = some L[i] := List.getElem?_eq_getElem z
      have h2 : c[i]? = some c[i] := List.getElem?_eq_getElem (by omega)
      obtain ⟨f1, f2⟩ := fit i _ _ h1 h2
      rw [h1, h2]
      show some (cls1 L[i] c[i]) = some c[i]
      unfold cls1
      split
      · rfl
      · rw [Int.emod_eq_of_lt (by omega) (by omega)]
        congr 1
        omega
    · rw [List.getElem?_eq_none (by omega), List.getElem?_eq_none (by omega)]
  · obtain ⟨i, hi⟩ := List.mem_iff_getElem?.mp hx
    have li := (List.getElem?_eq_some_iff.mp hi).1
    exact (fit i _ x (List.getElem?_eq_getElem (by omega)) hi).1
theorem parts_perm {L M : List Lim} (hL : ∀ l ∈ L, 0 ≤ l.1 ∧ 1 ≤ l.2) (hlM : M.length = L.length) : ((box (sizes L)).flatMap (withinL L M)).Perm (box (sizes M)) := by
  refine (List.perm_ext_iff_of_nodup ?_ (box_nodup _)).mpr fun s => ?_
  · unfold List.Nodup
    rw [List.pairwise_flatMap]
    refine ⟨fun c hc => List.Pairwise.filter _ (box_nodup _), (box_nodup (sizes L)).imp fun {c d} ne x hx y hy e => ?_⟩
    unfold withinL at hx hy
    have h1 := (List.mem_filter.mp hx).2
    have h2 := (List.mem_filter.mp hy).2
    unfold inC at h1 h2
    rw [e] at h1
    exact ne ((of_decide_eq_true h1).symm.trans (of_decide_eq_true h2))
  · rw [List.mem_flatMap]
    constructor
    · rintro ⟨c, _, h⟩
      exact (List.mem_filter.mp h).1
    · intro hs
      obtain ⟨l1, _, l3⟩ := cls_fix hs
      exact ⟨clsL L s, cls_in hL (by omega) l3, List.mem_filter.mpr ⟨hs, decide_eq_true rfl⟩⟩
theorem sort_parts {L M : List Lim} (hL : ∀ l ∈ L, 0 ≤ l.1 ∧ 1 ≤ l.2) (hlM : M.length = L.length) : (((box (sizes L)).flatMap (withinL L M)).mergeSort fun p q => decide (p ≤ q)) = box (sizes M) := by
  refine List.Perm.eq_of_pairwise (le := fun p q => (decide (p ≤ q)) = true) (fun p q _ _ h1 h2 => List.le_antisymm (of_decide_eq_true h1) (of_decide_eq_true h2)) (List.pairwise_mergeSort (le := fun p q : List Int => decide (p ≤ q)) (fun p q r h1 h2 => decide_eq_true (List.le_trans (of_decide_eq_true h1) (of_decide_eq_true h2))) (fun p q => ?_) _) ((box_lt _).imp fun {p q} h => decide_eq_true (List.le_of_lt h)) ((List.mergeSort_perm _ _).trans (parts_perm hL hlM))
  rcases List.le_total p q with h | h
  · rw [decide_eq_true h]
    rfl
  · rw [decide_eq_true h, Bool.or_true]
end KB
set_option Elab.async false
set_option linter.all false
set_option maxRecDepth 100000
set_option maxHeartbeats 4000000
namespace KB
open PySem PySem.Spec PyProof.Rows L2 XV
abbrev sWiGood : Stmt := top 65
abbrev nWiGood : List Str := ["_law_limits_here", "_law_finer_here", "_law_grid", "_law_fine", "_law_point_here", "_law_given", "_law_least_here", "_law_due", "_law_low", "_law_found"]
theorem scWiGood : FnScope nWiGood ["_law_limits_here", "_law_finer_here", "_law_grid", "_law_fine", "_law_point_here"] (defScope sWiGood) := ⟨rfl, rfl, rfl, by decide +kernel, rfl, by decide +kernel, by decide +kernel⟩
/-- a list of points -/
def PL (H : Hp) (r : Addr) (F : List (List Int)) : Prop := ∃ xs, H r = some (.lst xs) ∧ Pts H xs F
theorem PL.keep {H H' : Hp} (s : Same H H') {r : Addr} {F : List (List Int)} (h : PL H r F) : PL H' r F := by
  obtain ⟨xs, e, t⟩ := h
  exact ⟨xs, s _ _ e, t.keep s⟩
theorem PL.dp {K : PySem.W.Frag} {H : Hp} {a : Addr} {F : List (List Int)} (h : PL H a F) : Dp K H (.ref a) (PD F) := by
  obtain ⟨xs, e, r⟩ := h
  exact .lst (SqL.of e) r.dp
def spWiGood (C : Addr) : Sp := fun vs H Q _ => ∃ (a b x y c : Addr) (L M : List Lim) (p : List Int), vs = [.ref a, .ref b, .ref x, .ref y, .ref c] ∧ LL H a L ∧ LL H b M ∧ Gr C H x L ∧ Gr C H y M ∧ H c = some (.lst (p.map V.int)) ∧ Nums L M p ∧ ∀ H', Same H H' → Q (.bl true) H'
section
variable {P : Program} {w : World} {K : PySem.W.Frag} {mg : Str → Option Value} {base : Heap} {f : Addr} {fd : FuncData} {C : Addr}
theorem ok_wiGood (F : FnP K "_law_within_good" sWiGood f fd) (o_class : Ok P w K mg base "_law_class" 2 ["_law_limits_here", "_law_point_here"] spClassL) (o_classes : Ok P w K mg base "_law_classes" 2 ["_law_limits_here"] spClasses) (o_wi : Ok P w K mg base "within" 6 ["grid", "point", "finer"] (spWithin C)) (k_wi : OkK P w K mg base "within" 6 ["grid", "point", "finer"] (spWithin C))
    (o_are : Ok P w K mg base "_law_are_points" 2 ["_law_many_here", "_law_values"] spArePts) (o_cls : Ok P w K mg base "class_of" 5 ["grid", "point"] (spClassOf C)) (z_list : mg "list" = none) (z_len : mg "len" = none) : FnOk P w K mg base CX0 7 f fd ["_law_limits_here", "_law_finer_here", "_law_grid", "_law_fine", "_law_point_here"] (spWiGood C) := by
  have nd := scWiGood.nd
  refine F.ok scWiGood (fun vs H Q E h => ?_) (fun cdv A outer s H vs Q E hr h => ?_)
  · obtain ⟨a, b, x, y, c, L, M, p, rfl, _⟩ := h
    rfl
  · obtain ⟨a, b, x, y, c, L, M, p, rfl, hLL, hMM, hx, hy, hc, N, q⟩ := h
    have hu := hr.units
    have okL := N.okL
    have okM := N.okM
    have lM := N.lM
    have lp := N.lp
    have l3 := N.l3
    have r6 : Room 6 (A.deeper (envOfC "_law_within_good" (defScope sWiGood) s.heap.objs.size f cdv)) := hr
    have r5 := r6.mono (by decide : 5 ≤ 6)
    have r2 := r6.mono (by decide : 2 ≤ 6)
    refine ⟨_, PSs.nox (pss_cons (ps_set (i := 5) nd rfl (Or.inl rfl) (pe_callTy call_list_of (by rfl) z_list (by decide +kernel) (pa_cons (pv 4) pa_nil)))
      (pss_cons (ps_set (i := 6) nd rfl (Or.inr rfl) (pe_callO o_class r2 (by rfl) (pa_cons (pv 0) (pa_cons (pv 4) pa_nil))))
      (C8.pss_cut (ps_setLc (i := 7) (own := [("_law_low", 8)]) (g := gName 8) (by rfl) nd rfl rfl (sw_true rfl rfl rfl (by decide +kernel)) (pi_list (pe_callO o_classes r2 (by rfl) (pa_cons (pv 1) pa_nil))) (blkOk_by (N := nWiGood) (sc := defScope sWiGood) (own := [("_law_low", 8)]) (by decide +kernel)) (fun _ _ _ _ _ => pg_name (i := 8) nd rfl (Or.inl rfl))
        (fun _ _ _ _ _ => pts_one (pt_cmpR (op_eqDK (K := K) rfl hu) (pe_callO o_class r2 (by rfl) (pa_cons (pv 0) (pa_cons (pv 8) pa_nil))) (pv 6) (nomark _))) (fun _ _ _ _ _ => pv 8))
      (pss_cons (ps_set (i := 9) nd rfl (Or.inl rfl) (pe_callO o_wi r6 (by rfl) (pa_cons (pv 2) (pa_cons (pv 5) (pa_cons (pv 3) pa_nil)))))
      (C8.pss_cut (ps_if (PW.pt (pw_or (pt_cmpR (op_neD hu) (pv 5) (pv 4) (nomark _)) (pw_or (pt_cmpR (op_neD hu) (pv 9) (pv 7) (nomark _)) (pw_or (pt_not (pt_val (pe_callO o_are r2 (by rfl) (pa_cons (pe_callB call_len (by rfl) z_len boot_len (pa_cons (pv 0) pa_nil)) (pa_cons (pv 9) pa_nil))))) (pw_or1 (pt_cmpR (op_neD hu) (pe_callO o_cls r5 (by rfl) (pa_cons (pv 2) (pa_cons (pe_callTy call_list_of (by rfl) z_list (by decide +kernel) (pa_cons (pv 4) pa_nil)) pa_nil))) (pv 6) (nomark _))))))) (pss_one (ps_ret pe_bl)) pss_nil)
      (pss_cons (ps_expr (pe_bm PySem.F.plainAttrs_list PySem.F.slot_list_append PySem.F.type_list_append mt_append (pv 9) (pa_cons pe_non pa_nil)))
      (C8.pss_cut (ps_if (pt_cmpR (op_neD hu) (pv 7) (pe_lst pa_nil) (nomark _)) (pss_one (ps_expr (pe_bm PySem.F.plainAttrs_list PySem.F.slot_list_append PySem.F.type_list_append mt_append (pe_ix ix_list (pv 9) pe_int (fun _ _ => rfl)) (pa_cons pe_int pa_nil)))) pss_nil)
      (pss_one (ps_ret (pe_cmpR (op_eqD hu) (pe_callK k_wi r6 (by rfl) (pk_cons (pv 3) (pk_cons (pv 6) (pk_cons (pv 2) pk_nil)))) (pv 7) (nomark _))))))))))), ?_⟩
    obtain ⟨ls, ha, hL⟩ := id hLL
    have lls := hL.len
    have hnP : ∀ s ∈ box (sizes M), L.length = s.length ∧ ∀ v ∈ s, 0 ≤ v := fun s hs => by
      obtain ⟨l1, _, l2⟩ := cls_fix hs
      exact ⟨by omega, l2⟩
    have lB : (box (sizes M)).length ≤ 3375 := by
      have hb : ∀ s ∈ sizes M, 0 ≤ s ∧ s ≤ 15 := fun s hs => by
        obtain ⟨l, hl, rfl⟩ := List.mem_map.mp hs
        have := N.bM l hl
        omega
      have lS : (sizes M).length = M.length := List.length_map ..
      have h1 := box_len hb (sizes M).length (Nat.le_refl _)
      rw [List.take_length] at h1
      have h2 : 15 ^ (sizes M).length ≤ 15 ^ 3 := Nat.pow_le_pow_right (by decide) (by omega)
      omega
    have nnL : ∀ v ∈ clsL L p, 0 ≤ v := clsL_nn (fun l hl => ⟨(N.bL l hl).1, (N.bL l hl).2.2.1⟩) N.p0
    have lcl : (clsL L p).length = L.length := zip_len lp
    refine ⟨_, rfl, c, _, rfl, .inl (SqL.of hc), fun gi ngi => ?_⟩
    have s1 := same_new (o := .lst (p.map V.int)) ngi
    refine ⟨_, rfl, _, rfl, a, c, L, p, rfl, hLL.keep s1, s1 _ _ hc, lp, okL, fun H2 le s2 hle => ?_⟩
    have S2 := s1.trans s2
    have hgi := s2 _ _ (upd_same (H := H) (a := gi) (o := .lst (p.map V.int)))
    refine ⟨fun σ' H' => (∃ du x8 x9, σ' = [some (.ref a), some (.ref b), some (.ref x), some (.ref y), some (.ref c), some (.ref gi), some (.ref le), some (.ref du), x8, x9] ∧ PL H' du (withinL L M (clsL L p))) ∧ Same H2 H', ?_, ?_⟩
    · refine ⟨_, rfl, b, M, rfl, hMM.keep S2, by omega, N.bM, fun H4 r xs s4 hr4 hP => ⟨r, rfl, ⟨_, SqL.of hr4⟩, fun D nD => ?_⟩⟩
      have S4 := S2.trans s4
      have lx := hP.len
      refine lc_list (K := K) (a := r) (xs := xs) (fun k H' => Same H4 H' ∧ ∃ acc, H' D = some (.lst acc) ∧ (∀ x ∈ acc, x ≠ .ref D) ∧ Pts H' acc (((box (sizes M)).take k).filter (inC L (clsL L p)))) ⟨same_new nD, [], upd_same, (fun x hx => by cases hx), .nil⟩ (fun k H' _ z => SqL.of (z.1 _ _ hr4)) ?_ ?_
      · rintro k y0 H' hk ⟨sm, acc, hD, hn, hA⟩
        obtain ⟨t, es, ⟨sa, rfl, hsa⟩⟩ := hP.get hk
        obtain ⟨lt, hs0⟩ := hnP t (mem_at es)
        have S := S4.trans sm
        refine ⟨rfl, ?_⟩
        refine ⟨_, rfl, _, rfl, a, sa, L, t, rfl, hLL.keep S, sm _ _ hsa, lt, okL, fun H5 r5 s5 h5 => ?_⟩
        have hc5 := ((s4.trans sm).trans s5) _ _ hle
        refine ⟨_, rfl, _, _, .lst (SqL.of h5) (dp_ints _), .lst (SqL.of hc5) (dp_ints _), shaped_lst _, shaped_lst _, ?_⟩
        rw [eqv_ints]
        have et : ((box (sizes M)).take (k + 1)).filter (inC L (clsL L p)) = ((box (sizes M)).take k).filter (inC L (clsL L p)) ++ (if clsL L t = clsL L p then [t] else []) := by
          rw [List.take_add_one, es, List.filter_append]
          congr 1
          show List.filter (inC L (clsL L p)) [t] = _
          rw [List.filter_cons]
          unfold inC
          by_cases c : clsL L t = clsL L p
          · rw [decide_eq_true c, if_pos rfl, if_pos c]
            rfl
          · rw [decide_eq_false c, if_neg (by decide), if_neg c]
            rfl
        refine ⟨_, rfl, ?_⟩
        by_cases e : clsL L t = clsL L p
        · rw [decide_eq_true e]
          rw [if_pos e] at et
          have hD5 := s5 _ _ hD
          have naD : sa ≠ D := fun z => by
            rw [z] at hsa
            rw [hsa] at nD
            cases nD
          refine iteT ⟨_, rfl, acc, hD5, ?_, fun b o e => ?_, acc ++ [.ref sa], upd_same, ?_, ?_⟩
          · have h1 := hA.len
            have h2 := List.length_filter_le (inC L (clsL L p)) ((box (sizes M)).take k)
            rw [List.length_take] at h2
            exact small5000 (by omega)
          · rw [upd_ne (ne_of_none (H := H4) e nD)]
            exact s5 _ _ (sm _ _ e)
          · intro z hz
            rcases List.mem_append.mp hz with h | h
            · exact hn z h
            · rcases List.mem_singleton.mp h with rfl
              exact fun z => naD (V.ref.inj z)
          · rw [et]
            refine Pts.updL ?_ (Pts.snoc ⟨sa, rfl, s5 _ _ (sm _ _ hsa)⟩ (hA.keep s5))
            intro z hz
            rcases List.mem_append.mp hz with h | h
            · exact hn z h
            · rcases List.mem_singleton.mp h with rfl
              exact fun z => naD (V.ref.inj z)
        · rw [decide_eq_false e]
          rw [if_neg e, List.append_nil] at et
          refine iteF ⟨sm.trans s5, acc, s5 _ _ hD, hn, ?_⟩
          rw [et]
          exact hA.keep s5
      · rintro H' ⟨sm, acc, hD, hn, hA⟩
        rw [lx, List.take_length] at hA
        exact ⟨⟨D, _, _, rfl, acc, hD, hA⟩, s4.trans sm⟩
    rintro σ1 H3 ⟨⟨du, x8, x9, rfl, hdu⟩, s3⟩
    have S3 := S2.trans s3
    have hle3 := s3 _ _ hle
    refine ⟨_, rfl, _, rfl, _, rfl, x, gi, y, L, M, p, rfl, hx.keep S3, hy.keep S3, s3 _ _ hgi, lp, lM, okL, N.bM, N.p0, N.hR, fun H4 r rx s4 nr hr4 hP nw => ?_⟩
    have S4 := S3.trans s4
    have lrx := hP.len
    have lW : (withinL L M (clsL L p)).length ≤ 3375 := Nat.le_trans (List.length_filter_le _ _) lB
    refine ⟨fun σ' H' => (∃ x8, σ' = [some (.ref a), some (.ref b), some (.ref x), some (.ref y), some (.ref c), some (.ref gi), some (.ref le), some (.ref du), x8, some (.ref r)]) ∧ Same H4 H', ?_, ?_⟩
    · refine ⟨_, rfl, _, rfl, _, _, .lst (SqL.of (s4 _ _ (s3 _ _ hgi))) (dp_ints _), .lst (SqL.of (S4 _ _ hc)) (dp_ints _), shaped_lst _, shaped_lst _, ?_⟩
      rw [eqv_ints, decide_eq_true rfl]
      have hPL : PL H4 r (withinL L M (clsL L p)) := ⟨_, hr4, hP⟩
      refine ⟨_, rfl, iteF ⟨_, rfl, _, rfl, _, _, hPL.dp, (hdu.keep s4).dp, shaped_P _, shaped_P _, ?_⟩⟩
      rw [eqv_P, decide_eq_true rfl]
      refine ⟨_, rfl, iteF ⟨.ref a, rfl, _, L.length, rfl, .inl ⟨_, SqL.of (S4 _ _ ha), lls.symm⟩, _, rfl, r, L.length, rx, _, rfl, hr4, hP, l3, fun t ht => ?_, fun H5 s5 => ⟨true, rfl, iteF ?_⟩⟩⟩
      · obtain ⟨e1, e2⟩ := hnP t (List.mem_filter.mp ht).1
        exact ⟨e1.symm, e2⟩
      refine ⟨_, rfl, _, rfl, c, _, rfl, .inl (SqL.of (s5 _ _ (S4 _ _ hc))), fun u nu => ?_⟩
      have su := same_new (o := .lst (p.map V.int)) nu
      have S5 := (S4.trans s5).trans su
      refine ⟨x, u, L, p, rfl, hx.keep S5, okL, upd_same, lp, N.p0, fun H6 r6 s6 h6 => ?_⟩
      refine ⟨_, rfl, _, _, .lst (SqL.of h6) (dp_ints _), .lst (SqL.of (s6 _ _ (su _ _ (s5 _ _ (s4 _ _ hle3))))) (dp_ints _), shaped_lst _, shaped_lst _, ?_⟩
      rw [eqv_ints, decide_eq_true rfl]
      exact ⟨_, rfl, iteF ⟨⟨_, rfl⟩, (s5.trans su).trans s6⟩⟩
    clear x8 x9
    rintro σ2 H5 ⟨⟨x8, rfl⟩, s5⟩
    have hr5 := s5 _ _ hr4
    refine ⟨_, rfl, .inl ⟨rfl, _, SqL.of hr5⟩, r, _, _, rfl, rfl, hr5, small5000 (by omega), ?_⟩
    have s36 : Same H3 (upd H5 r (.lst (rx ++ [.non]))) := fun d o e => by
      rw [upd_ne (ne_of_none e nr)]
      exact s5 _ _ (s4 _ _ e)
    have hr6 : (upd H5 r (.lst (rx ++ [.non]))) r = some (.lst (rx ++ [.non])) := upd_same
    have k6 : ∀ d o, d ≠ r → H5 d = some o → (upd H5 r (.lst (rx ++ [.non]))) d = some o := fun d o n e => by
      rw [upd_ne n]
      exact e
    generalize upd H5 r (.lst (rx ++ [.non])) = H6 at *
    refine ⟨fun σ' H' => (∃ x8, σ' = [some (.ref a), some (.ref b), some (.ref x), some (.ref y), some (.ref c), some (.ref gi), some (.ref le), some (.ref du), x8, some (.ref r)]) ∧ Same H3 H', ?_, ?_⟩
    · refine ⟨_, rfl, (by show 0 ≤ sizeLine; decide), fun e ne => ?_⟩
      have se := same_new (o := .lst []) ne
      refine ⟨PD (withinL L M (clsL L p)), PD [], ((hdu.keep s36).keep se).dp, .lst (SqL.of upd_same) .nil, shaped_P _, shaped_P _, ?_⟩
      rw [eqv_P]
      by_cases w0 : withinL L M (clsL L p) = []
      · rw [decide_eq_true w0]
        exact ⟨_, rfl, iteF ⟨⟨_, rfl⟩, s36.trans se⟩⟩
      · rw [decide_eq_false w0]
        have l0 : 0 < (withinL L M (clsL L p)).length := List.length_pos_iff.mpr w0
        have g0 : rx[0]? = some rx[0] := List.getElem?_eq_getElem (by omega)
        obtain ⟨pnt, ep, ⟨s0, es0, hs0⟩⟩ := hP.get g0
        rw [es0] at g0
        have n0 : H3 s0 = none := nw _ (mem_at g0) s0 rfl
        have ner : s0 ≠ r := fun z => by
          rw [z, hr4] at hs0
          have := HO.lst.inj (Option.some.inj hs0)
          rw [this, List.getElem?_map] at g0
          cases e2 : pnt[0]? with
          | none =>
            rw [e2] at g0
            cases g0
          | some v =>
            rw [e2] at g0
            cases g0
        have hs6 := se _ _ (k6 _ _ ner (s5 _ _ hs0))
        have hr7 := se _ _ hr6
        have hat : atI (rx ++ [V.non]) ((0 : Nat) : Int) = some (.ref s0) := atI_nat (by rw [List.getElem?_append_left (by omega)]; exact g0)
        have lpn : pnt.length ≤ 3 := by
          obtain ⟨e1, _⟩ := hnP pnt (List.mem_filter.mp (mem_at ep)).1
          omega
        refine ⟨_, rfl, iteT ⟨_, rfl, r, _, _, _, rfl, rfl, SqL.of hr7, hat, .inl ⟨rfl, _, SqL.of hs6⟩, s0, _, _, rfl, rfl, hs6, small5000 (by rw [List.length_map]; omega), ⟨_, rfl⟩, fun d o y => ?_⟩⟩
        rw [upd_ne (ne_of_none y n0)]
        exact se _ _ (s36 _ _ y)
    clear x8
    rintro σ3 H9 ⟨⟨x8, rfl⟩, s9⟩
    have S9 := S3.trans s9
    refine ⟨_, rfl, _, rfl, _, rfl, rfl, x, le, y, L, M, clsL L p, rfl, hx.keep S9, hy.keep S9, s9 _ _ hle3, by omega, lM, okL, N.bM, nnL, N.hR, fun H10 r2 rx2 s10 nr2 hr10 hP10 nw10 => ⟨_, rfl, ?_⟩⟩
    rw [clsL_idem (fun l hl => (N.bL l hl).2.2.1) lp] at hP10
    have hPL : PL H10 r2 (withinL L M (clsL L p)) := ⟨_, hr10, hP10⟩
    refine ⟨_, _, hPL.dp, ((hdu.keep s9).keep s10).dp, shaped_P _, shaped_P _, ?_⟩
    rw [eqv_P, decide_eq_true rfl]
    exact q H10 (S9.trans s10)
end
end KB
set_option Elab.async false
set_option linter.all false
set_option maxRecDepth 100000
set_option maxHeartbeats 4000000
namespace KB
open PySem PySem.Spec PyProof.Rows L2 XV
theorem Lims.drop1 {H : Hp} : ∀ {xs : List V} {L : List Lim}, Lims H xs L → Lims H (xs.drop 1) (L.drop 1)
  | _, _, .nil => .nil
  | _, _, .cons _ r => r
theorem cut1 (xs : List V) : cutV xs (some 1) none = xs.drop 1 := by
  unfold cutV
  rw [HT.sIx_none, show HT.sIx xs.length 0 (some 1) = min 1 xs.length from HT.sIx_nat _ _ 1]
  cases xs with
  | nil => rfl
  | cons x xs =>
    rw [List.length_cons, Nat.min_eq_left (by omega)]
    exact List.take_of_length_le (by simp)
theorem same_but' {H H2 H3 : Hp} {g : Addr} (hg : H g = none) (s : Same H H2) (b : But H2 H3 g) : Same H H3 := fun c o e => b c o (ne_of_none e hg) (s c o e)
theorem fold_bd {B : Int} (hB : 0 ≤ B) : ∀ (L : List Lim) (z : Int), 0 ≤ z → (∀ l ∈ L, 0 ≤ l.1 + l.2 ∧ l.1 + l.2 ≤ B) → 0 ≤ L.foldl (fun n l => n * (l.1 + l.2)) z ∧ L.foldl (fun n l => n * (l.1 + l.2)) z ≤ z * B ^ L.length
  | [], z, hz, _ => ⟨hz, by simp⟩
  | l :: L, z, hz, h => by
    obtain ⟨h0, h1⟩ := h l List.mem_cons_self
    obtain ⟨a, b⟩ := fold_bd hB L (z * (l.1 + l.2)) (Int.mul_nonneg hz h0) fun m hm => h m (List.mem_cons_of_mem _ hm)
    refine ⟨a, Int.le_trans b ?_⟩
    have e : z * B ^ (l :: L).length = z * B * B ^ L.length := by
      rw [List.length_cons, Int.pow_succ, Int.mul_comm (B ^ L.length), Int.mul_assoc]
    rw [e]
    exact Int.mul_le_mul_of_nonneg_right (Int.mul_le_mul_of_nonneg_left h1 hz) (Int.pow_nonneg hB)
theorem many_bd {t p : Int} {L : List Lim} {k : Nat} (h : Bnd t p L) (hk : L.length ≤ k) (hp : 1 ≤ t + p) : 0 ≤ many L ∧ many L ≤ (t + p) ^ k := by
  obtain ⟨a, b⟩ := fold_bd (B := t + p) (by omega) L 1 (by decide) fun l hl => by
    have := h l hl
    omega
  refine ⟨a, Int.le_trans b ?_⟩
  rw [Int.one_mul]
  obtain ⟨c, rfl⟩ := Nat.exists_eq_add_of_le hk
  rw [Int.pow_add]
  have h1 : (1 : Int) ≤ (t + p) ^ c := by
    clear hk
    induction c with
    | zero =>
      rw [Int.pow_zero]
      exact Int.le_refl 1
    | succ c ih =>
      rw [Int.pow_succ]
      have h2 := Int.mul_le_mul ih hp (by decide) (by omega)
      rw [Int.one_mul] at h2
      exact h2
  have h3 : 0 ≤ (t + p) ^ L.length := Int.pow_nonneg (by omega)
  have h4 := Int.mul_le_mul_of_nonneg_left h1 h3
  rw [Int.mul_one] at h4
  exact h4
abbrev sLaw : Stmt := top 66
abbrev nLaw : List Str := ["_law_script", "_law_index", "_law_generator_here", "_law_many_here", "_law_limits_here", "_law_finer_here", "_law_turn", "_law_points", "_law_grid", "_law_fine", "_law_point_here", "_law_parts", "_law_least_here"]
theorem scLaw : FnScope nLaw ["_law_script"] (defScope sLaw) := ⟨rfl, rfl, rfl, by decide +kernel, rfl, by decide +kernel, by decide +kernel⟩
def spLaw (K : PySem.W.Frag) : Sp := fun vs H Q _ => ∃ (a : Addr) (ns : List Int), vs = [.ref a] ∧ SqL K H a (ns.map V.int) ∧ ns.length ≤ 63 ∧ ∀ H' : Hp, Q (.bl true) H'
/-- the limits at hand -/
structure Two (H : Hp) (b d : Addr) (L M : List Lim) : Prop where
  hb : LL H b L
  hd : LL H d M
  l3 : L.length ≤ 3
  lM : M.length = L.length
  bL : Bnd 3 3 L
  bM : Bnd 6 9 M
  hR : refB M L = true
theorem Two.keep {H H' : Hp} {b d : Addr} {L M : List Lim} (t : Two H b d L M) (s : Same H H') : Two H' b d L M := ⟨t.hb.keep s, t.hd.keep s, t.l3, t.lM, t.bL, t.bM, t.hR⟩
theorem Two.nums {H : Hp} {b d : Addr} {L M : List Lim} (t : Two H b d L M) {p : List Int} (hp : p.length = L.length) (h : ∀ y ∈ p, 0 ≤ y ∧ y < B12) : Nums L M p := ⟨t.hR, t.lM, hp.symm, t.l3, t.bL, t.bM, h⟩
theorem Two.okL {H : Hp} {b d : Addr} {L M : List Lim} (t : Two H b d L M) : Lok L := bnd_ok t.bL t.l3 (by decide) (by decide)
theorem Two.okM {H : Hp} {b d : Addr} {L M : List Lim} (t : Two H b d L M) : Lok M := bnd_ok t.bM (by have := t.lM; have := t.l3; omega) (by decide) (by decide)
theorem Two.bL6 {H : Hp} {b d : Addr} {L M : List Lim} (t : Two H b d L M) : Bnd 6 9 L := fun l hl => by
  have := t.bL l hl
  omega
theorem Pts.app {H : Hp} {ys : List V} {G : List (List Int)} (h2 : Pts H ys G) : ∀ {xs : List V} {F : List (List Int)}, Pts H xs F → Pts H (xs ++ ys) (F ++ G)
  | _, _, .nil => h2
  | _, _, .cons h r => .cons h (Pts.app h2 r)
theorem flat_take {α : Type} (f : α → List (List Int)) (l : List α) (k : Nat) : ((l.take k).flatMap f).length ≤ (l.flatMap f).length := by
  conv => rhs; rw [← List.take_append_drop k l]
  rw [List.flatMap_append, List.length_append]
  omega
section
variable {P : Program} {w : World} {K : PySem.W.Frag} {mg : Str → Option Value} {base : Heap} {f : Addr} {fd : FuncData} {C : Addr}
theorem ok_law (F : FnP K "law" sLaw f fd) (T : GT K mg C) (oGen : Ok P w K mg base "_law_generator" 1 ["_law_script", "_law_index"] (spGen K)) (oRand : Ok P w K mg base "_law_random" 2 ["_law_generator_here", "_law_bound"] spRand)
    (oLim : Ok P w K mg base "_law_limits" 3 ["_law_generator_here", "_law_many_here", "_law_least_here", "_law_most"] spLimL) (oFin : Ok P w K mg base "_law_finer" 3 ["_law_generator_here", "_law_limits_here"] spFiner) (oMany : Ok P w K mg base "_law_many" 1 ["_law_limits_here"] spManyL)
    (oPt : Ok P w K mg base "_law_point" 3 ["_law_generator_here", "_law_many_here", "_law_bound"] spPoint) (o_mk : OkMk P w K mg base C) (o_pg : Ok P w K mg base "_law_point_good" 7 ["_law_limits_here", "_law_finer_here", "_law_grid", "_law_fine", "_law_point_here"] (spPtGood C))
    (o_wg : Ok P w K mg base "_law_within_good" 7 ["_law_limits_here", "_law_finer_here", "_law_grid", "_law_fine", "_law_point_here"] (spWiGood C)) (o_limits : OkMt P w K mg base C "limits" (spLimits C)) (o_classes : Ok P w K mg base "_law_classes" 2 ["_law_limits_here"] spClasses)
    (o_wi : Ok P w K mg base "within" 6 ["grid", "point", "finer"] (spWithin C)) (z_range : mg "range" = none) (z_len : mg "len" = none) (z_list : mg "list" = none) (z_sorted : mg "sorted" = none) : FnOk P w K mg base CX0 8 f fd ["_law_script"] (spLaw K) := by
  have nd := scLaw.nd
  refine F.ok scLaw (fun vs H Q E h => ?_) (fun cdv A outer s H vs Q E hr h => ?_)
  · obtain ⟨a, ns, rfl, _⟩ := h
    rfl
  · obtain ⟨a, ns, rfl, hS, hlen, q⟩ := h
    have hu := hr.units
    have r7 : Room 7 (A.deeper (envOfC "law" (defScope sLaw) s.heap.objs.size f cdv)) := hr
    have r6 := r7.mono (by decide : 6 ≤ 7)
    have r3 := r7.mono (by decide : 3 ≤ 7)
    have r2 := r7.mono (by decide : 2 ≤ 7)
    have r1 := r7.mono (by decide : 1 ≤ 7)
    refine ⟨_, PSs.nox (pss_cons (ps_for PassesOwn.never rfl (pi_range1 (by rfl) z_range (pa_cons pe_int pa_nil)) (pg_name (i := 1) nd rfl (Or.inl rfl))
        (pss_cons (ps_set (i := 2) nd rfl (Or.inl rfl) (pe_callO oGen r1 (by rfl) (pa_cons (pv 0) (pa_cons (pv 1) pa_nil))))
        (pss_cons (ps_set (i := 3) nd rfl (Or.inl rfl) (pe_callO oRand r2 (by rfl) (pa_cons (pv 2) (pa_cons pe_int pa_nil))))
        (pss_cons (ps_set (i := 4) nd rfl (Or.inl rfl) (pe_callO oLim r3 (by rfl) (pa_cons (pv 2) (pa_cons (pv 3) (pa_cons pe_int (pa_cons pe_int pa_nil))))))
        (C8.pss_cut (ps_set (i := 5) nd rfl (Or.inl rfl) (pe_callO oFin r3 (by rfl) (pa_cons (pv 2) (pa_cons (pv 4) pa_nil))))
        (C8.pss_cut (ps_for PassesOwn.never rfl (pi_range1 (by rfl) z_range (pa_cons pe_int pa_nil)) (pg_name (i := 6) nd rfl (Or.inl rfl))
          (pss_one (ps_if (pt_cmpR op_gt (pe_callO oMany r1 (by rfl) (pa_cons (pv 5) pa_nil)) pe_int (nomark _)) (pss_one (ps_par (i := 4) (j := 5) rfl nd rfl rfl (by decide) rfl rfl (pa_cons (pe_slice sl_list (pv 4) (po_some pe_int) po_none) (pa_cons (pe_slice sl_list (pv 5) (po_some pe_int) po_none) pa_nil)) (by rfl))) pss_nil)))
        (C8.pss_cut (ps_set (i := 7) nd rfl (Or.inl rfl) (pe_lst (pa_cons (pe_callO oPt r3 (by rfl) (pa_cons (pv 2) (pa_cons (pe_callB call_len (by rfl) z_len boot_len (pa_cons (pv 4) pa_nil)) (pa_cons pe_int pa_nil)))) (pa_cons (pe_callO oPt r3 (by rfl) (pa_cons (pv 2) (pa_cons (pe_callB call_len (by rfl) z_len boot_len (pa_cons (pv 4) pa_nil)) (pa_cons (pe_op op_pow pe_int pe_int) pa_nil)))) pa_nil))))
        (C8.pss_cut (ps_par (i := 8) (j := 9) rfl nd rfl rfl (by decide) rfl rfl (pa_cons (pe_mk (T := T) o_mk r6 (by rfl) (pe_callTy call_list_of (by rfl) z_list (by decide +kernel) (pa_cons (pv 4) pa_nil))) (pa_cons (pe_mk (T := T) o_mk r6 (by rfl) (pe_callTy call_list_of (by rfl) z_list (by decide +kernel) (pa_cons (pv 5) pa_nil))) pa_nil)) (by rfl))
        (C8.pss_cut (ps_for PassesOwn.never rfl (pi_list (pe_op op_cat (pv 7) (pe_lst (pa_cons (pe_op op_rep (pe_lst (pa_cons pe_int pa_nil)) (pe_callB call_len (by rfl) z_len boot_len (pa_cons (pv 4) pa_nil))) pa_nil)))) (pg_name (i := 10) nd rfl (Or.inl rfl))
          (pss_cons (ps_if (pt_not (pt_val (pe_callO o_pg r7 (by rfl) (pa_cons (pv 4) (pa_cons (pv 5) (pa_cons (pv 8) (pa_cons (pv 9) (pa_cons (pv 10) pa_nil)))))))) (pss_one (ps_ret pe_bl)) pss_nil)
          (pss_one (ps_if (pt_not (pt_val (pe_callO o_wg r7 (by rfl) (pa_cons (pv 4) (pa_cons (pv 5) (pa_cons (pv 8) (pa_cons (pv 9) (pa_cons (pv 10) pa_nil)))))))) (pss_one (ps_ret pe_bl)) pss_nil))))
        (C8.pss_cut (ps_if (PW.pt (pw_or (pt_cmpR (op_neD hu) (pe_limits o_limits T (pv 8) r1) (pv 4) (nomark _)) (pw_or1 (pt_cmpR (op_neD hu) (pe_limits o_limits T (pv 9) r1) (pv 5) (nomark _))))) (pss_one (ps_ret pe_bl)) pss_nil)
        (pss_cons (ps_set (i := 11) nd rfl (Or.inl rfl) (pe_lst pa_nil))
        (C8.pss_cut (ps_for PassesOwn.never rfl (pi_list (pe_callO o_classes r2 (by rfl) (pa_cons (pv 4) pa_nil))) (pg_name (i := 12) nd rfl (Or.inl rfl))
          (pss_one (ps_if (pt_cmpR op_lt (pe_op op_mul (pe_callO oMany r1 (by rfl) (pa_cons (pv 4) pa_nil)) (pe_callO oMany r1 (by rfl) (pa_cons (pv 5) pa_nil))) pe_int (nomark _)) (pss_one (ps_set (i := 11) nd rfl (Or.inl rfl) (pe_op op_cat (pv 11) (pe_callO o_wi r6 (by rfl) (pa_cons (pv 8) (pa_cons (pv 12) (pa_cons (pv 9) pa_nil))))))) pss_nil)))
        (pss_one (ps_if (PW.pt (pw_and (pt_cmpR (op_neD hu) (pv 11) (pe_lst pa_nil) (nomark _)) (pw_and1 (pt_cmpR (op_neD hu) (pe_callB (cr_sortPts hu) (by rfl) z_sorted (by decide +kernel) (pa_cons (pv 11) pa_nil)) (pe_callO o_classes r2 (by rfl) (pa_cons (pv 5) pa_nil)) (nomark _))))) (pss_one (ps_ret pe_bl)) pss_nil))))))))))))))
      (pss_one (ps_ret pe_bl))), ?_⟩
    refine ⟨3, rfl, by decide, by decide, for_range (lo := 0) (n := 3) (fun i σ H' => (∃ x1 x2 x3 x4 x5 x6 x7 x8 x9 x10 x11 x12, σ = [some (.ref a), x1, x2, x3, x4, x5, x6, x7, x8, x9, x10, x11, x12]) ∧ Same H H') ⟨⟨_, _, _, _, _, _, _, _, _, _, _, _, rfl⟩, Same.refl _⟩ ?_ fun σ H' h => q H'⟩
    rintro i σ H' hi ⟨⟨x1, x2, x3, x4, x5, x6, x7, x8, x9, x10, x11, x12, rfl⟩, sm⟩
    rw [Int.zero_add]
    have B1 : B12 = 10 ^ (12 : Int).toNat := rfl
    refine ⟨_, rfl, _, rfl, a, ns, i, rfl, sm.seq hS, by omega, fun H1 g s1 ng d1 => ?_⟩
    have hg : H g = none := by
      cases e : H g with
      | none => rfl
      | some o =>
        rw [sm _ _ e] at ng
        cases ng
    have n3 : 3 ≤ sizeLine := by decide
    refine ⟨_, rfl, g, _, 4, rfl, d1, by omega, by decide, by decide, fun H2 r r0 r4 b2 d2 => ?_⟩
    obtain ⟨m, rfl⟩ := Int.eq_ofNat_of_zero_le r0
    refine ⟨_, rfl, _, rfl, g, _, m, 3, 3, rfl, d2, by omega, by omega, by decide, by decide, by decide, by decide, fun H3 b L lL bL b3 d3 nb hb => ?_⟩
    have S3 := same_but' hg (same_but' hg (sm.trans s1) b2) b3
    refine ⟨fun σ' H' => (∃ d M, σ' = [some (.ref a), some (.int (i : Int)), some (.ref g), some (.int (m : Int)), some (.ref b), some (.ref d), x6, x7, x8, x9, x10, x11, x12] ∧ Two H' b d L M) ∧ Same H H' ∧ ∃ n, Dr H' g n ∧ n ≤ 300000, ?_, ?_⟩
    · refine ⟨_, rfl, _, rfl, g, b, _, L, rfl, d3, by omega, hb, by omega, bL, fun H4 d M lM bM hR b4 d4 nd4 hd => ?_⟩
      exact ⟨⟨d, M, rfl, hb.but d3 b4, hd, by omega, lM, bL, bM, hR⟩, same_but' hg S3 b4, _, d4, by omega⟩
    rintro σ1 H4 ⟨⟨d, M, rfl, t4⟩, S4, n, d4, hn⟩
    refine ⟨fun σ' H' => (∃ b d L M x6, σ' = [some (.ref a), some (.int (i : Int)), some (.ref g), some (.int (m : Int)), some (.ref b), some (.ref d), x6, x7, x8, x9, x10, x11, x12] ∧ Two H' b d L M ∧ many M ≤ 600) ∧ Same H H' ∧ Dr H' g n, ?_, ?_⟩
    · refine ⟨2, rfl, by decide, by decide, for_range (lo := 0) (n := 2) (fun j σ H' => (∃ b d L M x6, σ = [some (.ref a), some (.int (i : Int)), some (.ref g), some (.int (m : Int)), some (.ref b), some (.ref d), x6, x7, x8, x9, x10, x11, x12] ∧ Two H' b d L M ∧ (many M ≤ 600 ∨ M.length ≤ 3 - j)) ∧ Same H H' ∧ Dr H' g n)
        ⟨⟨b, d, L, M, _, rfl, t4, .inr (by have := t4.lM; have := t4.l3; omega)⟩, S4, d4⟩ ?_ ?_⟩
      · rintro j σ H5 hj ⟨⟨b, d, L, M, x6, rfl, t5, hm⟩, S5, d5⟩
        rw [Int.zero_add]
        refine ⟨_, rfl, d, M, rfl, t5.hd, t5.okM, _, _, rfl, rfl, _, rfl, ite2 (fun c => ?_) (fun c => ?_)⟩
        · have c : 600 < many M := of_decide_eq_true c
          obtain ⟨xs, hx, hL⟩ := t5.hb
          obtain ⟨ys, hy, hM⟩ := t5.hd
          refine ⟨_, rfl, _, rfl, b, xs, rfl, SqL.of hx, fun p np => ?_⟩
          have sp := same_new (o := .lst (cutV xs (some 1) none)) np
          refine ⟨_, rfl, _, rfl, d, ys, rfl, SqL.of (sp _ _ hy), fun p2 np2 => ⟨_, _, rfl, ?_⟩⟩
          have sp2 := same_new (o := .lst (cutV ys (some 1) none)) np2
          have S := sp.trans sp2
          have lM := t5.lM
          have l3 := t5.l3
          refine ⟨⟨p, p2, L.drop 1, M.drop 1, _, rfl, ⟨⟨_, sp2 _ _ upd_same, ?_⟩, ⟨_, upd_same, ?_⟩, by rw [List.length_drop]; omega, by rw [List.length_drop, List.length_drop]; omega, fun l hl => t5.bL l (List.mem_of_mem_drop hl), fun l hl => t5.bM l (List.mem_of_mem_drop hl), ?_⟩, .inr ?_⟩, S5.trans S, dr_same d5 S⟩
          · rw [cut1]
            rw [cut1] at S
            exact hL.drop1.keep (by
              have S' := sp.trans sp2
              rw [cut1] at S'
              exact S')
          · have S' := sp.trans sp2
            rw [cut1 ys] at S' ⊢
            exact hM.drop1.keep S'
          · refine ref_all fun k x y e1 e2 => ?_
            rw [List.getElem?_drop] at e1 e2
            exact ref_at t5.hR e1 e2
          · rw [List.length_drop]
            rcases hm with h | h
            · omega
            · omega
        · have c : many M ≤ 600 := Int.not_lt.mp fun y => c (decide_eq_true y)
          exact ⟨⟨b, d, L, M, _, rfl, t5, .inl c⟩, S5, d5⟩
      · rintro σ H5 ⟨⟨b, d, L, M, x6, rfl, t5, hm⟩, S5, d5⟩
        refine ⟨⟨b, d, L, M, _, rfl, t5, ?_⟩, S5, d5⟩
        rcases hm with h | h
        · exact h
        · have := (many_bd (k := 1) t5.bM (by omega) (by decide)).2
          have e : ((6 : Int) + 9) ^ 1 = 15 := by decide
          omega
    rintro σ2 H5 ⟨⟨b', d', L', M', x6', rfl, t5, mM⟩, S5, d5⟩
    clear d4 t4 S4 hb nb d3 b3 lL bL S3 b2 d2
    clear H4 H3 H2 d M b L x6
    refine ⟨fun σ' H' => (∃ pl p1 p2 P1 P2, σ' = [some (.ref a), some (.int (i : Int)), some (.ref g), some (.int (m : Int)), some (.ref b'), some (.ref d'), x6', some (.ref pl), x8, x9, x10, x11, x12] ∧ Two H' b' d' L' M' ∧ H' pl = some (.lst [.ref p1, .ref p2]) ∧ Pts H' [.ref p1, .ref p2] [P1, P2] ∧ (P1.length = L'.length ∧ ∀ y ∈ P1, 0 ≤ y ∧ y < B12) ∧ (P2.length = L'.length ∧ ∀ y ∈ P2, 0 ≤ y ∧ y < B12)) ∧ Same H H', ?_, ?_⟩
    · obtain ⟨xs, hx, hL⟩ := id t5.hb
      have lx := hL.len
      have bg := dr_neL d5 hx hL
      have l3 := t5.l3
      refine ⟨_, rfl, .ref b', rfl, _, L'.length, rfl, .inl ⟨_, SqL.of hx, lx.symm⟩, g, n, L'.length, 9, rfl, d5, by omega, t5.l3, by decide, by decide, fun H6 p1 P1 l1 bp1 b6 d6 np1 hp1 => ?_⟩
      have p1g : p1 ≠ g := Ne.symm (dr_ne d5 np1)
      have hx6 := b6 _ _ bg hx
      refine ⟨_, rfl, .ref b', rfl, _, L'.length, rfl, .inl ⟨_, SqL.of hx6, lx.symm⟩, _, _, rfl, rfl, ⟨by decide, by decide, by decide⟩, g, _, L'.length, _, rfl, d6, by omega, t5.l3, by show (0 : Int) < 10 ^ 12; decide, by show (10 : Int) ^ 12 < 10 ^ 100; decide, fun H7 p2 P2 l2 bp2 b7 d7 np2 hp2 => ⟨(by show 2 ≤ sizeLine; decide), fun pl npl => ?_⟩⟩
      have s7 := same_new (o := .lst [.ref p1, .ref p2]) npl
      have hp1' := b7 _ _ p1g hp1
      refine ⟨⟨pl, p1, p2, P1, P2, rfl, ⟨((t5.hb.but d5 b6).but d6 b7).keep s7, ((t5.hd.but d5 b6).but d6 b7).keep s7, t5.l3, t5.lM, t5.bL, t5.bM, t5.hR⟩, upd_same, .cons ⟨p1, rfl, s7 _ _ hp1'⟩ (.cons ⟨p2, rfl, s7 _ _ hp2⟩ .nil), ⟨l1, fun y hy => ?_⟩, ⟨l2, fun y hy => ?_⟩⟩, (same_but' hg (same_but' hg S5 b6) b7).trans s7⟩
      · have := bp1 y hy
        unfold B12
        omega
      · have := bp2 y hy
        rw [B1]
        exact this
    rintro σ3 H6 ⟨⟨pl, p1, p2, P1, P2, rfl, t6, hpl, hPP, bp1, bp2⟩, S6⟩
    clear d5 t5 S5
    have mL : many L' ≤ 600 := by
      have := (many_bd (k := 3) t6.bL t6.l3 (by decide)).2
      have e : ((3 : Int) + 3) ^ 3 = 216 := by decide
      omega
    refine ⟨fun σ' H' => (∃ x y, σ' = [some (.ref a), some (.int (i : Int)), some (.ref g), some (.int (m : Int)), some (.ref b'), some (.ref d'), x6', some (.ref pl), some (.ref x), some (.ref y), x10, x11, x12] ∧ Gr C H' x L' ∧ Gr C H' y M') ∧ Same H6 H', ?_, ?_⟩
    · obtain ⟨xs, hx, hL⟩ := id t6.hb
      obtain ⟨ys, hy, hM⟩ := id t6.hd
      refine ⟨_, rfl, b', xs, rfl, .inl (SqL.of hx), fun l nl => ?_⟩
      have sl := same_new (o := .lst xs) nl
      refine ⟨l, L', rfl, ⟨xs, upd_same, hL.keep sl⟩, t6.okL, mL, fun H7 x s7 nx gx => ?_⟩
      refine ⟨_, rfl, d', ys, rfl, .inl (SqL.of (s7 _ _ (sl _ _ hy))), fun k nk => ?_⟩
      have sk := same_new (o := .lst ys) nk
      refine ⟨k, M', rfl, ⟨ys, upd_same, ((hM.keep sl).keep s7).keep sk⟩, t6.okM, mM, fun H8 y s8 ny gy => ⟨_, _, rfl, ?_⟩⟩
      exact ⟨⟨x, y, rfl, (gx.keep sk).keep s8, gy⟩, ((sl.trans s7).trans sk).trans s8⟩
    rintro σ4 H7 ⟨⟨x, y, rfl, gx, gy⟩, s7⟩
    have t7 := t6.keep s7
    have S7 := S6.trans s7
    refine ⟨fun σ' H' => (∃ x10, σ' = [some (.ref a), some (.int (i : Int)), some (.ref g), some (.int (m : Int)), some (.ref b'), some (.ref d'), x6', some (.ref pl), some (.ref x), some (.ref y), x10, x11, x12]) ∧ Same H7 H', ?_, ?_⟩
    · obtain ⟨xs, hx, hL⟩ := id t7.hb
      have lx := hL.len
      have l3 := t7.l3
      refine ⟨_, rfl, (by show 1 ≤ sizeLine; decide), fun u nu => ?_⟩
      have su := same_new (o := .lst [.int 0]) nu
      refine ⟨.ref b', rfl, _, L'.length, rfl, .inl ⟨_, SqL.of (su _ _ hx), lx.symm⟩, u, (L'.length : Int), _, rfl, rfl, upd_same, by omega, by omega, ?_, fun z nz => ?_⟩
      · have := t7.l3
        show 1 * ((L'.length : Int)).toNat ≤ sizeLine
        rw [show ((L'.length : Nat) : Int).toNat = L'.length from by omega]
        exact Nat.le_of_lt (small1000 (by omega))
      rw [show (List.replicate ((L'.length : Nat) : Int).toNat [V.int 0]).flatten = (List.replicate L'.length (0 : Int)).map V.int from rep_flat _]
      have sz := same_new (o := .lst ((List.replicate L'.length (0 : Int)).map V.int)) nz
      refine ⟨(by show 1 ≤ sizeLine; decide), fun o no => ?_⟩
      have so := same_new (o := .lst [.ref z]) no
      have Suzo := (su.trans sz).trans so
      refine ⟨pl, o, _, _, rfl, rfl, Suzo _ _ (s7 _ _ hpl), upd_same, (by show 2 + 1 ≤ sizeLine; decide), fun t nt => ?_⟩
      have st := same_new (o := .lst ([.ref p1, .ref p2] ++ [.ref z])) nt
      have S8 := Suzo.trans st
      have hz := st _ _ (so _ _ (upd_same (a := z) (o := .lst ((List.replicate L'.length (0 : Int)).map V.int))))
      have hall := ((hPP.keep s7).keep S8).snoc (y := .ref z) (m := List.replicate L'.length 0) ⟨z, rfl, hz⟩
      refine ⟨t, rfl, ⟨_, SqL.of upd_same⟩, ?_⟩
      generalize hH8 : upd _ t (.lst ([.ref p1, .ref p2] ++ [.ref z])) = H8 at *
      have ht : H8 t = some (.lst ([.ref p1, .ref p2] ++ [.ref z])) := by
        rw [← hH8]
        exact upd_same
      refine for_list (K := K) (a := t) (xs := [.ref p1, .ref p2] ++ [.ref z]) (fun k σ H' => (∃ x10, σ = [some (.ref a), some (.int (i : Int)), some (.ref g), some (.int (m : Int)), some (.ref b'), some (.ref d'), x6', some (.ref pl), some (.ref x), some (.ref y), x10, x11, x12]) ∧ Same H8 H') ⟨⟨_, rfl⟩, Same.refl _⟩ (fun k σ H' _ w => SqL.of (w.2 _ _ ht)) ?_ ?_
      · rintro k y0 σ H' hk ⟨⟨x10, rfl⟩, s9⟩
        obtain ⟨p, ep, ⟨pa, rfl, hpa⟩⟩ := hall.get hk
        have S9 := S8.trans s9
        have N : Nums L' M' p := by
          have mp := mem_at ep
          rw [show ([P1, P2] ++ [List.replicate L'.length (0 : Int)]) = [P1, P2, List.replicate L'.length (0 : Int)] from rfl] at mp
          rcases List.mem_cons.mp mp with rfl | mp
          · exact t7.nums bp1.1 bp1.2
          rcases List.mem_cons.mp mp with rfl | mp
          · exact t7.nums bp2.1 bp2.2
          · obtain rfl := List.mem_singleton.mp mp
            exact t7.nums (by rw [List.length_replicate]) fun y hy => by
              rw [(List.mem_replicate.mp hy).2]
              exact ⟨by decide, by decide⟩
        have t9 := t7.keep S9
        refine ⟨_, rfl, _, rfl, _, rfl, _, rfl, _, rfl, b', d', x, y, pa, L', M', p, rfl, t9.hb, t9.hd, gx.keep S9, gy.keep S9, s9 _ _ hpa, N, fun H10 s10 => ⟨true, rfl, iteF ?_⟩⟩
        have S10 := S9.trans s10
        have t10 := t7.keep S10
        exact ⟨_, rfl, _, rfl, _, rfl, _, rfl, _, rfl, b', d', x, y, pa, L', M', p, rfl, t10.hb, t10.hd, gx.keep S10, gy.keep S10, s10 _ _ (s9 _ _ hpa), N, fun H11 s11 => ⟨true, rfl, iteF ⟨⟨_, rfl⟩, (s9.trans s10).trans s11⟩⟩⟩
      · rintro σ H' ⟨⟨x10, rfl⟩, s9⟩
        exact ⟨⟨_, rfl⟩, S8.trans s9⟩
    clear x10
    rintro σ5 H8 ⟨⟨x10, rfl⟩, s8⟩
    refine ⟨fun σ' H' => σ' = [some (.ref a), some (.int (i : Int)), some (.ref g), some (.int (m : Int)), some (.ref b'), some (.ref d'), x6', some (.ref pl), some (.ref x), some (.ref y), x10, x11, x12] ∧ Same H7 H', ?_, ?_⟩
    · refine ⟨_, rfl, x, L', rfl, gx.keep s8, fun H9 u s9 nu hu1 => ⟨_, rfl, _, _, hu1.dp, ((t7.keep s8).keep s9).hb.dp, shaped_L _, shaped_L _, ?_⟩⟩
      rw [eqv_L, decide_eq_true rfl]
      refine ⟨_, rfl, iteF ⟨_, rfl, y, M', rfl, gy.keep (s8.trans s9), fun H10 v s10 nv hv1 => ⟨_, rfl, _, _, hv1.dp, (((t7.keep s8).keep s9).keep s10).hd.dp, shaped_L _, shaped_L _, ?_⟩⟩⟩
      rw [eqv_L, decide_eq_true rfl]
      exact ⟨_, rfl, iteF ⟨rfl, (s8.trans s9).trans s10⟩⟩
    rintro σ6 H9 ⟨rfl, s9⟩
    clear s8 H8
    refine ⟨(by show 0 ≤ sizeLine; decide), fun pa0 npa => ?_⟩
    have spa := same_new (o := .lst []) npa
    have S9 := s9.trans spa
    have hpa0 : (upd H9 pa0 (.lst [])) pa0 = some (.lst []) := upd_same
    generalize upd H9 pa0 (.lst []) = H10 at *
    have hL01 : ∀ l ∈ L', 0 ≤ l.1 ∧ 1 ≤ l.2 := fun l hl => ⟨(t7.bL l hl).1, (t7.bL l hl).2.2.1⟩
    have lB : (box (sizes M')).length ≤ 3375 := by
      have hb : ∀ s ∈ sizes M', 0 ≤ s ∧ s ≤ 15 := fun s hs => by
        obtain ⟨l, hl, rfl⟩ := List.mem_map.mp hs
        have := t7.bM l hl
        omega
      have lS : (sizes M').length = M'.length := List.length_map ..
      have h1 := box_len hb (sizes M').length (Nat.le_refl _)
      rw [List.take_length] at h1
      have lM := t7.lM
      have l3 := t7.l3
      have h2 : 15 ^ (sizes M').length ≤ 15 ^ 3 := Nat.pow_le_pow_right (by decide) (by omega)
      omega
    have lW : ((box (sizes L')).flatMap (withinL L' M')).length ≤ 3375 := by
      rw [(parts_perm hL01 t7.lM).length_eq]
      exact lB
    refine ⟨fun σ' H' => (∃ pa x12, σ' = [some (.ref a), some (.int (i : Int)), some (.ref g), some (.int (m : Int)), some (.ref b'), some (.ref d'), x6', some (.ref pl), some (.ref x), some (.ref y), x10, some (.ref pa), x12] ∧ ∃ F, PL H' pa F ∧ (F = [] ∨ F = (box (sizes L')).flatMap (withinL L' M'))) ∧ Same H7 H', ?_, ?_⟩
    · refine ⟨_, rfl, b', L', rfl, (t7.keep S9).hb, t7.l3, t7.bL6, fun H11 r xs s11 hr hP => ⟨r, rfl, ⟨_, SqL.of hr⟩, ?_⟩⟩
      have S11 := S9.trans s11
      have lxs := hP.len
      refine for_list (K := K) (a := r) (xs := xs) (fun k σ H' => (∃ pa x12, σ = [some (.ref a), some (.int (i : Int)), some (.ref g), some (.int (m : Int)), some (.ref b'), some (.ref d'), x6', some (.ref pl), some (.ref x), some (.ref y), x10, some (.ref pa), x12] ∧ PL H' pa (if many L' * many M' < 20000 then ((box (sizes L')).take k).flatMap (withinL L' M') else [])) ∧ Same H11 H') ⟨⟨pa0, _, rfl, [], s11 _ _ hpa0, ?_⟩, Same.refl _⟩ (fun k σ H' _ w => SqL.of (w.2 _ _ hr)) ?_ ?_
      · rw [List.take_zero, List.flatMap_nil, ite_self]
        exact .nil
      · rintro k y0 σ H' hk ⟨⟨pa, x12, rfl, ps, hps, hpt⟩, s12⟩
        obtain ⟨c, ec, ⟨ca, rfl, hca⟩⟩ := hP.get hk
        obtain ⟨lc, fc, nc⟩ := cls_fix (mem_at ec)
        have S12 := S11.trans s12
        have t12 := t7.keep S12
        have mB := many_bd (k := 3) t7.bL t7.l3 (by decide)
        have e216 : ((3 : Int) + 3) ^ 3 = 216 := by decide
        refine ⟨_, rfl, b', L', rfl, t12.hb, t12.okL, _, rfl, d', M', rfl, t12.hd, t12.okM, _, _, rfl, rfl, .inl ⟨by omega, by omega⟩, _, _, rfl, rfl, _, rfl, ite2 (fun z => ?_) (fun z => ?_)⟩
        · have z : many L' * many M' < 20000 := of_decide_eq_true z
          rw [if_pos z] at hpt
          refine ⟨_, rfl, _, rfl, _, rfl, _, rfl, x, ca, y, L', M', c, rfl, gx.keep S12, gy.keep S12, s12 _ _ hca, by omega, t7.lM, t7.okL, t7.bM, nc, t7.hR, fun H13 w ws s13 nw hw hwP _ => ?_⟩
          rw [fc] at hwP
          have hps13 := s13 _ _ hps
          have hpt13 := hpt.keep s13
          have lk := (List.getElem?_eq_some_iff.mp ec).1
          have et : ((box (sizes L')).take (k + 1)).flatMap (withinL L' M') = ((box (sizes L')).take k).flatMap (withinL L' M') ++ withinL L' M' c := by
            rw [List.take_add_one, ec, List.flatMap_append]
            congr 1
            exact List.flatMap_singleton _ _
          have lt1 := flat_take (withinL L' M') (box (sizes L')) (k + 1)
          rw [et, List.length_append] at lt1
          have lp1 := hpt13.len
          have lp2 := hwP.len
          refine ⟨pa, w, ps, ws, rfl, rfl, hps13, hw, Nat.le_of_lt (small5000 (by omega)), fun t nt => ?_⟩
          have st := same_new (o := .lst (ps ++ ws)) nt
          refine ⟨⟨t, _, rfl, ps ++ ws, upd_same, ?_⟩, (s12.trans s13).trans st⟩
          rw [if_pos z, et]
          exact Pts.app (hwP.keep st) (hpt13.keep st)
        · have z : ¬ many L' * many M' < 20000 := fun c => z (decide_eq_true c)
          rw [if_neg z] at hpt
          refine ⟨⟨pa, _, rfl, ps, hps, ?_⟩, s12⟩
          rw [if_neg z]
          exact hpt
      · rintro σ H' ⟨⟨pa, x12, rfl, hpt⟩, s12⟩
        refine ⟨⟨pa, _, rfl, _, hpt, ?_⟩, S11.trans s12⟩
        by_cases z : many L' * many M' < 20000
        · rw [if_pos z, lxs, List.take_length]
          exact .inr rfl
        · rw [if_neg z]
          exact .inl rfl
    clear x12
    rintro σ7 H11 ⟨⟨pa, x12, rfl, F, ⟨ps, hps, hpt⟩, hF⟩, s11⟩
    have t11 := t7.keep s11
    have S11 := S7.trans s11
    refine ⟨_, rfl, (by show 0 ≤ sizeLine; decide), fun e ne => ?_⟩
    have se := same_new (o := .lst []) ne
    have hPL : PL (upd H11 e (.lst [])) pa F := PL.keep se ⟨ps, hps, hpt⟩
    refine ⟨PD F, PD [], hPL.dp, .lst (SqL.of upd_same) .nil, shaped_P _, shaped_P _, ?_⟩
    rw [eqv_P]
    have fin : ∀ H', Same H H' → (∃ y1 y2 y3 y4 y5 y6 y7 y8 y9 y10 y11 y12, [some (.ref a), some (.int (i : Int)), some (.ref g), some (.int (m : Int)), some (.ref b'), some (.ref d'), x6', some (.ref pl), some (.ref x), some (.ref y), x10, some (.ref pa), x12] = [some (V.ref a), y1, y2, y3, y4, y5, y6, y7, y8, y9, y10, y11, y12]) ∧ Same H H' := fun H' s => ⟨⟨_, _, _, _, _, _, _, _, _, _, _, _, rfl⟩, s⟩
    by_cases f0 : F = []
    · rw [decide_eq_true f0]
      exact ⟨_, rfl, iteF (fin _ (S11.trans se))⟩
    · rw [decide_eq_false f0]
      have hF := hF.resolve_left f0
      subst hF
      obtain ⟨ps2, hps2, hpt2⟩ := hPL
      refine ⟨_, rfl, iteT ⟨_, rfl, pa, ps2, _, rfl, SqL.of hps2, hpt2, fun ys p hys np => ?_⟩⟩
      rw [sort_parts hL01 t7.lM] at hys
      have sp := same_new (o := .lst ys) np
      have Sp := se.trans sp
      have hPL1 : PL (upd (upd H11 e (.lst [])) p (.lst ys)) p (box (sizes M')) := ⟨ys, upd_same, hys.keep sp⟩
      refine ⟨_, rfl, d', M', rfl, (t11.keep Sp).hd, by have := t7.lM; have := t7.l3; omega, t7.bM, fun H12 r xs s12 hr hP => ?_⟩
      have hPL2 : PL H12 r (box (sizes M')) := ⟨xs, hr, hP⟩
      refine ⟨_, _, (hPL1.keep s12).dp, hPL2.dp, shaped_P _, shaped_P _, ?_⟩
      rw [eqv_P, decide_eq_true rfl]
      exact ⟨_, rfl, iteF (fin _ ((S11.trans Sp).trans s12))⟩
end
end KB
set_option Elab.async false
set_option linter.all false
set_option maxRecDepth 100000
set_option maxHeartbeats 2000000
namespace XV
open PySem PySem.Spec PyProof.Rows L2
/-! ### what isinstance says of a class, by its order of classes -/
def mroB (K : PySem.W.Frag) (C : Addr) (m : List Value) : Bool := match K.lookup C with
  | some ⟨t, _, .cls cd, _⟩ => decide (t = .type "type") && decide (cd.mro = m)
  | _ => false
theorem mroB_ok {K : PySem.W.Frag} {C : Addr} {m : List Value} (h : mroB K C m = true) : (∃ cd, PySem.W.clsIn K C = some cd ∧ cd.mro = m) ∧ PySem.W.typeIn K (.ref C) = some (.type "type") := by
  unfold mroB at h
  split at h
  · rename_i t d cd sl ho
    obtain ⟨h1, h2⟩ := He.ba h
    have e1 : t = .type "type" := of_decide_eq_true h1
    have e2 : cd.mro = m := of_decide_eq_true h2
    refine ⟨⟨cd, ?_, e2⟩, ?_⟩
    · unfold PySem.W.clsIn
      rw [ho]
    · show (K.lookup C).map (fun o => o.cls) = _
      rw [ho, e1]
      rfl
  · cases h
theorem sub_mro {K : PySem.W.Frag} {C : Addr} {m : List Value} (h : mroB K C m = true) (hm : m.isEmpty = false) (b : Value) : PySem.W.subIn K (.ref C) b = some (m.contains b) := by
  obtain ⟨⟨cd, h1, h2⟩, _⟩ := mroB_ok h
  show PySem.W.mroIn K C b = _
  unfold PySem.W.mroIn
  rw [h1]
  show (if cd.mro.isEmpty = true then none else some (cd.mro.contains b)) = _
  rw [h2, hm, if_neg Bool.false_ne_true]
theorem kit_mro {K : PySem.W.Frag} {C D : Addr} {m m' : List Value} (h : mroB K C m = true) (hm : m.isEmpty = false) (h' : mroB K D m' = true) (hs : C = D → m.contains (.ref D) = true) : PySem.W.kitOne K (.ref C) (.ref D) = some (m.contains (.ref D)) := by
  unfold PySem.W.kitOne
  by_cases e : C = D
  · rw [hs e, if_pos (beq_iff_eq.mpr (congrArg Value.ref e))]
  · rw [if_neg (fun z => e (Value.ref.inj (beq_iff_eq.mp z)))]
    obtain ⟨⟨cd, h1, _⟩, h2⟩ := mroB_ok h'
    show (if ((PySem.W.clsIn K D).isSome && PySem.W.typeIn K (.ref D) == some (.type "type")) = true then PySem.W.subIn K (.ref C) (.ref D) else none) = _
    rw [h1, h2, if_pos (by rw [Bool.and_eq_true]; exact ⟨rfl, beq_iff_eq.mpr rfl⟩)]
    exact sub_mro h hm _
theorem kit_ve {K : PySem.W.Frag} {C : Addr} {m : List Value} (h : mroB K C m = true) (hm : m.isEmpty = false) : PySem.W.kitOne K (.ref C) (.type "ValueError") = some (m.contains (.type "ValueError")) := by
  unfold PySem.W.kitOne
  rw [if_neg (fun z => by cases (beq_iff_eq.mp z))]
  show (if PySem.W.kitMeta "ValueError" = true then PySem.W.subIn K (.ref C) (.type "ValueError") else none) = _
  rw [if_pos (by decide +kernel)]
  exact sub_mro h hm _
/-! ### a part of the heap, each object once, written out -/
def refsK (o : Obj) : List Addr := match o.data with
  | .dict es _ => es.toList.flatMap fun e => He.refV e.val
  | .func fd => He.refV fd.code ++ He.refV fd.defaults
  | .cls cd => [cd.ns]
  | _ => []
def refsA (g : Addr → Option Obj) (a : Addr) : List Addr := match g a with
  | some o => refsK o
  | none => []
def frcA {α : Type} (l : List Addr) (k : List Addr → α) : α := match l with
  | [] => k []
  | a :: r => HandSHeadRun.frNat a fun a => frcA r fun r => k (a :: r)
theorem frcA_eq {α : Type} : ∀ (l : List Addr) (k : List Addr → α), frcA l k = k l
  | [], _ => rfl
  | a :: r, k => by
    show HandSHeadRun.frNat a (fun a => frcA r fun r => k (a :: r)) = _
    rw [HandSHeadRun.frNat_eq, frcA_eq r]
def asK (g : Addr → Option Obj) : List Addr := frcA (refsA g mainGlobals) fun l1 => frcA (l1.flatMap (refsA g)) fun l2 => frcA (l2.flatMap (refsA g)) fun l3 => frcA (l3.flatMap (refsA g)) fun l4 => mainGlobals :: (l1 ++ (l2 ++ (l3 ++ l4)))
def frcK {α : Type} (l : PySem.W.Frag) (k : PySem.W.Frag → α) : α := match l with
  | [] => k []
  | (a, o) :: r => HandSHeadRun.frNat a fun a => frcK r fun r => k ((a, o) :: r)
theorem frcK_eq {α : Type} : ∀ (l : PySem.W.Frag) (k : PySem.W.Frag → α), frcK l k = k l
  | [], _ => rfl
  | (a, o) :: r, k => by
    show HandSHeadRun.frNat a (fun a => frcK r fun r => k ((a, o) :: r)) = _
    rw [HandSHeadRun.frNat_eq, frcK_eq r]
def hookF (α : Type) (obs : PySem.W.Frag → α) (val : α) : PySem.W.Hook where
  α := α
  obs := fun s => obs (He.frG s.heap.get? (asK s.heap.get?))
  val := fun _ => val
  says := fun _ h => ∃ K : PySem.W.Frag, K.In h ∧ obs K = val
  of := fun _ _ e => ⟨_, He.frG_in, e⟩
  keeps := fun _ _ _ ⟨K, hK, c⟩ k => ⟨K, PySem.W.Frag.In.keeps hK k, c⟩
def obF {α : Type} (obs : PySem.W.Frag → α) (s : PySem.W.SharedT) : α := frcK (He.frG (HandSHeadRun.getT s) (asK (HandSHeadRun.getT s))) obs
theorem obF_eq {α : Type} {obs : PySem.W.Frag → α} {val : α} (s : PySem.W.SharedT) : obF obs s = (hookF α obs val).obs s.abs := by
  unfold obF
  rw [frcK_eq]
  have e : HandSHeadRun.getT s = s.abs.heap.get? := funext (HandSHeadRun.getT_eq s)
  rw [e]
  rfl
theorem map_two {S A B C D : Type} {e : Option S} {f : S → A} {g : S → B} {o : S → C} {o' : S → D} {a : A} {b : B} {c : C} {d : D} (h1 : e.map (fun s => (f s, g s, o s)) = some (a, b, c)) (h2 : e.map (fun s => o' s) = some d) :
    e.map (fun s => (f s, g s, (o s, o' s))) = some (a, b, (c, d)) := by
  cases e with
  | none => cases h1
  | some s =>
    have z1 : (f s, g s, o s) = (a, b, c) := Option.some.inj h1
    have z2 : o' s = d := Option.some.inj h2
    cases z2
    cases z1
    rfl
end XV
set_option Elab.async false
set_option linter.all false
set_option maxRecDepth 100000
set_option maxHeartbeats 0
namespace KB
open PySem PySem.Spec PyProof.Rows L2 XV
/-! ### what the top must say -/
def dF (x : Str) (i : Nat) : He.DefD := ⟨(x, none), x, x, defArgs (top i), defBody (top i), defScope (top i), [], []⟩
def dM (x q : Str) (s : Stmt) : He.DefD := ⟨("Grid", some x), x, q, defArgs s, defBody s, defScope s, [], []⟩
def fn : List He.DefD := [dF "is_whole" 11, dF "is_count" 12, dF "is_count_below" 13, dF "require_many" 14, dF "is_point" 15, dF "inserted" 17, dF "has_form" 18, dF "require_form" 19, dF "require_forms" 20, dF "form_with" 21, dF "form_times" 22, dF "sum_of_forms" 23, dF "plain_form" 24, dF "form_of_unknown" 25, dF "classes" 29, dF "class_of" 30, dF "place_in_class" 31, dF "class_forms" 32, dF "refines" 33, dF "within" 34, dF "led_forms" 35, dF "is_list_of_limits" 36, dF "is_limit" 37, dF "points_of" 38, dF "forms_of" 39, dF "how_many_classes" 40, dF "class_count" 41, dF "turns_of" 42, dF "step_of" 43, dF "require_grid" 44, dF "require_grid_point" 45, dF "require_like_grids" 46, dF "require_finer" 47, dF "_law_hash" 49, dF "_law_random" 50, dF "_law_generator" 51, dF "_law_limits" 52, dF "_law_box" 53, dF "_law_classes" 54, dF "_law_least" 55, dF "_law_class" 56, dF "_law_point" 57, dF "_law_value" 58, dF "_law_is_point" 59, dF "_law_are_points" 60, dF "_law_many" 61, dF "_law_finer" 62, dF "_law_led_due" 63, dF "_law_point_good" 64, dF "_law_within_good" 65, dF "law" 66, dM "__init__" "Grid.__init__" sInit, dM "many" "Grid.many" sMany, dM "limits" "Grid.limits" sLimits]
def fa : List He.Fa := [.glo "is_whole", .glo "is_count", .glo "is_count_below", .glo "require_many", .glo "is_point", .glo "inserted", .glo "has_form", .glo "require_form", .glo "require_forms", .glo "form_with", .glo "form_times", .glo "sum_of_forms", .glo "plain_form", .glo "form_of_unknown", .glo "classes", .glo "class_of", .glo "place_in_class", .glo "class_forms", .glo "refines", .glo "within", .glo "led_forms", .glo "is_list_of_limits", .glo "is_limit", .glo "points_of", .glo "forms_of", .glo "how_many_classes", .glo "class_count", .glo "turns_of", .glo "step_of", .glo "require_grid", .glo "require_grid_point", .glo "require_like_grids", .glo "require_finer", .glo "_law_hash", .glo "_law_random", .glo "_law_generator", .glo "_law_limits", .glo "_law_box", .glo "_law_classes", .glo "_law_least", .glo "_law_class", .glo "_law_point", .glo "_law_value", .glo "_law_is_point", .glo "_law_are_points", .glo "_law_many", .glo "_law_finer", .glo "_law_led_due", .glo "_law_point_good", .glo "_law_within_good", .glo "law", .glo "Grid", .free "isinstance", .free "int", .free "bool", .free "tuple", .free "list", .free "len", .free "all", .free "any", .free "sum", .free "range", .free "max", .free "zip", .free "enumerate", .free "sorted", .int "MOST_UNKNOWNS" 3, .int "MOST_CLASSES" 600, .cls "Grid", .mkr "Grid", .noat "Grid" "_limits", .meth "Grid" "many", .meth "Grid" "limits"]
abbrev GA (K : PySem.W.Frag) : Addr := He.ga K "Grid"
def bx (K : PySem.W.Frag) : Bool := He.eqO (PySem.W.findIn K (.ref (GA K)) "__class__") (some (some (.builtin "object.__class__"))) && (He.eqO (PySem.W.specialIn K (.builtin "object.__class__") "__get__") (some (some (.builtin "getset_descriptor.__get__"))) &&
  (decide (PySem.W.takesIn K (.builtin "object.__class__") = some true) && (decide (PySem.W.mroIn K (GA K) (.type "object") = some true) && decide (PySem.W.kitOne K (.ref (GA K)) (.ref (GA K)) = some true))))
end KB
set_option Elab.async false
set_option linter.all false
set_option maxRecDepth 100000
set_option maxHeartbeats 0
namespace KB
open PySem PySem.Spec PyProof.Rows L2 XV
section
variable {P : Program} {w : World} {K : PySem.W.Frag} {mg : Str → Option Value} {base h : Heap}
theorem gt_of (X : K.In h) (G : h.Ns mainGlobals mg) (c : He.SaysD fa fn K) (b : bx K = true) : GT K mg (GA K) := by
  obtain ⟨t1, t⟩ := He.ba b
  obtain ⟨t2, t⟩ := He.ba t
  obtain ⟨t3, t⟩ := He.ba t
  obtain ⟨t4, t5⟩ := He.ba t
  exact ⟨⟨He.cls_ok (c.fact 68 (f := .cls "Grid") rfl), He.eqO_ok t1, He.eqO_ok t2, of_decide_eq_true t3, of_decide_eq_true t4, of_decide_eq_true t5⟩, He.noat_ok (c.fact 70 (f := .noat "Grid" "_limits") rfl), He.glo_ok X G (c.fact 51 (f := .glo "Grid") rfl)⟩
theorem facts {f : Addr} (X : K.In h) (G : h.Ns mainGlobals mg) (hfa : mg ("law" : Str) = some (.ref f)) (c : He.SaysD fa fn K) (b : bx K = true) :
    ∃ fd : FuncData, (∀ (s : Shared) (v : Value), BindsTo s fd ⟨[v], []⟩ [("_law_script", v)]) ∧ ∀ base : Heap, K.In base → base.Ns mainGlobals mg → FnOk P w K mg base CX0 8 f fd ["_law_script"] (spLaw K) := by
  obtain ⟨fd_is_whole, F_is_whole⟩ := c.def_ 0 (d := dF "is_whole" 11) rfl
  obtain ⟨fd_is_count, F_is_count⟩ := c.def_ 1 (d := dF "is_count" 12) rfl
  obtain ⟨fd_is_count_below, F_is_count_below⟩ := c.def_ 2 (d := dF "is_count_below" 13) rfl
  obtain ⟨fd_require_many, F_require_many⟩ := c.def_ 3 (d := dF "require_many" 14) rfl
  obtain ⟨fd_is_point, F_is_point⟩ := c.def_ 4 (d := dF "is_point" 15) rfl
  obtain ⟨fd_inserted, F_inserted⟩ := c.def_ 5 (d := dF "inserted" 17) rfl
  obtain ⟨fd_has_form, F_has_form⟩ := c.def_ 6 (d := dF "has_form" 18) rfl
  obtain ⟨fd_require_form, F_require_form⟩ := c.def_ 7 (d := dF "require_form" 19) rfl
  obtain ⟨fd_require_forms, F_require_forms⟩ := c.def_ 8 (d := dF "require_forms" 20) rfl
  obtain ⟨fd_form_with, F_form_with⟩ := c.def_ 9 (d := dF "form_with" 21) rfl
  obtain ⟨fd_form_times, F_form_times⟩ := c.def_ 10 (d := dF "form_times" 22) rfl
  obtain ⟨fd_sum_of_forms, F_sum_of_forms⟩ := c.def_ 11 (d := dF "sum_of_forms" 23) rfl
  obtain ⟨fd_plain_form, F_plain_form⟩ := c.def_ 12 (d := dF "plain_form" 24) rfl
  obtain ⟨fd_form_of_unknown, F_form_of_unknown⟩ := c.def_ 13 (d := dF "form_of_unknown" 25) rfl
  obtain ⟨fd_classes, F_classes⟩ := c.def_ 14 (d := dF "classes" 29) rfl
  obtain ⟨fd_class_of, F_class_of⟩ := c.def_ 15 (d := dF "class_of" 30) rfl
  obtain ⟨fd_place_in_class, F_place_in_class⟩ := c.def_ 16 (d := dF "place_in_class" 31) rfl
  obtain ⟨fd_class_forms, F_class_forms⟩ := c.def_ 17 (d := dF "class_forms" 32) rfl
  obtain ⟨fd_refines, F_refines⟩ := c.def_ 18 (d := dF "refines" 33) rfl
  obtain ⟨fd_within, F_within⟩ := c.def_ 19 (d := dF "within" 34) rfl
  obtain ⟨fd_led_forms, F_led_forms⟩ := c.def_ 20 (d := dF "led_forms" 35) rfl
  obtain ⟨fd_is_list_of_limits, F_is_list_of_limits⟩ := c.def_ 21 (d := dF "is_list_of_limits" 36) rfl
  obtain ⟨fd_is_limit, F_is_limit⟩ := c.def_ 22 (d := dF "is_limit" 37) rfl
  obtain ⟨fd_points_of, F_points_of⟩ := c.def_ 23 (d := dF "points_of" 38) rfl
  obtain ⟨fd_forms_of, F_forms_of⟩ := c.def_ 24 (d := dF "forms_of" 39) rfl
  obtain ⟨fd_how_many_classes, F_how_many_classes⟩ := c.def_ 25 (d := dF "how_many_classes" 40) rfl
  obtain ⟨fd_class_count, F_class_count⟩ := c.def_ 26 (d := dF "class_count" 41) rfl
  obtain ⟨fd_turns_of, F_turns_of⟩ := c.def_ 27 (d := dF "turns_of" 42) rfl
  obtain ⟨fd_step_of, F_step_of⟩ := c.def_ 28 (d := dF "step_of" 43) rfl
  obtain ⟨fd_require_grid, F_require_grid⟩ := c.def_ 29 (d := dF "require_grid" 44) rfl
  obtain ⟨fd_require_grid_point, F_require_grid_point⟩ := c.def_ 30 (d := dF "require_grid_point" 45) rfl
  obtain ⟨fd_require_like_grids, F_require_like_grids⟩ := c.def_ 31 (d := dF "require_like_grids" 46) rfl
  obtain ⟨fd_require_finer, F_require_finer⟩ := c.def_ 32 (d := dF "require_finer" 47) rfl
  obtain ⟨fd__law_hash, F__law_hash⟩ := c.def_ 33 (d := dF "_law_hash" 49) rfl
  obtain ⟨fd__law_random, F__law_random⟩ := c.def_ 34 (d := dF "_law_random" 50) rfl
  obtain ⟨fd__law_generator, F__law_generator⟩ := c.def_ 35 (d := dF "_law_generator" 51) rfl
  obtain ⟨fd__law_limits, F__law_limits⟩ := c.def_ 36 (d := dF "_law_limits" 52) rfl
  obtain ⟨fd__law_box, F__law_box⟩ := c.def_ 37 (d := dF "_law_box" 53) rfl
  obtain ⟨fd__law_classes, F__law_classes⟩ := c.def_ 38 (d := dF "_law_classes" 54) rfl
  obtain ⟨fd__law_least, F__law_least⟩ := c.def_ 39 (d := dF "_law_least" 55) rfl
  obtain ⟨fd__law_class, F__law_class⟩ := c.def_ 40 (d := dF "_law_class" 56) rfl
  obtain ⟨fd__law_point, F__law_point⟩ := c.def_ 41 (d := dF "_law_point" 57) rfl
  obtain ⟨fd__law_value, F__law_value⟩ := c.def_ 42 (d := dF "_law_value" 58) rfl
  obtain ⟨fd__law_is_point, F__law_is_point⟩ := c.def_ 43 (d := dF "_law_is_point" 59) rfl
  obtain ⟨fd__law_are_points, F__law_are_points⟩ := c.def_ 44 (d := dF "_law_are_points" 60) rfl
  obtain ⟨fd__law_many, F__law_many⟩ := c.def_ 45 (d := dF "_law_many" 61) rfl
  obtain ⟨fd__law_finer, F__law_finer⟩ := c.def_ 46 (d := dF "_law_finer" 62) rfl
  obtain ⟨fd__law_led_due, F__law_led_due⟩ := c.def_ 47 (d := dF "_law_led_due" 63) rfl
  obtain ⟨fd__law_point_good, F__law_point_good⟩ := c.def_ 48 (d := dF "_law_point_good" 64) rfl
  obtain ⟨fd__law_within_good, F__law_within_good⟩ := c.def_ 49 (d := dF "_law_within_good" 65) rfl
  obtain ⟨fd_law, F_law⟩ := c.def_ 50 (d := dF "law" 66) rfl
  obtain ⟨fdm___init__, Fm___init__⟩ := c.def_ 51 (d := dM "__init__" "Grid.__init__" sInit) rfl
  obtain ⟨fdm_many, Fm_many⟩ := c.def_ 52 (d := dM "many" "Grid.many" sMany) rfl
  obtain ⟨fdm_limits, Fm_limits⟩ := c.def_ 53 (d := dM "limits" "Grid.limits" sLimits) rfl
  have g_is_whole : mg "is_whole" = some (.ref (He.ga K "is_whole")) := He.glo_ok X G (c.fact 0 (f := .glo "is_whole") rfl)
  have g_is_count : mg "is_count" = some (.ref (He.ga K "is_count")) := He.glo_ok X G (c.fact 1 (f := .glo "is_count") rfl)
  have g_is_count_below : mg "is_count_below" = some (.ref (He.ga K "is_count_below")) := He.glo_ok X G (c.fact 2 (f := .glo "is_count_below") rfl)
  have g_require_many : mg "require_many" = some (.ref (He.ga K "require_many")) := He.glo_ok X G (c.fact 3 (f := .glo "require_many") rfl)
  have g_is_point : mg "is_point" = some (.ref (He.ga K "is_point")) := He.glo_ok X G (c.fact 4 (f := .glo "is_point") rfl)
  have g_inserted : mg "inserted" = some (.ref (He.ga K "inserted")) := He.glo_ok X G (c.fact 5 (f := .glo "inserted") rfl)
  have g_has_form : mg "has_form" = some (.ref (He.ga K "has_form")) := He.glo_ok X G (c.fact 6 (f := .glo "has_form") rfl)
  have g_require_form : mg "require_form" = some (.ref (He.ga K "require_form")) := He.glo_ok X G (c.fact 7 (f := .glo "require_form") rfl)
  have g_require_forms : mg "require_forms" = some (.ref (He.ga K "require_forms")) := He.glo_ok X G (c.fact 8 (f := .glo "require_forms") rfl)
  have g_form_with : mg "form_with" = some (.ref (He.ga K "form_with")) := He.glo_ok X G (c.fact 9 (f := .glo "form_with") rfl)
  have g_form_times : mg "form_times" = some (.ref (He.ga K "form_times")) := He.glo_ok X G (c.fact 10 (f := .glo "form_times") rfl)
  have g_sum_of_forms : mg "sum_of_forms" = some (.ref (He.ga K "sum_of_forms")) := He.glo_ok X G (c.fact 11 (f := .glo "sum_of_forms") rfl)
  have g_plain_form : mg "plain_form" = some (.ref (He.ga K "plain_form")) := He.glo_ok X G (c.fact 12 (f := .glo "plain_form") rfl)
  have g_form_of_unknown : mg "form_of_unknown" = some (.ref (He.ga K "form_of_unknown")) := He.glo_ok X G (c.fact 13 (f := .glo "form_of_unknown") rfl)
  have g_classes : mg "classes" = some (.ref (He.ga K "classes")) := He.glo_ok X G (c.fact 14 (f := .glo "classes") rfl)
  have g_class_of : mg "class_of" = some (.ref (He.ga K "class_of")) := He.glo_ok X G (c.fact 15 (f := .glo "class_of") rfl)
  have g_place_in_class : mg "place_in_class" = some (.ref (He.ga K "place_in_class")) := He.glo_ok X G (c.fact 16 (f := .glo "place_in_class") rfl)
  have g_class_forms : mg "class_forms" = some (.ref (He.ga K "class_forms")) := He.glo_ok X G (c.fact 17 (f := .glo "class_forms") rfl)
  have g_refines : mg "refines" = some (.ref (He.ga K "refines")) := He.glo_ok X G (c.fact 18 (f := .glo "refines") rfl)
  have g_within : mg "within" = some (.ref (He.ga K "within")) := He.glo_ok X G (c.fact 19 (f := .glo "within") rfl)
  have g_led_forms : mg "led_forms" = some (.ref (He.ga K "led_forms")) := He.glo_ok X G (c.fact 20 (f := .glo "led_forms") rfl)
  have g_is_list_of_limits : mg "is_list_of_limits" = some (.ref (He.ga K "is_list_of_limits")) := He.glo_ok X G (c.fact 21 (f := .glo "is_list_of_limits") rfl)
  have g_is_limit : mg "is_limit" = some (.ref (He.ga K "is_limit")) := He.glo_ok X G (c.fact 22 (f := .glo "is_limit") rfl)
  have g_points_of : mg "points_of" = some (.ref (He.ga K "points_of")) := He.glo_ok X G (c.fact 23 (f := .glo "points_of") rfl)
  have g_forms_of : mg "forms_of" = some (.ref (He.ga K "forms_of")) := He.glo_ok X G (c.fact 24 (f := .glo "forms_of") rfl)
  have g_how_many_classes : mg "how_many_classes" = some (.ref (He.ga K "how_many_classes")) := He.glo_ok X G (c.fact 25 (f := .glo "how_many_classes") rfl)
  have g_class_count : mg "class_count" = some (.ref (He.ga K "class_count")) := He.glo_ok X G (c.fact 26 (f := .glo "class_count") rfl)
  have g_turns_of : mg "turns_of" = some (.ref (He.ga K "turns_of")) := He.glo_ok X G (c.fact 27 (f := .glo "turns_of") rfl)
  have g_step_of : mg "step_of" = some (.ref (He.ga K "step_of")) := He.glo_ok X G (c.fact 28 (f := .glo "step_of") rfl)
  have g_require_grid : mg "require_grid" = some (.ref (He.ga K "require_grid")) := He.glo_ok X G (c.fact 29 (f := .glo "require_grid") rfl)
  have g_require_grid_point : mg "require_grid_point" = some (.ref (He.ga K "require_grid_point")) := He.glo_ok X G (c.fact 30 (f := .glo "require_grid_point") rfl)
  have g_require_like_grids : mg "require_like_grids" = some (.ref (He.ga K "require_like_grids")) := He.glo_ok X G (c.fact 31 (f := .glo "require_like_grids") rfl)
  have g_require_finer : mg "require_finer" = some (.ref (He.ga K "require_finer")) := He.glo_ok X G (c.fact 32 (f := .glo "require_finer") rfl)
  have g__law_hash : mg "_law_hash" = some (.ref (He.ga K "_law_hash")) := He.glo_ok X G (c.fact 33 (f := .glo "_law_hash") rfl)
  have g__law_random : mg "_law_random" = some (.ref (He.ga K "_law_random")) := He.glo_ok X G (c.fact 34 (f := .glo "_law_random") rfl)
  have g__law_generator : mg "_law_generator" = some (.ref (He.ga K "_law_generator")) := He.glo_ok X G (c.fact 35 (f := .glo "_law_generator") rfl)
  have g__law_limits : mg "_law_limits" = some (.ref (He.ga K "_law_limits")) := He.glo_ok X G (c.fact 36 (f := .glo "_law_limits") rfl)
  have g__law_box : mg "_law_box" = some (.ref (He.ga K "_law_box")) := He.glo_ok X G (c.fact 37 (f := .glo "_law_box") rfl)
  have g__law_classes : mg "_law_classes" = some (.ref (He.ga K "_law_classes")) := He.glo_ok X G (c.fact 38 (f := .glo "_law_classes") rfl)
  have g__law_least : mg "_law_least" = some (.ref (He.ga K "_law_least")) := He.glo_ok X G (c.fact 39 (f := .glo "_law_least") rfl)
  have g__law_class : mg "_law_class" = some (.ref (He.ga K "_law_class")) := He.glo_ok X G (c.fact 40 (f := .glo "_law_class") rfl)
  have g__law_point : mg "_law_point" = some (.ref (He.ga K "_law_point")) := He.glo_ok X G (c.fact 41 (f := .glo "_law_point") rfl)
  have g__law_value : mg "_law_value" = some (.ref (He.ga K "_law_value")) := He.glo_ok X G (c.fact 42 (f := .glo "_law_value") rfl)
  have g__law_is_point : mg "_law_is_point" = some (.ref (He.ga K "_law_is_point")) := He.glo_ok X G (c.fact 43 (f := .glo "_law_is_point") rfl)
  have g__law_are_points : mg "_law_are_points" = some (.ref (He.ga K "_law_are_points")) := He.glo_ok X G (c.fact 44 (f := .glo "_law_are_points") rfl)
  have g__law_many : mg "_law_many" = some (.ref (He.ga K "_law_many")) := He.glo_ok X G (c.fact 45 (f := .glo "_law_many") rfl)
  have g__law_finer : mg "_law_finer" = some (.ref (He.ga K "_law_finer")) := He.glo_ok X G (c.fact 46 (f := .glo "_law_finer") rfl)
  have g__law_led_due : mg "_law_led_due" = some (.ref (He.ga K "_law_led_due")) := He.glo_ok X G (c.fact 47 (f := .glo "_law_led_due") rfl)
  have g__law_point_good : mg "_law_point_good" = some (.ref (He.ga K "_law_point_good")) := He.glo_ok X G (c.fact 48 (f := .glo "_law_point_good") rfl)
  have g__law_within_good : mg "_law_within_good" = some (.ref (He.ga K "_law_within_good")) := He.glo_ok X G (c.fact 49 (f := .glo "_law_within_good") rfl)
  have g_law : mg "law" = some (.ref (He.ga K "law")) := He.glo_ok X G (c.fact 50 (f := .glo "law") rfl)
  have z_isinstance : mg "isinstance" = none := He.free_ok X G (c.fact 52 (f := .free "isinstance") rfl)
  have z_int : mg "int" = none := He.free_ok X G (c.fact 53 (f := .free "int") rfl)
  have z_bool : mg "bool" = none := He.free_ok X G (c.fact 54 (f := .free "bool") rfl)
  have z_tuple : mg "tuple" = none := He.free_ok X G (c.fact 55 (f := .free "tuple") rfl)
  have z_list : mg "list" = none := He.free_ok X G (c.fact 56 (f := .free "list") rfl)
  have z_len : mg "len" = none := He.free_ok X G (c.fact 57 (f := .free "len") rfl)
  have z_all : mg "all" = none := He.free_ok X G (c.fact 58 (f := .free "all") rfl)
  have z_any : mg "any" = none := He.free_ok X G (c.fact 59 (f := .free "any") rfl)
  have z_sum : mg "sum" = none := He.free_ok X G (c.fact 60 (f := .free "sum") rfl)
  have z_range : mg "range" = none := He.free_ok X G (c.fact 61 (f := .free "range") rfl)
  have z_max : mg "max" = none := He.free_ok X G (c.fact 62 (f := .free "max") rfl)
  have z_zip : mg "zip" = none := He.free_ok X G (c.fact 63 (f := .free "zip") rfl)
  have z_enumerate : mg "enumerate" = none := He.free_ok X G (c.fact 64 (f := .free "enumerate") rfl)
  have z_sorted : mg "sorted" = none := He.free_ok X G (c.fact 65 (f := .free "sorted") rfl)
  obtain ⟨t_MOST_UNKNOWNS, h_MOST_UNKNOWNS⟩ := He.int_ok X G (c.fact 66 (f := .int "MOST_UNKNOWNS" 3) rfl)
  obtain ⟨t_MOST_CLASSES, h_MOST_CLASSES⟩ := He.int_ok X G (c.fact 67 (f := .int "MOST_CLASSES" 600) rfl)
  have MK : Mk K (GA K) (He.ma K (GA K) "__init__") := He.mkr_ok (c.fact 69 (f := .mkr "Grid") rfl)
  obtain ⟨ma1, ma2, ma3⟩ := He.meth_ok (c.fact 71 (f := .meth "Grid" "many") rfl)
  obtain ⟨ml1, ml2, ml3⟩ := He.meth_ok (c.fact 72 (f := .meth "Grid" "limits") rfl)
  have T := gt_of X G c b
  have eL := hfa.symm.trans g_law
  cases eL
  have bL := FunD.bindsA (ps := ["_law_script"]) F_law fun _ _ _ _ _ _ us hl => match us, hl with | [_], _ => rfl
  refine ⟨fd_law, fun s v => bL s [v] rfl, fun base Xb _ => ?_⟩
  have o__law_hash := Ok.mk' (P := P) (w := w) (base := base) F__law_hash g__law_hash (fun _ _ _ _ _ _ us hl => match us, hl with | [_, _], _ => rfl) (ok_hash F__law_hash z_int)
  have o__law_random := Ok.mk' (P := P) (w := w) (base := base) F__law_random g__law_random (fun _ _ _ _ _ _ us hl => match us, hl with | [_, _], _ => rfl) (ok_rand F__law_random o__law_hash z_int z_range)
  have o__law_generator := Ok.mk' (P := P) (w := w) (base := base) F__law_generator g__law_generator (fun _ _ _ _ _ _ us hl => match us, hl with | [_, _], _ => rfl) (ok_gen F__law_generator z_int z_len z_sum z_max)
  have o_is_whole := Ok.mk' (P := P) (w := w) (base := base) F_is_whole g_is_whole (fun _ _ _ _ _ _ us hl => match us, hl with | [_], _ => rfl) (ok_whole F_is_whole z_isinstance z_int z_bool)
  have o_is_count := Ok.mk' (P := P) (w := w) (base := base) F_is_count g_is_count (fun _ _ _ _ _ _ us hl => match us, hl with | [_], _ => rfl) (ok_count F_is_count o_is_whole)
  have o_is_count_below := Ok.mk' (P := P) (w := w) (base := base) F_is_count_below g_is_count_below (fun _ _ _ _ _ _ us hl => match us, hl with | [_, _], _ => rfl) (ok_below F_is_count_below o_is_count)
  have o_require_many := Ok.mk' (P := P) (w := w) (base := base) F_require_many g_require_many (fun _ _ _ _ _ _ us hl => match us, hl with | [_], _ => rfl) (ok_reqMany F_require_many o_is_count_below h_MOST_UNKNOWNS)
  have o_is_point := Ok.mk' (P := P) (w := w) (base := base) F_is_point g_is_point (fun _ _ _ _ _ _ us hl => match us, hl with | [_, _], _ => rfl) (ok_isPoint F_is_point o_is_count z_isinstance z_list z_len z_all)
  have o_has_form := Ok.mk' (P := P) (w := w) (base := base) F_has_form g_has_form (fun _ _ _ _ _ _ us hl => match us, hl with | [_, _], _ => rfl) (ok_hasForm F_has_form o_is_count z_isinstance z_tuple z_len z_all)
  have o_require_form := Ok.mk' (P := P) (w := w) (base := base) F_require_form g_require_form (fun _ _ _ _ _ _ us hl => match us, hl with | [_], _ => rfl) (ok_reqForm F_require_form o_has_form z_any z_range h_MOST_UNKNOWNS)
  have o_require_forms := Ok.mk' (P := P) (w := w) (base := base) F_require_forms g_require_forms (fun _ _ _ _ _ _ us hl => match us, hl with | [_, _, _], _ => rfl) (ok_reqForms F_require_forms o_has_form z_isinstance z_list z_len z_all)
  have o_form_times := Ok.mk' (P := P) (w := w) (base := base) F_form_times g_form_times (fun _ _ _ _ _ _ us hl => match us, hl with | [_, _], _ => rfl) (ok_times F_form_times z_tuple)
  have o_plain_form := Ok.mk' (P := P) (w := w) (base := base) F_plain_form g_plain_form (fun _ _ _ _ _ _ us hl => match us, hl with | [_, _], _ => rfl) (ok_plain F_plain_form z_tuple)
  have o_sum_of_forms := Ok.mk' (P := P) (w := w) (base := base) F_sum_of_forms g_sum_of_forms (fun _ _ _ _ _ _ us hl => match us, hl with | [_, _], _ => rfl) (ok_sum F_sum_of_forms z_tuple z_sum z_range)
  have o_form_with := Ok.mk' (P := P) (w := w) (base := base) F_form_with g_form_with (fun _ _ _ _ _ _ us hl => match us, hl with | [_, _, _], _ => rfl) (ok_with F_form_with o_form_times o_plain_form o_sum_of_forms z_zip)
  have o_inserted := Ok.mk' (P := P) (w := w) (base := base) F_inserted g_inserted (fun _ _ _ _ _ _ us hl => match us, hl with | [_, _, _], _ => rfl) (ok_inserted F_inserted o_require_form o_require_many o_require_forms o_form_with z_len)
  have o_form_of_unknown := Ok.mk' (P := P) (w := w) (base := base) F_form_of_unknown g_form_of_unknown (fun _ _ _ _ _ _ us hl => match us, hl with | [_, _, _, _], _ => rfl) (ok_unk F_form_of_unknown z_tuple z_range)
  have o_is_limit := Ok.mk' (P := P) (w := w) (base := base) F_is_limit g_is_limit (fun _ _ _ _ _ _ us hl => match us, hl with | [_], _ => rfl) (ok_isLim F_is_limit o_is_whole o_is_count z_isinstance z_tuple z_len)
  have o_is_list_of_limits := Ok.mk' (P := P) (w := w) (base := base) F_is_list_of_limits g_is_list_of_limits (fun _ _ _ _ _ _ us hl => match us, hl with | [_], _ => rfl) (ok_isLL F_is_list_of_limits o_is_limit z_isinstance z_list z_len z_all h_MOST_UNKNOWNS)
  have o_how_many_classes := Ok.mk' (P := P) (w := w) (base := base) F_how_many_classes g_how_many_classes (fun _ _ _ _ _ _ us hl => match us, hl with | [_], _ => rfl) (ok_how F_how_many_classes )
  have FI := ok_init (P := P) (w := w) (base := base) Fm___init__ T o_is_list_of_limits o_how_many_classes z_list h_MOST_CLASSES
  have o_mk : OkMk P w K mg base (GA K) := ⟨_, _, MK, FI, FunD.bindsN Fm___init__ fun _ _ _ _ _ _ us hl => match us, hl with | [_, _], _ => rfl, T.g⟩
  have o_many : OkMt P w K mg base (GA K) "many" (spMany (GA K)) := ⟨_, _, ok_many Fm_many T z_len, ⟨ma1, ma2, ma3⟩, FunD.bindsN Fm_many fun _ _ _ _ _ _ us hl => match us, hl with | [_], _ => rfl⟩
  have o_limits : OkMt P w K mg base (GA K) "limits" (spLimits (GA K)) := ⟨_, _, ok_limits Fm_limits T z_list, ⟨ml1, ml2, ml3⟩, FunD.bindsN Fm_limits fun _ _ _ _ _ _ us hl => match us, hl with | [_], _ => rfl⟩
  have o_require_grid := Ok.mk' (P := P) (w := w) (base := base) F_require_grid g_require_grid (fun _ _ _ _ _ _ us hl => match us, hl with | [_], _ => rfl) (ok_reqGrid F_require_grid T z_isinstance)
  have o_require_like_grids := Ok.mk' (P := P) (w := w) (base := base) F_require_like_grids g_require_like_grids (fun _ _ _ _ _ _ us hl => match us, hl with | [_, _], _ => rfl) (ok_reqLike F_require_like_grids T o_require_grid o_many)
  have o_require_grid_point := Ok.mk' (P := P) (w := w) (base := base) F_require_grid_point g_require_grid_point (fun _ _ _ _ _ _ us hl => match us, hl with | [_, _], _ => rfl) (ok_reqPt F_require_grid_point T o_require_grid o_many o_is_point)
  have o_class_count := Ok.mk' (P := P) (w := w) (base := base) F_class_count g_class_count (fun _ _ _ _ _ _ us hl => match us, hl with | [_, _], _ => rfl) (ok_clsCount F_class_count )
  have o_class_of := Ok.mk' (P := P) (w := w) (base := base) F_class_of g_class_of (fun _ _ _ _ _ _ us hl => match us, hl with | [_, _], _ => rfl) (ok_classOf F_class_of T o_require_grid_point o_class_count o_limits z_zip)
  have o_refines := Ok.mk' (P := P) (w := w) (base := base) F_refines g_refines (fun _ _ _ _ _ _ us hl => match us, hl with | [_, _], _ => rfl) (ok_refines F_refines T o_require_like_grids o_limits z_zip z_all)
  have o_require_finer := Ok.mk' (P := P) (w := w) (base := base) F_require_finer g_require_finer (fun _ _ _ _ _ _ us hl => match us, hl with | [_, _, _], _ => rfl) (ok_reqFiner F_require_finer T o_refines o_many)
  have o_turns_of := Ok.mk' (P := P) (w := w) (base := base) F_turns_of g_turns_of (fun _ _ _ _ _ _ us hl => match us, hl with | [_, _], _ => rfl) (ok_turns F_turns_of o_class_count)
  have o_step_of := Ok.mk' (P := P) (w := w) (base := base) F_step_of g_step_of (fun _ _ _ _ _ _ us hl => match us, hl with | [_, _], _ => rfl) (ok_step F_step_of )
  have o_points_of := Ok.mk' (P := P) (w := w) (base := base) F_points_of g_points_of (fun _ _ _ _ _ _ us hl => match us, hl with | [_], _ => rfl) (ok_points F_points_of z_range)
  have o_classes := Ok.mk' (P := P) (w := w) (base := base) F_classes g_classes (fun _ _ _ _ _ _ us hl => match us, hl with | [_], _ => rfl) (ok_classesP F_classes T o_require_grid o_limits o_points_of)
  have o_place_in_class := Ok.mk' (P := P) (w := w) (base := base) F_place_in_class g_place_in_class (fun _ _ _ _ _ _ us hl => match us, hl with | [_, _], _ => rfl) (ok_place F_place_in_class T o_require_grid_point o_turns_of o_limits z_zip)
  have o_forms_of := Ok.mk' (P := P) (w := w) (base := base) F_forms_of g_forms_of (fun _ _ _ _ _ _ us hl => match us, hl with | [_, _], _ => rfl) (ok_formsOf F_forms_of o_form_of_unknown o_class_count o_step_of z_zip z_enumerate z_len)
  have o_class_forms := Ok.mk' (P := P) (w := w) (base := base) F_class_forms g_class_forms (fun _ _ _ _ _ _ us hl => match us, hl with | [_, _], _ => rfl) (ok_classForms F_class_forms T o_require_grid_point o_forms_of o_limits)
  have o_within := Ok.mk' (P := P) (w := w) (base := base) F_within g_within (fun _ _ _ _ _ _ us hl => match us, hl with | [_, _, _], _ => rfl) (ok_within F_within o_require_grid_point o_require_grid o_require_finer o_class_of o_classes)
  have k_within := OkK.mk' (P := P) (w := w) (base := base) F_within g_within (fun _ _ _ _ _ _ us hl => match us, hl with | [_, _, _], _ => rfl) (ok_within F_within o_require_grid_point o_require_grid o_require_finer o_class_of o_classes)
  have o_led_forms := Ok.mk' (P := P) (w := w) (base := base) F_led_forms g_led_forms (fun _ _ _ _ _ _ us hl => match us, hl with | [_, _, _], _ => rfl) (ok_led F_led_forms T o_require_grid_point o_require_grid o_require_finer o_class_of o_limits o_many o_form_of_unknown o_turns_of o_step_of z_zip z_list z_enumerate)
  have k_led_forms := OkK.mk' (P := P) (w := w) (base := base) F_led_forms g_led_forms (fun _ _ _ _ _ _ us hl => match us, hl with | [_, _, _], _ => rfl) (ok_led F_led_forms T o_require_grid_point o_require_grid o_require_finer o_class_of o_limits o_many o_form_of_unknown o_turns_of o_step_of z_zip z_list z_enumerate)
  have o__law_limits := Ok.mk' (P := P) (w := w) (base := base) F__law_limits g__law_limits (fun _ _ _ _ _ _ us hl => match us, hl with | [_, _, _, _], _ => rfl) (ok_limL F__law_limits o__law_random z_range)
  have o__law_box := Ok.mk' (P := P) (w := w) (base := base) F__law_box g__law_box (fun _ _ _ _ _ _ us hl => match us, hl with | [_], _ => rfl) (ok_box F__law_box z_range)
  have o__law_classes := Ok.mk' (P := P) (w := w) (base := base) F__law_classes g__law_classes (fun _ _ _ _ _ _ us hl => match us, hl with | [_], _ => rfl) (ok_classes F__law_classes o__law_box)
  have o__law_least := Ok.mk' (P := P) (w := w) (base := base) F__law_least g__law_least (fun _ _ _ _ _ _ us hl => match us, hl with | [_, _], _ => rfl) (ok_least F__law_least z_int)
  have o__law_class := Ok.mk' (P := P) (w := w) (base := base) F__law_class g__law_class (fun _ _ _ _ _ _ us hl => match us, hl with | [_, _], _ => rfl) (ok_classL F__law_class o__law_least z_range z_len)
  have o__law_point := Ok.mk' (P := P) (w := w) (base := base) F__law_point g__law_point (fun _ _ _ _ _ _ us hl => match us, hl with | [_, _, _], _ => rfl) (ok_pointL F__law_point o__law_random z_range)
  have o__law_value := Ok.mk' (P := P) (w := w) (base := base) F__law_value g__law_value (fun _ _ _ _ _ _ us hl => match us, hl with | [_, _], _ => rfl) (ok_value F__law_value z_sum z_range z_len)
  have o__law_is_point := Ok.mk' (P := P) (w := w) (base := base) F__law_is_point g__law_is_point (fun _ _ _ _ _ _ us hl => match us, hl with | [_, _], _ => rfl) (ok_isPt F__law_is_point z_isinstance z_list z_len z_int z_bool)
  have o__law_are_points := Ok.mk' (P := P) (w := w) (base := base) F__law_are_points g__law_are_points (fun _ _ _ _ _ _ us hl => match us, hl with | [_, _], _ => rfl) (ok_arePts F__law_are_points o__law_is_point z_isinstance z_list)
  have o__law_many := Ok.mk' (P := P) (w := w) (base := base) F__law_many g__law_many (fun _ _ _ _ _ _ us hl => match us, hl with | [_], _ => rfl) (ok_manyL F__law_many )
  have o__law_finer := Ok.mk' (P := P) (w := w) (base := base) F__law_finer g__law_finer (fun _ _ _ _ _ _ us hl => match us, hl with | [_, _], _ => rfl) (ok_finer F__law_finer o__law_random)
  have o__law_led_due := Ok.mk' (P := P) (w := w) (base := base) F__law_led_due g__law_led_due (fun _ _ _ _ _ _ us hl => match us, hl with | [_, _, _], _ => rfl) (ok_ledDue F__law_led_due o__law_class z_range z_len z_tuple)
  have o__law_point_good := Ok.mk' (P := P) (w := w) (base := base) F__law_point_good g__law_point_good (fun _ _ _ _ _ _ us hl => match us, hl with | [_, _, _, _, _], _ => rfl) (ok_ptGood F__law_point_good o__law_class o_led_forms k_led_forms o__law_led_due o__law_value o_place_in_class o_inserted o_class_forms z_isinstance z_list z_len z_range)
  have o__law_within_good := Ok.mk' (P := P) (w := w) (base := base) F__law_within_good g__law_within_good (fun _ _ _ _ _ _ us hl => match us, hl with | [_, _, _, _, _], _ => rfl) (ok_wiGood F__law_within_good o__law_class o__law_classes o_within k_within o__law_are_points o_class_of z_list z_len)
  exact ok_law F_law T o__law_generator o__law_random o__law_limits o__law_finer o__law_many o__law_point o_mk o__law_point_good o__law_within_good o_limits o__law_classes o_within z_range z_len z_list z_sorted
end
end KB
set_option Elab.async false
set_option linter.all false
set_option maxRecDepth 100000
set_option maxHeartbeats 0
namespace KB
open PySem PySem.Spec PyProof.Rows L2 XV
abbrev R : PySem.W.OpenRow := PySem.W.OpenLaw.row PySem.Challenge.rw_openloops_k11_classes_within_classes
abbrev qv : Program := PySem.W.view R.prog [66]
def names : List PySem.Str := (["LoopError", "InvalidNumber", "InvalidForm", "InvalidPoint", "InvalidList", "InvalidGrid", "Unlike", "TooMany", "MOST_UNKNOWNS", "is_whole", "is_count", "is_count_below", "require_many", "is_point", "inserted", "has_form", "require_form", "require_forms", "form_with", "form_times"] : List PySem.Str) ++ (["sum_of_forms", "plain_form", "form_of_unknown", "MOST_CLASSES", "Grid", "classes", "class_of", "place_in_class", "class_forms", "refines", "within", "led_forms", "is_list_of_limits", "is_limit", "points_of", "forms_of", "how_many_classes", "class_count", "turns_of", "step_of"] : List PySem.Str) ++ (["require_grid", "require_grid_point", "require_like_grids", "require_finer", "_law_hash", "_law_random", "_law_generator", "_law_limits", "_law_box", "_law_classes", "_law_least", "_law_class", "_law_point", "_law_value", "_law_is_point", "_law_are_points", "_law_many", "_law_finer", "_law_led_due", "_law_point_good", "_law_within_good"] : List PySem.Str)
noncomputable abbrev endR (w : World) (os : OsState) : Option PySem.W.SharedT := HandSHeadRun.endF (HandSHeadRun.stepQ (HandSHeadRun.denQ HandSHeadRun.tabQ) R.prog w) 12000 R.prog w os
end KB
set_option Elab.async false
set_option linter.all false
set_option maxRecDepth 100000
set_option maxHeartbeats 0
namespace KB
open PySem PySem.Spec PyProof.Rows L2 XV
def obsK (K : PySem.W.Frag) : He.AlD × Bool := (He.obsD fa fn K, bx K)
abbrev hk : PySem.W.Hook := hookF (He.AlD × Bool) obsK (He.valD fn, true)
def ob (s : PySem.W.SharedT) : He.AlD × Bool := obF obsK s
theorem ob_eq (s : PySem.W.SharedT) : ob s = hk.obs s.abs := obF_eq (val := (He.valD fn, true)) s
theorem run (w : World) : HandSHeadRun.RunEq R qv hk ob 12000 names w := by
  intro os
  kernel_rfl
end KB
set_option Elab.async false
set_option linter.all false
set_option maxRecDepth 100000
set_option maxHeartbeats 0
open PySem PySem.W PySem.Calls PyProof.Rows
theorem PySem.Challenge.cw_openloops_k11_classes_within_classes_holds : PySem.Challenge.rw_openloops_k11_classes_within_classes.Holds := by
  w_on; o_law
  refine HandSHeadRun.head_any (r := OpenLaw.row PySem.Challenge.rw_openloops_k11_classes_within_classes) (q := view (OpenLaw.row PySem.Challenge.rw_openloops_k11_classes_within_classes).prog [66]) (H := KB.hk) (ob := KB.ob) (M := 12000) (loose := KB.names)
    (d := HandSHeadRun.topDef (OpenLaw.row PySem.Challenge.rw_openloops_k11_classes_within_classes).prog 66) (kwd := []) KB.ob_eq
    (by kernel_rfl) (fun s => by kernel_rfl) KB.run (by kernel_rfl) (by kernel_rfl) (by kernel_rfl) (by rfl) (by first | assumption | decide +kernel) (by decide +kernel) ⟨rfl, rfl, rfl, rfl, rfl, by decide +kernel⟩ ?hw ?hc
  case hw => w_witness2
  case hc =>
    refine L2.walk_ofE (l := PySem.Challenge.rw_openloops_k11_classes_within_classes) (n := 63) (k := 8) (x := "_law_script") (CX := L2.CX0) rfl (by decide) (by kernel_rfl) ⟨rfl, by decide, by decide⟩ ?F (fun _ _ _ _ z => z)
    intro w mg fa h Y G hmg0
    obtain ⟨K, KX, cb⟩ := Y
    have c : He.SaysD KB.fa KB.fn K := congrArg Prod.fst cb
    have b : KB.bx K = true := congrArg Prod.snd cb
    have hmg : mg ("law" : PySem.Str) = some (.ref fa) := by
      have e : (HandSHeadRun.topDef (OpenLaw.row PySem.Challenge.rw_openloops_k11_classes_within_classes).prog 66).name = ("law" : PySem.Str) := by kernel_rfl
      rw [← e]
      exact hmg0
    obtain ⟨fd, hb, hF⟩ := KB.facts (P := (PySem.Challenge.rw_openloops_k11_classes_within_classes).prog) (w := w) KX G hmg c b
    exact ⟨K, fd, KB.spLaw K, KX, hb, fun H a ns hl _ hS => ⟨a, ns, rfl, hS, hl, fun _ => rfl⟩, hF⟩
